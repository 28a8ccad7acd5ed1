/-
  The document's Open.
-/
import Derived.Test.YtcomfcmimnjhoaaPe
import Derived.Deep.RegionWith
namespace Go.Proofs.Ytcomfcmimnjhoaa
open Go.RowKit
theorem conv4w (w : World) (p : List UInt8) : (convert 35 9 (.slice (some ⟨w.heap.size, 0, none⟩) 4 4)).run Try.prog (w.alloc (.cells #[.int .u8 (IntKind.u8.wrap (sumL p : Int)), .int .u8 (IntKind.u8.wrap ((sumL p : Int) / 256)), .int .u8 (IntKind.u8.wrap ((sumL p : Int) / 65536)), .int .u8 (IntKind.u8.wrap ((sumL p : Int) / 16777216))] 5)).drew = .ok (.string ⟨(b4 (sumL p)).toArray⟩) (w.alloc (.cells #[.int .u8 (IntKind.u8.wrap (sumL p : Int)), .int .u8 (IntKind.u8.wrap ((sumL p : Int) / 256)), .int .u8 (IntKind.u8.wrap ((sumL p : Int) / 65536)), .int .u8 (IntKind.u8.wrap ((sumL p : Int) / 16777216))] 5)).drew := by
  simp only [IntKind.wrap_u8']
  exact conv4 (w.alloc (.cells #[.int .u8 ((sumL p : Int) % 256), .int .u8 ((sumL p : Int) / 256 % 256), .int .u8 ((sumL p : Int) / 65536 % 256), .int .u8 ((sumL p : Int) / 16777216 % 256)] 5)).drew w.heap.size (sumL p) (row_cell w [.int .u8 ((sumL p : Int) % 256), .int .u8 ((sumL p : Int) / 256 % 256), .int .u8 ((sumL p : Int) / 65536 % 256), .int .u8 ((sumL p : Int) / 16777216 % 256)] _ 0) (row_cell w [.int .u8 ((sumL p : Int) % 256), .int .u8 ((sumL p : Int) / 256 % 256), .int .u8 ((sumL p : Int) / 65536 % 256), .int .u8 ((sumL p : Int) / 16777216 % 256)] _ 1) (row_cell w [.int .u8 ((sumL p : Int) % 256), .int .u8 ((sumL p : Int) / 256 % 256), .int .u8 ((sumL p : Int) / 65536 % 256), .int .u8 ((sumL p : Int) / 16777216 % 256)] _ 2) (row_cell w [.int .u8 ((sumL p : Int) % 256), .int .u8 ((sumL p : Int) / 256 % 256), .int .u8 ((sumL p : Int) / 65536 % 256), .int .u8 ((sumL p : Int) / 16777216 % 256)] _ 3)
set_option maxHeartbeats 1000000 in
set_option maxRecDepth 100000 in
theorem ropen_short (b : List UInt8) (w : World) (h : b.length ≠ 128) :
    Calls Try.prog 11 #[.string ⟨b.toArray⟩] w fun e w' => e = .returned (.tuple #[.int .i64 0, .string ⟨#[]⟩, .int .i64 2]) ∧ w = w' := by
  have hs := Lib.hid (str_size b)
  have d1 : ((b.length : Int) == 128) = false := by simp; omega
  have d2 : ((b.length : Int) != 128) = true := by simp; omega
  go_enter Try.func11, Try.ntmps11
  go_wp2
  go_ret3
  exact ⟨rfl, rfl⟩
set_option maxHeartbeats 2000000 in
set_option maxRecDepth 100000 in
theorem ropen_sum (b : List UInt8) (w : World) (h : b.length = 128) (hq : sumT (b.take 124) ≠ b.drop 124)  :
    Calls Try.prog 11 #[.string ⟨b.toArray⟩] w fun e w' => e = .returned (.tuple #[.int .i64 0, .string ⟨#[]⟩, .int .i64 10]) ∧ Below w.heap.size w w' := by
  have hs := Lib.hid (str_size b)
  have d1 : ((b.length : Int) == 128) = true := by simp; omega
  have d2 : ((b.length : Int) != 128) = false := by simp; omega
  have l0 : b.length ≤ 128 := by omega
  have l1 : 128 ≤ b.length := by omega
  have l2 : (124 : Int) ≤ (b.length : Int) := by omega
  have e1 := ext_take b 124
  have e2 := ext_drop b 124
  have SM := Lib.hid (fun W => rsum_any (b.take 124) W (by simp; omega))
  generalize b.take 124 = p at *
  generalize b.drop 124 = q at *
  have hqb : (q == b4 (sumL p)) = false := by simpa [sumT] using fun h => hq h.symm
  have hc4 := conv4w w p
  clear h hq
  go_enter Try.func11, Try.ntmps11
  go_wp2_with fail
  refine (SM.out _).mono ?_
  rintro e w1 ⟨rfl, rfl⟩
  go_upto_region 4 with (fail)
  go_cut [31] (fun c wx => c = .bool true ∧ Hid (Below w.heap.size w wx))
  case first =>
    go_region_with (fail)
    all_goals
      go_wp2_with fail
      go_meet
      exact ⟨rfl, Lib.hid (((Below.refl _ _).alloc (Nat.le_refl _) _).trans ((bd0 _).mono (by simp)))⟩
  obtain ⟨rfl, K1⟩ := hcut
  clear hc4
  go_wp2_with fail
  go_ret3
  exact ⟨rfl, K1.out⟩
set_option maxHeartbeats 2000000 in
set_option maxRecDepth 100000 in
theorem ropen_big (b : List UInt8) (w : World) (h : b.length = 128) (hq : sumT (b.take 124) = b.drop 124) (hn : 120 < at8 b 3) :
    Calls Try.prog 11 #[.string ⟨b.toArray⟩] w fun e w' => e = .returned (.tuple #[.int .i64 0, .string ⟨#[]⟩, .int .i64 2]) ∧ Below w.heap.size w w' := by
  have hs := Lib.hid (str_size b)
  have d1 : ((b.length : Int) == 128) = true := by simp; omega
  have d2 : ((b.length : Int) != 128) = false := by simp; omega
  have l0 : b.length ≤ 128 := by omega
  have l1 : 128 ≤ b.length := by omega
  have l2 : (124 : Int) ≤ (b.length : Int) := by omega
  have e1 := ext_take b 124
  have e2 := ext_drop b 124
  have SM := Lib.hid (fun W => rsum_any (b.take 124) W (by simp; omega))
  have i3 : 2 < b.length := by omega
  have i4 : 3 < b.length := by omega
  have i5 : (3 : Int) < (b.length : Int) := by omega
  have i6 : (2 : Int) < (b.length : Int) := by omega
  have g2 := ba_at b 2
  have g3 := ba_at b 3
  have k2l := at8_lt b 2
  have k3l := at8_lt b 3
  have v2 : IntKind.i64.wrap (at8 b 2 : Int) = (at8 b 2 : Int) := IntWalk.i64_in _ (by omega)
  have v3 : IntKind.i64.wrap (at8 b 3 : Int) = (at8 b 3 : Int) := IntWalk.i64_in _ (by omega)
  have d3 : decide (120 < at8 b 3) = true := by simp; omega
  have d4 : decide ((120 : Int) < (at8 b 3 : Int)) = true := by simp; omega
  generalize b.take 124 = p at *
  generalize b.drop 124 = q at *
  have hqb : (q == b4 (sumL p)) = true := by simp [← hq, sumT]
  have hc4 := conv4w w p
  clear h hq
  go_enter Try.func11, Try.ntmps11
  go_wp2_with fail
  refine (SM.out _).mono ?_
  rintro e w1 ⟨rfl, rfl⟩
  go_upto_region 4 with (fail)
  go_cut [31] (fun c wx => c = .bool false ∧ Hid (Below w.heap.size w wx))
  case first =>
    go_region_with (fail)
    all_goals
      go_wp2_with fail
      go_meet
      exact ⟨rfl, Lib.hid (((Below.refl _ _).alloc (Nat.le_refl _) _).trans ((bd0 _).mono (by simp)))⟩
  obtain ⟨rfl, K1⟩ := hcut
  clear hc4
  go_wp2_with fail
  go_ret3
  exact ⟨rfl, K1.out⟩
set_option maxHeartbeats 2000000 in
set_option maxRecDepth 100000 in
theorem ropen_form1 (b : List UInt8) (w : World) (h : b.length = 128) (hq : sumT (b.take 124) = b.drop 124) (hb : at8 b 3 ≤ 120) (hn : sealOk (at8 b 2) (openT b).length = false) :
    Calls Try.prog 11 #[.string ⟨b.toArray⟩] w fun e w' => e = .returned (.tuple #[.int .i64 0, .string ⟨#[]⟩, .int .i64 2]) ∧ Below w.heap.size w w' := by
  have hs := Lib.hid (str_size b)
  have d1 : ((b.length : Int) == 128) = true := by simp; omega
  have d2 : ((b.length : Int) != 128) = false := by simp; omega
  have l0 : b.length ≤ 128 := by omega
  have l1 : 128 ≤ b.length := by omega
  have l2 : (124 : Int) ≤ (b.length : Int) := by omega
  have e1 := ext_take b 124
  have e2 := ext_drop b 124
  have SM := Lib.hid (fun W => rsum_any (b.take 124) W (by simp; omega))
  have i3 : 2 < b.length := by omega
  have i4 : 3 < b.length := by omega
  have i5 : (3 : Int) < (b.length : Int) := by omega
  have i6 : (2 : Int) < (b.length : Int) := by omega
  have g2 := ba_at b 2
  have g3 := ba_at b 3
  have k2l := at8_lt b 2
  have k3l := at8_lt b 3
  have v2 : IntKind.i64.wrap (at8 b 2 : Int) = (at8 b 2 : Int) := IntWalk.i64_in _ (by omega)
  have v3 : IntKind.i64.wrap (at8 b 3 : Int) = (at8 b 3 : Int) := IntWalk.i64_in _ (by omega)
  have d3 : decide (120 < at8 b 3) = false := by simp; omega
  have d4 : decide ((120 : Int) < (at8 b 3 : Int)) = false := by simp; omega
  have e4 : (⟨b.toArray⟩ : ByteArray).extract 4 (4 + at8 b 3) = ⟨(openT b).toArray⟩ := by
    rw [Lib.extract_eq]
    unfold openT
    congr 2
    rw [List.drop_take, List.take_take, Nat.add_sub_cancel_left, show min (at8 b 3) (124 - 4) = at8 b 3 by omega]
  have t1 : 4 + at8 b 3 ≤ b.length := by omega
  have t2 : (4 : Int) + (at8 b 3 : Int) ≤ (b.length : Int) := by omega
  have hol := openT_len b
  have SE := Lib.hid (fun W => rseal_no (at8 b 2 : Int) (openT b) W hn (by have := openT_len b; omega))
  generalize b.take 124 = p at *
  generalize b.drop 124 = q at *
  have hqb : (q == b4 (sumL p)) = true := by simp [← hq, sumT]
  have hc4 := conv4w w p
  clear h hq hn
  go_enter Try.func11, Try.ntmps11
  go_wp2_with fail
  refine (SM.out _).mono ?_
  rintro e w1 ⟨rfl, rfl⟩
  go_upto_region 4 with (fail)
  go_cut [31] (fun c wx => c = .bool false ∧ Hid (Below w.heap.size w wx))
  case first =>
    go_region_with (fail)
    all_goals
      go_wp2_with fail
      go_meet
      exact ⟨rfl, Lib.hid (((Below.refl _ _).alloc (Nat.le_refl _) _).trans ((bd0 _).mono (by simp)))⟩
  obtain ⟨rfl, K1⟩ := hcut
  clear hc4
  go_wp2_with fail
  refine (SE.out _).mono ?_
  rintro e w3 ⟨rfl, rfl⟩
  go_wp2
  go_ret3
  exact ⟨rfl, K1.out⟩
set_option maxHeartbeats 2000000 in
set_option maxRecDepth 100000 in
theorem ropen_form2 (b : List UInt8) (w : World) (h : b.length = 128) (hq : sumT (b.take 124) = b.drop 124) (hb : at8 b 3 ≤ 120) (h1 : 1 ≤ at8 b 2) (h9 : at8 b 2 ≤ 9) (hn : sealL (at8 b 2) (openT b) ≠ b) :
    Calls Try.prog 11 #[.string ⟨b.toArray⟩] w fun e w' => e = .returned (.tuple #[.int .i64 0, .string ⟨#[]⟩, .int .i64 2]) ∧ Below w.heap.size w w' := by
  have hs := Lib.hid (str_size b)
  have d1 : ((b.length : Int) == 128) = true := by simp; omega
  have d2 : ((b.length : Int) != 128) = false := by simp; omega
  have l0 : b.length ≤ 128 := by omega
  have l1 : 128 ≤ b.length := by omega
  have l2 : (124 : Int) ≤ (b.length : Int) := by omega
  have e1 := ext_take b 124
  have e2 := ext_drop b 124
  have SM := Lib.hid (fun W => rsum_any (b.take 124) W (by simp; omega))
  have i3 : 2 < b.length := by omega
  have i4 : 3 < b.length := by omega
  have i5 : (3 : Int) < (b.length : Int) := by omega
  have i6 : (2 : Int) < (b.length : Int) := by omega
  have g2 := ba_at b 2
  have g3 := ba_at b 3
  have k2l := at8_lt b 2
  have k3l := at8_lt b 3
  have v2 : IntKind.i64.wrap (at8 b 2 : Int) = (at8 b 2 : Int) := IntWalk.i64_in _ (by omega)
  have v3 : IntKind.i64.wrap (at8 b 3 : Int) = (at8 b 3 : Int) := IntWalk.i64_in _ (by omega)
  have d3 : decide (120 < at8 b 3) = false := by simp; omega
  have d4 : decide ((120 : Int) < (at8 b 3 : Int)) = false := by simp; omega
  have e4 : (⟨b.toArray⟩ : ByteArray).extract 4 (4 + at8 b 3) = ⟨(openT b).toArray⟩ := by
    rw [Lib.extract_eq]
    unfold openT
    congr 2
    rw [List.drop_take, List.take_take, Nat.add_sub_cancel_left, show min (at8 b 3) (124 - 4) = at8 b 3 by omega]
  have t1 : 4 + at8 b 3 ≤ b.length := by omega
  have t2 : (4 : Int) + (at8 b 3 : Int) ≤ (b.length : Int) := by omega
  have hol := openT_len b
  have SE := Lib.hid (fun W => rseal_yes (at8 b 2) (openT b) W (by omega) (by omega) hol)
  have hsb : (sealL (at8 b 2) (openT b) == b) = false := by simpa using hn
  generalize b.take 124 = p at *
  generalize b.drop 124 = q at *
  have hqb : (q == b4 (sumL p)) = true := by simp [← hq, sumT]
  have hc4 := conv4w w p
  clear h hq hol h1 h9 hn
  go_enter Try.func11, Try.ntmps11
  go_wp2_with fail
  refine (SM.out _).mono ?_
  rintro e w1 ⟨rfl, rfl⟩
  go_upto_region 4 with (fail)
  go_cut [31] (fun c wx => c = .bool false ∧ Hid (Below w.heap.size w wx))
  case first =>
    go_region_with (fail)
    all_goals
      go_wp2_with fail
      go_meet
      exact ⟨rfl, Lib.hid (((Below.refl _ _).alloc (Nat.le_refl _) _).trans ((bd0 _).mono (by simp)))⟩
  obtain ⟨rfl, K1⟩ := hcut
  clear hc4
  go_wp2_with fail
  refine (SE.out _).mono ?_
  rintro e w3 ⟨rfl, hb⟩
  have K2 := Lib.hid (K1.out.trans (hb.mono K1.out.size))
  clear hb
  go_wp2
  go_ret3
  exact ⟨rfl, K2.out⟩
set_option maxHeartbeats 2000000 in
set_option maxRecDepth 100000 in
theorem ropen_ok (b : List UInt8) (w : World) (h : b.length = 128) (hq : sumT (b.take 124) = b.drop 124) (hb : at8 b 3 ≤ 120) (h1 : 1 ≤ at8 b 2) (h9 : at8 b 2 ≤ 9) (hn : sealL (at8 b 2) (openT b) = b) :
    Calls Try.prog 11 #[.string ⟨b.toArray⟩] w fun e w' => e = .returned (.tuple #[.int .i64 (at8 b 2 : Nat), .string ⟨(openT b).toArray⟩, .int .i64 0]) ∧ Below w.heap.size w w' := by
  have hs := Lib.hid (str_size b)
  have d1 : ((b.length : Int) == 128) = true := by simp; omega
  have d2 : ((b.length : Int) != 128) = false := by simp; omega
  have l0 : b.length ≤ 128 := by omega
  have l1 : 128 ≤ b.length := by omega
  have l2 : (124 : Int) ≤ (b.length : Int) := by omega
  have e1 := ext_take b 124
  have e2 := ext_drop b 124
  have SM := Lib.hid (fun W => rsum_any (b.take 124) W (by simp; omega))
  have i3 : 2 < b.length := by omega
  have i4 : 3 < b.length := by omega
  have i5 : (3 : Int) < (b.length : Int) := by omega
  have i6 : (2 : Int) < (b.length : Int) := by omega
  have g2 := ba_at b 2
  have g3 := ba_at b 3
  have k2l := at8_lt b 2
  have k3l := at8_lt b 3
  have v2 : IntKind.i64.wrap (at8 b 2 : Int) = (at8 b 2 : Int) := IntWalk.i64_in _ (by omega)
  have v3 : IntKind.i64.wrap (at8 b 3 : Int) = (at8 b 3 : Int) := IntWalk.i64_in _ (by omega)
  have d3 : decide (120 < at8 b 3) = false := by simp; omega
  have d4 : decide ((120 : Int) < (at8 b 3 : Int)) = false := by simp; omega
  have e4 : (⟨b.toArray⟩ : ByteArray).extract 4 (4 + at8 b 3) = ⟨(openT b).toArray⟩ := by
    rw [Lib.extract_eq]
    unfold openT
    congr 2
    rw [List.drop_take, List.take_take, Nat.add_sub_cancel_left, show min (at8 b 3) (124 - 4) = at8 b 3 by omega]
  have t1 : 4 + at8 b 3 ≤ b.length := by omega
  have t2 : (4 : Int) + (at8 b 3 : Int) ≤ (b.length : Int) := by omega
  have hol := openT_len b
  have SE := Lib.hid (fun W => rseal_yes (at8 b 2) (openT b) W (by omega) (by omega) hol)
  have hsb : (sealL (at8 b 2) (openT b) == b) = true := by simpa using hn
  generalize b.take 124 = p at *
  generalize b.drop 124 = q at *
  have hqb : (q == b4 (sumL p)) = true := by simp [← hq, sumT]
  have hc4 := conv4w w p
  clear h hq hol h1 h9 hn
  go_enter Try.func11, Try.ntmps11
  go_wp2_with fail
  refine (SM.out _).mono ?_
  rintro e w1 ⟨rfl, rfl⟩
  go_upto_region 4 with (fail)
  go_cut [31] (fun c wx => c = .bool false ∧ Hid (Below w.heap.size w wx))
  case first =>
    go_region_with (fail)
    all_goals
      go_wp2_with fail
      go_meet
      exact ⟨rfl, Lib.hid (((Below.refl _ _).alloc (Nat.le_refl _) _).trans ((bd0 _).mono (by simp)))⟩
  obtain ⟨rfl, K1⟩ := hcut
  clear hc4
  go_wp2_with fail
  refine (SE.out _).mono ?_
  rintro e w3 ⟨rfl, hb⟩
  have K2 := Lib.hid (K1.out.trans (hb.mono K1.out.size))
  clear hb
  go_wp2
  go_ret3
  exact ⟨rfl, K2.out⟩
theorem ok_small {b : List UInt8} (hn : sealL (at8 b 2) (openT b) = b) : at8 b 3 ≤ 120 := by
  have h1 := openT_len b
  have h2 : at8 b 3 = at8 (sealL (at8 b 2) (openT b)) 3 := by rw [hn]
  have h3 : at8 (sealL (at8 b 2) (openT b)) 3 = (openT b).length := by
    generalize openT b = t at h1 ⊢
    generalize at8 b 2 = k
    unfold at8 sealL bodyL
    simp [UInt8.toNat_ofNat']
    omega
  omega
/-- The document's Open. -/
theorem ropen_any (b : List UInt8) (w : World) :
    Calls Try.prog 11 #[.string ⟨b.toArray⟩] w fun e w' => e = .returned (.tuple #[.int .i64 (openK b : Nat), .string ⟨(openS b).toArray⟩, .int .i64 (openE b : Nat)]) ∧ Below w.heap.size w w' := by
  by_cases h : b.length = 128
  · by_cases hq : sumT (b.take 124) = b.drop 124
    · cases hn : openOk b
      · have e0 : openE b = 2 := by unfold openE; rw [if_neg (by simpa using h), if_neg (by simpa using hq), hn]; rfl
        have ek : openK b = 0 := by unfold openK; rw [e0]; rfl
        have es : openS b = [] := by unfold openS; rw [e0]; rfl
        rw [e0, ek, es]
        by_cases hs : 120 < at8 b 3
        · exact ropen_big b w h hq hs
        · by_cases hr : 1 ≤ at8 b 2 ∧ at8 b 2 ≤ 9
          · refine ropen_form2 b w h hq (by omega) hr.1 hr.2 (fun he => ?_)
            unfold openOk at hn
            rw [he] at hn
            simp [hr.1, hr.2] at hn
          · refine ropen_form1 b w h hq (by omega) ?_
            unfold sealOk
            simp only [Bool.and_eq_false_iff, decide_eq_false_iff_not]
            omega
      · have e0 : openE b = 0 := by unfold openE; rw [if_neg (by simpa using h), if_neg (by simpa using hq), hn]; rfl
        have ek : openK b = at8 b 2 := by unfold openK; rw [e0]; rfl
        have es : openS b = openT b := by unfold openS; rw [e0]; rfl
        rw [e0, ek, es]
        unfold openOk at hn
        simp only [Bool.and_eq_true, decide_eq_true_eq, beq_iff_eq] at hn
        exact ropen_ok b w h hq (ok_small hn.2) hn.1.1 hn.1.2 hn.2
    · have e0 : openE b = 10 := by unfold openE; rw [if_neg (by simpa using h), if_pos hq]
      have ek : openK b = 0 := by unfold openK; rw [e0]; rfl
      have es : openS b = [] := by unfold openS; rw [e0]; rfl
      rw [e0, ek, es]
      exact ropen_sum b w h hq
  · have e0 : openE b = 2 := by unfold openE; rw [if_pos h]
    have ek : openK b = 0 := by unfold openK; rw [e0]; rfl
    have es : openS b = [] := by unfold openS; rw [e0]; rfl
    rw [e0, ek, es]
    exact (ropen_short b w h).mono fun _ _ ⟨h1, h2⟩ => ⟨h1, by rw [← h2]; exact Below.refl _ _⟩
end Go.Proofs.Ytcomfcmimnjhoaa
