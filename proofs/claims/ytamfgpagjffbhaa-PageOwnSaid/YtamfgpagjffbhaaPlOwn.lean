/-
  PageOwn.
-/
import Derived.Test.YtamfgpagjffbhaaPo
import Derived.Test.YtamfgpagjffbhaaPg
import Derived.Test.YtamfgpagjffbhaaEb
namespace Go.Proofs.Ytamfgpagjffbhaa
open Go.RowKit
set_option linter.unusedSimpArgs false
set_option linter.unusedVariables false
def pfst (k : Nat) (t : List UInt8) := (sealL k t).take 64
def cut120 (a : List UInt8) : List UInt8 := a.take 120
theorem four_same (S : List (List UInt8)) (n : Nat) (a b c d : List UInt8) : rd S (((([] ++ [(2 * n, a)]) ++ [(2 * n + 1, b)]) ++ [(2 * n, c)]) ++ [(2 * n + 1, d)]) (2 * n) = c ∧ rd S (((([] ++ [(2 * n, a)]) ++ [(2 * n + 1, b)]) ++ [(2 * n, c)]) ++ [(2 * n + 1, d)]) (2 * n + 1) = d := by
  constructor
  · rw [rd_snoc, if_neg (by show ¬ (2 * n + 1 = 2 * n); omega), rd_snoc, if_pos rfl]
  · rw [rd_snoc, if_pos rfl]
theorem four_first (S : List (List UInt8)) (n m : Nat) (h : n ≠ m) (a b c d : List UInt8) : rd S (((([] ++ [(2 * n, a)]) ++ [(2 * n + 1, b)]) ++ [(2 * m, c)]) ++ [(2 * m + 1, d)]) (2 * n) = a ∧ rd S (((([] ++ [(2 * n, a)]) ++ [(2 * n + 1, b)]) ++ [(2 * m, c)]) ++ [(2 * m + 1, d)]) (2 * n + 1) = b := by
  constructor
  · rw [rd_snoc, if_neg (by show ¬ (2 * m + 1 = 2 * n); omega), rd_snoc, if_neg (by show ¬ (2 * m = 2 * n); omega), rd_snoc, if_neg (by show ¬ (2 * n + 1 = 2 * n); omega), rd_snoc, if_pos rfl]
  · rw [rd_snoc, if_neg (by show ¬ (2 * m + 1 = 2 * n + 1); omega), rd_snoc, if_neg (by show ¬ (2 * m = 2 * n + 1); omega), rd_snoc, if_pos rfl]
theorem four_last (S : List (List UInt8)) (C : List Wt) (m : Nat) (c d : List UInt8) : rd S ((C ++ [(2 * m, c)]) ++ [(2 * m + 1, d)]) (2 * m) = c ∧ rd S ((C ++ [(2 * m, c)]) ++ [(2 * m + 1, d)]) (2 * m + 1) = d := by
  constructor
  · rw [rd_snoc, if_neg (by show ¬ (2 * m + 1 = 2 * m); omega), rd_snoc, if_pos rfl]
  · rw [rd_snoc, if_pos rfl]

set_option maxHeartbeats 8000000 in
set_option maxRecDepth 100000 in
theorem pageOwn_nn (n m : Int) (a b : ByteArray) (w : World) (n0 : -9223372036854775808 ≤ n) (n1 : n ≤ 9223372036854775807) (m0 : -9223372036854775808 ≤ m) (m1 : m ≤ 9223372036854775807) (hcn : n < 0) (hcm : m < 0) :
    Calls Try.prog 3 #[.int .i64 n, .int .i64 m, .string a, .string b] w fun e w' => e = .returned (.bool true) ∧ Below w.heap.size w w' := by
  obtain ⟨zn, hzn⟩ : ∃ z : Int, n + 1 = z := ⟨_, rfl⟩
  have wzn : wrap64 (n + 1) = zn := by rw [hzn]; exact IntWalk.wrap64_in _ ⟨by omega, by omega⟩
  have wyn : wrap64 (-zn) = -zn := IntWalk.wrap64_in _ ⟨by omega, by omega⟩
  obtain ⟨p, hp⟩ : ∃ k : Nat, (wrap64 (-zn)).tmod 8 = (k : Int) := ⟨(-zn % 8).toNat, by rw [wyn, Int.tmod_eq_emod_of_nonneg (by omega)]; omega⟩
  have Hp := Lib.hid (show p < 8 by rw [wyn, Int.tmod_eq_emod_of_nonneg (by omega)] at hp; omega)
  have Tp := Lib.hid (congrArg (Value.int .i64) hp)
  have dn : decide (n < 0) = true := by simpa using hcn
  have Wn := Lib.hid (And.intro wzn dn)
  clear hzn wzn wyn hp dn
  obtain ⟨zm, hzm⟩ : ∃ z : Int, m + 1 = z := ⟨_, rfl⟩
  have wzm : wrap64 (m + 1) = zm := by rw [hzm]; exact IntWalk.wrap64_in _ ⟨by omega, by omega⟩
  have wym : wrap64 (-zm) = -zm := IntWalk.wrap64_in _ ⟨by omega, by omega⟩
  obtain ⟨q, hq⟩ : ∃ k : Nat, (wrap64 (-zm)).tmod 8 = (k : Int) := ⟨(-zm % 8).toNat, by rw [wym, Int.tmod_eq_emod_of_nonneg (by omega)]; omega⟩
  have Hq := Lib.hid (show q < 8 by rw [wym, Int.tmod_eq_emod_of_nonneg (by omega)] at hq; omega)
  have Tq := Lib.hid (congrArg (Value.int .i64) hq)
  have dm : decide (m < 0) = true := by simpa using hcm
  have Wm := Lib.hid (And.intro wzm dm)
  clear hzm wzm wym hq dm
  obtain ⟨Ka, hKa⟩ : ∃ K : Int, min (a.size : Int) 120 = K := ⟨_, rfl⟩
  obtain ⟨ta, hta⟩ : ∃ x : ByteArray, a.extract 0 Ka.toNat = x := ⟨_, rfl⟩
  have La := Lib.hid (show ta.data.toList.length ≤ 120 by
    rw [← hta, show (a.extract 0 Ka.toNat).data.toList.length = (a.extract 0 Ka.toNat).size by simp, ByteArray.size_extract]
    omega)
  have Ma := Lib.hid (And.intro hKa (And.intro hta (show 0 ≤ Ka ∧ Ka ≤ (a.size : Int) by omega)))
  clear hKa hta
  obtain ⟨Kb, hKb⟩ : ∃ K : Int, min (b.size : Int) 120 = K := ⟨_, rfl⟩
  obtain ⟨tb, htb⟩ : ∃ x : ByteArray, b.extract 0 Kb.toNat = x := ⟨_, rfl⟩
  have Lb := Lib.hid (show tb.data.toList.length ≤ 120 by
    rw [← htb, show (b.extract 0 Kb.toNat).data.toList.length = (b.extract 0 Kb.toNat).size by simp, ByteArray.size_extract]
    omega)
  have Mb := Lib.hid (And.intro hKb (And.intro htb (show 0 ≤ Kb ∧ Kb ≤ (b.size : Int) by omega)))
  clear hKb htb
  clear n0 n1 m0 m1 hcn hcm
  go_enter Try.func3, Try.ntmps3
  go_wp2_with fail
  refine (examples_any w).mono ?_
  rintro e w1 ⟨rfl, hb⟩
  have B1 := Lib.hid hb
  clear hb
  go_wp2_with fail
  refine (new_any 16 (by omega) (by omega) w1).mono ?_
  rintro e w2 ⟨g, gs, rfl, hd, hb, g1, g2⟩
  have B2 := Lib.hid (bon B1.out hb)
  have G := Lib.hid (And.intro (Nat.le_trans B1.out.size g1) (Nat.le_trans B1.out.size g2))
  obtain ⟨S, hS⟩ : ∃ S, List.replicate 16 z64 = S := ⟨_, rfl⟩
  have SL := Lib.hid (show S.length = 16 by rw [← hS]; simp)
  rw [hS] at hd
  obtain ⟨B, hB⟩ : ∃ B, w2.heap.size = B := ⟨_, rfl⟩
  have HBB := Lib.hid (show w.heap.size ≤ B by rw [← hB]; exact B2.out.size)
  rw [hB] at hd
  have D2 := Lib.hid hd
  clear hd hb g1 g2 hS hB
  have wn := Wn.out.1
  have dn := Wn.out.2
  have wm := Wm.out.1
  have dm := Wm.out.2
  have tp := Tp.out
  have tq := Tq.out
  have ka := Ma.out.1
  have kb := Mb.out.1
  have ea := Ma.out.2.1
  have eb := Mb.out.2.1
  have ka0 := Ma.out.2.2.1
  have ka1 := Ma.out.2.2.2
  have kb0 := Mb.out.2.2.1
  have kb1 := Mb.out.2.2.2
  go_wp2_with fail
  clear tp tq ka kb ea eb ka0 ka1 kb0 kb1 dn dm wn wm
  refine (pwrite_any p 4 ta w2 D2.out (by have := Hp.out; rw [SL.out]; omega) (by omega) (by omega) La.out (by simp)).mono ?_
  rintro e w3 ⟨rfl, v3, hd, hc⟩
  have D3 := Lib.hid hd
  have B3 := Lib.hid (hc.below B2.out HBB.out G.out.1 G.out.2)
  clear hd hc
  go_wp2_with fail
  refine (pwrite_any q 5 tb w3 D3.out (by have := Hq.out; rw [SL.out]; omega) (by omega) (by omega) Lb.out (by simp)).mono ?_
  rintro e w4 ⟨rfl, v4, hd, hc⟩
  have D4 := Lib.hid hd
  have B4 := Lib.hid (hc.below B3.out HBB.out G.out.1 G.out.2)
  clear hd hc
  have OB := Lib.hid (open_seal (k := 5) (t := tb.data.toList) (by omega) (by omega) Lb.out)
  have OA := Lib.hid (open_seal (k := 4) (t := ta.data.toList) (by omega) (by omega) La.out)
  have SA := Lib.hid (seal_len (k := 4) La.out)
  have SB := Lib.hid (seal_len (k := 5) Lb.out)
  go_wp2_with fail
  by_cases hpq : p = q
  · subst hpq
    have F := four_same S p ((sealL 4 ta.data.toList).take 64) ((sealL 4 ta.data.toList).drop 64) ((sealL 5 tb.data.toList).take 64) ((sealL 5 tb.data.toList).drop 64)
    have RA := Lib.hid (fun w5 (D5 : Dk B w5 g gs v4 S (((([] ++ [(2 * p, (sealL 4 ta.data.toList).take 64)]) ++ [(2 * p + 1, (sealL 4 ta.data.toList).drop 64)]) ++ [(2 * p, (sealL 5 tb.data.toList).take 64)]) ++ [(2 * p + 1, (sealL 5 tb.data.toList).drop 64)])) => pread_any p w5 D5 (by have := Hp.out; rw [SL.out]; omega) (by simp) (sealL 5 tb.data.toList) (by rw [F.1, F.2, List.take_append_drop]) (by rw [SB.out]; omega))
    clear F
    refine (RA.out w4 D4.out).mono ?_
    rintro e w5 ⟨rfl, hb⟩
    rw [OB.out.1, OB.out.2.1, OB.out.2.2, show (⟨tb.data.toList.toArray⟩ : ByteArray) = tb by simp]
    have D5 := Lib.hid (D4.out.below hb)
    have B5 := Lib.hid (bon B4.out hb)
    clear hb
    go_wp2_with fail
    refine (RA.out w5 D5.out).mono ?_
    rintro e w6 ⟨rfl, hb⟩
    rw [OB.out.1, OB.out.2.1, OB.out.2.2, show (⟨tb.data.toList.toArray⟩ : ByteArray) = tb by simp]
    have D6 := Lib.hid (D5.out.below hb)
    have B6 := Lib.hid (bon B5.out hb)
    clear hb
    go_wp2
    go_ret
    exact ⟨rfl, B6.out⟩
  · have F := four_first S p q hpq ((sealL 4 ta.data.toList).take 64) ((sealL 4 ta.data.toList).drop 64) ((sealL 5 tb.data.toList).take 64) ((sealL 5 tb.data.toList).drop 64)
    have F2 := four_last S ([] ++ [(2 * p, (sealL 4 ta.data.toList).take 64)] ++ [(2 * p + 1, (sealL 4 ta.data.toList).drop 64)]) q ((sealL 5 tb.data.toList).take 64) ((sealL 5 tb.data.toList).drop 64)
    have RA := Lib.hid (fun w5 (D5 : Dk B w5 g gs v4 S (((([] ++ [(2 * p, (sealL 4 ta.data.toList).take 64)]) ++ [(2 * p + 1, (sealL 4 ta.data.toList).drop 64)]) ++ [(2 * q, (sealL 5 tb.data.toList).take 64)]) ++ [(2 * q + 1, (sealL 5 tb.data.toList).drop 64)])) => pread_any p w5 D5 (by have := Hp.out; rw [SL.out]; omega) (by simp) (sealL 4 ta.data.toList) (by rw [F.1, F.2, List.take_append_drop]) (by rw [SA.out]; omega))
    have RB := Lib.hid (fun w5 (D5 : Dk B w5 g gs v4 S (((([] ++ [(2 * p, (sealL 4 ta.data.toList).take 64)]) ++ [(2 * p + 1, (sealL 4 ta.data.toList).drop 64)]) ++ [(2 * q, (sealL 5 tb.data.toList).take 64)]) ++ [(2 * q + 1, (sealL 5 tb.data.toList).drop 64)])) => pread_any q w5 D5 (by have := Hq.out; rw [SL.out]; omega) (by simp) (sealL 5 tb.data.toList) (by rw [F2.1, F2.2, List.take_append_drop]) (by rw [SB.out]; omega))
    have n1 : ((p : Int) == (q : Int)) = false := by rw [beq_eq_false_iff_ne]; omega
    have n2 : ¬ (p : Int) = (q : Int) := by omega
    have n3 : ¬ p = q := hpq
    clear F F2
    refine (RA.out w4 D4.out).mono ?_
    rintro e w5 ⟨rfl, hb⟩
    rw [OA.out.1, OA.out.2.1, OA.out.2.2, show (⟨ta.data.toList.toArray⟩ : ByteArray) = ta by simp]
    have D5 := Lib.hid (D4.out.below hb)
    have B5 := Lib.hid (bon B4.out hb)
    clear hb
    go_wp2_with fail
    refine (RB.out w5 D5.out).mono ?_
    rintro e w6 ⟨rfl, hb⟩
    rw [OB.out.1, OB.out.2.1, OB.out.2.2, show (⟨tb.data.toList.toArray⟩ : ByteArray) = tb by simp]
    have D6 := Lib.hid (D5.out.below hb)
    have B6 := Lib.hid (bon B5.out hb)
    clear hb
    go_wp2
    go_ret
    exact ⟨rfl, B6.out⟩

set_option maxHeartbeats 8000000 in
set_option maxRecDepth 100000 in
theorem pageOwn_np (n m : Int) (a b : ByteArray) (w : World) (n0 : -9223372036854775808 ≤ n) (n1 : n ≤ 9223372036854775807) (m0 : -9223372036854775808 ≤ m) (m1 : m ≤ 9223372036854775807) (hcn : n < 0) (hcm : ¬ m < 0) :
    Calls Try.prog 3 #[.int .i64 n, .int .i64 m, .string a, .string b] w fun e w' => e = .returned (.bool true) ∧ Below w.heap.size w w' := by
  obtain ⟨zn, hzn⟩ : ∃ z : Int, n + 1 = z := ⟨_, rfl⟩
  have wzn : wrap64 (n + 1) = zn := by rw [hzn]; exact IntWalk.wrap64_in _ ⟨by omega, by omega⟩
  have wyn : wrap64 (-zn) = -zn := IntWalk.wrap64_in _ ⟨by omega, by omega⟩
  obtain ⟨p, hp⟩ : ∃ k : Nat, (wrap64 (-zn)).tmod 8 = (k : Int) := ⟨(-zn % 8).toNat, by rw [wyn, Int.tmod_eq_emod_of_nonneg (by omega)]; omega⟩
  have Hp := Lib.hid (show p < 8 by rw [wyn, Int.tmod_eq_emod_of_nonneg (by omega)] at hp; omega)
  have Tp := Lib.hid (congrArg (Value.int .i64) hp)
  have dn : decide (n < 0) = true := by simpa using hcn
  have Wn := Lib.hid (And.intro wzn dn)
  clear hzn wzn wyn hp dn
  obtain ⟨q, hq⟩ : ∃ k : Nat, m.tmod 8 = (k : Int) := ⟨(m % 8).toNat, by rw [Int.tmod_eq_emod_of_nonneg (by omega)]; omega⟩
  have Hq := Lib.hid (show q < 8 by rw [Int.tmod_eq_emod_of_nonneg (by omega)] at hq; omega)
  have Tq := Lib.hid (congrArg (Value.int .i64) hq)
  have dm : decide (m < 0) = false := by simpa using hcm
  have Wm := Lib.hid dm
  clear hq dm
  obtain ⟨Ka, hKa⟩ : ∃ K : Int, min (a.size : Int) 120 = K := ⟨_, rfl⟩
  obtain ⟨ta, hta⟩ : ∃ x : ByteArray, a.extract 0 Ka.toNat = x := ⟨_, rfl⟩
  have La := Lib.hid (show ta.data.toList.length ≤ 120 by
    rw [← hta, show (a.extract 0 Ka.toNat).data.toList.length = (a.extract 0 Ka.toNat).size by simp, ByteArray.size_extract]
    omega)
  have Ma := Lib.hid (And.intro hKa (And.intro hta (show 0 ≤ Ka ∧ Ka ≤ (a.size : Int) by omega)))
  clear hKa hta
  obtain ⟨Kb, hKb⟩ : ∃ K : Int, min (b.size : Int) 120 = K := ⟨_, rfl⟩
  obtain ⟨tb, htb⟩ : ∃ x : ByteArray, b.extract 0 Kb.toNat = x := ⟨_, rfl⟩
  have Lb := Lib.hid (show tb.data.toList.length ≤ 120 by
    rw [← htb, show (b.extract 0 Kb.toNat).data.toList.length = (b.extract 0 Kb.toNat).size by simp, ByteArray.size_extract]
    omega)
  have Mb := Lib.hid (And.intro hKb (And.intro htb (show 0 ≤ Kb ∧ Kb ≤ (b.size : Int) by omega)))
  clear hKb htb
  clear n0 n1 m0 m1 hcn hcm
  go_enter Try.func3, Try.ntmps3
  go_wp2_with fail
  refine (examples_any w).mono ?_
  rintro e w1 ⟨rfl, hb⟩
  have B1 := Lib.hid hb
  clear hb
  go_wp2_with fail
  refine (new_any 16 (by omega) (by omega) w1).mono ?_
  rintro e w2 ⟨g, gs, rfl, hd, hb, g1, g2⟩
  have B2 := Lib.hid (bon B1.out hb)
  have G := Lib.hid (And.intro (Nat.le_trans B1.out.size g1) (Nat.le_trans B1.out.size g2))
  obtain ⟨S, hS⟩ : ∃ S, List.replicate 16 z64 = S := ⟨_, rfl⟩
  have SL := Lib.hid (show S.length = 16 by rw [← hS]; simp)
  rw [hS] at hd
  obtain ⟨B, hB⟩ : ∃ B, w2.heap.size = B := ⟨_, rfl⟩
  have HBB := Lib.hid (show w.heap.size ≤ B by rw [← hB]; exact B2.out.size)
  rw [hB] at hd
  have D2 := Lib.hid hd
  clear hd hb g1 g2 hS hB
  have wn := Wn.out.1
  have dn := Wn.out.2
  have dm := Wm.out
  have tp := Tp.out
  have tq := Tq.out
  have ka := Ma.out.1
  have kb := Mb.out.1
  have ea := Ma.out.2.1
  have eb := Mb.out.2.1
  have ka0 := Ma.out.2.2.1
  have ka1 := Ma.out.2.2.2
  have kb0 := Mb.out.2.2.1
  have kb1 := Mb.out.2.2.2
  go_wp2_with fail
  clear tp tq ka kb ea eb ka0 ka1 kb0 kb1 dn dm wn
  refine (pwrite_any p 4 ta w2 D2.out (by have := Hp.out; rw [SL.out]; omega) (by omega) (by omega) La.out (by simp)).mono ?_
  rintro e w3 ⟨rfl, v3, hd, hc⟩
  have D3 := Lib.hid hd
  have B3 := Lib.hid (hc.below B2.out HBB.out G.out.1 G.out.2)
  clear hd hc
  go_wp2_with fail
  refine (pwrite_any q 5 tb w3 D3.out (by have := Hq.out; rw [SL.out]; omega) (by omega) (by omega) Lb.out (by simp)).mono ?_
  rintro e w4 ⟨rfl, v4, hd, hc⟩
  have D4 := Lib.hid hd
  have B4 := Lib.hid (hc.below B3.out HBB.out G.out.1 G.out.2)
  clear hd hc
  have OB := Lib.hid (open_seal (k := 5) (t := tb.data.toList) (by omega) (by omega) Lb.out)
  have OA := Lib.hid (open_seal (k := 4) (t := ta.data.toList) (by omega) (by omega) La.out)
  have SA := Lib.hid (seal_len (k := 4) La.out)
  have SB := Lib.hid (seal_len (k := 5) Lb.out)
  go_wp2_with fail
  by_cases hpq : p = q
  · subst hpq
    have F := four_same S p ((sealL 4 ta.data.toList).take 64) ((sealL 4 ta.data.toList).drop 64) ((sealL 5 tb.data.toList).take 64) ((sealL 5 tb.data.toList).drop 64)
    have RA := Lib.hid (fun w5 (D5 : Dk B w5 g gs v4 S (((([] ++ [(2 * p, (sealL 4 ta.data.toList).take 64)]) ++ [(2 * p + 1, (sealL 4 ta.data.toList).drop 64)]) ++ [(2 * p, (sealL 5 tb.data.toList).take 64)]) ++ [(2 * p + 1, (sealL 5 tb.data.toList).drop 64)])) => pread_any p w5 D5 (by have := Hp.out; rw [SL.out]; omega) (by simp) (sealL 5 tb.data.toList) (by rw [F.1, F.2, List.take_append_drop]) (by rw [SB.out]; omega))
    clear F
    refine (RA.out w4 D4.out).mono ?_
    rintro e w5 ⟨rfl, hb⟩
    rw [OB.out.1, OB.out.2.1, OB.out.2.2, show (⟨tb.data.toList.toArray⟩ : ByteArray) = tb by simp]
    have D5 := Lib.hid (D4.out.below hb)
    have B5 := Lib.hid (bon B4.out hb)
    clear hb
    go_wp2_with fail
    refine (RA.out w5 D5.out).mono ?_
    rintro e w6 ⟨rfl, hb⟩
    rw [OB.out.1, OB.out.2.1, OB.out.2.2, show (⟨tb.data.toList.toArray⟩ : ByteArray) = tb by simp]
    have D6 := Lib.hid (D5.out.below hb)
    have B6 := Lib.hid (bon B5.out hb)
    clear hb
    go_wp2
    go_ret
    exact ⟨rfl, B6.out⟩
  · have F := four_first S p q hpq ((sealL 4 ta.data.toList).take 64) ((sealL 4 ta.data.toList).drop 64) ((sealL 5 tb.data.toList).take 64) ((sealL 5 tb.data.toList).drop 64)
    have F2 := four_last S ([] ++ [(2 * p, (sealL 4 ta.data.toList).take 64)] ++ [(2 * p + 1, (sealL 4 ta.data.toList).drop 64)]) q ((sealL 5 tb.data.toList).take 64) ((sealL 5 tb.data.toList).drop 64)
    have RA := Lib.hid (fun w5 (D5 : Dk B w5 g gs v4 S (((([] ++ [(2 * p, (sealL 4 ta.data.toList).take 64)]) ++ [(2 * p + 1, (sealL 4 ta.data.toList).drop 64)]) ++ [(2 * q, (sealL 5 tb.data.toList).take 64)]) ++ [(2 * q + 1, (sealL 5 tb.data.toList).drop 64)])) => pread_any p w5 D5 (by have := Hp.out; rw [SL.out]; omega) (by simp) (sealL 4 ta.data.toList) (by rw [F.1, F.2, List.take_append_drop]) (by rw [SA.out]; omega))
    have RB := Lib.hid (fun w5 (D5 : Dk B w5 g gs v4 S (((([] ++ [(2 * p, (sealL 4 ta.data.toList).take 64)]) ++ [(2 * p + 1, (sealL 4 ta.data.toList).drop 64)]) ++ [(2 * q, (sealL 5 tb.data.toList).take 64)]) ++ [(2 * q + 1, (sealL 5 tb.data.toList).drop 64)])) => pread_any q w5 D5 (by have := Hq.out; rw [SL.out]; omega) (by simp) (sealL 5 tb.data.toList) (by rw [F2.1, F2.2, List.take_append_drop]) (by rw [SB.out]; omega))
    have n1 : ((p : Int) == (q : Int)) = false := by rw [beq_eq_false_iff_ne]; omega
    have n2 : ¬ (p : Int) = (q : Int) := by omega
    have n3 : ¬ p = q := hpq
    clear F F2
    refine (RA.out w4 D4.out).mono ?_
    rintro e w5 ⟨rfl, hb⟩
    rw [OA.out.1, OA.out.2.1, OA.out.2.2, show (⟨ta.data.toList.toArray⟩ : ByteArray) = ta by simp]
    have D5 := Lib.hid (D4.out.below hb)
    have B5 := Lib.hid (bon B4.out hb)
    clear hb
    go_wp2_with fail
    refine (RB.out w5 D5.out).mono ?_
    rintro e w6 ⟨rfl, hb⟩
    rw [OB.out.1, OB.out.2.1, OB.out.2.2, show (⟨tb.data.toList.toArray⟩ : ByteArray) = tb by simp]
    have D6 := Lib.hid (D5.out.below hb)
    have B6 := Lib.hid (bon B5.out hb)
    clear hb
    go_wp2
    go_ret
    exact ⟨rfl, B6.out⟩

set_option maxHeartbeats 8000000 in
set_option maxRecDepth 100000 in
theorem pageOwn_pn (n m : Int) (a b : ByteArray) (w : World) (n0 : -9223372036854775808 ≤ n) (n1 : n ≤ 9223372036854775807) (m0 : -9223372036854775808 ≤ m) (m1 : m ≤ 9223372036854775807) (hcn : ¬ n < 0) (hcm : m < 0) :
    Calls Try.prog 3 #[.int .i64 n, .int .i64 m, .string a, .string b] w fun e w' => e = .returned (.bool true) ∧ Below w.heap.size w w' := by
  obtain ⟨p, hp⟩ : ∃ k : Nat, n.tmod 8 = (k : Int) := ⟨(n % 8).toNat, by rw [Int.tmod_eq_emod_of_nonneg (by omega)]; omega⟩
  have Hp := Lib.hid (show p < 8 by rw [Int.tmod_eq_emod_of_nonneg (by omega)] at hp; omega)
  have Tp := Lib.hid (congrArg (Value.int .i64) hp)
  have dn : decide (n < 0) = false := by simpa using hcn
  have Wn := Lib.hid dn
  clear hp dn
  obtain ⟨zm, hzm⟩ : ∃ z : Int, m + 1 = z := ⟨_, rfl⟩
  have wzm : wrap64 (m + 1) = zm := by rw [hzm]; exact IntWalk.wrap64_in _ ⟨by omega, by omega⟩
  have wym : wrap64 (-zm) = -zm := IntWalk.wrap64_in _ ⟨by omega, by omega⟩
  obtain ⟨q, hq⟩ : ∃ k : Nat, (wrap64 (-zm)).tmod 8 = (k : Int) := ⟨(-zm % 8).toNat, by rw [wym, Int.tmod_eq_emod_of_nonneg (by omega)]; omega⟩
  have Hq := Lib.hid (show q < 8 by rw [wym, Int.tmod_eq_emod_of_nonneg (by omega)] at hq; omega)
  have Tq := Lib.hid (congrArg (Value.int .i64) hq)
  have dm : decide (m < 0) = true := by simpa using hcm
  have Wm := Lib.hid (And.intro wzm dm)
  clear hzm wzm wym hq dm
  obtain ⟨Ka, hKa⟩ : ∃ K : Int, min (a.size : Int) 120 = K := ⟨_, rfl⟩
  obtain ⟨ta, hta⟩ : ∃ x : ByteArray, a.extract 0 Ka.toNat = x := ⟨_, rfl⟩
  have La := Lib.hid (show ta.data.toList.length ≤ 120 by
    rw [← hta, show (a.extract 0 Ka.toNat).data.toList.length = (a.extract 0 Ka.toNat).size by simp, ByteArray.size_extract]
    omega)
  have Ma := Lib.hid (And.intro hKa (And.intro hta (show 0 ≤ Ka ∧ Ka ≤ (a.size : Int) by omega)))
  clear hKa hta
  obtain ⟨Kb, hKb⟩ : ∃ K : Int, min (b.size : Int) 120 = K := ⟨_, rfl⟩
  obtain ⟨tb, htb⟩ : ∃ x : ByteArray, b.extract 0 Kb.toNat = x := ⟨_, rfl⟩
  have Lb := Lib.hid (show tb.data.toList.length ≤ 120 by
    rw [← htb, show (b.extract 0 Kb.toNat).data.toList.length = (b.extract 0 Kb.toNat).size by simp, ByteArray.size_extract]
    omega)
  have Mb := Lib.hid (And.intro hKb (And.intro htb (show 0 ≤ Kb ∧ Kb ≤ (b.size : Int) by omega)))
  clear hKb htb
  clear n0 n1 m0 m1 hcn hcm
  go_enter Try.func3, Try.ntmps3
  go_wp2_with fail
  refine (examples_any w).mono ?_
  rintro e w1 ⟨rfl, hb⟩
  have B1 := Lib.hid hb
  clear hb
  go_wp2_with fail
  refine (new_any 16 (by omega) (by omega) w1).mono ?_
  rintro e w2 ⟨g, gs, rfl, hd, hb, g1, g2⟩
  have B2 := Lib.hid (bon B1.out hb)
  have G := Lib.hid (And.intro (Nat.le_trans B1.out.size g1) (Nat.le_trans B1.out.size g2))
  obtain ⟨S, hS⟩ : ∃ S, List.replicate 16 z64 = S := ⟨_, rfl⟩
  have SL := Lib.hid (show S.length = 16 by rw [← hS]; simp)
  rw [hS] at hd
  obtain ⟨B, hB⟩ : ∃ B, w2.heap.size = B := ⟨_, rfl⟩
  have HBB := Lib.hid (show w.heap.size ≤ B by rw [← hB]; exact B2.out.size)
  rw [hB] at hd
  have D2 := Lib.hid hd
  clear hd hb g1 g2 hS hB
  have dn := Wn.out
  have wm := Wm.out.1
  have dm := Wm.out.2
  have tp := Tp.out
  have tq := Tq.out
  have ka := Ma.out.1
  have kb := Mb.out.1
  have ea := Ma.out.2.1
  have eb := Mb.out.2.1
  have ka0 := Ma.out.2.2.1
  have ka1 := Ma.out.2.2.2
  have kb0 := Mb.out.2.2.1
  have kb1 := Mb.out.2.2.2
  go_wp2_with fail
  clear tp tq ka kb ea eb ka0 ka1 kb0 kb1 dn dm wm
  refine (pwrite_any p 4 ta w2 D2.out (by have := Hp.out; rw [SL.out]; omega) (by omega) (by omega) La.out (by simp)).mono ?_
  rintro e w3 ⟨rfl, v3, hd, hc⟩
  have D3 := Lib.hid hd
  have B3 := Lib.hid (hc.below B2.out HBB.out G.out.1 G.out.2)
  clear hd hc
  go_wp2_with fail
  refine (pwrite_any q 5 tb w3 D3.out (by have := Hq.out; rw [SL.out]; omega) (by omega) (by omega) Lb.out (by simp)).mono ?_
  rintro e w4 ⟨rfl, v4, hd, hc⟩
  have D4 := Lib.hid hd
  have B4 := Lib.hid (hc.below B3.out HBB.out G.out.1 G.out.2)
  clear hd hc
  have OB := Lib.hid (open_seal (k := 5) (t := tb.data.toList) (by omega) (by omega) Lb.out)
  have OA := Lib.hid (open_seal (k := 4) (t := ta.data.toList) (by omega) (by omega) La.out)
  have SA := Lib.hid (seal_len (k := 4) La.out)
  have SB := Lib.hid (seal_len (k := 5) Lb.out)
  go_wp2_with fail
  by_cases hpq : p = q
  · subst hpq
    have F := four_same S p ((sealL 4 ta.data.toList).take 64) ((sealL 4 ta.data.toList).drop 64) ((sealL 5 tb.data.toList).take 64) ((sealL 5 tb.data.toList).drop 64)
    have RA := Lib.hid (fun w5 (D5 : Dk B w5 g gs v4 S (((([] ++ [(2 * p, (sealL 4 ta.data.toList).take 64)]) ++ [(2 * p + 1, (sealL 4 ta.data.toList).drop 64)]) ++ [(2 * p, (sealL 5 tb.data.toList).take 64)]) ++ [(2 * p + 1, (sealL 5 tb.data.toList).drop 64)])) => pread_any p w5 D5 (by have := Hp.out; rw [SL.out]; omega) (by simp) (sealL 5 tb.data.toList) (by rw [F.1, F.2, List.take_append_drop]) (by rw [SB.out]; omega))
    clear F
    refine (RA.out w4 D4.out).mono ?_
    rintro e w5 ⟨rfl, hb⟩
    rw [OB.out.1, OB.out.2.1, OB.out.2.2, show (⟨tb.data.toList.toArray⟩ : ByteArray) = tb by simp]
    have D5 := Lib.hid (D4.out.below hb)
    have B5 := Lib.hid (bon B4.out hb)
    clear hb
    go_wp2_with fail
    refine (RA.out w5 D5.out).mono ?_
    rintro e w6 ⟨rfl, hb⟩
    rw [OB.out.1, OB.out.2.1, OB.out.2.2, show (⟨tb.data.toList.toArray⟩ : ByteArray) = tb by simp]
    have D6 := Lib.hid (D5.out.below hb)
    have B6 := Lib.hid (bon B5.out hb)
    clear hb
    go_wp2
    go_ret
    exact ⟨rfl, B6.out⟩
  · have F := four_first S p q hpq ((sealL 4 ta.data.toList).take 64) ((sealL 4 ta.data.toList).drop 64) ((sealL 5 tb.data.toList).take 64) ((sealL 5 tb.data.toList).drop 64)
    have F2 := four_last S ([] ++ [(2 * p, (sealL 4 ta.data.toList).take 64)] ++ [(2 * p + 1, (sealL 4 ta.data.toList).drop 64)]) q ((sealL 5 tb.data.toList).take 64) ((sealL 5 tb.data.toList).drop 64)
    have RA := Lib.hid (fun w5 (D5 : Dk B w5 g gs v4 S (((([] ++ [(2 * p, (sealL 4 ta.data.toList).take 64)]) ++ [(2 * p + 1, (sealL 4 ta.data.toList).drop 64)]) ++ [(2 * q, (sealL 5 tb.data.toList).take 64)]) ++ [(2 * q + 1, (sealL 5 tb.data.toList).drop 64)])) => pread_any p w5 D5 (by have := Hp.out; rw [SL.out]; omega) (by simp) (sealL 4 ta.data.toList) (by rw [F.1, F.2, List.take_append_drop]) (by rw [SA.out]; omega))
    have RB := Lib.hid (fun w5 (D5 : Dk B w5 g gs v4 S (((([] ++ [(2 * p, (sealL 4 ta.data.toList).take 64)]) ++ [(2 * p + 1, (sealL 4 ta.data.toList).drop 64)]) ++ [(2 * q, (sealL 5 tb.data.toList).take 64)]) ++ [(2 * q + 1, (sealL 5 tb.data.toList).drop 64)])) => pread_any q w5 D5 (by have := Hq.out; rw [SL.out]; omega) (by simp) (sealL 5 tb.data.toList) (by rw [F2.1, F2.2, List.take_append_drop]) (by rw [SB.out]; omega))
    have n1 : ((p : Int) == (q : Int)) = false := by rw [beq_eq_false_iff_ne]; omega
    have n2 : ¬ (p : Int) = (q : Int) := by omega
    have n3 : ¬ p = q := hpq
    clear F F2
    refine (RA.out w4 D4.out).mono ?_
    rintro e w5 ⟨rfl, hb⟩
    rw [OA.out.1, OA.out.2.1, OA.out.2.2, show (⟨ta.data.toList.toArray⟩ : ByteArray) = ta by simp]
    have D5 := Lib.hid (D4.out.below hb)
    have B5 := Lib.hid (bon B4.out hb)
    clear hb
    go_wp2_with fail
    refine (RB.out w5 D5.out).mono ?_
    rintro e w6 ⟨rfl, hb⟩
    rw [OB.out.1, OB.out.2.1, OB.out.2.2, show (⟨tb.data.toList.toArray⟩ : ByteArray) = tb by simp]
    have D6 := Lib.hid (D5.out.below hb)
    have B6 := Lib.hid (bon B5.out hb)
    clear hb
    go_wp2
    go_ret
    exact ⟨rfl, B6.out⟩

set_option maxHeartbeats 8000000 in
set_option maxRecDepth 100000 in
theorem pageOwn_pp (n m : Int) (a b : ByteArray) (w : World) (n0 : -9223372036854775808 ≤ n) (n1 : n ≤ 9223372036854775807) (m0 : -9223372036854775808 ≤ m) (m1 : m ≤ 9223372036854775807) (hcn : ¬ n < 0) (hcm : ¬ m < 0) :
    Calls Try.prog 3 #[.int .i64 n, .int .i64 m, .string a, .string b] w fun e w' => e = .returned (.bool true) ∧ Below w.heap.size w w' := by
  obtain ⟨p, hp⟩ : ∃ k : Nat, n.tmod 8 = (k : Int) := ⟨(n % 8).toNat, by rw [Int.tmod_eq_emod_of_nonneg (by omega)]; omega⟩
  have Hp := Lib.hid (show p < 8 by rw [Int.tmod_eq_emod_of_nonneg (by omega)] at hp; omega)
  have Tp := Lib.hid (congrArg (Value.int .i64) hp)
  have dn : decide (n < 0) = false := by simpa using hcn
  have Wn := Lib.hid dn
  clear hp dn
  obtain ⟨q, hq⟩ : ∃ k : Nat, m.tmod 8 = (k : Int) := ⟨(m % 8).toNat, by rw [Int.tmod_eq_emod_of_nonneg (by omega)]; omega⟩
  have Hq := Lib.hid (show q < 8 by rw [Int.tmod_eq_emod_of_nonneg (by omega)] at hq; omega)
  have Tq := Lib.hid (congrArg (Value.int .i64) hq)
  have dm : decide (m < 0) = false := by simpa using hcm
  have Wm := Lib.hid dm
  clear hq dm
  obtain ⟨Ka, hKa⟩ : ∃ K : Int, min (a.size : Int) 120 = K := ⟨_, rfl⟩
  obtain ⟨ta, hta⟩ : ∃ x : ByteArray, a.extract 0 Ka.toNat = x := ⟨_, rfl⟩
  have La := Lib.hid (show ta.data.toList.length ≤ 120 by
    rw [← hta, show (a.extract 0 Ka.toNat).data.toList.length = (a.extract 0 Ka.toNat).size by simp, ByteArray.size_extract]
    omega)
  have Ma := Lib.hid (And.intro hKa (And.intro hta (show 0 ≤ Ka ∧ Ka ≤ (a.size : Int) by omega)))
  clear hKa hta
  obtain ⟨Kb, hKb⟩ : ∃ K : Int, min (b.size : Int) 120 = K := ⟨_, rfl⟩
  obtain ⟨tb, htb⟩ : ∃ x : ByteArray, b.extract 0 Kb.toNat = x := ⟨_, rfl⟩
  have Lb := Lib.hid (show tb.data.toList.length ≤ 120 by
    rw [← htb, show (b.extract 0 Kb.toNat).data.toList.length = (b.extract 0 Kb.toNat).size by simp, ByteArray.size_extract]
    omega)
  have Mb := Lib.hid (And.intro hKb (And.intro htb (show 0 ≤ Kb ∧ Kb ≤ (b.size : Int) by omega)))
  clear hKb htb
  clear n0 n1 m0 m1 hcn hcm
  go_enter Try.func3, Try.ntmps3
  go_wp2_with fail
  refine (examples_any w).mono ?_
  rintro e w1 ⟨rfl, hb⟩
  have B1 := Lib.hid hb
  clear hb
  go_wp2_with fail
  refine (new_any 16 (by omega) (by omega) w1).mono ?_
  rintro e w2 ⟨g, gs, rfl, hd, hb, g1, g2⟩
  have B2 := Lib.hid (bon B1.out hb)
  have G := Lib.hid (And.intro (Nat.le_trans B1.out.size g1) (Nat.le_trans B1.out.size g2))
  obtain ⟨S, hS⟩ : ∃ S, List.replicate 16 z64 = S := ⟨_, rfl⟩
  have SL := Lib.hid (show S.length = 16 by rw [← hS]; simp)
  rw [hS] at hd
  obtain ⟨B, hB⟩ : ∃ B, w2.heap.size = B := ⟨_, rfl⟩
  have HBB := Lib.hid (show w.heap.size ≤ B by rw [← hB]; exact B2.out.size)
  rw [hB] at hd
  have D2 := Lib.hid hd
  clear hd hb g1 g2 hS hB
  have dn := Wn.out
  have dm := Wm.out
  have tp := Tp.out
  have tq := Tq.out
  have ka := Ma.out.1
  have kb := Mb.out.1
  have ea := Ma.out.2.1
  have eb := Mb.out.2.1
  have ka0 := Ma.out.2.2.1
  have ka1 := Ma.out.2.2.2
  have kb0 := Mb.out.2.2.1
  have kb1 := Mb.out.2.2.2
  go_wp2_with fail
  clear tp tq ka kb ea eb ka0 ka1 kb0 kb1 dn dm
  refine (pwrite_any p 4 ta w2 D2.out (by have := Hp.out; rw [SL.out]; omega) (by omega) (by omega) La.out (by simp)).mono ?_
  rintro e w3 ⟨rfl, v3, hd, hc⟩
  have D3 := Lib.hid hd
  have B3 := Lib.hid (hc.below B2.out HBB.out G.out.1 G.out.2)
  clear hd hc
  go_wp2_with fail
  refine (pwrite_any q 5 tb w3 D3.out (by have := Hq.out; rw [SL.out]; omega) (by omega) (by omega) Lb.out (by simp)).mono ?_
  rintro e w4 ⟨rfl, v4, hd, hc⟩
  have D4 := Lib.hid hd
  have B4 := Lib.hid (hc.below B3.out HBB.out G.out.1 G.out.2)
  clear hd hc
  have OB := Lib.hid (open_seal (k := 5) (t := tb.data.toList) (by omega) (by omega) Lb.out)
  have OA := Lib.hid (open_seal (k := 4) (t := ta.data.toList) (by omega) (by omega) La.out)
  have SA := Lib.hid (seal_len (k := 4) La.out)
  have SB := Lib.hid (seal_len (k := 5) Lb.out)
  go_wp2_with fail
  by_cases hpq : p = q
  · subst hpq
    have F := four_same S p ((sealL 4 ta.data.toList).take 64) ((sealL 4 ta.data.toList).drop 64) ((sealL 5 tb.data.toList).take 64) ((sealL 5 tb.data.toList).drop 64)
    have RA := Lib.hid (fun w5 (D5 : Dk B w5 g gs v4 S (((([] ++ [(2 * p, (sealL 4 ta.data.toList).take 64)]) ++ [(2 * p + 1, (sealL 4 ta.data.toList).drop 64)]) ++ [(2 * p, (sealL 5 tb.data.toList).take 64)]) ++ [(2 * p + 1, (sealL 5 tb.data.toList).drop 64)])) => pread_any p w5 D5 (by have := Hp.out; rw [SL.out]; omega) (by simp) (sealL 5 tb.data.toList) (by rw [F.1, F.2, List.take_append_drop]) (by rw [SB.out]; omega))
    clear F
    refine (RA.out w4 D4.out).mono ?_
    rintro e w5 ⟨rfl, hb⟩
    rw [OB.out.1, OB.out.2.1, OB.out.2.2, show (⟨tb.data.toList.toArray⟩ : ByteArray) = tb by simp]
    have D5 := Lib.hid (D4.out.below hb)
    have B5 := Lib.hid (bon B4.out hb)
    clear hb
    go_wp2_with fail
    refine (RA.out w5 D5.out).mono ?_
    rintro e w6 ⟨rfl, hb⟩
    rw [OB.out.1, OB.out.2.1, OB.out.2.2, show (⟨tb.data.toList.toArray⟩ : ByteArray) = tb by simp]
    have D6 := Lib.hid (D5.out.below hb)
    have B6 := Lib.hid (bon B5.out hb)
    clear hb
    go_wp2
    go_ret
    exact ⟨rfl, B6.out⟩
  · have F := four_first S p q hpq ((sealL 4 ta.data.toList).take 64) ((sealL 4 ta.data.toList).drop 64) ((sealL 5 tb.data.toList).take 64) ((sealL 5 tb.data.toList).drop 64)
    have F2 := four_last S ([] ++ [(2 * p, (sealL 4 ta.data.toList).take 64)] ++ [(2 * p + 1, (sealL 4 ta.data.toList).drop 64)]) q ((sealL 5 tb.data.toList).take 64) ((sealL 5 tb.data.toList).drop 64)
    have RA := Lib.hid (fun w5 (D5 : Dk B w5 g gs v4 S (((([] ++ [(2 * p, (sealL 4 ta.data.toList).take 64)]) ++ [(2 * p + 1, (sealL 4 ta.data.toList).drop 64)]) ++ [(2 * q, (sealL 5 tb.data.toList).take 64)]) ++ [(2 * q + 1, (sealL 5 tb.data.toList).drop 64)])) => pread_any p w5 D5 (by have := Hp.out; rw [SL.out]; omega) (by simp) (sealL 4 ta.data.toList) (by rw [F.1, F.2, List.take_append_drop]) (by rw [SA.out]; omega))
    have RB := Lib.hid (fun w5 (D5 : Dk B w5 g gs v4 S (((([] ++ [(2 * p, (sealL 4 ta.data.toList).take 64)]) ++ [(2 * p + 1, (sealL 4 ta.data.toList).drop 64)]) ++ [(2 * q, (sealL 5 tb.data.toList).take 64)]) ++ [(2 * q + 1, (sealL 5 tb.data.toList).drop 64)])) => pread_any q w5 D5 (by have := Hq.out; rw [SL.out]; omega) (by simp) (sealL 5 tb.data.toList) (by rw [F2.1, F2.2, List.take_append_drop]) (by rw [SB.out]; omega))
    have n1 : ((p : Int) == (q : Int)) = false := by rw [beq_eq_false_iff_ne]; omega
    have n2 : ¬ (p : Int) = (q : Int) := by omega
    have n3 : ¬ p = q := hpq
    clear F F2
    refine (RA.out w4 D4.out).mono ?_
    rintro e w5 ⟨rfl, hb⟩
    rw [OA.out.1, OA.out.2.1, OA.out.2.2, show (⟨ta.data.toList.toArray⟩ : ByteArray) = ta by simp]
    have D5 := Lib.hid (D4.out.below hb)
    have B5 := Lib.hid (bon B4.out hb)
    clear hb
    go_wp2_with fail
    refine (RB.out w5 D5.out).mono ?_
    rintro e w6 ⟨rfl, hb⟩
    rw [OB.out.1, OB.out.2.1, OB.out.2.2, show (⟨tb.data.toList.toArray⟩ : ByteArray) = tb by simp]
    have D6 := Lib.hid (D5.out.below hb)
    have B6 := Lib.hid (bon B5.out hb)
    clear hb
    go_wp2
    go_ret
    exact ⟨rfl, B6.out⟩

theorem pageOwn_any (n m : Int) (a b : ByteArray) (w : World) (n0 : -9223372036854775808 ≤ n) (n1 : n ≤ 9223372036854775807) (m0 : -9223372036854775808 ≤ m) (m1 : m ≤ 9223372036854775807) :
    Calls Try.prog 3 #[.int .i64 n, .int .i64 m, .string a, .string b] w fun e w' => e = .returned (.bool true) ∧ Below w.heap.size w w' := by
  by_cases h1 : n < 0
  · by_cases h2 : m < 0
    · exact pageOwn_nn n m a b w n0 n1 m0 m1 h1 h2
    · exact pageOwn_np n m a b w n0 n1 m0 m1 h1 h2
  · by_cases h2 : m < 0
    · exact pageOwn_pn n m a b w n0 n1 m0 m1 h1 h2
    · exact pageOwn_pp n m a b w n0 n1 m0 m1 h1 h2
end Go.Proofs.Ytamfgpagjffbhaa
