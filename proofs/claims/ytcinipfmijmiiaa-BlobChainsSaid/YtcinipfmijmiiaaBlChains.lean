/-
  BlobChains.
-/
import Derived.Test.YtcinipfmijmiiaaBk
namespace Go.Proofs.Ytcinipfmijmiiaa
open Go.RowKit
set_option linter.unusedSimpArgs false
set_option linter.unusedVariables false
set_option maxHeartbeats 8000000 in
set_option maxRecDepth 100000 in
theorem blobChains_any (s : ByteArray) (w : World) : Calls Try.prog 5 #[.string s] w fun e w' => e = .returned (.bool true) ∧ Below w.heap.size w w' := by
  obtain ⟨k, hk⟩ : ∃ k, min s.size 3000 = k := ⟨_, rfl⟩
  obtain ⟨l, hl⟩ : ∃ l, (s.extract 0 k).data.toList = l := ⟨_, rfl⟩
  have EX := Lib.hid (show s.extract 0 k = ⟨l.toArray⟩ by rw [← hl])
  have LL := Lib.hid (show l.length = k by
    rw [← hl, show (s.extract 0 k).data.toList.length = (s.extract 0 k).size by simp, ByteArray.size_extract]; omega)
  have M1 := Lib.hid (show min (s.size : Int) 3000 = (k : Int) by omega)
  have M2 := Lib.hid (show (k : Int) ≤ (s.size : Int) by omega)
  have K3 := Lib.hid (show k ≤ 3000 by omega)
  obtain ⟨K, hK⟩ : ∃ K, nd l.length = K := ⟨_, rfl⟩
  have KK := Lib.hid (show 1 ≤ K ∧ K ≤ 26 by rw [← hK, LL.out]; have := K3.out; unfold nd; omega)
  have HK := Lib.hid hK
  clear hl hK hk
  go_enter Try.func5, Try.ntmps5
  go_wp2_with fail
  refine (examples_any w).mono ?_
  rintro e w0 ⟨rfl, hb⟩
  have B0 := Lib.hid hb
  clear hb
  have NEW := Lib.hid (show Calls Try.prog 7 #[.int .i64 120] w0 fun e w' => ∃ g gs, e = .returned (.tuple #[.pointer (some ⟨g, 0, none⟩), .int .i64 0]) ∧ Dk w'.heap.size w' g gs (.slice none 0 0) (List.replicate 120 z64) [] ∧ Below w0.heap.size w0 w' ∧ w0.heap.size ≤ g ∧ w0.heap.size ≤ gs from new_any 120 (by omega) (by omega) w0)
  go_wp2_with fail
  refine NEW.out.mono ?_
  rintro e w1 ⟨g, gs, rfl, hd1, hb1, hg, hgs⟩
  have B1 := Lib.hid (bon B0.out hb1)
  have HGG := Lib.hid (And.intro (Nat.le_trans B0.out.size hg) (Nat.le_trans B0.out.size hgs))
  obtain ⟨S0, hS0⟩ : ∃ S0, List.replicate 120 z64 = S0 := ⟨_, rfl⟩
  have SL0 := Lib.hid (show S0.length = 120 by rw [← hS0]; simp)
  rw [hS0] at hd1
  have FY := Lib.hid (format_yes w1 hd1 (by rw [SL0.out]; omega) (by simp))
  clear hd1 hb1 NEW hg hgs hS0
  go_wp2_with fail
  refine FY.out.mono ?_
  rintro e w2 ⟨p, bm, rfl, hp, hpb, hu, hd, hc⟩
  obtain ⟨S1, hS1⟩ : ∃ S1, flush S0 ([] ++ hdW 1 0 (nU [])) = S1 := ⟨_, rfl⟩
  have SL := Lib.hid (show S1.length = 120 by rw [← hS1, flush_len, SL0.out])
  rw [hS1] at hd
  have B2 := Lib.hid (hc.below B1.out B1.out.size HGG.out.1 HGG.out.2)
  have PP := Lib.hid (Nat.le_trans B1.out.size hp)
  have P2 := Lib.hid (show Pg w1.heap.size w2.heap.size p g gs bm 2 1 0 (nU []) (rg 0) S1 [] (.slice none 0 0) w2 from ⟨hpb, hu, World.ownsRow_nil _ _ _ _, ⟨_, hd⟩, Nat.le_refl _⟩)
  clear hS1 hp hpb hu hd hc FY
  have m1 := M1.out
  have m2 := M2.out
  have ex := EX.out
  obtain ⟨A, hA⟩ : ∃ A, als (nU []) 60 (rg 0) K = A := ⟨_, rfl⟩
  have AA := Lib.hid (show A = List.range' 2 K by rw [← hA]; exact als_rg 60 0 K (by have := KK.out; omega))
  obtain ⟨t, ht⟩ : ∃ t : ByteArray, (⟨l.toArray⟩ : ByteArray) = t := ⟨_, rfl⟩
  have TS := Lib.hid (show t.size = l.length by rw [← ht]; exact str_size l)
  have HT := Lib.hid ht
  have WR := Lib.hid (bwrite_any 60 K l w2 P2.out (by rw [SL.out]) (by rw [LL.out]; have := K3.out; omega) HK.out (by have := KK.out; simp [rg]; omega) (by have := KK.out; simp; omega))
  rw [hA, ht] at WR
  rw [ht] at ex
  clear ht hA
  go_wp2_with fail
  refine WR.out.mono ?_
  intro e w3 hq
  have AL := Lib.hid (show A.length = K by rw [AA.out]; simp)
  have AN := Lib.hid (show A.Nodup by rw [AA.out]; exact List.nodup_range')
  have AM := Lib.hid (show ∀ x ∈ A, 2 ≤ x ∧ x < 60 by rw [AA.out]; exact fun x hx => range_two hx (by omega) (by have := KK.out; omega))
  obtain ⟨a0, ha0⟩ : ∃ a0, (A[0]?).getD 0 = a0 := ⟨_, rfl⟩
  rw [ha0] at hq
  have HA0 := Lib.hid ha0
  obtain ⟨f3, hc3, ⟨_, rfl, hp3⟩ | ⟨h2, _⟩⟩ := hq
  case inr => have := AL.out; omega
  have CC := Lib.hid (show ([] ++ wrs A l K : List Wt).length ≤ 1000 by rw [wrs_nil_len]; have := KK.out; omega)
  have CH := Lib.hid (show Chn S1 ([] ++ wrs A l K) 60 (chs A l) from chn_new HK.out (by have := KK.out; omega) AN.out AL.out AM.out)
  have P3 := Lib.hid (show Pg w1.heap.size w2.heap.size p g gs bm 2 1 0 (nU []) A S1 ([] ++ wrs A l K) f3 w3 from hp3)
  have B3 := Lib.hid (hc3.below B2.out B2.out.size B1.out.size PP.out HGG.out.1 HGG.out.2 (fun k e => by cases e))
  have PA := Lib.hid (bpages_pg 60 (chs A l) w3 P3.out CC.out (by rw [SL.out]) CH.out a0 (by rw [chs_0]; exact HA0.out))
  clear hc3 hp3 WR m1 m2 ex ha0
  go_wp2_with fail
  refine PA.out.mono ?_
  rintro e w4 ⟨v4, rfl, ho4, hb4⟩
  rw [chs_fst, chs_len, AL.out] at ho4
  have P4 := Lib.hid (P3.out.below hb4)
  have B4 := Lib.hid (bon B3.out hb4)
  obtain ⟨A4, c4, hu4⟩ := own_form ho4
  subst hu4
  have O4 := Lib.hid ho4
  have FR := Lib.hid (fresh_pg w4 P4.out (by rw [AL.out]; have := KK.out; omega))
  clear ho4 hb4 PA
  go_wp2_with fail
  refine FR.out.mono ?_
  rintro e w5 ⟨v5, rfl, ho5, hb5⟩
  have P5 := Lib.hid (P4.out.below hb5)
  have B5 := Lib.hid (bon B4.out hb5)
  have O5 := Lib.hid (own_below O4.out hb5)
  have NM := Lib.hid (numbers_own A w5 (by rw [AL.out]; exact O5.out) ho5 (by rw [AL.out]; have := KK.out; omega))
  clear ho5 hb5 FR
  go_wp2_with fail
  refine NM.out.mono ?_
  rintro e w6 ⟨rfl, hb6⟩
  have P6 := Lib.hid (P5.out.below hb6)
  have B6 := Lib.hid (bon B5.out hb6)
  have O6 := Lib.hid (own_below O5.out hb6)
  clear hb6 NM O5 O4 P5 P4
  go_wp2_with fail
  obtain ⟨b, rfl⟩ : ∃ b, A4 = some ⟨b, 0, none⟩ := by
    rcases O6.out.2 with ⟨h0, h1⟩ | ⟨b, cap, cur, h1, _⟩
    · have := KK.out.1; omega
    · injection h1 with a1 _ _
      exact ⟨b, a1⟩
  go_loopw [13] (fun iv wr => ∃ i : Nat, iv = .int .i64 (i : Int) ∧ Hid (i ≤ K) ∧ Hid (Below w6.heap.size w6 wr)) (fun iv _ => match iv with | .int _ z => K - z.toNat | _ => 0)
  case atStart => exact ⟨0, rfl, Lib.hid (by omega), Lib.hid (Below.refl _ _)⟩
  case round =>
    obtain ⟨i, rfl, HI, HW⟩ := hrel
    obtain ⟨wl, hwl⟩ : ∃ x : World, wr = x := ⟨_, rfl⟩
    subst wr
    rcases Nat.lt_or_ge i K with hi | hi
    · have y1 : decide ((i : Int) < (K : Int)) = true := decide_eq_true (by omega)
      have y2 : decide (i < K) = true := decide_eq_true hi
      obtain ⟨x, hx⟩ : ∃ x, A[i]? = some x := ⟨_, List.getElem?_eq_getElem (by rw [AL.out]; exact hi)⟩
      have cx : wl.cell? ⟨b, i, none⟩ = some (.int .i64 (x : Int)) := by
        have h := (own_below O6.out HW.out).cells (g := b) rfl i (nn x) (by rw [List.getElem?_map, hx]; rfl)
        rw [Addr.add_lit, Nat.zero_add] at h
        exact h
      have q2 : (i : Int) < (K : Int) := by omega
      obtain ⟨r, hr⟩ : ∃ r, l.drop (118 * i) = r := ⟨_, rfl⟩
      have RD := Lib.hid (bread_pg 60 ((chs A l).drop i) wl (P6.out.below HW.out) CC.out (by rw [SL.out]) (CH.out.drop (by rw [chs_len, AL.out]; exact hi)) x (by rw [chs_drop0, hx]; rfl) r (by rw [← hr]; exact pieces_drop A l i (by rw [AL.out, ← HK.out]; exact nd_le _) (by rw [AL.out]; omega)) (by rw [← hr, List.length_drop, LL.out]; have := K3.out; omega))
      obtain ⟨sr, hsr⟩ : ∃ sr : ByteArray, (⟨r.toArray⟩ : ByteArray) = sr := ⟨_, rfl⟩
      rw [hsr] at RD
      have IK := Lib.hid hi
      have HR := Lib.hid (And.intro hr hsr)
      clear hi hx hr hsr
      go_wp2_with fail
      refine RD.out.mono ?_
      rintro e w7 ⟨rfl, hb7⟩
      have B7 := Lib.hid (HW.out.trans (hb7.mono HW.out.size))
      obtain ⟨a, ha⟩ : ∃ a, 118 * i = a := ⟨_, rfl⟩
      have W2 : wrap64 (118 * (i : Int)) = (a : Int) := by rw [IntWalk.wrap64_in _ ⟨by omega, by have := IK.out; have := KK.out; omega⟩]; omega
      have ak : a ≤ k := by
        have h1 := IK.out
        have h2 := HK.out
        rw [LL.out] at h2
        have h3 := KK.out
        unfold nd at h2
        omega
      have ts : t.size = k := by rw [TS.out, LL.out]
      have m3 : min (a : Int) (t.size : Int) = (a : Int) := by omega
      have m4 : (a : Int) ≤ (t.size : Int) := by omega
      have m5 : min a t.size = a := by omega
      have ex : t.extract a t.size = sr := by
        rw [ts, ← HT.out, ← LL.out, ext_drop, ← ha, HR.out.1]; exact HR.out.2
      have W1 : Value.int .i64 (wrap64 ((i : Int) + 1)) = .int .i64 ((i + 1 : Nat) : Int) := by rw [IntWalk.wrap64_in _ ⟨by omega, by have := IK.out; have := KK.out; omega⟩]; rfl
      have HW1 := Lib.hid W1
      clear hb7 RD W1 ha ak ts cx
      go_wp2_with fail
      have e3 := HW1.out
      refine ⟨⟨i + 1, e3, Lib.hid IK.out, B7⟩, ?_⟩
      rw [e3]
      have hi := IK.out
      clear e3 HW1 W2 m3 m4 m5
      show K - (((i + 1 : Nat) : Int)).toNat < K - ((i : Int)).toNat
      omega
    · obtain rfl : i = K := by have := HI.out; omega
      have y1 : decide ((i : Int) < (i : Int)) = false := decide_eq_false (by omega)
      have ND := Lib.hid (show Calls Try.prog 10 #[.int .i64 (k : Int)] wl fun e w' => e = .returned (.int .i64 (i : Int)) ∧ w' = wl by have h := need_nat k (by have := K3.out; omega) wl; have h2 := HK.out; rw [LL.out] at h2; rwa [h2] at h)
      have ts : (t.size : Int) = (k : Int) := by rw [TS.out, LL.out]
      clear hi
      go_wp2_with fail
      refine ND.out.mono ?_
      rintro e w7 ⟨rfl, hw⟩
      obtain rfl : wl = w7 := hw.symm
      clear hw
      go_wp2
      try rw [Exit.noGoto_ret]
      go_ret
      exact ⟨rfl, B6.out.trans (HW.out.mono B6.out.size)⟩
end Go.Proofs.Ytcinipfmijmiiaa
