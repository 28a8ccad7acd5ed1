/-
  DiskLasts.
-/
import Derived.Test.YtnpcobekmghnaaaEn
namespace Go.Proofs.Ytnpcobekmghnaaa
open Go.RowKit
set_option linter.unusedSimpArgs false
set_option linter.unusedVariables false
set_option maxHeartbeats 8000000 in
set_option maxRecDepth 100000 in
theorem diskLasts_any (a b : ByteArray) (K : Option Addr) (kc : Nat) (ks : List Int) (torn cut : Int) (w : World) (hk : Rl nv w K kc ks) (hkn : ks.length ≤ 9223372036854775807) (t0 : -9223372036854775808 ≤ torn) (t1 : torn ≤ 9223372036854775807) (b0 : -9223372036854775808 ≤ cut) (b1 : cut ≤ 9223372036854775807) (qa : a.data.toList.length ≤ 4611686018427387904) (qb : b.data.toList.length ≤ 4611686018427387904) :
    Calls Try.prog 3 #[.string a, .string b, .slice K ks.length kc, .int .i64 torn, .int .i64 cut] w fun e w' => e = .returned (.bool true) ∧ Below w.heap.size w w' := by
  have HK := Lib.hid hk
  have HKN := Lib.hid hkn
  have HCB := Lib.hid (And.intro b0 b1)
  have Qa := Lib.hid (show a.size ≤ 4611686018427387904 by rw [show a.size = a.data.toList.length by simp]; exact qa)
  have Qb := Lib.hid (show b.size ≤ 4611686018427387904 by rw [show b.size = b.data.toList.length by simp]; exact qb)
  obtain ⟨nk, hnk⟩ : ∃ n, ks.length = n := ⟨_, rfl⟩
  have HNK := Lib.hid hnk
  rw [hnk]
  clear hk hkn b0 b1 qa qb hnk t0 t1
  go_enter Try.func3, Try.ntmps3
  go_wp2_with fail
  refine (examples_any w).mono ?_
  rintro e w1 ⟨rfl, hb⟩
  have B1 := Lib.hid hb
  clear hb
  go_wp2_with fail
  refine (new_any 8 (by omega) (by omega) w1).mono ?_
  rintro e w2 ⟨g, gs, rfl, hd, hb, g1, g2⟩
  have B2 := Lib.hid (bon B1.out hb)
  have G := Lib.hid (And.intro (Nat.le_trans B1.out.size g1) (Nat.le_trans B1.out.size g2))
  obtain ⟨S, hS⟩ : ∃ S, List.replicate 8 z64 = S := ⟨_, rfl⟩
  have SLS := Lib.hid (show S.length = 8 by rw [← hS]; simp)
  rw [hS] at hd
  obtain ⟨B, hB⟩ : ∃ B, w2.heap.size = B := ⟨_, rfl⟩
  have HBB := Lib.hid (show w.heap.size ≤ B by rw [← hB]; exact B2.out.size)
  rw [hB] at hd
  have D2 := Lib.hid hd
  clear hd hb g1 g2 hS hB
  go_wp2_with fail
  go_loopw [14] (fun kv wr => ∃ (k : Nat) (v : Value), k ≤ 8 ∧ kv = .int .i64 k ∧ Hid (Dk B wr g gs v S (mk (fun i => lx a (i)) k)) ∧ Hid (Below w.heap.size w wr)) (fun kv _ => 8 - (intOf kv).toNat)
  case atStart => exact ⟨0, _, by omega, rfl, D2, B2⟩
  case round =>
    obtain ⟨k, v, hk, rfl, HD, HB⟩ := hrel
    by_cases hlt : k < 8
    · have HLT := Lib.hid hlt
      have k1 : (k : Int) < 8 := by omega
      have wu1 : IntKind.u8.wrap (k : Int) = (k : Int) := by have := wrap_u8n (d := k) (by omega); exact this
      have cv1 := fun x => conv_one k (by omega) (k : Int) (by omega) x
      obtain ⟨sb1, hsb1⟩ : ∃ x : ByteArray, (⟨[UInt8.ofNat k].toArray⟩ : ByteArray) = x := ⟨_, rfl⟩
      rw [hsb1] at cv1
      have sz1 : sb1.size = 1 := by rw [← hsb1]; rfl
      have nb1 : ¬ 9223372036854775807 < a.size + sb1.size := by have := Qa.out; omega
      obtain ⟨ab1, hab1⟩ : ∃ x : ByteArray, a ++ sb1 = x := ⟨_, rfl⟩
      have LXX1 := Lib.hid (show fillB ab1.data.toList = lx a k by rw [← hab1, ← hsb1]; unfold lx; simp [ByteArray.data_append])
      clear hsb1 sz1
      clear hlt
      go_wp2_with fail
      clear wu1 cv1 nb1 hab1
      obtain ⟨V, hV⟩ : ∃ V : World, V = wr.alloc (.cells #[.int .u8 (k : Int)] 5) := ⟨_, rfl⟩
      rw [← hV]
      have hbV : Below wr.heap.size wr V := by rw [hV]; exact bda _ _
      clear hV
      refine (fill_any ab1 V).mono ?_
      rintro e w5 ⟨rfl, hb⟩
      rw [LXX1.out]
      have D5 := Lib.hid (HD.out.below (bon hbV hb))
      have B5 := Lib.hid (HB.out.trans ((bon hbV hb).mono HB.out.size))
      clear hb hbV
      obtain ⟨tb, htb⟩ : ∃ x : ByteArray, (⟨(lx a k).toArray⟩ : ByteArray) = x := ⟨_, rfl⟩
      have htl : tb.data.toList = lx a k := by rw [← htb]
      rw [htb]
      have HT := Lib.hid htl
      clear htl htb
      go_wp2_with fail
      refine (write_any k tb w5 D5.out (by rw [SLS.out]; exact HLT.out) (by rw [HT.out]; exact lx_len _ _) (by rw [mk_len]; omega)).mono ?_
      rintro e w6 ⟨rfl, v', hd, hc⟩
      rw [HT.out] at hd
      have D7 := Lib.hid hd
      have B7 := Lib.hid (hc.below B5.out HBB.out G.out.1 G.out.2)
      clear hd hc
      go_wp2
      go_roundw
      case rel => exact ⟨k + 1, v', by have := HLT.out; omega, by go_num, Lib.hid (by rw [mk_snoc]; exact D7.out), B7⟩
      case measure => simp [intOf]; have := HLT.out; omega
    · obtain rfl : k = 8 := by omega
      clear hlt
      go_wp2_with fail
      refine (barrier_any wr HD.out (by rw [mk_len]; omega)).mono ?_
      rintro e w3 ⟨rfl, hd, hc⟩
      have B3 := Lib.hid (hc.below HB.out HBB.out G.out.1 G.out.2)
      obtain ⟨f1, f2⟩ := flush_mk (f := fun i => lx a (i)) (fun i => lx_len _ _) HD.out.s64 8 (by rw [SLS.out]; omega)
      obtain ⟨S1, hS1⟩ : ∃ S1, flush S (mk (fun i => lx a (i)) 8) = S1 := ⟨_, rfl⟩
      have SLS1 := Lib.hid (show S1.length = 8 by rw [← hS1, flush_len]; exact SLS.out)
      rw [hS1] at hd f1 f2
      have D3 := Lib.hid hd
      have F12 := Lib.hid (And.intro f1 f2)
      clear hd hc hS1 f1 f2 HD HB
      go_wp2_with fail
      try rw [show ((8 : Nat) : Int) = 8 from rfl]
      go_loopw [16] (fun kv wr => ∃ (k : Nat) (v : Value), k ≤ 8 ∧ kv = .int .i64 k ∧ Hid (Dk B wr g gs v S1 (mk (fun i => lx b (i + 9)) k)) ∧ Hid (Below w.heap.size w wr)) (fun kv _ => 8 - (intOf kv).toNat)
      case atStart => exact ⟨0, _, by omega, rfl, D3, B3⟩
      case round =>
        obtain ⟨k, v, hk, rfl, HD, HB⟩ := hrel
        by_cases hlt : k < 8
        · have HLT := Lib.hid hlt
          have k1 : (k : Int) < 8 := by omega
          have wu1 : IntKind.u8.wrap ((k : Int) + 9) = ((k : Int) + 9) := by have := wrap_u8n (d := (k + 9)) (by omega); simpa using this
          have cv1 := fun x => conv_one (k + 9) (by omega) ((k : Int) + 9) (by omega) x
          obtain ⟨sb1, hsb1⟩ : ∃ x : ByteArray, (⟨[UInt8.ofNat (k + 9)].toArray⟩ : ByteArray) = x := ⟨_, rfl⟩
          rw [hsb1] at cv1
          have sz1 : sb1.size = 1 := by rw [← hsb1]; rfl
          have nb1 : ¬ 9223372036854775807 < b.size + sb1.size := by have := Qb.out; omega
          obtain ⟨ab1, hab1⟩ : ∃ x : ByteArray, b ++ sb1 = x := ⟨_, rfl⟩
          have LXX1 := Lib.hid (show fillB ab1.data.toList = lx b (k + 9) by rw [← hab1, ← hsb1]; unfold lx; simp [ByteArray.data_append])
          clear hsb1 sz1
          clear hlt
          go_wp2_with fail
          clear wu1 cv1 nb1 hab1
          obtain ⟨V, hV⟩ : ∃ V : World, V = wr.alloc (.cells #[.int .u8 ((k : Int) + 9)] 5) := ⟨_, rfl⟩
          rw [← hV]
          have hbV : Below wr.heap.size wr V := by rw [hV]; exact bda _ _
          clear hV
          refine (fill_any ab1 V).mono ?_
          rintro e w5 ⟨rfl, hb⟩
          rw [LXX1.out]
          have D5 := Lib.hid (HD.out.below (bon hbV hb))
          have B5 := Lib.hid (HB.out.trans ((bon hbV hb).mono HB.out.size))
          clear hb hbV
          obtain ⟨tb, htb⟩ : ∃ x : ByteArray, (⟨(lx b (k + 9)).toArray⟩ : ByteArray) = x := ⟨_, rfl⟩
          have htl : tb.data.toList = lx b (k + 9) := by rw [← htb]
          rw [htb]
          have HT := Lib.hid htl
          clear htl htb
          go_wp2_with fail
          refine (write_any k tb w5 D5.out (by rw [SLS1.out]; exact HLT.out) (by rw [HT.out]; exact lx_len _ _) (by rw [mk_len]; omega)).mono ?_
          rintro e w6 ⟨rfl, v', hd, hc⟩
          rw [HT.out] at hd
          have D7 := Lib.hid hd
          have B7 := Lib.hid (hc.below B5.out HBB.out G.out.1 G.out.2)
          clear hd hc
          go_wp2
          go_roundw
          case rel => exact ⟨k + 1, v', by have := HLT.out; omega, by go_num, Lib.hid (by rw [mk_snoc]; exact D7.out), B7⟩
          case measure => simp [intOf]; have := HLT.out; omega
        · obtain rfl : k = 8 := by omega
          clear hlt
          go_wp2_with fail
          refine (waiting_any wr HD.out).mono ?_
          rintro e w9 ⟨rfl, hw⟩
          subst w9
          rw [mk_len]
          go_wp2_with fail
          try rw [show ((8 : Nat) : Int) = 8 from rfl]
          have CRA : Calls Try.prog 11 #[.pointer (some ⟨g, 0, none⟩), .slice K nk kc, .int .i64 torn, .int .i64 cut] wr fun e w' => e = .returned (.tuple #[]) ∧ Dk B w' g gs (.slice none 0 0) (crash ks torn (cutQ cut) S1 (mk (fun i => lx b (i + 9)) 8)) [] ∧ Ch B g gs wr w' := by
            rw [← HNK.out]
            exact crash_any K kc ks torn cut wr HD.out (by rw [mk_len]; omega) (HK.out.below HB.out) HKN.out (fun h b o e => by
              obtain ⟨b2, o2, e2, hlt2, _⟩ := HK.out.2 h
              rw [e] at e2
              injection e2 with e2
              injection e2 with e2 _
              have := G.out.2
              omega) HCB.out.1 HCB.out.2
          refine CRA.mono ?_
          rintro e w4 ⟨rfl, hd, hc⟩
          have B4 := Lib.hid (hc.below HB.out HBB.out G.out.1 G.out.2)
          obtain ⟨c1, c2⟩ := crash_mk (x := fun i => lx a i) (y := fun i => lx b (i + 9)) (ks := ks) (torn := torn) (q := cutQ cut) (cutQ_le cut) (fun i => lx_len _ _) (fun i hi => F12.out.2 i (by have := SLS1.out; omega)) F12.out.1 8 (by rw [SLS1.out]; omega)
          obtain ⟨S2, hS2⟩ : ∃ S2, crash ks torn (cutQ cut) S1 (mk (fun i => lx b (i + 9)) 8) = S2 := ⟨_, rfl⟩
          have SLS2 := Lib.hid (show S2.length = 8 by rw [← hS2, crash_len]; exact SLS1.out)
          rw [hS2] at hd c2
          have D4 := Lib.hid hd
          have C2 := Lib.hid (fun i (hi : i < 8) => show S2[i]?.getD [] = lastB ks torn (cutQ cut) (fun i => lx a i) (fun i => lx b (i + 9)) i by have := c2 i (by have := SLS1.out; omega); rw [if_pos hi] at this; exact this)
          clear hd hc hS2 c1 c2 CRA HD HB
          go_wp2_with fail
          go_loopw [18] (fun kv wr => ∃ k : Nat, k ≤ 8 ∧ kv = .int .i64 k ∧ Hid (Below w4.heap.size w4 wr)) (fun kv _ => 8 - (intOf kv).toNat)
          case atStart => exact ⟨0, by omega, rfl, Lib.hid (Below.refl _ _)⟩
          case round =>
            obtain ⟨k, hk, rfl, HB⟩ := hrel
            obtain ⟨w7, h_w7⟩ : ∃ x : World, wr = x := ⟨_, rfl⟩
            subst wr
            by_cases hlt : k < 8
            · have HLT := Lib.hid hlt
              have k1 : (k : Int) < 8 := by omega
              have k0 : (0 : Int) ≤ (k : Int) := by omega
              have hRl := C2.out k hlt
              obtain ⟨R, hR⟩ : ∃ x : ByteArray, (⟨(rd S2 [] k).toArray⟩ : ByteArray) = x := ⟨_, rfl⟩
              have hRL : R.data.toList = lastB ks torn (cutQ cut) (fun i => lx a i) (fun i => lx b (i + 9)) k := by rw [← hR, ← hRl]; rfl
              have HRL := Lib.hid hRL
              clear hRl hRL
              go_wp2_with fail
              refine (read_any k w7 (D4.out.below HB.out) (by rw [SLS2.out]; exact HLT.out) (by simp)).mono ?_
              rintro e w8 ⟨rfl, hb⟩
              rw [hR]
              have B8 := Lib.hid (bon HB.out hb)
              clear hb hR
              have wu1 : IntKind.u8.wrap (k : Int) = (k : Int) := by have := wrap_u8n (d := k) (by omega); exact this
              have cv1 := fun x => conv_one k (by omega) (k : Int) (by omega) x
              obtain ⟨sb1, hsb1⟩ : ∃ x : ByteArray, (⟨[UInt8.ofNat k].toArray⟩ : ByteArray) = x := ⟨_, rfl⟩
              rw [hsb1] at cv1
              have sz1 : sb1.size = 1 := by rw [← hsb1]; rfl
              have nb1 : ¬ 9223372036854775807 < a.size + sb1.size := by have := Qa.out; omega
              obtain ⟨ab1, hab1⟩ : ∃ x : ByteArray, a ++ sb1 = x := ⟨_, rfl⟩
              have LXX1 := Lib.hid (show fillB ab1.data.toList = lx a k by rw [← hab1, ← hsb1]; unfold lx; simp [ByteArray.data_append])
              clear hsb1 sz1
              go_wp2_with fail
              clear wu1 cv1 nb1 hab1
              obtain ⟨V, hV⟩ : ∃ V : World, V = w8.alloc (.cells #[.int .u8 (k : Int)] 5) := ⟨_, rfl⟩
              rw [← hV]
              have hbV : Below w8.heap.size w8 V := by rw [hV]; exact bda _ _
              clear hV
              refine (fill_any ab1 V).mono ?_
              rintro e w9 ⟨rfl, hb⟩
              rw [LXX1.out]
              have B9 := Lib.hid (bon B8.out (bon hbV hb))
              clear hb hbV
              obtain ⟨xb, hxb⟩ : ∃ x : ByteArray, (⟨(lx a k).toArray⟩ : ByteArray) = x := ⟨_, rfl⟩
              have HX := Lib.hid (show xb.data.toList = lx a k by rw [← hxb])
              rw [hxb]
              clear hxb
              have wu2 : IntKind.u8.wrap ((k : Int) + 9) = ((k : Int) + 9) := by have := wrap_u8n (d := (k + 9)) (by omega); simpa using this
              have cv2 := fun x => conv_one (k + 9) (by omega) ((k : Int) + 9) (by omega) x
              obtain ⟨sb2, hsb2⟩ : ∃ x : ByteArray, (⟨[UInt8.ofNat (k + 9)].toArray⟩ : ByteArray) = x := ⟨_, rfl⟩
              rw [hsb2] at cv2
              have sz2 : sb2.size = 1 := by rw [← hsb2]; rfl
              have nb2 : ¬ 9223372036854775807 < b.size + sb2.size := by have := Qb.out; omega
              obtain ⟨ab2, hab2⟩ : ∃ x : ByteArray, b ++ sb2 = x := ⟨_, rfl⟩
              have LXX2 := Lib.hid (show fillB ab2.data.toList = lx b (k + 9) by rw [← hab2, ← hsb2]; unfold lx; simp [ByteArray.data_append])
              clear hsb2 sz2
              clear hlt
              go_wp2_with fail
              clear wu2 cv2 nb2 hab2
              obtain ⟨V2, hV⟩ : ∃ V : World, V = w9.alloc (.cells #[.int .u8 ((k : Int) + 9)] 5) := ⟨_, rfl⟩
              rw [← hV]
              have hbV : Below w9.heap.size w9 V2 := by rw [hV]; exact bda _ _
              clear hV
              refine (fill_any ab2 V2).mono ?_
              rintro e w10 ⟨rfl, hb⟩
              rw [LXX2.out]
              have B10 := Lib.hid (bon B9.out (bon hbV hb))
              clear hb hbV
              obtain ⟨yb, hyb⟩ : ∃ x : ByteArray, (⟨(lx b (k + 9)).toArray⟩ : ByteArray) = x := ⟨_, rfl⟩
              have HY := Lib.hid (show yb.data.toList = lx b (k + 9) by rw [← hyb])
              rw [hyb]
              clear hyb
              have rs : R.size = 64 := by
                have h1 : R.size = R.data.toList.length := by simp
                rw [h1, HRL.out]
                unfold lastB
                split
                · rw [List.length_append, List.length_take, List.length_drop, lx_len, lx_len]; have := cutQ_le cut; omega
                · split
                  · exact lx_len _ _
                  · exact lx_len _ _
              have RS := Lib.hid rs
              go_wp2_with fail
              clear rs
              obtain ⟨q, hq⟩ : ∃ q, cutQ cut = q := ⟨_, rfl⟩
              have Q64 := Lib.hid (show q ≤ 64 by rw [← hq]; exact cutQ_le cut)
              rw [hq] at HRL
              clear hq
              have sx : xb.size = 64 := by rw [show xb.size = xb.data.toList.length by simp, HX.out]; exact lx_len _ _
              have sy : yb.size = 64 := by rw [show yb.size = yb.data.toList.length by simp, HY.out]; exact lx_len _ _
              have SXY := Lib.hid (And.intro sx sy)
              clear sx sy
              go_loopw [23, 24] (fun mv iv wr => ∃ (m : Bool) (i : Nat), i ≤ 65 ∧ mv = .bool m ∧ iv = .int .i64 i ∧ Hid ((k : Int) = torn → q < i → m = true) ∧ Hid (Below w4.heap.size w4 wr)) (fun _ iv _ => 65 - (intOf iv).toNat)
              case atStart => exact ⟨false, 0, by omega, rfl, rfl, Lib.hid (fun _ h => by omega), B10⟩
              case round =>
                obtain ⟨m, i, hi, rfl, rfl, HM, HB2⟩ := hrel
                by_cases hl2 : i < 65
                · have HL2 := Lib.hid hl2
                  have i0 : (0 : Int) ≤ (i : Int) := by omega
                  have i1 : (i : Int) ≤ 64 := by omega
                  have sx := SXY.out.1
                  have sy := SXY.out.2
                  have i2 : (i : Int) ≤ (xb.size : Int) := by omega
                  have i3 : (i : Int) ≤ (yb.size : Int) := by omega
                  obtain ⟨cb, hcb⟩ : ∃ c : ByteArray, yb.extract 0 i ++ xb.extract i 64 = c := ⟨_, rfl⟩
                  obtain ⟨e, he⟩ : ∃ e : Bool, (R.data.toList == cb.data.toList) = e := ⟨_, rfl⟩
                  have HE := Lib.hid (show (k : Int) = torn → q = i → e = true from fun h1 h2 => by
                    rw [← he, beq_iff_eq, HRL.out, ← hcb]
                    unfold lastB
                    rw [if_pos h1]
                    subst h2
                    rw [ByteArray.data_append, Array.toList_append, Lib.extract_data, Lib.extract_data]
                    simp only [Array.toList_extract, HX.out, HY.out]
                    simp only [List.drop_zero, Nat.sub_zero]
                    congr 1
                    rw [List.take_of_length_le (by rw [List.length_drop, lx_len]; omega)])
                  have SLB := Lib.hid hcb
                  have SLE := Lib.hid he
                  clear hl2
                  cases m
                  · clear hcb he
                    go_upto_region 32 with (fail)
                    have hcc := SLB.out
                    have hee := SLE.out
                    have nb : ¬ 9223372036854775807 < (yb.extract 0 i).size + (xb.extract i 64).size := by rw [ByteArray.size_extract, ByteArray.size_extract]; omega
                    go_quiet (fail)
                    clear hcc hee nb
                    have e2 : (R.toList == cb.toList) = e := by rw [ByteArray.toList_eq, ByteArray.toList_eq]; exact SLE.out
                    rw [e2]
                    clear e2 sx sy i2 i3
                    go_wp2
                    go_roundw
                    case rel =>
                      refine ⟨e, i + 1, by have := HL2.out; omega, rfl, by go_num, Lib.hid ?_, Lib.hid (below_drewN HB2.out nq)⟩
                      intro h1 h2
                      by_cases h3 : q < i
                      · exact absurd (HM.out h1 h3) (by simp)
                      · exact HE.out h1 (by omega)
                    case measure => simp [intOf]; have := HL2.out; omega
                  · clear hcb he
                    go_upto_region 32 with (fail)
                    go_quiet (fail)
                    clear sx sy i2 i3
                    go_wp2
                    go_roundw
                    case rel =>
                      refine ⟨true, i + 1, by have := HL2.out; omega, rfl, by go_num, Lib.hid ?_, Lib.hid (below_drewN HB2.out nq)⟩
                      exact fun _ _ => rfl
                    case measure => simp [intOf]; have := HL2.out; omega
                · obtain rfl : i = 65 := by omega
                  have B11 := Lib.hid (bon B4.out HB2.out)
                  have HMT := Lib.hid (fun h => HM.out h (by have := Q64.out; omega))
                  clear hl2
                  by_cases ht : (k : Int) = torn
                  · obtain rfl := HMT.out ht
                    subst ht
                    go_wp2
                    go_roundw
                    case rel => exact ⟨k + 1, by have := HLT.out; omega, by go_num, HB2⟩
                    case measure => simp [intOf]; have := HLT.out; omega
                  · have t0 : ((k : Int) == torn) = false := by simpa using ht
                    have t1 : ((k : Int) != torn) = true := by simpa using ht
                    by_cases h2 : k < nk
                    · obtain ⟨x, hx⟩ : ∃ x, ks[k]? = some x := ⟨_, List.getElem?_eq_getElem (by rw [HNK.out]; exact h2)⟩
                      obtain ⟨kb, ko, hKe, hkb, hkx⟩ := (HK.out.below B11.out).cell hx
                      obtain ⟨y, hy⟩ : ∃ y, x.tmod 2 = y := ⟨_, rfl⟩
                      unfold nv at hkx
                      have k2 : (k : Int) < (nk : Int) := by omega
                      by_cases h3 : y = 0
                      · obtain rfl : R = xb := by
                          apply ByteArray.ext; apply Array.toList_inj.1
                          rw [HRL.out, HX.out]; unfold lastB
                          rw [if_neg ht, if_neg (by rintro ⟨_, h⟩; rw [hx, Option.getD_some, hy] at h; exact h h3)]
                        subst h3
                        subst hKe
                        clear hx hkb ht
                        go_wp2
                        go_roundw
                        case rel => exact ⟨k + 1, by have := HLT.out; omega, by go_num, HB2⟩
                        case measure => simp [intOf]; have := HLT.out; omega
                      · obtain rfl : R = yb := by
                          apply ByteArray.ext; apply Array.toList_inj.1
                          rw [HRL.out, HY.out]; unfold lastB
                          rw [if_neg ht, if_pos ⟨by rw [HNK.out]; exact h2, by rw [hx, Option.getD_some, hy]; exact h3⟩]
                        have y0 : (y != 0) = true := by simpa using h3
                        have y1 : (y == 0) = false := by simpa using h3
                        subst hKe
                        clear hx hkb ht
                        go_wp2
                        go_roundw
                        case rel => exact ⟨k + 1, by have := HLT.out; omega, by go_num, HB2⟩
                        case measure => simp [intOf]; have := HLT.out; omega
                    · obtain rfl : R = xb := by
                        apply ByteArray.ext; apply Array.toList_inj.1
                        rw [HRL.out, HX.out]; unfold lastB
                        rw [if_neg ht, if_neg (by rintro ⟨h, _⟩; rw [HNK.out] at h; exact h2 h)]
                      have k2 : ¬ (k : Int) < (nk : Int) := by omega
                      have k3 : (nk : Int) ≤ (k : Int) := by omega
                      clear ht
                      go_wp2
                      go_roundw
                      case rel => exact ⟨k + 1, by have := HLT.out; omega, by go_num, HB2⟩
                      case measure => simp [intOf]; have := HLT.out; omega
            · obtain rfl : k = 8 := by omega
              have B11 := Lib.hid (bon B4.out HB.out)
              have D11 := Lib.hid (D4.out.below HB.out)
              clear hlt
              go_wp2_with fail
              refine (waiting_any w7 D11.out).mono ?_
              rintro e w12 ⟨rfl, hw⟩
              subst w12
              go_wp2_with fail
              refine (down_any w7 D11.out).mono ?_
              rintro e w12 ⟨rfl, hw⟩
              subst w12
              go_wp2
              go_ret
              exact ⟨rfl, B11.out⟩
end Go.Proofs.Ytnpcobekmghnaaa
