/-
  DiskOwn.
-/
import Derived.Test.YtnpcobekmghnaaaEl
namespace Go.Proofs.Ytnpcobekmghnaaa
open Go.RowKit
set_option linter.unusedSimpArgs false
set_option linter.unusedVariables false
set_option maxHeartbeats 8000000 in
set_option maxRecDepth 100000 in
theorem diskOwn_n (A : Option Addr) (c : Nat) (ls : List (List UInt8)) (K : Option Addr) (kc : Nat) (ks : List Int) (a0 : Int) (w : World) (hl : Rl sv w A c ls) (hll : ls.length ≤ 9223372036854775807) (hk : Rl nv w K kc ks) (hkn : ks.length ≤ 9223372036854775807) (b0 : -9223372036854775808 ≤ a0) (b1 : a0 ≤ 9223372036854775807) (hc : a0 < 0) :
    Calls Try.prog 4 #[.slice A ls.length c, .int .i64 a0, .slice K ks.length kc] w fun e w' => e = .returned (.bool true) ∧ Below w.heap.size w w' := by
  have hm64 := fun w => make_bytes 64 (by omega) w
  have hc64 := fun w => conv_new 64 z64 z64_len w
  simp only [show ((64 : Nat) : Int) = 64 from rfl] at hm64
  rw [show List.replicate 64 (0 : UInt8) = z64 from rfl] at hm64
  generalize (bc z64).toArray = c64 at hm64 hc64
  obtain ⟨q64, h64⟩ : ∃ q : ByteArray, (⟨z64.toArray⟩ : ByteArray) = q := ⟨_, rfl⟩
  rw [h64] at hc64
  have H64 := Lib.hid h64
  have HM := Lib.hid (And.intro hm64 hc64)
  have HL := Lib.hid hl
  have HK := Lib.hid hk
  have HKN := Lib.hid hkn
  obtain ⟨nl, hnl⟩ : ∃ n, ls.length = n := ⟨_, rfl⟩
  obtain ⟨nk, hnk⟩ : ∃ n, ks.length = n := ⟨_, rfl⟩
  have HNL := Lib.hid hnl
  have HNK := Lib.hid hnk
  rw [hnl, hnk]
  rw [hnl] at hll
  rw [hnk] at hkn
  obtain ⟨z1, hz1⟩ : ∃ z : Int, a0 + 1 = z := ⟨_, rfl⟩
  have w1 : wrap64 (a0 + 1) = z1 := by rw [hz1]; exact IntWalk.wrap64_in _ ⟨by omega, by omega⟩
  obtain ⟨av, hav⟩ : ∃ z : Int, wrap64 (-z1) = z := ⟨_, rfl⟩
  have hav2 : av = -z1 := by rw [← hav]; exact IntWalk.wrap64_in _ ⟨by omega, by omega⟩
  have AV := Lib.hid (show 0 ≤ av ∧ av ≤ 9223372036854775807 by omega)
  have HAV := Lib.hid hav
  have d0 : decide (a0 < 0) = true := by simpa using hc
  have W1 := Lib.hid (And.intro w1 d0)
  clear hz1 hav hav2 w1 d0
  clear hm64 hc64 h64 hl hk hnl hnk hc b0 b1
  go_enter Try.func4, Try.ntmps4
  go_wp2_with fail
  refine (examples_any w).mono ?_
  rintro e w1 ⟨rfl, hb⟩
  have B1 := Lib.hid hb
  clear hb
  go_wp2_with fail
  refine (new_any 6 (by omega) (by omega) w1).mono ?_
  rintro e w2 ⟨g, gs, rfl, hd, hb, g1, g2⟩
  have D2 := Lib.hid hd
  have B2 := Lib.hid (bon B1.out hb)
  have G := Lib.hid (And.intro (Nat.le_trans B1.out.size g1) (Nat.le_trans B1.out.size g2))
  clear hd hb g1 g2
  go_wp2_with fail
  obtain ⟨V, hV⟩ : ∃ V : World, V = w2.alloc (.cells ((wz 0).map sv).toArray 38) := ⟨_, rfl⟩
  have hV2 : w2.alloc (.cells #[.string ⟨#[]⟩, .string ⟨#[]⟩, .string ⟨#[]⟩, .string ⟨#[]⟩, .string ⟨#[]⟩, .string ⟨#[]⟩] 38) = V := by rw [hV]; rfl
  rw [hV2]
  have hbV : Below w2.heap.size w2 V := by rw [hV]; exact bda _ _
  have D3 := Lib.hid (D2.out.below hbV)
  have B3 := Lib.hid (bon B2.out hbV)
  have R3 := Lib.hid (show V.heap[w2.heap.size]? = some (.cells ((wz 0).map sv).toArray 38 (0, 0)) by rw [hV]; exact heap_alloc_new _ _)
  obtain ⟨gw, hgw⟩ : ∃ gw, w2.heap.size = gw := ⟨_, rfl⟩
  rw [hgw] at R3 ⊢
  have G3 := Lib.hid (show g < gw ∧ gs < gw ∧ w.heap.size ≤ gw from ⟨by rw [← hgw]; exact heap_lt D2.out.hg, by rw [← hgw]; exact heap_lt D2.out.hs, by rw [← hgw]; exact B2.out.size⟩)
  clear hV hV2 hbV hgw
  go_loopw [11] (fun kv wr => ∃ k : Nat, k ≤ 6 ∧ kv = .int .i64 k ∧ Hid (Dk w2.heap.size wr g gs (.slice none 0 0) (List.replicate 6 z64) []) ∧ Hid (wr.heap[gw]? = some (.cells ((wz k).map sv).toArray 38 (0, 0))) ∧ Hid (Below w.heap.size w wr)) (fun kv _ => 6 - (intOf kv).toNat)
  case atStart => exact ⟨0, by omega, rfl, D3, R3, B3⟩
  case round =>
    obtain ⟨k, hk, rfl, HD, HR, HB⟩ := hrel
    by_cases hlt : k < 6
    · have hm := HM.out.1
      have hc := HM.out.2
      have k0 : (0 : Int) ≤ (k : Int) := by omega
      have k1 : (k : Int) < 6 := by omega
      have HLT := Lib.hid hlt
      obtain ⟨X, hX⟩ : ∃ X : World, X = wr.alloc (.cells c64 5) := ⟨_, rfl⟩
      have hbX : Below wr.heap.size wr X := by rw [hX]; exact bda _ _
      obtain ⟨l, hl⟩ := wz_at (k := k) hlt
      have fc : (wr.alloc (.cells c64 5)).cell? ⟨gw, k, none⟩ = some (sv l) := by
        rw [← hX]
        exact row_c (row_on HR.out hbX) (by rw [List.getElem?_toArray, List.getElem?_map, hl]; rfl)
      have fz : (wr.alloc (.cells c64 5)).frozen? ⟨gw, k, none⟩ = false := by
        rw [← hX]; exact frozen_of_row _ _ k _ _ (row_on HR.out hbX)
      have HX := Lib.hid (And.intro hX hbX)
      unfold sv at fc
      clear hX hbX hl hlt
      go_wp2
      go_roundw
      case rel =>
        refine ⟨k + 1, by have := HLT.out; omega, by go_num, ?_, ?_, ?_⟩
        · rw [← HX.out.1]
          exact Lib.hid (Dk.otherW (HD.out.below HX.out.2) (by have := G3.out; omega) (by have := G3.out; omega))
        · rw [← HX.out.1, ← H64.out]
          exact Lib.hid (by rw [← wz_set k HLT.out]; exact row_sv (row_on HR.out HX.out.2) z64)
        · rw [← HX.out.1]
          exact Lib.hid ((HB.out.trans (HX.out.2.mono HB.out.size)).setCell (p := ⟨gw, k, none⟩) G3.out.2.2 _)
      case measure => simp [intOf]; have := HLT.out; omega
    · obtain rfl : k = 6 := by omega
      clear hlt
      have w1 := W1.out.1
      have d0 := W1.out.2
      go_upto_region 14 with (fail)
      clear w1
      rw [HAV.out]
      obtain ⟨B, hB⟩ : ∃ B, wr.heap.size = B := ⟨_, rfl⟩
      have D4 := Lib.hid (show Dk B wr g gs (.slice none 0 0) (List.replicate 6 z64) [] from hB ▸ HD.out.rebase HD.out.hB (Nat.le_refl _))
      have HBB := Lib.hid (show w.heap.size ≤ B ∧ gw < B by rw [← hB]; exact ⟨HB.out.size, heap_lt HR.out⟩)
      have HR4 := Lib.hid (show wr.heap[gw]? = some (.cells ((wants (List.replicate 6 z64) []).map sv).toArray 38 (0, 0)) by rw [← wz_six]; exact HR.out)
      obtain ⟨S, hS⟩ : ∃ S, List.replicate 6 z64 = S := ⟨_, rfl⟩
      have hSl : S.length = 6 := by rw [← hS]; simp
      rw [hS] at D4 HR4
      have HSL := Lib.hid hSl
      obtain ⟨q6, hq6⟩ : ∃ q : Nat, av.tmod 6 = (q : Int) := ⟨(av % 6).toNat, by rw [Int.tmod_eq_emod_of_nonneg AV.out.1]; have := AV.out; omega⟩
      have HQ6 := Lib.hid (show q6 < 6 by have h1 := Int.tmod_lt_of_pos av (show (0 : Int) < 6 by omega); omega)
      have H6 := Lib.hid hq6
      clear hB hS hSl hq6 d0
      go_wp2_with fail
      rw [show ((6 : Nat) : Int) = 6 from rfl]
      go_loopw [12] (fun kv w4 => ∃ (k : Nat) (C : List Wt) (v : Value), k ≤ nl ∧ k ≤ 30 ∧ kv = .int .i64 k ∧ Hid (C.length = k) ∧ Hid (Dk B w4 g gs v S C) ∧ Hid (w4.heap[gw]? = some (.cells ((wants S C).map sv).toArray 38 (0, 0))) ∧ Hid (Below w.heap.size w w4)) (fun kv _ => 30 - (intOf kv).toNat)
      case atStart => exact ⟨0, [], .slice none 0 0, Nat.zero_le _, by omega, rfl, Lib.hid rfl, D4, HR4, HB⟩
      case round =>
        obtain ⟨w4, h_w4⟩ : ∃ x : World, wr = x := ⟨_, rfl⟩
        subst wr
        obtain ⟨k, C, v, hk1, hk2, rfl, HCL, HD5, HR5, HB5⟩ := hrel
        clear D4 HR4 HD HR HB
        go_upto_region 15 with (fail)
        go_cut [51] from 44 to 74 (fun b wx => b = .bool (decide (k < nl ∧ k < 30)) ∧ wx = w4)
        case first =>
          have EX : (decide (k < nl) = false ∧ decide ((k : Int) < (nl : Int)) = false ∧ decide (k < nl ∧ k < 30) = false) ∨ (decide (k < nl) = true ∧ decide ((k : Int) < (nl : Int)) = true ∧ decide ((k : Int) < 30) = false ∧ decide (k < 30) = false ∧ decide (k < nl ∧ k < 30) = false) ∨ (decide (k < nl) = true ∧ decide ((k : Int) < (nl : Int)) = true ∧ decide ((k : Int) < 30) = true ∧ decide (k < 30) = true ∧ decide (k < nl ∧ k < 30) = true) := by
            by_cases h1 : k < nl
            · by_cases h2 : k < 30
              · exact .inr (.inr ⟨decide_eq_true h1, decide_eq_true (by omega), decide_eq_true (by omega), decide_eq_true h2, decide_eq_true ⟨h1, h2⟩⟩)
              · exact .inr (.inl ⟨decide_eq_true h1, decide_eq_true (by omega), decide_eq_false (by omega), decide_eq_false h2, decide_eq_false (by omega)⟩)
            · exact .inl ⟨decide_eq_false h1, decide_eq_false (by omega), decide_eq_false (by omega)⟩
          rcases EX with ⟨x1, x2, x5⟩ | ⟨x1, x2, x3, x4, x5⟩ | ⟨x1, x2, x3, x4, x5⟩
          all_goals
            have X5 := Lib.hid x5
            clear x5
            go_wp2_with fail
            go_meet
            case rel => exact ⟨by rw [X5.out], rfl⟩
        case rest =>
          obtain ⟨rfl, hwc⟩ := hcut
          subst wc
          by_cases hin : k < nl ∧ k < 30
          · have dI : decide (k < nl ∧ k < 30) = true := decide_eq_true hin
            rw [dI]
            obtain ⟨l, hl⟩ : ∃ l, ls[k]? = some l := ⟨_, List.getElem?_eq_getElem (by rw [HNL.out]; exact hin.1)⟩
            obtain ⟨lb, lo, hA, hlb, fl⟩ := (HL.out.below HB5.out).cell hl
            subst hA
            unfold sv at fl
            have hq := congrArg (Value.int .i64) H6.out
            have hq6 := HQ6.out
            obtain ⟨m, hm⟩ : ∃ m, k * k = m := ⟨_, rfl⟩
            have hmb : m ≤ 900 := by rw [← hm]; exact Nat.mul_le_mul (show k ≤ 30 by omega) (show k ≤ 30 by omega)
            have wm : Value.int .i64 (wrap64 ((k : Int) * (k : Int))) = .int .i64 (m : Int) := by rw [← hm, Int.natCast_mul, ← Int.natCast_mul, hm, IntWalk.wrap64_in _ ⟨by omega, by omega⟩]
            obtain ⟨z, hz⟩ : ∃ z, q6 + m = z := ⟨_, rfl⟩
            obtain ⟨kk, hkk⟩ : ∃ kk, z % 6 = kk := ⟨_, rfl⟩
            have TZ := Lib.hid (show ((q6 : Int) + (m : Int)) % 6 = (kk : Int) by omega)
            have kk6 : kk < 6 := by rw [← hkk]; omega
            have i0 : (0 : Int) ≤ (kk : Int) := by omega
            have i1 : (kk : Int) < 6 := by omega
            have k0 : (0 : Int) ≤ (k : Int) := by omega
            have k1 : (k : Int) < (nl : Int) := by omega
            have HIN := Lib.hid hin
            have HKK := Lib.hid kk6
            obtain ⟨ll, hll2⟩ : ∃ x : ByteArray, (⟨l.toArray⟩ : ByteArray) = x := ⟨_, rfl⟩
            have hlist : ll.data.toList = l := by rw [← hll2]
            rw [hll2] at fl
            have HLI := Lib.hid hlist
            clear hin dI hl hlb hm hz hkk hll2 hlist
            go_wp2_with fail
            rw [TZ.out]
            clear fl wm hq
            refine (fill_any ll w4).mono ?_
            rintro e w5 ⟨rfl, hb⟩
            rw [HLI.out]
            obtain ⟨t, ht⟩ : ∃ t, fillB l = t := ⟨_, rfl⟩
            have t64 : t.length = 64 := by rw [← ht]; exact fillB_len l
            rw [ht]
            obtain ⟨tb, htb⟩ : ∃ x : ByteArray, (⟨t.toArray⟩ : ByteArray) = x := ⟨_, rfl⟩
            have htl : tb.data.toList = t := by rw [← htb]
            have D6 := Lib.hid ((HD5.out.below hb).other (i := kk) (u := .string tb) HBB.out.2 (by have := G3.out; omega) (by have := G3.out; omega))
            have R5 := row_on HR5.out hb
            have R6 := Lib.hid (show (w5.setCell ⟨gw, kk, none⟩ (.string tb)).heap[gw]? = some (.cells (((wants S C).set kk t).map sv).toArray 38 (0, 0)) by rw [← htb]; exact row_sv R5 t)
            have B6 := Lib.hid ((HB5.out.trans (hb.mono HB5.out.size)).setCell (p := ⟨gw, kk, none⟩) G3.out.2.2 (.string tb))
            have fc : w5.cell? ⟨gw, kk, none⟩ = some (sv (rd S C kk)) := row_c R5 (by rw [List.getElem?_toArray, List.getElem?_map, wants_at _ _ HKK.out]; rfl)
            have fz := frozen_of_row _ _ kk _ _ R5
            unfold sv at fc
            have fc2 : (w5.setCell ⟨gw, kk, none⟩ (.string tb)).cell? ⟨gw, kk, none⟩ = some (.string tb) := row_c R6.out (by rw [List.getElem?_toArray, List.getElem?_map, List.getElem?_set, if_pos rfl, if_pos (by rw [wants_len]; exact HKK.out)]; rw [← htb]; rfl)
            rw [htb]
            have HT := Lib.hid (And.intro htl t64)
            clear ht t64 htb htl hb R5
            go_wp2_with fail
            clear fc fz fc2
            obtain ⟨X, hX⟩ : ∃ X : World, X = w5.setCell ⟨gw, kk, none⟩ (.string tb) := ⟨_, rfl⟩
            rw [← hX] at D6 R6 B6 ⊢
            clear hX
            refine (write_any kk tb X D6.out (by rw [HSL.out]; exact HKK.out) (by rw [HT.out.1]; exact HT.out.2) (by rw [HCL.out]; omega)).mono ?_
            rintro e w6 ⟨rfl, v', hd, hc⟩
            rw [HT.out.1] at hd
            have D7 := Lib.hid hd
            have R7 := Lib.hid (hc.row HBB.out.2 (by have := G3.out; omega) (by have := G3.out; omega) R6.out)
            have B7 := Lib.hid (hc.below B6.out HBB.out.1 G.out.1 G.out.2)
            clear hd hc
            go_wp2
            go_roundw
            case rel => exact ⟨k + 1, C ++ [(kk, t)], v', by have := HIN.out; omega, by have := HIN.out; omega, by go_num, Lib.hid (by rw [List.length_append, HCL.out]; rfl), D7, Lib.hid (by rw [wants_more _ _ _ _ HKK.out]; exact R7.out), B7⟩
            case measure => simp [intOf]; have := HIN.out; omega
          · have dI : decide (k < nl ∧ k < 30) = false := decide_eq_false hin
            rw [dI]
            clear dI hin
            go_wp2_with fail
            go_loopw [14] (fun kv w6 => ∃ (t : Nat) (S1 : List (List UInt8)) (C1 : List Wt) (v1 : Value), t ≤ 3 ∧ kv = .int .i64 t ∧ Hid (C1.length ≤ 30) ∧ Hid (t ≠ 0 → C1 = []) ∧ Hid (S1.length = 6) ∧ Hid (wants S1 C1 = wants S C) ∧ Hid (Dk B w6 g gs v1 S1 C1) ∧ Hid (w6.heap[gw]? = some (.cells ((wants S C).map sv).toArray 38 (0, 0))) ∧ Hid (Below w.heap.size w w6)) (fun kv _ => 3 - (intOf kv).toNat)
            case atStart => exact ⟨0, S, C, v, by omega, rfl, Lib.hid (by rw [HCL.out]; exact hk2), Lib.hid (fun h => absurd rfl h), HSL, Lib.hid rfl, HD5, HR5, HB5⟩
            case round =>
              obtain ⟨w6, h_w6⟩ : ∃ x : World, wr = x := ⟨_, rfl⟩
              subst wr
              obtain ⟨t, S1, C1, v1, ht, rfl, HC1, HN1, HS1, HW1, HD6, HR6, HB6⟩ := hrel
              by_cases hlt : t < 3
              · have t1 : (t : Int) < 3 := by omega
                have HT3 := Lib.hid hlt
                go_wp2_with fail
                go_loopw [15] (fun jv w7 => ∃ j : Nat, j ≤ 6 ∧ jv = .int .i64 j ∧ Hid (Below w6.heap.size w6 w7)) (fun jv _ => 6 - (intOf jv).toNat)
                case atStart => exact ⟨0, by omega, rfl, Lib.hid (Below.refl _ _)⟩
                case round =>
                  obtain ⟨w7, h_w7⟩ : ∃ x : World, wr = x := ⟨_, rfl⟩
                  subst wr
                  obtain ⟨j, hj, rfl, HB7⟩ := hrel
                  by_cases hl6 : j < 6
                  · have j0 : (0 : Int) ≤ (j : Int) := by omega
                    have j1 : (j : Int) < 6 := by omega
                    have HJ := Lib.hid hl6
                    obtain ⟨R, hR⟩ : ∃ x : ByteArray, (⟨(rd S1 C1 j).toArray⟩ : ByteArray) = x := ⟨_, rfl⟩
                    have HR7 := Lib.hid (show sv (rd S C j) = .string R by
                      have h1 := wants_at S C HJ.out
                      rw [← HW1.out, wants_at S1 C1 HJ.out] at h1
                      injection h1 with h1
                      rw [← h1, ← hR]; rfl)
                    go_wp2_with fail
                    refine (read_any j w7 (HD6.out.below HB7.out) (by rw [HS1.out]; exact HJ.out) (by have := HC1.out; omega)).mono ?_
                    rintro e w8 ⟨rfl, hb⟩
                    rw [hR]
                    have B8 := Lib.hid (bon HB7.out hb)
                    have fw : w8.cell? ⟨gw, j, none⟩ = some (.string R) := row_c (row_on HR6.out B8.out) (by rw [List.getElem?_toArray, List.getElem?_map, wants_at _ _ HJ.out, Option.map_some, HR7.out])
                    clear hb hR hl6
                    go_wp2
                    go_roundw
                    case rel => exact ⟨j + 1, by have := HJ.out; omega, by go_num, B8⟩
                    case measure => simp [intOf]; have := HJ.out; omega
                  · obtain rfl : j = 6 := by omega
                    clear hl6
                    have D8 := Lib.hid (HD6.out.below HB7.out)
                    have R8 := Lib.hid (row_on HR6.out HB7.out)
                    have B8 := Lib.hid (bon HB6.out HB7.out)
                    have hcase : t = 0 ∨ t = 1 ∨ t = 2 := by omega
                    clear hlt t1
                    rcases hcase with rfl | rfl | rfl
                    · go_wp2_with fail
                      refine (barrier_any w7 D8.out (by have := HC1.out; omega)).mono ?_
                      rintro e w9 ⟨rfl, hd, hc⟩
                      have D9 := Lib.hid hd
                      have R9 := Lib.hid (hc.row HBB.out.2 (by have := G3.out; omega) (by have := G3.out; omega) R8.out)
                      have B9 := Lib.hid (hc.below B8.out HBB.out.1 G.out.1 G.out.2)
                      clear hd hc
                      go_wp2
                      go_roundw
                      case rel => exact ⟨1, flush S1 C1, [], .slice none 0 0, by omega, rfl, Lib.hid (by simp), Lib.hid (fun _ => rfl), Lib.hid (by rw [flush_len]; exact HS1.out), Lib.hid (by rw [wants_flush D8.out]; exact HW1.out), D9, R9, B9⟩
                      case measure => simp [intOf]
                    · obtain rfl : C1 = [] := HN1.out (by omega)
                      go_wp2_with fail
                      have CRA : Calls Try.prog 11 #[.pointer (some ⟨g, 0, none⟩), .slice K nk kc, .int .i64 0, .int .i64 av] w7 fun e w' => e = .returned (.tuple #[]) ∧ Dk B w' g gs (.slice none 0 0) (crash ks 0 (cutQ av) S1 []) [] ∧ Ch B g gs w7 w' := by
                        rw [← HNK.out]
                        exact crash_any K kc ks 0 av w7 D8.out (by simp) (HK.out.below B8.out) HKN.out (fun h b o e => by
                        obtain ⟨b2, o2, e2, hlt2, _⟩ := HK.out.2 h
                        rw [e] at e2
                        injection e2 with e2
                        injection e2 with e2 _
                        have := G.out.2
                        omega) (by have := AV.out; omega) (by have := AV.out; omega)
                      refine CRA.mono ?_
                      rintro e w9 ⟨rfl, hd, hc⟩
                      rw [crash_nil] at hd
                      have D9 := Lib.hid hd
                      have R9 := Lib.hid (hc.row HBB.out.2 (by have := G3.out; omega) (by have := G3.out; omega) R8.out)
                      have B9 := Lib.hid (hc.below B8.out HBB.out.1 G.out.1 G.out.2)
                      clear hd hc CRA
                      go_wp2
                      go_roundw
                      case rel => exact ⟨2, S1, [], .slice none 0 0, by omega, rfl, Lib.hid (by simp), Lib.hid (fun _ => rfl), HS1, HW1, D9, R9, B9⟩
                      case measure => simp [intOf]
                    · go_wp2
                      go_roundw
                      case rel => exact ⟨3, S1, C1, v1, by omega, rfl, HC1, Lib.hid (fun _ => HN1.out (by omega)), HS1, HW1, D8, R8, B8⟩
                      case measure => simp [intOf]
              · obtain rfl : t = 3 := by omega
                obtain rfl : C1 = [] := HN1.out (by omega)
                clear hlt
                go_wp2_with fail
                refine (waiting_any w6 HD6.out).mono ?_
                rintro e w9 ⟨rfl, hw⟩
                subst w9
                simp only [List.length_nil]
                go_wp2
                go_ret
                exact ⟨rfl, HB6.out⟩
      

set_option maxHeartbeats 8000000 in
set_option maxRecDepth 100000 in
theorem diskOwn_p (A : Option Addr) (c : Nat) (ls : List (List UInt8)) (K : Option Addr) (kc : Nat) (ks : List Int) (a0 : Int) (w : World) (hl : Rl sv w A c ls) (hll : ls.length ≤ 9223372036854775807) (hk : Rl nv w K kc ks) (hkn : ks.length ≤ 9223372036854775807) (b0 : -9223372036854775808 ≤ a0) (b1 : a0 ≤ 9223372036854775807) (hc : ¬ a0 < 0) :
    Calls Try.prog 4 #[.slice A ls.length c, .int .i64 a0, .slice K ks.length kc] w fun e w' => e = .returned (.bool true) ∧ Below w.heap.size w w' := by
  have hm64 := fun w => make_bytes 64 (by omega) w
  have hc64 := fun w => conv_new 64 z64 z64_len w
  simp only [show ((64 : Nat) : Int) = 64 from rfl] at hm64
  rw [show List.replicate 64 (0 : UInt8) = z64 from rfl] at hm64
  generalize (bc z64).toArray = c64 at hm64 hc64
  obtain ⟨q64, h64⟩ : ∃ q : ByteArray, (⟨z64.toArray⟩ : ByteArray) = q := ⟨_, rfl⟩
  rw [h64] at hc64
  have H64 := Lib.hid h64
  have HM := Lib.hid (And.intro hm64 hc64)
  have HL := Lib.hid hl
  have HK := Lib.hid hk
  have HKN := Lib.hid hkn
  obtain ⟨nl, hnl⟩ : ∃ n, ls.length = n := ⟨_, rfl⟩
  obtain ⟨nk, hnk⟩ : ∃ n, ks.length = n := ⟨_, rfl⟩
  have HNL := Lib.hid hnl
  have HNK := Lib.hid hnk
  rw [hnl, hnk]
  rw [hnl] at hll
  rw [hnk] at hkn
  have AV := Lib.hid (show 0 ≤ a0 ∧ a0 ≤ 9223372036854775807 by omega)
  have d0 : decide (a0 < 0) = false := by simpa using hc
  have W1 := Lib.hid d0
  clear d0
  clear hm64 hc64 h64 hl hk hnl hnk hc b0 b1
  go_enter Try.func4, Try.ntmps4
  go_wp2_with fail
  refine (examples_any w).mono ?_
  rintro e w1 ⟨rfl, hb⟩
  have B1 := Lib.hid hb
  clear hb
  go_wp2_with fail
  refine (new_any 6 (by omega) (by omega) w1).mono ?_
  rintro e w2 ⟨g, gs, rfl, hd, hb, g1, g2⟩
  have D2 := Lib.hid hd
  have B2 := Lib.hid (bon B1.out hb)
  have G := Lib.hid (And.intro (Nat.le_trans B1.out.size g1) (Nat.le_trans B1.out.size g2))
  clear hd hb g1 g2
  go_wp2_with fail
  obtain ⟨V, hV⟩ : ∃ V : World, V = w2.alloc (.cells ((wz 0).map sv).toArray 38) := ⟨_, rfl⟩
  have hV2 : w2.alloc (.cells #[.string ⟨#[]⟩, .string ⟨#[]⟩, .string ⟨#[]⟩, .string ⟨#[]⟩, .string ⟨#[]⟩, .string ⟨#[]⟩] 38) = V := by rw [hV]; rfl
  rw [hV2]
  have hbV : Below w2.heap.size w2 V := by rw [hV]; exact bda _ _
  have D3 := Lib.hid (D2.out.below hbV)
  have B3 := Lib.hid (bon B2.out hbV)
  have R3 := Lib.hid (show V.heap[w2.heap.size]? = some (.cells ((wz 0).map sv).toArray 38 (0, 0)) by rw [hV]; exact heap_alloc_new _ _)
  obtain ⟨gw, hgw⟩ : ∃ gw, w2.heap.size = gw := ⟨_, rfl⟩
  rw [hgw] at R3 ⊢
  have G3 := Lib.hid (show g < gw ∧ gs < gw ∧ w.heap.size ≤ gw from ⟨by rw [← hgw]; exact heap_lt D2.out.hg, by rw [← hgw]; exact heap_lt D2.out.hs, by rw [← hgw]; exact B2.out.size⟩)
  clear hV hV2 hbV hgw
  go_loopw [11] (fun kv wr => ∃ k : Nat, k ≤ 6 ∧ kv = .int .i64 k ∧ Hid (Dk w2.heap.size wr g gs (.slice none 0 0) (List.replicate 6 z64) []) ∧ Hid (wr.heap[gw]? = some (.cells ((wz k).map sv).toArray 38 (0, 0))) ∧ Hid (Below w.heap.size w wr)) (fun kv _ => 6 - (intOf kv).toNat)
  case atStart => exact ⟨0, by omega, rfl, D3, R3, B3⟩
  case round =>
    obtain ⟨k, hk, rfl, HD, HR, HB⟩ := hrel
    by_cases hlt : k < 6
    · have hm := HM.out.1
      have hc := HM.out.2
      have k0 : (0 : Int) ≤ (k : Int) := by omega
      have k1 : (k : Int) < 6 := by omega
      have HLT := Lib.hid hlt
      obtain ⟨X, hX⟩ : ∃ X : World, X = wr.alloc (.cells c64 5) := ⟨_, rfl⟩
      have hbX : Below wr.heap.size wr X := by rw [hX]; exact bda _ _
      obtain ⟨l, hl⟩ := wz_at (k := k) hlt
      have fc : (wr.alloc (.cells c64 5)).cell? ⟨gw, k, none⟩ = some (sv l) := by
        rw [← hX]
        exact row_c (row_on HR.out hbX) (by rw [List.getElem?_toArray, List.getElem?_map, hl]; rfl)
      have fz : (wr.alloc (.cells c64 5)).frozen? ⟨gw, k, none⟩ = false := by
        rw [← hX]; exact frozen_of_row _ _ k _ _ (row_on HR.out hbX)
      have HX := Lib.hid (And.intro hX hbX)
      unfold sv at fc
      clear hX hbX hl hlt
      go_wp2
      go_roundw
      case rel =>
        refine ⟨k + 1, by have := HLT.out; omega, by go_num, ?_, ?_, ?_⟩
        · rw [← HX.out.1]
          exact Lib.hid (Dk.otherW (HD.out.below HX.out.2) (by have := G3.out; omega) (by have := G3.out; omega))
        · rw [← HX.out.1, ← H64.out]
          exact Lib.hid (by rw [← wz_set k HLT.out]; exact row_sv (row_on HR.out HX.out.2) z64)
        · rw [← HX.out.1]
          exact Lib.hid ((HB.out.trans (HX.out.2.mono HB.out.size)).setCell (p := ⟨gw, k, none⟩) G3.out.2.2 _)
      case measure => simp [intOf]; have := HLT.out; omega
    · obtain rfl : k = 6 := by omega
      clear hlt
      have d0 := W1.out
      go_upto_region 14 with (fail)
      obtain ⟨B, hB⟩ : ∃ B, wr.heap.size = B := ⟨_, rfl⟩
      have D4 := Lib.hid (show Dk B wr g gs (.slice none 0 0) (List.replicate 6 z64) [] from hB ▸ HD.out.rebase HD.out.hB (Nat.le_refl _))
      have HBB := Lib.hid (show w.heap.size ≤ B ∧ gw < B by rw [← hB]; exact ⟨HB.out.size, heap_lt HR.out⟩)
      have HR4 := Lib.hid (show wr.heap[gw]? = some (.cells ((wants (List.replicate 6 z64) []).map sv).toArray 38 (0, 0)) by rw [← wz_six]; exact HR.out)
      obtain ⟨S, hS⟩ : ∃ S, List.replicate 6 z64 = S := ⟨_, rfl⟩
      have hSl : S.length = 6 := by rw [← hS]; simp
      rw [hS] at D4 HR4
      have HSL := Lib.hid hSl
      obtain ⟨q6, hq6⟩ : ∃ q : Nat, a0.tmod 6 = (q : Int) := ⟨(a0 % 6).toNat, by rw [Int.tmod_eq_emod_of_nonneg AV.out.1]; have := AV.out; omega⟩
      have HQ6 := Lib.hid (show q6 < 6 by have h1 := Int.tmod_lt_of_pos a0 (show (0 : Int) < 6 by omega); omega)
      have H6 := Lib.hid hq6
      clear hB hS hSl hq6 d0
      go_wp2_with fail
      rw [show ((6 : Nat) : Int) = 6 from rfl]
      go_loopw [12] (fun kv w4 => ∃ (k : Nat) (C : List Wt) (v : Value), k ≤ nl ∧ k ≤ 30 ∧ kv = .int .i64 k ∧ Hid (C.length = k) ∧ Hid (Dk B w4 g gs v S C) ∧ Hid (w4.heap[gw]? = some (.cells ((wants S C).map sv).toArray 38 (0, 0))) ∧ Hid (Below w.heap.size w w4)) (fun kv _ => 30 - (intOf kv).toNat)
      case atStart => exact ⟨0, [], .slice none 0 0, Nat.zero_le _, by omega, rfl, Lib.hid rfl, D4, HR4, HB⟩
      case round =>
        obtain ⟨w4, h_w4⟩ : ∃ x : World, wr = x := ⟨_, rfl⟩
        subst wr
        obtain ⟨k, C, v, hk1, hk2, rfl, HCL, HD5, HR5, HB5⟩ := hrel
        clear D4 HR4 HD HR HB
        go_upto_region 15 with (fail)
        go_cut [51] from 44 to 74 (fun b wx => b = .bool (decide (k < nl ∧ k < 30)) ∧ wx = w4)
        case first =>
          have EX : (decide (k < nl) = false ∧ decide ((k : Int) < (nl : Int)) = false ∧ decide (k < nl ∧ k < 30) = false) ∨ (decide (k < nl) = true ∧ decide ((k : Int) < (nl : Int)) = true ∧ decide ((k : Int) < 30) = false ∧ decide (k < 30) = false ∧ decide (k < nl ∧ k < 30) = false) ∨ (decide (k < nl) = true ∧ decide ((k : Int) < (nl : Int)) = true ∧ decide ((k : Int) < 30) = true ∧ decide (k < 30) = true ∧ decide (k < nl ∧ k < 30) = true) := by
            by_cases h1 : k < nl
            · by_cases h2 : k < 30
              · exact .inr (.inr ⟨decide_eq_true h1, decide_eq_true (by omega), decide_eq_true (by omega), decide_eq_true h2, decide_eq_true ⟨h1, h2⟩⟩)
              · exact .inr (.inl ⟨decide_eq_true h1, decide_eq_true (by omega), decide_eq_false (by omega), decide_eq_false h2, decide_eq_false (by omega)⟩)
            · exact .inl ⟨decide_eq_false h1, decide_eq_false (by omega), decide_eq_false (by omega)⟩
          rcases EX with ⟨x1, x2, x5⟩ | ⟨x1, x2, x3, x4, x5⟩ | ⟨x1, x2, x3, x4, x5⟩
          all_goals
            have X5 := Lib.hid x5
            clear x5
            go_wp2_with fail
            go_meet
            case rel => exact ⟨by rw [X5.out], rfl⟩
        case rest =>
          obtain ⟨rfl, hwc⟩ := hcut
          subst wc
          by_cases hin : k < nl ∧ k < 30
          · have dI : decide (k < nl ∧ k < 30) = true := decide_eq_true hin
            rw [dI]
            obtain ⟨l, hl⟩ : ∃ l, ls[k]? = some l := ⟨_, List.getElem?_eq_getElem (by rw [HNL.out]; exact hin.1)⟩
            obtain ⟨lb, lo, hA, hlb, fl⟩ := (HL.out.below HB5.out).cell hl
            subst hA
            unfold sv at fl
            have hq := congrArg (Value.int .i64) H6.out
            have hq6 := HQ6.out
            obtain ⟨m, hm⟩ : ∃ m, k * k = m := ⟨_, rfl⟩
            have hmb : m ≤ 900 := by rw [← hm]; exact Nat.mul_le_mul (show k ≤ 30 by omega) (show k ≤ 30 by omega)
            have wm : Value.int .i64 (wrap64 ((k : Int) * (k : Int))) = .int .i64 (m : Int) := by rw [← hm, Int.natCast_mul, ← Int.natCast_mul, hm, IntWalk.wrap64_in _ ⟨by omega, by omega⟩]
            obtain ⟨z, hz⟩ : ∃ z, q6 + m = z := ⟨_, rfl⟩
            obtain ⟨kk, hkk⟩ : ∃ kk, z % 6 = kk := ⟨_, rfl⟩
            have TZ := Lib.hid (show ((q6 : Int) + (m : Int)) % 6 = (kk : Int) by omega)
            have kk6 : kk < 6 := by rw [← hkk]; omega
            have i0 : (0 : Int) ≤ (kk : Int) := by omega
            have i1 : (kk : Int) < 6 := by omega
            have k0 : (0 : Int) ≤ (k : Int) := by omega
            have k1 : (k : Int) < (nl : Int) := by omega
            have HIN := Lib.hid hin
            have HKK := Lib.hid kk6
            obtain ⟨ll, hll2⟩ : ∃ x : ByteArray, (⟨l.toArray⟩ : ByteArray) = x := ⟨_, rfl⟩
            have hlist : ll.data.toList = l := by rw [← hll2]
            rw [hll2] at fl
            have HLI := Lib.hid hlist
            clear hin dI hl hlb hm hz hkk hll2 hlist
            go_wp2_with fail
            rw [TZ.out]
            clear fl wm hq
            refine (fill_any ll w4).mono ?_
            rintro e w5 ⟨rfl, hb⟩
            rw [HLI.out]
            obtain ⟨t, ht⟩ : ∃ t, fillB l = t := ⟨_, rfl⟩
            have t64 : t.length = 64 := by rw [← ht]; exact fillB_len l
            rw [ht]
            obtain ⟨tb, htb⟩ : ∃ x : ByteArray, (⟨t.toArray⟩ : ByteArray) = x := ⟨_, rfl⟩
            have htl : tb.data.toList = t := by rw [← htb]
            have D6 := Lib.hid ((HD5.out.below hb).other (i := kk) (u := .string tb) HBB.out.2 (by have := G3.out; omega) (by have := G3.out; omega))
            have R5 := row_on HR5.out hb
            have R6 := Lib.hid (show (w5.setCell ⟨gw, kk, none⟩ (.string tb)).heap[gw]? = some (.cells (((wants S C).set kk t).map sv).toArray 38 (0, 0)) by rw [← htb]; exact row_sv R5 t)
            have B6 := Lib.hid ((HB5.out.trans (hb.mono HB5.out.size)).setCell (p := ⟨gw, kk, none⟩) G3.out.2.2 (.string tb))
            have fc : w5.cell? ⟨gw, kk, none⟩ = some (sv (rd S C kk)) := row_c R5 (by rw [List.getElem?_toArray, List.getElem?_map, wants_at _ _ HKK.out]; rfl)
            have fz := frozen_of_row _ _ kk _ _ R5
            unfold sv at fc
            have fc2 : (w5.setCell ⟨gw, kk, none⟩ (.string tb)).cell? ⟨gw, kk, none⟩ = some (.string tb) := row_c R6.out (by rw [List.getElem?_toArray, List.getElem?_map, List.getElem?_set, if_pos rfl, if_pos (by rw [wants_len]; exact HKK.out)]; rw [← htb]; rfl)
            rw [htb]
            have HT := Lib.hid (And.intro htl t64)
            clear ht t64 htb htl hb R5
            go_wp2_with fail
            clear fc fz fc2
            obtain ⟨X, hX⟩ : ∃ X : World, X = w5.setCell ⟨gw, kk, none⟩ (.string tb) := ⟨_, rfl⟩
            rw [← hX] at D6 R6 B6 ⊢
            clear hX
            refine (write_any kk tb X D6.out (by rw [HSL.out]; exact HKK.out) (by rw [HT.out.1]; exact HT.out.2) (by rw [HCL.out]; omega)).mono ?_
            rintro e w6 ⟨rfl, v', hd, hc⟩
            rw [HT.out.1] at hd
            have D7 := Lib.hid hd
            have R7 := Lib.hid (hc.row HBB.out.2 (by have := G3.out; omega) (by have := G3.out; omega) R6.out)
            have B7 := Lib.hid (hc.below B6.out HBB.out.1 G.out.1 G.out.2)
            clear hd hc
            go_wp2
            go_roundw
            case rel => exact ⟨k + 1, C ++ [(kk, t)], v', by have := HIN.out; omega, by have := HIN.out; omega, by go_num, Lib.hid (by rw [List.length_append, HCL.out]; rfl), D7, Lib.hid (by rw [wants_more _ _ _ _ HKK.out]; exact R7.out), B7⟩
            case measure => simp [intOf]; have := HIN.out; omega
          · have dI : decide (k < nl ∧ k < 30) = false := decide_eq_false hin
            rw [dI]
            clear dI hin
            go_wp2_with fail
            go_loopw [14] (fun kv w6 => ∃ (t : Nat) (S1 : List (List UInt8)) (C1 : List Wt) (v1 : Value), t ≤ 3 ∧ kv = .int .i64 t ∧ Hid (C1.length ≤ 30) ∧ Hid (t ≠ 0 → C1 = []) ∧ Hid (S1.length = 6) ∧ Hid (wants S1 C1 = wants S C) ∧ Hid (Dk B w6 g gs v1 S1 C1) ∧ Hid (w6.heap[gw]? = some (.cells ((wants S C).map sv).toArray 38 (0, 0))) ∧ Hid (Below w.heap.size w w6)) (fun kv _ => 3 - (intOf kv).toNat)
            case atStart => exact ⟨0, S, C, v, by omega, rfl, Lib.hid (by rw [HCL.out]; exact hk2), Lib.hid (fun h => absurd rfl h), HSL, Lib.hid rfl, HD5, HR5, HB5⟩
            case round =>
              obtain ⟨w6, h_w6⟩ : ∃ x : World, wr = x := ⟨_, rfl⟩
              subst wr
              obtain ⟨t, S1, C1, v1, ht, rfl, HC1, HN1, HS1, HW1, HD6, HR6, HB6⟩ := hrel
              by_cases hlt : t < 3
              · have t1 : (t : Int) < 3 := by omega
                have HT3 := Lib.hid hlt
                go_wp2_with fail
                go_loopw [15] (fun jv w7 => ∃ j : Nat, j ≤ 6 ∧ jv = .int .i64 j ∧ Hid (Below w6.heap.size w6 w7)) (fun jv _ => 6 - (intOf jv).toNat)
                case atStart => exact ⟨0, by omega, rfl, Lib.hid (Below.refl _ _)⟩
                case round =>
                  obtain ⟨w7, h_w7⟩ : ∃ x : World, wr = x := ⟨_, rfl⟩
                  subst wr
                  obtain ⟨j, hj, rfl, HB7⟩ := hrel
                  by_cases hl6 : j < 6
                  · have j0 : (0 : Int) ≤ (j : Int) := by omega
                    have j1 : (j : Int) < 6 := by omega
                    have HJ := Lib.hid hl6
                    obtain ⟨R, hR⟩ : ∃ x : ByteArray, (⟨(rd S1 C1 j).toArray⟩ : ByteArray) = x := ⟨_, rfl⟩
                    have HR7 := Lib.hid (show sv (rd S C j) = .string R by
                      have h1 := wants_at S C HJ.out
                      rw [← HW1.out, wants_at S1 C1 HJ.out] at h1
                      injection h1 with h1
                      rw [← h1, ← hR]; rfl)
                    go_wp2_with fail
                    refine (read_any j w7 (HD6.out.below HB7.out) (by rw [HS1.out]; exact HJ.out) (by have := HC1.out; omega)).mono ?_
                    rintro e w8 ⟨rfl, hb⟩
                    rw [hR]
                    have B8 := Lib.hid (bon HB7.out hb)
                    have fw : w8.cell? ⟨gw, j, none⟩ = some (.string R) := row_c (row_on HR6.out B8.out) (by rw [List.getElem?_toArray, List.getElem?_map, wants_at _ _ HJ.out, Option.map_some, HR7.out])
                    clear hb hR hl6
                    go_wp2
                    go_roundw
                    case rel => exact ⟨j + 1, by have := HJ.out; omega, by go_num, B8⟩
                    case measure => simp [intOf]; have := HJ.out; omega
                  · obtain rfl : j = 6 := by omega
                    clear hl6
                    have D8 := Lib.hid (HD6.out.below HB7.out)
                    have R8 := Lib.hid (row_on HR6.out HB7.out)
                    have B8 := Lib.hid (bon HB6.out HB7.out)
                    have hcase : t = 0 ∨ t = 1 ∨ t = 2 := by omega
                    clear hlt t1
                    rcases hcase with rfl | rfl | rfl
                    · go_wp2_with fail
                      refine (barrier_any w7 D8.out (by have := HC1.out; omega)).mono ?_
                      rintro e w9 ⟨rfl, hd, hc⟩
                      have D9 := Lib.hid hd
                      have R9 := Lib.hid (hc.row HBB.out.2 (by have := G3.out; omega) (by have := G3.out; omega) R8.out)
                      have B9 := Lib.hid (hc.below B8.out HBB.out.1 G.out.1 G.out.2)
                      clear hd hc
                      go_wp2
                      go_roundw
                      case rel => exact ⟨1, flush S1 C1, [], .slice none 0 0, by omega, rfl, Lib.hid (by simp), Lib.hid (fun _ => rfl), Lib.hid (by rw [flush_len]; exact HS1.out), Lib.hid (by rw [wants_flush D8.out]; exact HW1.out), D9, R9, B9⟩
                      case measure => simp [intOf]
                    · obtain rfl : C1 = [] := HN1.out (by omega)
                      go_wp2_with fail
                      have CRA : Calls Try.prog 11 #[.pointer (some ⟨g, 0, none⟩), .slice K nk kc, .int .i64 0, .int .i64 a0] w7 fun e w' => e = .returned (.tuple #[]) ∧ Dk B w' g gs (.slice none 0 0) (crash ks 0 (cutQ a0) S1 []) [] ∧ Ch B g gs w7 w' := by
                        rw [← HNK.out]
                        exact crash_any K kc ks 0 a0 w7 D8.out (by simp) (HK.out.below B8.out) HKN.out (fun h b o e => by
                        obtain ⟨b2, o2, e2, hlt2, _⟩ := HK.out.2 h
                        rw [e] at e2
                        injection e2 with e2
                        injection e2 with e2 _
                        have := G.out.2
                        omega) (by have := AV.out; omega) (by have := AV.out; omega)
                      refine CRA.mono ?_
                      rintro e w9 ⟨rfl, hd, hc⟩
                      rw [crash_nil] at hd
                      have D9 := Lib.hid hd
                      have R9 := Lib.hid (hc.row HBB.out.2 (by have := G3.out; omega) (by have := G3.out; omega) R8.out)
                      have B9 := Lib.hid (hc.below B8.out HBB.out.1 G.out.1 G.out.2)
                      clear hd hc CRA
                      go_wp2
                      go_roundw
                      case rel => exact ⟨2, S1, [], .slice none 0 0, by omega, rfl, Lib.hid (by simp), Lib.hid (fun _ => rfl), HS1, HW1, D9, R9, B9⟩
                      case measure => simp [intOf]
                    · go_wp2
                      go_roundw
                      case rel => exact ⟨3, S1, C1, v1, by omega, rfl, HC1, Lib.hid (fun _ => HN1.out (by omega)), HS1, HW1, D8, R8, B8⟩
                      case measure => simp [intOf]
              · obtain rfl : t = 3 := by omega
                obtain rfl : C1 = [] := HN1.out (by omega)
                clear hlt
                go_wp2_with fail
                refine (waiting_any w6 HD6.out).mono ?_
                rintro e w9 ⟨rfl, hw⟩
                subst w9
                simp only [List.length_nil]
                go_wp2
                go_ret
                exact ⟨rfl, HB6.out⟩
      

theorem diskOwn_any (A : Option Addr) (c : Nat) (ls : List (List UInt8)) (K : Option Addr) (kc : Nat) (ks : List Int) (a0 : Int) (w : World) (hl : Rl sv w A c ls) (hll : ls.length ≤ 9223372036854775807) (hk : Rl nv w K kc ks) (hkn : ks.length ≤ 9223372036854775807) (b0 : -9223372036854775808 ≤ a0) (b1 : a0 ≤ 9223372036854775807) :
    Calls Try.prog 4 #[.slice A ls.length c, .int .i64 a0, .slice K ks.length kc] w fun e w' => e = .returned (.bool true) ∧ Below w.heap.size w w' := by
  by_cases hc : a0 < 0
  · exact diskOwn_n A c ls K kc ks a0 w hl hll hk hkn b0 b1 hc
  · exact diskOwn_p A c ls K kc ks a0 w hl hll hk hkn b0 b1 hc
end Go.Proofs.Ytnpcobekmghnaaa
