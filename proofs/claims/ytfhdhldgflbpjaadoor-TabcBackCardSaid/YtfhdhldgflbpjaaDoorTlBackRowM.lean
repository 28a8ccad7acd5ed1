import Derived.Test.YtfhdhldgflbpjaaDoorMB7
import Derived.Test.YtfhdhldgflbpjaaDoorMB4
import Derived.Test.YtfhdhldgflbpjaaDoorTie
import Derived.Test.YtfhdhldgflbpjaaDoorCards
import Derived.SevenTiedAt
import Derived.OpenShut
import Derived.ChangeMaps5
import Derived.SizedLaws
section
/-
  The law TabcBack, walked.
-/
namespace Go.Proofs.YtfhdhldgflbpjaaDoor
open Go.RowKit
set_option linter.unusedSimpArgs false
set_option linter.unusedVariables false
set_option maxHeartbeats 8000000 in
set_option maxRecDepth 100000 in
theorem back_law (A P : Option Addr) (c k : Nat) (F O W Q D : Int) (a : Nm) (ps : List Pd) (b more : ByteArray) (cutAt : Int) (w : World) (h : Dg w A c a.2.1) (hps : PsL w P ps) (hk : ps.length ≤ k) (hk2 : ps.length ≤ 9223372036854775807) (hk3 : a.2.1.length ≤ 9223372036854775807) (hT : T32 w) (hb : b.size ≤ 140737488355328) (hm : more.size ≤ 140737488355328) (hc0 : -9223372036854775808 ≤ cutAt) (hc1 : cutAt ≤ 9223372036854775807) :
    Calls Tryd.prog 3 #[.agg #[.int .i64 F, .int .i64 O, .bool a.1, .slice A a.2.1.length c, .int .i64 a.2.2, .int .i64 W, .int .i64 Q, .int .i64 D, .slice P ps.length k], .string b, .int .i64 cutAt, .string more] w fun e w' => e = .returned (.bool true) ∧ Below w.heap.size w w' := by
  have HT := Lib.hid hT
  have HD := Lib.hid h
  have HPS := Lib.hid hps
  have HK := Lib.hid (And.intro hk (And.intro hk2 hk3))
  obtain ⟨a2, ha2⟩ : ∃ z, cutN a = z := ⟨_, rfl⟩
  obtain ⟨ps2, hp2⟩ : ∃ z, (ps.take 40).map cutP = z := ⟨_, rfl⟩
  have HA2 := Lib.hid ha2
  have HP2 := Lib.hid hp2
  have SM := Lib.hid (cut_sm (a := a) (ps := ps))
  rw [ha2, hp2] at SM
  have D2 := Lib.hid (show Dg w A c a2.2.1 by rw [← ha2]; exact h.take 8)
  obtain ⟨E, hE⟩ : ∃ z, outE (encO F O a2 W Q D ps2) = z := ⟨_, rfl⟩
  obtain ⟨L, hL⟩ : ∃ z, outB (encO F O a2 W Q D ps2) = z := ⟨_, rfl⟩
  obtain ⟨st, hst⟩ : ∃ z : ByteArray, (⟨L.toArray⟩ : ByteArray) = z := ⟨_, rfl⟩
  have HST := Lib.hid (show st.data.toList = L by rw [← hst])
  have HE := Lib.hid hE
  have HL := Lib.hid hL
  have HBB := Lib.hid (And.intro hb hm)
  have HCC := Lib.hid (And.intro hc0 hc1)
  clear h hps hk hk2 hk3 hT ha2 hp2 hE hL hst hb hm hc0 hc1
  go_enter Tryd.func3, Tryd.ntmps3
  go_wp2_with fail
  obtain ⟨v1, hW⟩ : ∃ V : World, w.alloc (.cells #[.int .i64 F, .int .i64 O, .bool a.1, .slice A a.2.1.length c, .int .i64 a.2.2, .int .i64 W, .int .i64 Q, .int .i64 D, .slice P ps.length k] 29) = V := ⟨_, rfl⟩
  rw [hW]
  have B1 := Lib.hid (show Below w.heap.size w v1 by rw [← hW]; exact below1 _ _)
  have R1 := Lib.hid (show v1.heap[w.heap.size]? = some (.cells #[.int .i64 F, .int .i64 O, .bool a.1, .slice A a.2.1.length c, .int .i64 a.2.2, .int .i64 W, .int .i64 Q, .int .i64 D, .slice P ps.length k] 29 (0, 0)) by rw [← hW]; exact heap_alloc_new _ _)
  clear hW
  refine (examples_any v1 (t32_below HT.out B1.out)).mono ?_
  rintro e v2 ⟨rfl, hb⟩
  have B2 := Lib.hid (B1.out.trans (hb.mono B1.out.size))
  have R2 := co R1 hb
  clear hb
  go_wp2_with (refine wpList_load_box rfl 29 _ rfl w.heap.size rfl #[.int .i64 F, .int .i64 O, .bool a.1, .slice A a.2.1.length c, .int .i64 a.2.2, .int .i64 W, .int .i64 Q, .int .i64 D, .slice P ps.length k] _ R2.out _ Tryd.underlying29 rfl tab_size ?_)
  refine (trims_v (HD.out.below B2.out) (HPS.out.below B2.out) HK.out.1 HK.out.2.1 HK.out.2.2 HA2.out HP2.out).mono ?_
  rintro e v3 ⟨P2, k2, rfl, hp, hb⟩
  have B3 := Lib.hid (B2.out.trans (hb.mono B2.out.size))
  have R3 := co R2 hb
  have P3 := Lib.hid hp
  clear hb hp
  go_wp2_with (refine wpList_store_box rfl 29 _ _ rfl w.heap.size rfl #[.int .i64 F, .int .i64 O, .bool a2.1, .slice A a2.2.1.length c, .int .i64 a2.2.2, .int .i64 W, .int .i64 Q, .int .i64 D, .slice P2 ps2.length k2] rfl #[.int .i64 F, .int .i64 O, .bool a.1, .slice A a.2.1.length c, .int .i64 a.2.2, .int .i64 W, .int .i64 Q, .int .i64 D, .slice P ps.length k] 29 R3.out tab_size rfl tab_one ?_)
  intro v4 hO hr4
  have R4 := Lib.hid hr4
  clear hr4
  have B4 := Lib.hid (hO.below B3.out (Nat.le_refl _))
  have OK := Lib.hid (psl_ok (D2.out.below B3.out) P3.out.ps)
  have P4 := Lib.hid (P3.out.only hO R3.out (noint_of (by simp)) (by decide) (by decide))
  have D4 := Lib.hid (show Dg v4 A c a2.2.1 from (D2.out.below B3.out).kept (hO.kept R3.out (noint_of (by simp))))
  clear hO
  go_wp2_with (refine wpList_load_box rfl 29 _ rfl w.heap.size rfl #[.int .i64 F, .int .i64 O, .bool a2.1, .slice A a2.2.1.length c, .int .i64 a2.2.2, .int .i64 W, .int .i64 Q, .int .i64 D, .slice P2 ps2.length k2] _ R4.out _ Tryd.underlying29 rfl tab_size ?_)
  refine (enc_tab (F := F) (O := O) (W := W) (Q := Q) (D := D) (k := k2) D4.out (Nat.le_trans SM.out.1 (by decide)) (t32_below HT.out B4.out) P4.out.ps SM.out.2 HE.out (HST.out.trans HL.out.symm)).mono ?_
  rintro e v5 ⟨rfl, hb⟩
  have B5 := Lib.hid (B4.out.trans (hb.mono B4.out.size))
  have R5 := co R4 hb
  have P5 := Lib.hid (P4.out.ps.below hb)
  have D5 := Lib.hid (D4.out.below hb)
  clear hb P3 P4 D4 R3 R4
  go_upto_if 34 with fail
  go_cut [2, 12, 13, 14, 15, 16, 17, 18] from 23 to 84 (fun _ _ _ _ _ _ _ _ wx => Hid (Below w.heap.size w wx))
  case first =>
    by_cases hz : E = 0
    · subst hz
      obtain ⟨q, zs, L', hq, hzs, hLL, h7, hdec, hmore, hcut2, hright, _, hlen⟩ := enc_canon HE.out OK.out
      obtain rfl : L = L' := HL.out.symm.trans hLL
      subst hq hzs
      have SZ : st.size = L.length := by rw [← HST.out]; simp
      have SZ2 := Lib.hid SZ
      have L7 := Lib.hid h7
      have R5 := Lib.hid (show v5.heap[w.heap.size]? = some (.cells #[.int .i64 F, .int .i64 O, .bool (decide (q.1 < 0)), .slice A (digs q.1.natAbs).length c, .int .i64 q.2, .int .i64 W, .int .i64 Q, .int .i64 D, .slice P2 zs.length k2] 29 (0, 0)) by have h := R5.out; rw [List.length_map] at h; exact h)
      have LN := Lib.hid hlen
      have HDEC := Lib.hid hdec
      have HMOR := Lib.hid hmore
      have HCUT := Lib.hid hcut2
      have HRS := Lib.hid (right_sm hright)
      clear hLL h7 hdec hmore hcut2 hright hlen
      have d0 : decide ((0 : Int) = 0) = true := rfl
      have es0 : st.toList.isEmpty = false := by
        rw [ByteArray.toList_eq, HST.out]
        cases L with
        | nil => exact absurd L7.out (by decide)
        | cons _ _ => rfl
      clear SZ
      go_upto_if 38 with fail
      obtain ⟨y, hy⟩ : ∃ y : Nat, (cutAt < 0 → -(cutAt + 1) = (y : Int)) ∧ (¬ cutAt < 0 → cutAt = (y : Int)) := by
        by_cases h : cutAt < 0
        · exact ⟨(-(cutAt + 1)).toNat, fun _ => by have := HCC.out; omega, fun h2 => absurd h h2⟩
        · exact ⟨cutAt.toNat, fun h2 => absurd h2 h, fun _ => by omega⟩
      have HY := Lib.hid hy
      clear hy
      go_cut [2] from 23 to 41 (fun av wx => av = .int .i64 (y : Int) ∧ wx = v5)
      case first =>
        have hy := HY.out
        have hcc := HCC.out
        by_cases hc : cutAt < 0
        · have e0 := hy.1 hc
          obtain ⟨z0, hz0⟩ : ∃ z : Int, cutAt + 1 = z := ⟨_, rfl⟩
          have u1 : wrap64 (cutAt + 1) = z0 := by rw [hz0]; exact IntWalk.wrap64_in _ ⟨by omega, by omega⟩
          have u2 : wrap64 z0 = z0 := IntWalk.wrap64_in _ ⟨by omega, by omega⟩
          have u3 : Value.int .i64 (wrap64 (-z0)) = .int .i64 (y : Int) := by rw [← hz0, IntWalk.wrap64_in _ ⟨by omega, by omega⟩, e0]
          have dc : decide (cutAt < 0) = true := by simp [hc]
          clear e0 hy hcc
          go_wp2_with fail
          go_meet
          exact ⟨rfl, rfl⟩
        · have e0 := hy.2 (by omega)
          have E0 := Lib.hid e0
          have dc : decide (cutAt < 0) = false := by simp; omega
          clear e0 hy hcc
          go_wp2_with fail
          go_meet
          exact ⟨by rw [E0.out], rfl⟩
      case rest =>
        obtain ⟨rfl, hw⟩ := hcut
        obtain rfl : v5 = wc := hw.symm
        clear hw
        go_wp2_with fail
        refine (decode_str (d := st) (t32_below HT.out B5.out) (by have := SZ2.out; have := LN.out; omega)).mono ?_
        rintro e v6 ⟨hd, hb⟩
        rw [HST.out, HDEC.out] at hd
        obtain ⟨A1, c1, P1, k1, rfl, hda, hdp⟩ := hd
        have B6 := Lib.hid (B5.out.trans (hb.mono B5.out.size))
        have R6 := co R5 hb
        have P6 := Lib.hid (P5.out.below hb)
        have D6 := Lib.hid (D5.out.below hb)
        have DA := Lib.hid hda
        have PA := Lib.hid hdp
        clear hda hdp hb P5 D5 R5
        go_wp2_with (refine wpList_store_box rfl 29 _ _ rfl v6.heap.size rfl #[.int .i64 F, .int .i64 O, .bool (decide (q.1 < 0)), .slice A1 (digs q.1.natAbs).length c1, .int .i64 q.2, .int .i64 W, .int .i64 Q, .int .i64 D, .slice P1 zs.length k1] rfl #[.int .i64 0, .int .i64 0, .bool false, .slice none 0 0, .int .i64 0, .int .i64 0, .int .i64 0, .int .i64 0, .slice none 0 0] 29 (heap_alloc_new _ _) tab_size rfl tab_one ?_)
        intro v7 hO hR
        have B7 := Lib.hid (hO.below (B6.out.trans ((below1 v6 _).mono B6.out.size)) B6.out.size)
        have BN := (hO.below (below1 v6 _) (Nat.le_refl _))
        have R7 := Lib.hid (cells_of R6.out BN)
        have P7 := Lib.hid (P6.out.below BN)
        have D7 := Lib.hid (D6.out.below BN)
        have DA7 := Lib.hid (DA.out.below BN)
        have PA7 := Lib.hid (PA.out.below BN)
        have S7 := Lib.hid hR
        clear hO hR BN R6 P6 D6 DA PA
        obtain ⟨kk, hkk⟩ : ∃ n : Nat, y % st.size = n := ⟨_, rfl⟩
        have stp : 0 < st.size := by have := SZ2.out; have := L7.out; omega
        have u4 : ((y : Int)).tmod (st.size : Int) = (kk : Int) := by rw [Int.tmod_eq_emod_of_nonneg (by omega), ← hkk]; omega
        have u5 : ¬ (st.size : Int) = 0 := by omega
        have k0 : (0 : Int) ≤ (kk : Int) := by omega
        have k1 : (kk : Int) ≤ (st.size : Int) := by have := Nat.mod_lt y stp; omega
        have KK := Lib.hid (show kk < L.length by rw [← SZ2.out, ← hkk]; exact Nat.mod_lt y stp)
        clear hkk stp
        go_wp2_with fail
        have HX := Lib.hid (show (st.extract 0 kk).data.toList = L.take kk by rw [← HST.out]; simp)
        refine (decode_str (d := st.extract 0 kk) (t32_below HT.out B7.out) (by rw [ByteArray.size_extract]; have := SZ2.out; have := LN.out; omega)).mono ?_
        rintro e v8 ⟨hd, hb⟩
        rw [HX.out, HCUT.out kk KK.out] at hd
        unfold DecP at hd
        subst hd
        have B8 := Lib.hid (B7.out.trans (hb.mono B7.out.size))
        have R8 := co R7 hb
        have S8 := co S7 hb
        have P8 := Lib.hid (P7.out.below hb)
        have D8 := Lib.hid (D7.out.below hb)
        have DA8 := Lib.hid (DA7.out.below hb)
        have PA8 := Lib.hid (PA7.out.below hb)
        clear hb R7 S7 P7 D7 DA7 PA7 u4 u5 k0 k1
        go_wp2_with (refine wpList_store_box rfl 29 _ _ rfl v8.heap.size rfl #[.int .i64 0, .int .i64 0, .bool false, .slice none 0 0, .int .i64 0, .int .i64 0, .int .i64 0, .int .i64 0, .slice none 0 0] rfl #[.int .i64 0, .int .i64 0, .bool false, .slice none 0 0, .int .i64 0, .int .i64 0, .int .i64 0, .int .i64 0, .slice none 0 0] 29 (heap_alloc_new _ _) tab_size rfl tab_one ?_)
        intro v9 hO hR
        have B9 := Lib.hid (hO.below (B8.out.trans ((below1 v8 _).mono B8.out.size)) B8.out.size)
        have BN := (hO.below (below1 v8 _) (Nat.le_refl _))
        have R9 := Lib.hid (cells_of R8.out BN)
        have S9 := Lib.hid (cells_of S8.out BN)
        have P9 := Lib.hid (P8.out.below BN)
        have D9 := Lib.hid (D8.out.below BN)
        have DA9 := Lib.hid (DA8.out.below BN)
        have PA9 := Lib.hid (PA8.out.below BN)
        clear hO hR BN R8 P8 D8 DA8 PA8 S8
        obtain ⟨s2, hs2⟩ : ∃ z : ByteArray, st ++ more = z := ⟨_, rfl⟩
        have HS2 := Lib.hid (show s2.data.toList = L ++ more.data.toList by rw [← hs2, ← HST.out]; simp)
        have hcat : ¬ 9223372036854775807 < st.size + more.size := by have := SZ2.out; have := LN.out; have := HBB.out.2; omega
        have HSZ := Lib.hid (show s2.size ≤ 9223372036854775807 by rw [← hs2, ByteArray.size_append]; have := SZ2.out; have := LN.out; have := HBB.out.2; omega)
        go_wp2_with fail
        refine (decode_str (d := s2) (t32_below HT.out B9.out) HSZ.out).mono ?_
        rintro e v10 ⟨hd, hb⟩
        obtain ⟨F0, O0, s0, A0, n0, c0, x0, W0, Q0, D0, P0, m0, k0, cd, rfl, hcd⟩ : ∃ (F0 O0 : Int) (s0 : Bool) (A0 : Option Addr) (n0 c0 : Nat) (x0 W0 Q0 D0 : Int) (P0 : Option Addr) (m0 k0 : Nat) (cd : Int), e = .returned (.tuple #[.agg #[.int .i64 F0, .int .i64 O0, .bool s0, .slice A0 n0 c0, .int .i64 x0, .int .i64 W0, .int .i64 Q0, .int .i64 D0, .slice P0 m0 k0], .int .i64 cd]) ∧ (more.toList.isEmpty = false → cd = 2) := by
          rw [HS2.out] at hd
          by_cases hm0 : more.data.toList = []
          · rw [hm0, List.append_nil, HDEC.out] at hd
            obtain ⟨A1, c1, P1, k1, he, _⟩ := hd
            exact ⟨_, _, _, _, _, _, _, _, _, _, _, _, _, _, he, fun h => by rw [ByteArray.toList_eq, hm0] at h; simp at h⟩
          · rw [HMOR.out _ hm0] at hd
            unfold DecP at hd
            exact ⟨_, _, _, _, _, _, _, _, _, _, _, _, _, _, hd, fun _ => rfl⟩
        have HCD := Lib.hid hcd
        have Ba := Lib.hid (B9.out.trans (hb.mono B9.out.size))
        have Ra := co R9 hb
        have Sa := co S9 hb
        have Pa := Lib.hid (P9.out.below hb)
        have Da := Lib.hid (D9.out.below hb)
        have DAa := Lib.hid (DA9.out.below hb)
        have PAa := Lib.hid (PA9.out.below hb)
        clear hd hb hcd hs2 hcat R9 S9 P9 D9 DA9 PA9
        go_wp2_with (refine wpList_store_box rfl 29 _ _ rfl v10.heap.size rfl #[.int .i64 F0, .int .i64 O0, .bool s0, .slice A0 n0 c0, .int .i64 x0, .int .i64 W0, .int .i64 Q0, .int .i64 D0, .slice P0 m0 k0] rfl #[.int .i64 0, .int .i64 0, .bool false, .slice none 0 0, .int .i64 0, .int .i64 0, .int .i64 0, .int .i64 0, .slice none 0 0] 29 (heap_alloc_new _ _) tab_size rfl tab_one ?_)
        intro vb hO hR
        have Bb := Lib.hid (hO.below (Ba.out.trans ((below1 v10 _).mono Ba.out.size)) Ba.out.size)
        have BN := (hO.below (below1 v10 _) (Nat.le_refl _))
        have Rb := Lib.hid (cells_of Ra.out BN)
        have Sb := Lib.hid (cells_of Sa.out BN)
        have Pb := Lib.hid (Pa.out.below BN)
        have Db := Lib.hid (Da.out.below BN)
        have DAb := Lib.hid (DAa.out.below BN)
        have PAb := Lib.hid (PAa.out.below BN)
        clear hO hR BN Ra Pa Da DAa PAa Sa
        go_wp2_with (first | (refine wpList_load_box rfl 29 _ rfl w.heap.size rfl #[.int .i64 F, .int .i64 O, .bool (decide (q.1 < 0)), .slice A (digs q.1.natAbs).length c, .int .i64 q.2, .int .i64 W, .int .i64 Q, .int .i64 D, .slice P2 zs.length k2] _ Rb.out _ Tryd.underlying29 rfl tab_size ?_) | (refine wpList_load_box rfl 29 _ rfl v6.heap.size rfl #[.int .i64 F, .int .i64 O, .bool (decide (q.1 < 0)), .slice A1 (digs q.1.natAbs).length c1, .int .i64 q.2, .int .i64 W, .int .i64 Q, .int .i64 D, .slice P1 zs.length k1] _ Sb.out _ Tryd.underlying29 rfl tab_size ?_))
        refine (tsame_any (a := q) (zs := zs) Db.out Pb.out DAb.out PAb.out (Nat.le_trans HRS.out.1 (by decide)) HRS.out.2.1 HRS.out.2.2.1).mono ?_
        rintro e vc ⟨rfl, hb⟩
        have Bc := Lib.hid (Bb.out.trans (hb.mono Bb.out.size))
        clear hb
        cases hme : more.toList.isEmpty with
        | true =>
          go_wp2_with fail
          go_meet
          exact Bc
        | false =>
          have ec := HCD.out hme
          subst ec
          go_wp2_with fail
          go_meet
          exact Bc
    · have d0 : decide (E = 0) = false := by simp [hz]
      go_wp2_with fail
      go_meet
      exact B5
  case rest =>
    have B6 := hcut
    obtain ⟨n, hn⟩ : ∃ n : Nat, min b.size 6000 = n := ⟨_, rfl⟩
    have u1 : min (b.size : Int) 6000 = (n : Int) := by omega
    have k0 : (0 : Int) ≤ (n : Int) := by omega
    have k1 : (n : Int) ≤ (b.size : Int) := by omega
    have kn : n ≤ 6000 := by omega
    clear hn
    go_wp2_with fail
    obtain ⟨b1, hb1⟩ : ∃ z : ByteArray, b.extract 0 n = z := ⟨_, rfl⟩
    have HB1 := Lib.hid (show b1.size ≤ 9223372036854775807 by rw [← hb1, ByteArray.size_extract]; omega)
    rw [hb1]
    clear hb1 u1 k0 k1 kn
    refine (decode_str (d := b1) (t32_below HT.out B6.out) HB1.out).mono ?_
    rintro e v7 ⟨hd, hb⟩
    obtain ⟨F1, O1, W1, Q1, D1, a1, ps1, A1, c1, P1, k1, cd, rfl, hda, hla, hps1, hsm1, hcd, hc2⟩ : ∃ (F1 O1 W1 Q1 D1 : Int) (a1 : Nm) (ps1 : List Pd) (A1 : Option Addr) (c1 : Nat) (P1 : Option Addr) (k1 : Nat) (cd : Int), e = .returned (.tuple #[.agg #[.int .i64 F1, .int .i64 O1, .bool a1.1, .slice A1 a1.2.1.length c1, .int .i64 a1.2.2, .int .i64 W1, .int .i64 Q1, .int .i64 D1, .slice P1 ps1.length k1], .int .i64 cd]) ∧ Dg v7 A1 c1 a1.2.1 ∧ a1.2.1.length ≤ 10000 ∧ PsL v7 P1 ps1 ∧ SmP ps1 ∧ (cd = 0 → outE (encO F1 O1 a1 W1 Q1 D1 ps1) = 0 ∧ outB (encO F1 O1 a1 W1 Q1 D1 ps1) = b1.data.toList) ∧ (cd = 0 ∨ cd = 2) := by
      cases hT1 : decT b1.data.toList with
      | none =>
        rw [hT1] at hd
        unfold DecP at hd
        exact ⟨0, 0, 0, 0, 0, (false, [], 0), [], none, 0, none, 0, 2, hd, Dg.nil_ _ _, by simp, fun h => absurd rfl h, fun p hp => absurd hp (by simp), fun h => absurd h (by decide), .inr rfl⟩
      | some T =>
        rw [hT1] at hd
        obtain ⟨F1, O1, Q1, D1, W1, q1, zs1⟩ := T
        obtain ⟨A1, c1, P1, k1, he, hda, hps⟩ := hd
        obtain ⟨g0, g1⟩ := dec_back hT1
        have hr := right_sm (enc_parts g0).1
        refine ⟨F1, O1, W1, Q1, D1, nmOf q1, zs1.map PdZ.to, A1, c1, P1, k1, 0, ?_, hda, Nat.le_trans hr.1 (by decide), hps, hr.2.2.2, fun _ => ⟨g0, g1⟩, .inl rfl⟩
        rw [List.length_map]
        exact he
    obtain ⟨E1, hE1⟩ : ∃ z, outE (encO F1 O1 a1 W1 Q1 D1 ps1) = z := ⟨_, rfl⟩
    obtain ⟨L1, hL1⟩ : ∃ z, outB (encO F1 O1 a1 W1 Q1 D1 ps1) = z := ⟨_, rfl⟩
    obtain ⟨s1, hs1⟩ : ∃ z : ByteArray, (⟨L1.toArray⟩ : ByteArray) = z := ⟨_, rfl⟩
    have HS1 := Lib.hid (show s1.data.toList = L1 by rw [← hs1])
    have HE1 := Lib.hid hE1
    have HL1 := Lib.hid hL1
    rw [hE1, hL1] at hcd
    have HCD := Lib.hid (And.intro hcd hc2)
    have B7 := Lib.hid (B6.out.trans (hb.mono B6.out.size))
    have D7 := Lib.hid hda
    have P7 := Lib.hid (And.intro hps1 (And.intro hla hsm1))
    clear hd hb hcd hc2 hda hps1 hla hsm1 hE1 hL1 hs1
    go_wp2_with (refine wpList_store_box rfl 29 _ _ rfl v7.heap.size rfl #[.int .i64 F1, .int .i64 O1, .bool a1.1, .slice A1 a1.2.1.length c1, .int .i64 a1.2.2, .int .i64 W1, .int .i64 Q1, .int .i64 D1, .slice P1 ps1.length k1] rfl #[.int .i64 0, .int .i64 0, .bool false, .slice none 0 0, .int .i64 0, .int .i64 0, .int .i64 0, .int .i64 0, .slice none 0 0] 29 (heap_alloc_new _ _) tab_size rfl tab_one ?_)
    intro v8 hO hR
    have B8 := Lib.hid (hO.below (B7.out.trans ((below1 v7 _).mono B7.out.size)) B7.out.size)
    have BN := (hO.below (below1 v7 _) (Nat.le_refl _))
    have P8 := Lib.hid (And.intro (P7.out.1.below BN) P7.out.2)
    have D8 := Lib.hid (D7.out.below BN)
    have S8 := Lib.hid hR
    clear hO hR BN P7 D7
    go_wp2_with (refine wpList_load_box rfl 29 _ rfl v7.heap.size rfl #[.int .i64 F1, .int .i64 O1, .bool a1.1, .slice A1 a1.2.1.length c1, .int .i64 a1.2.2, .int .i64 W1, .int .i64 Q1, .int .i64 D1, .slice P1 ps1.length k1] _ S8.out _ Tryd.underlying29 rfl tab_size ?_)
    refine (enc_tab (F := F1) (O := O1) (W := W1) (Q := Q1) (D := D1) (k := k1) D8.out P8.out.2.1 (t32_below HT.out B8.out) P8.out.1 P8.out.2.2 HE1.out (HS1.out.trans HL1.out.symm)).mono ?_
    rintro e v9 ⟨rfl, hb⟩
    have B9 := Lib.hid (B8.out.trans (hb.mono B8.out.size))
    clear hb
    have hcd := HCD.out
    rcases hcd.2 with h0 | h0
    · subst h0
      obtain ⟨e0, l0⟩ := hcd.1 rfl
      subst e0
      have es : s1 = b1 := by apply ByteArray.ext; apply Array.toList_inj.1; rw [HS1.out, l0]
      subst es
      clear hcd l0
      go_wp2_with fail
      exact bodyPost_ret (v := .bool true) (by simp [results, Tryd.results3, go_sem]) rfl ⟨rfl, B9.out⟩
    · subst h0
      clear hcd
      go_wp2_with fail
      exact bodyPost_ret (v := .bool true) (by simp [results, Tryd.results3, go_sem]) rfl ⟨rfl, B9.out⟩
end Go.Proofs.YtfhdhldgflbpjaaDoor
end

section
/-
  A table that came in: what an argument of this type holds.
-/
namespace Go.Proofs.YtfhdhldgflbpjaaDoor
open Go.RowKit Go.WideShapes Go.ChangeShapes Go.ChangeAt Go.Deep
set_option linter.unusedVariables false
set_option maxRecDepth 100000
/-- A slice that came in, element by element. -/
theorem open_row {H : Type} {enc : TypeId × Value → H} {W : World} {spare : Nat → Bool} {held : Bool} {t e : TypeId} {size : Nat} {a0 : Option Addr} {len cap : Nat} {y : DataW H × List MemPlace}
    (ht : Tryd.prog.underlying t = some (.slice e)) (hs : Tryd.prog.cellsOf e = size) (hs0 : 0 < size) (hd : ∃ n, DataW.trod enc Tryd.prog W 0 spare held n t [.slice a0 len cap] = some y) :
    len ≤ cap ∧ len ≤ 9223372036854775807 ∧ (len ≠ 0 → ∃ b o, a0 = some ⟨b, o, none⟩ ∧ b < W.heap.size ∧ ∀ i, i < len → ∃ (cs : List Value) (z : DataW H × List MemPlace), cs.length = size ∧ (∀ j, j < size → W.cell? ⟨b, o + i * size + j, none⟩ = cs[j]?) ∧ ∃ n, DataW.trod enc Tryd.prog W 0 spare held n e cs = some z) := by
  obtain ⟨fuel, hf⟩ := hd
  rcases open_slice ht hf with ⟨hcs, _⟩ | ⟨a, len', cap', m, n, D, Pl, hcs, _, hl, hm, hmm, _, hx⟩
  · simp at hcs
    obtain ⟨rfl, rfl, rfl⟩ := hcs
    exact ⟨Nat.le_refl _, by omega, fun h => absurd rfl h⟩
  · simp at hcs
    obtain ⟨rfl, rfl, rfl⟩ := hcs
    have hlm : len ≤ m := by rw [hmm]; split <;> omega
    refine ⟨hl, by unfold maxLen at hm; omega, fun h0 => ?_⟩
    obtain ⟨b, off, spot⟩ := a
    obtain ⟨cs0, h1, _⟩ := hx 0 (by omega)
    obtain ⟨_, hlen0, hcell0⟩ := World.cells?_some h1
    rw [hs] at hlen0 hcell0
    have hc0 := hcell0 0 hs0
    obtain ⟨v, hv⟩ : ∃ v, cs0[0]? = some v := by cases hk : cs0[0]? with
      | none => rw [List.getElem?_eq_none_iff] at hk; omega
      | some v => exact ⟨v, rfl⟩
    rw [hv] at hc0
    have hspot : spot = none := by simpa [Addr.add] using World.cell?_spot hc0
    subst hspot
    refine ⟨b, off, rfl, by have := World.block_lt_of_cell? _ _ hc0; simpa [Addr.add] using this, fun i hi => ?_⟩
    obtain ⟨cs, g1, g2⟩ := hx i (by omega)
    obtain ⟨_, hlen, hcell⟩ := World.cells?_some g1
    rw [hs] at hlen hcell
    refine ⟨cs, _, hlen, fun j hj => ?_, n, g2⟩
    have := hcell j hj
    rw [Addr.add_lit, Addr.add_lit] at this
    exact this
/-- A number that came in, by its three cells. -/
theorem open_nm {H : Type} {enc : TypeId × Value → H} {W : World} {spare : Nat → Bool} {held : Bool} {v0 v1 v2 : Value} {y : DataW H × List MemPlace}
    (hd : ∃ n, DataW.trod enc Tryd.prog W 0 spare held n 26 [v0, v1, v2] = some y) :
    ∃ (q : Nm) (A : Option Addr) (c : Nat), v0 = .bool q.1 ∧ v1 = .slice A q.2.1.length c ∧ v2 = .int .i64 q.2.2 ∧ Dg W A c q.2.1 ∧ q.2.1.length ≤ 9223372036854775807 := by
  obtain ⟨fuel, hf⟩ := hd
  obtain ⟨y0, y1, n, _, _, h0, h1⟩ := trod_struct2 Tryd.underlying26 hf
  have c0 : Tryd.prog.cellsOf 24 = 2 := by kernel_rfl
  have c1 : Tryd.prog.cellsOf 3 = 1 := by kernel_rfl
  have c2 : Tryd.prog.cellsOf 4 = 1 := by kernel_rfl
  have c3 : Tryd.prog.cellsOf 22 = 1 := by kernel_rfl
  simp only [c0, c1] at h0 h1
  obtain ⟨z0, z1, k, _, _, g0, g1⟩ := trod_struct2 Tryd.underlying24 h0
  simp only [c2, c3] at g0 g1
  obtain ⟨s, e0, _⟩ := DataW.trod_bool Tryd.underlying4 g0
  obtain rfl : v0 = .bool s := by simpa using e0
  obtain ⟨a0, len, cap, e1⟩ := Go.Joins.slice_form Tryd.underlying22 g1
  obtain rfl : v1 = .slice a0 len cap := by simpa using e1
  obtain ⟨e, e2, _, hw⟩ := DataW.trod_int Tryd.underlying3 h1
  obtain rfl : v2 = .int .i64 e := by simpa using e2
  obtain ⟨A, c, xs, ee, g, gl⟩ := open_dg0 ⟨k, g1⟩
  exact ⟨(s, xs, e), A, c, rfl, ee, rfl, g, gl⟩
theorem list3 {α : Type} : ∀ l : List α, l.length = 3 → ∃ a b c, l = [a, b, c]
  | [a, b, c], _ => ⟨a, b, c, rfl⟩
theorem list8 {α : Type} : ∀ l : List α, l.length = 8 → ∃ a b c d e f g h, l = [a, b, c, d, e, f, g, h]
  | [a, b, c, d, e, f, g, h], _ => ⟨a, b, c, d, e, f, g, h, rfl⟩
theorem list9 {α : Type} : ∀ l : List α, l.length = 9 → ∃ a b c d e f g h i, l = [a, b, c, d, e, f, g, h, i]
  | [a, b, c, d, e, f, g, h, i], _ => ⟨a, b, c, d, e, f, g, h, i, rfl⟩
theorem list7 {α : Type} : ∀ l : List α, l.length = 7 → ∃ a b c d e f g, l = [a, b, c, d, e, f, g]
  | [a, b, c, d, e, f, g], _ => ⟨a, b, c, d, e, f, g, rfl⟩
/-- Numbers that came in. -/
theorem open_nms {H : Type} {enc : TypeId × Value → H} {W : World} {spare : Nat → Bool} {held : Bool} {a0 : Option Addr} {len cap : Nat} {y : DataW H × List MemPlace}
    (hd : ∃ n, DataW.trod enc Tryd.prog W 0 spare held n 44 [.slice a0 len cap] = some y) : ∃ cs : List Nm, cs.length = len ∧ NsL W a0 cap cs := by
  obtain ⟨hl, _, h⟩ := open_row (size := 3) Tryd.underlying44 (by kernel_rfl) (by omega) hd
  by_cases h0 : len = 0
  · subst h0
    exact ⟨[], rfl, fun _ => none, fun _ => 0, by simp, fun h => absurd rfl h⟩
  obtain ⟨b, o, rfl, hb, hx⟩ := h h0
  have each : ∀ i, i < len → ∃ r : Nm × Option Addr × Nat, W.cell? ⟨b, o + i * 3, none⟩ = some (.bool r.1.1) ∧ W.cell? ⟨b, o + i * 3 + 1, none⟩ = some (.slice r.2.1 r.1.2.1.length r.2.2) ∧ W.cell? ⟨b, o + i * 3 + 2, none⟩ = some (.int .i64 r.1.2.2) ∧ Dg W r.2.1 r.2.2 r.1.2.1 := by
    intro i hi
    obtain ⟨cs, z, hcl, hc, ht⟩ := hx i hi
    obtain ⟨v0, v1, v2, rfl⟩ := list3 cs hcl
    obtain ⟨q, A, c, rfl, rfl, rfl, g, _⟩ := open_nm ht
    exact ⟨(q, A, c), by simpa using hc 0 (by omega), by simpa using hc 1 (by omega), by simpa using hc 2 (by omega), g⟩
  obtain ⟨f, hf⟩ := choose_lt each
  have hg : ∀ i, i < len → ((List.range len).map fun i => (f i).1)[i]?.getD (false, [], 0) = (f i).1 := fun i hi => by
    rw [List.getElem?_map, List.getElem?_range hi]; rfl
  refine ⟨(List.range len).map fun i => (f i).1, by simp, fun i => (f i).2.1, fun i => (f i).2.2, by simpa using hl, fun _ => ⟨b, o, rfl, hb, fun i hi => ?_⟩⟩
  have hi' : i < len := by simpa using hi
  dsimp only
  rw [hg i hi']
  exact hf i hi'
/-- A piece that came in, by its eight cells. -/
theorem open_pd {H : Type} {enc : TypeId × Value → H} {W : World} {spare : Nat → Bool} {held : Bool} {v0 v1 v2 v3 v4 v5 v6 v7 : Value} {y : DataW H × List MemPlace}
    (hd : ∃ n, DataW.trod enc Tryd.prog W 0 spare held n 46 [v0, v1, v2, v3, v4, v5, v6, v7] = some y) :
    ∃ (p : Pd) (A : Option Addr) (c : Nat) (B : Option Addr) (d : Nat) (P : Option Addr) (k : Nat), v0 = .bool p.a.1 ∧ v1 = .slice A p.a.2.1.length c ∧ v2 = .int .i64 p.a.2.2 ∧ v3 = .int .i64 p.w ∧ v4 = .slice P p.cs.length k ∧ v5 = .bool p.er.1 ∧ v6 = .slice B p.er.2.1.length d ∧ v7 = .int .i64 p.er.2.2 ∧ Dg W A c p.a.2.1 ∧ Dg W B d p.er.2.1 ∧ NsL W P k p.cs := by
  obtain ⟨fuel, hf⟩ := hd
  obtain ⟨y0, y1, y2, y3, n, _, _, h0, h1, h2, h3⟩ := Go.Joins.trod_struct4 Tryd.underlying46 hf
  have c0 : Tryd.prog.cellsOf 26 = 3 := by kernel_rfl
  have c1 : Tryd.prog.cellsOf 3 = 1 := by kernel_rfl
  have c2 : Tryd.prog.cellsOf 44 = 1 := by kernel_rfl
  simp only [c0, c1, c2] at h0 h1 h2 h3
  obtain ⟨q, A, c, rfl, rfl, rfl, g, _⟩ := open_nm ⟨n, h0⟩
  obtain ⟨e, e2, _, hw⟩ := DataW.trod_int Tryd.underlying3 h1
  obtain rfl : v3 = .int .i64 e := by simpa using e2
  obtain ⟨a0, len, cap, e1⟩ := Go.Joins.slice_form Tryd.underlying44 h2
  obtain rfl : v4 = .slice a0 len cap := by simpa using e1
  obtain ⟨cs, hcs, g2⟩ := open_nms ⟨n, h2⟩
  obtain ⟨r, B, d, rfl, rfl, rfl, g3, _⟩ := open_nm ⟨n, h3⟩
  exact ⟨⟨q, e, cs, r⟩, A, c, B, d, a0, cap, rfl, rfl, rfl, rfl, by rw [hcs], rfl, rfl, rfl, g, g3, g2⟩
instance : Inhabited Pd := ⟨⟨(false, [], 0), 0, [], (false, [], 0)⟩⟩
/-- Pieces that came in. -/
theorem open_pds {H : Type} {enc : TypeId × Value → H} {W : World} {spare : Nat → Bool} {held : Bool} {a0 : Option Addr} {len cap : Nat} {y : DataW H × List MemPlace}
    (hd : ∃ n, DataW.trod enc Tryd.prog W 0 spare held n 27 [.slice a0 len cap] = some y) : ∃ ps : List Pd, ps.length = len ∧ PsL W a0 ps ∧ ps.length ≤ cap ∧ ps.length ≤ 9223372036854775807 := by
  obtain ⟨hl, hm, h⟩ := open_row (size := 8) Tryd.underlying27 (by kernel_rfl) (by omega) hd
  by_cases h0 : len = 0
  · subst h0
    exact ⟨[], rfl, fun h => absurd rfl h, hl, hm⟩
  obtain ⟨b, o, rfl, hb, hx⟩ := h h0
  have each : ∀ i, i < len → ∃ p : Pd, ∃ A c B d P k, W.cell? ⟨b, o + i * 8, none⟩ = some (.bool p.a.1) ∧ W.cell? ⟨b, o + i * 8 + 1, none⟩ = some (.slice A p.a.2.1.length c) ∧ W.cell? ⟨b, o + i * 8 + 2, none⟩ = some (.int .i64 p.a.2.2) ∧ W.cell? ⟨b, o + i * 8 + 3, none⟩ = some (.int .i64 p.w) ∧ W.cell? ⟨b, o + i * 8 + 4, none⟩ = some (.slice P p.cs.length k) ∧ W.cell? ⟨b, o + i * 8 + 5, none⟩ = some (.bool p.er.1) ∧ W.cell? ⟨b, o + i * 8 + 6, none⟩ = some (.slice B p.er.2.1.length d) ∧ W.cell? ⟨b, o + i * 8 + 7, none⟩ = some (.int .i64 p.er.2.2) ∧ Dg W A c p.a.2.1 ∧ Dg W B d p.er.2.1 ∧ NsL W P k p.cs := by
    intro i hi
    obtain ⟨cs, z, hcl, hc, ht⟩ := hx i hi
    obtain ⟨v0, v1, v2, v3, v4, v5, v6, v7, rfl⟩ := list8 cs hcl
    obtain ⟨p, A, c, B, d, P, k, rfl, rfl, rfl, rfl, rfl, rfl, rfl, rfl, g1, g2, g3⟩ := open_pd ht
    exact ⟨p, A, c, B, d, P, k, by simpa using hc 0 (by omega), by simpa using hc 1 (by omega), by simpa using hc 2 (by omega), by simpa using hc 3 (by omega), by simpa using hc 4 (by omega), by simpa using hc 5 (by omega), by simpa using hc 6 (by omega), by simpa using hc 7 (by omega), g1, g2, g3⟩
  obtain ⟨f, hf⟩ := choose_lt each
  have hlen : ((List.range len).map f).length = len := by simp
  refine ⟨(List.range len).map f, hlen, fun _ => ⟨b, o, rfl, hb, fun i p hp => ?_⟩, by rw [hlen]; exact hl, by rw [hlen]; exact hm⟩
  have hi : i < len := by
    have := (List.getElem?_eq_some_iff.1 hp).1; rw [hlen] at this; exact this
  rw [List.getElem?_map, List.getElem?_range hi] at hp
  obtain rfl : f i = p := by simpa using hp
  exact hf i hi
/-- A table that came in. -/
theorem open_tab {H : Type} {enc : TypeId × Value → H} {W : World} {base : Nat} {v : Value} {d : DataW H} {ps : List MemPlace}
    (hval : Value.okWide Tryd.prog W .any base 29 v) (hd : DataW.Trod enc Tryd.prog W 0 (fun _ => true) true 29 v d ps) :
    ∃ (F O W1 Q D : Int) (a : Nm) (A : Option Addr) (c : Nat) (P : Option Addr) (k : Nat) (qs : List Pd), v = .agg #[.int .i64 F, .int .i64 O, .bool a.1, .slice A a.2.1.length c, .int .i64 a.2.2, .int .i64 W1, .int .i64 Q, .int .i64 D, .slice P qs.length k] ∧
      Dg W A c a.2.1 ∧ a.2.1.length ≤ 9223372036854775807 ∧ PsL W P qs ∧ qs.length ≤ k ∧ qs.length ≤ 9223372036854775807 := by
  obtain ⟨cs, rfl, hsz⟩ := okWide_struct Tryd.underlying29 hval
  obtain ⟨l⟩ := cs
  obtain ⟨v0, v1, v2, v3, v4, v5, v6, v7, v8, rfl⟩ := list9 l (hsz.trans (by kernel_rfl))
  obtain ⟨fuel, hf⟩ := hd
  obtain ⟨xs, n, _, _, _, hxl, hx⟩ := DataW.trod_struct Tryd.underlying29 hf
  obtain ⟨y0, y1, y2, y3, y4, y5, y6, rfl⟩ := list7 xs hxl
  have cI : Tryd.prog.cellsOf 3 = 1 := by kernel_rfl
  have cD : Tryd.prog.cellsOf 26 = 3 := by kernel_rfl
  have cP : Tryd.prog.cellsOf 27 = 1 := by kernel_rfl
  have h0 := hx 0 _ rfl
  have h1 := hx 1 _ rfl
  have h2 := hx 2 _ rfl
  have h3 := hx 3 _ rfl
  have h4 := hx 4 _ rfl
  have h5 := hx 5 _ rfl
  have h6 := hx 6 _ rfl
  obtain ⟨F, e0, _, _⟩ := DataW.trod_int Tryd.underlying3 h0
  obtain rfl : v0 = .int .i64 F := by simpa [Value.cells, cI] using e0
  obtain ⟨O, e1, _, _⟩ := DataW.trod_int Tryd.underlying3 h1
  obtain rfl : v1 = .int .i64 O := by simpa [Value.cells, cI] using e1
  obtain ⟨a, A, c, rfl, rfl, rfl, g, gl⟩ := open_nm (v0 := v2) (v1 := v3) (v2 := v4) ⟨n, by simpa [Value.cells, cD] using h2⟩
  obtain ⟨W1, e3, _, _⟩ := DataW.trod_int Tryd.underlying3 h3
  obtain rfl : v5 = .int .i64 W1 := by simpa [Value.cells, cI] using e3
  obtain ⟨Q, e4, _, _⟩ := DataW.trod_int Tryd.underlying3 h4
  obtain rfl : v6 = .int .i64 Q := by simpa [Value.cells, cI] using e4
  obtain ⟨D, e5, _, _⟩ := DataW.trod_int Tryd.underlying3 h5
  obtain rfl : v7 = .int .i64 D := by simpa [Value.cells, cI] using e5
  obtain ⟨P, len, cap, e6⟩ := Go.Joins.slice_form Tryd.underlying27 h6
  obtain rfl : v8 = .slice P len cap := by simpa [Value.cells, cP] using e6
  obtain ⟨qs, hq, g1, g2, g3⟩ := open_pds (a0 := P) (len := len) (cap := cap) ⟨n, by simpa [Value.cells, cP] using h6⟩
  exact ⟨F, O, W1, Q, D, a, A, c, P, cap, qs, by rw [hq], g, gl, g1, g2, g3⟩
end Go.Proofs.YtfhdhldgflbpjaaDoor
end

section
/-
  TabcBack, FOR EVERY ARGUMENT: the law returns true, and each argument reads behind the call as it read ahead of it. THE TIED CARD.
-/
namespace Go.Proofs.YtfhdhldgflbpjaaDoor.tabcBack
open Go Go.ChangeShapes Go.WideShapes Go.ChangeAt Go.RowKit
set_option linter.unusedVariables false
/-- The door's own heap meets the condition. -/
theorem door_met (os : Os) (args : Array Value) : laidMetH Tryd.prog Rows.tabcBackRow.laid ((World.doorLaid Tryd.prog 400 os).forCall (fun _ _ => 0) ⟨#[], args, []⟩).memory :=
  laidMetH_of_parts3 (fuel := 8) (laidMet_of_run' 8 (by kernel_rfl) (by kernel_rfl)) (by kernel_rfl) (by kernel_rfl)
set_option maxRecDepth 100000 in
theorem lifted (os : Os) (started : os.Started) (H : Type) (enc : TypeId × Value → H) :
    ReturnsInHanded {} Tryd.checked os 3 .any (fun w args => (Rows.tabcBackSpec.pre enc Tryd.prog Tryd.f3 [] false w args ∧ laidMetH Tryd.prog Rows.tabcBackRow.laid w) ∧ sizedMet enc Tryd.prog Tryd.f3 (OpenSpec.ofChange Rows.tabcBackSpec) false w args)
      (Rows.tabcBackSpec.post enc Tryd.prog Tryd.f3 false true false false) := by
  refine returnsInHanded_of_change_and (C := Tryd.checked) (X := fun w _ => laidMetH Tryd.prog Rows.tabcBackRow.laid w) (fun _ _ _ hh h => h.of_heap hh) own started (by kernel_rfl) Tryd.func3
    (ChangeSpec.witness_shaped (enc := enc) (C := Tryd.checked) (os := os) (X := fun w _ => laidMetH Tryd.prog Rows.tabcBackRow.laid w) false (World.doorLaid Tryd.prog 400 os) #[.agg #[.int .i64 0, .int .i64 0, .bool false, .slice none 0 0, .int .i64 0, .int .i64 0, .int .i64 0, .int .i64 0, .slice none 0 0], .string ⟨#[]⟩, .int .i64 0, .string ⟨#[]⟩] 8 rfl (World.shaped_of_RefB (by kernel_rfl) (by kernel_rfl)) (by kernel_rfl) (by kernel_rfl) (by kernel_rfl) (door_met os _)) ?_
  intro W base args ds gs before hval0 hW _ hsz hL _
  rw [MakeChecks.laidMetH_plain _ _ _ (by kernel_rfl)] at hL
  have htab := t32_laid hL
  clear hL
  have hval : ∀ (j : Nat) t v, Tryd.f3.params[j]? = some t → args[j]? = some v → Value.okWide Tryd.prog W .any base t v := hval0
  have hW' := hW
  obtain ⟨p, q, hA0, hV, rfl, hfz, hnd⟩ := hW
  have hA : DataW.TrodAll enc Tryd.prog W 0 (fun _ => true) true Tryd.f3.params.toList args.toList ds p := hA0
  rw [Tryd.params3] at hA hval
  obtain ⟨v0, vs0, d0, ds0, p0, q0, hargs, rfl, rfl, h0, r0⟩ := trodAll_cons hA
  obtain ⟨v1, vs1, d1, ds1, p1, q1, rfl, rfl, rfl, h1, r1⟩ := trodAll_cons r0
  obtain ⟨v2, vs2, d2, ds2, p2, q2, rfl, rfl, rfl, h2, r2⟩ := trodAll_cons r1
  obtain ⟨v3, vs3, d3, ds3, p3, q3, rfl, rfl, rfl, h3, r3⟩ := trodAll_cons r2
  obtain ⟨rfl, rfl, rfl⟩ := trodAll_nil r3
  obtain rfl : args = #[v0, v1, v2, v3] := by cases args; simp_all
  obtain ⟨rfl, rfl⟩ := trodVars_none hV
  obtain ⟨F, O, W1, Q, D, a, A, c, P, k, qs, rfl, g0, l0, u1, u2, u3⟩ := open_tab (hval 0 _ _ rfl rfl) h0
  obtain ⟨b1, rfl, e1, e1', l1⟩ := Go.ChangeMaps.open_string Tryd.underlying9 (hval 1 _ _ rfl rfl) h1
  obtain ⟨a2, rfl, e2, e2', g2⟩ := open_int Tryd.underlying3 (hval 2 _ _ rfl rfl) h2
  obtain ⟨b3, rfl, e3, e3', l3⟩ := Go.ChangeMaps.open_string Tryd.underlying9 (hval 3 _ _ rfl rfl) h3
  have q1 : b1.data.toList.length ≤ reachBytes := by
    subst e1
    exact sized_string (j := 1) (t := 9) hsz rfl rfl
  have q3 : b3.data.toList.length ≤ reachBytes := by
    subst e3
    exact sized_string (j := 3) (t := 9) hsz rfl rfl
  clear hA0
  simp only [List.append_nil] at hW'
  refine (back_law A P c k F O W1 Q D a qs b1 b3 a2 W g0 u1 u2 u3 l0 htab (by have := q1; unfold reachBytes at this; simp at this; omega) (by have := q3; unfold reachBytes at this; simp at this; omega) (i64_lo g2) (i64_hi g2)).mono fun e W' ⟨he, hb⟩ => ?_
  subst he
  have hlt := hW'.lt
  refine ⟨_, rfl, law_post (tb := 4) hW' hb rfl rfl Tryd.underlying4 rfl rfl fun sp hsp => ?_⟩
  have hr := trodAll_cons_mk (again (by kernel_rfl) (of_decide_eq_true (by kernel_rfl)) h0 hb (fun x hx => hlt x (by simp [hx])) sp (fun x hx => hsp x (by simp [hx]))) (trodAll_cons_mk (again (by kernel_rfl) (of_decide_eq_true (by kernel_rfl)) h1 hb (fun x hx => hlt x (by simp [hx])) sp (fun x hx => hsp x (by simp [hx]))) (trodAll_cons_mk (again (by kernel_rfl) (of_decide_eq_true (by kernel_rfl)) h2 hb (fun x hx => hlt x (by simp [hx])) sp (fun x hx => hsp x (by simp [hx]))) (trodAll_cons_mk (again (by kernel_rfl) (of_decide_eq_true (by kernel_rfl)) h3 hb (fun x hx => hlt x (by simp [hx])) sp (fun x hx => hsp x (by simp [hx]))) trodAll_mk0)))
  simp only [List.append_nil] at hr
  exact hr
theorem row_holds : Rows.TabcBackSaid :=
  OpenClaim.holds_of_wide 3 Tryd.f3 rfl rfl rfl rfl rfl rfl rfl ⟨rfl, rfl, rfl, rfl, rfl⟩ rfl rfl rfl rfl rfl (by kernel_rfl) Tryd.func3 (by kernel_rfl)
    (of_decide_eq_true (by kernel_rfl)) (by unfold Func.isWrapper; first | (rw [if_pos (by decide +kernel)]; kernel_rfl) | (rw [if_neg (by decide +kernel)]; exact ⟨rfl, rfl⟩))
    (fun os started H enc _ => lifted os started H enc)
/-- THE TIED CARD. -/
theorem proved : Rows.TabcBackCardSaid :=
  Claim7.holds_tied_plain_at .later [] [.data] true (true, "9a7879e5c480726bccb6e5b1b99a1e513fb5047d72098107f89e42cc2d5490b1") false
    row_holds (fun _ h => by cases h) (by kernel_rfl) (fun _ h => by cases h) tabcBack_row_tie rfl ⟨rfl, rfl⟩ (by kernel_rfl) rfl
    (fun f fn hf hfn => by
      obtain rfl : f = 3 := Option.some.inj ((show Tryd.prog.funcNamed Rows.tabcBackRow.func = some 3 by kernel_rfl).symm.trans hf) |>.symm
      obtain rfl : fn = Tryd.f3 := (Option.some.inj (Tryd.func3.symm.trans hfn)).symm
      exact ⟨by kernel_rfl, fun j t ht => by
        have hall : (Tryd.f3.params.toList.all fun u => !Tryd.prog.wantsStandIn u) = true := by kernel_rfl
        exact (show Tryd.prog.wantsStandIn t = false by simpa using List.all_eq_true.1 hall t (Array.mem_toList_iff.2 (Array.mem_of_getElem? ht)))⟩)
    (by kernel_rfl)
end Go.Proofs.YtfhdhldgflbpjaaDoor.tabcBack
end
