import Derived.Test.YtdmfapgclppmhaaGreatDoorMB6
import Derived.Test.YtdmfapgclppmhaaGreatDoorMB7
import Derived.Test.YtdmfapgclppmhaaGreatDoorMB1
set_option maxHeartbeats 16000000
set_option maxRecDepth 100000
section
namespace Go.Proofs.YtdmfapgclppmhaaGreatDoor
open Go.RowKit
theorem piece_of {p : Pd} {D : Int} (h0 : 1 ≤ D) (h1 : D ≤ 16) : pieceB p D = (fitsB p && ((decide (-30 ≤ p.w) && decide (p.w ≤ 10)) && decide ((p.cs.length : Int) = D + 1))) := by
  rw [Bool.eq_iff_iff]
  unfold pieceB fitsB fitsH
  simp only [Bool.and_eq_true, decide_eq_true_eq]
  constructor
  · rintro ⟨⟨a0, a1⟩, a2, ⟨a3, a4⟩, a5, a6⟩
    exact ⟨⟨⟨a3, ⟨⟨by omega, by omega⟩, ⟨by omega, by omega⟩, a4, a6⟩⟩, a5⟩, ⟨a0, a1⟩, a2⟩
  · rintro ⟨⟨⟨a3, ⟨_, _, a4, a6⟩⟩, a5⟩, ⟨a0, a1⟩, a2⟩
    exact ⟨⟨a0, a1⟩, a2, ⟨a3, a4⟩, a5, a6⟩
theorem r15right_no (A P : Option Addr) (c n k : Nat) (F O W Q D : Int) (s : Bool) (xs : List Nat) (x : Int) (w : World) (h : Dg w A c xs) (hl : xs.length ≤ 10000) (hq : ((decide (1 ≤ F) && decide (F ≤ 10)) && ((decide (0 ≤ O) && decide (O ≤ 64)) && (plainB s xs x && ((decide (-30 ≤ W) && decide (W ≤ 10)) && ((decide (4 ≤ Q) && decide (Q ≤ 48)) && ((decide (1 ≤ D) && decide (D ≤ 16)) && (decide (1 ≤ n) && decide (n ≤ 32)))))))) = false) :
    Calls Tryz.prog 18 #[.agg #[.int .i64 F, .int .i64 O, .bool s, .slice A xs.length c, .int .i64 x, .int .i64 W, .int .i64 Q, .int .i64 D, .slice P n k]] w fun e w' => e = .returned (.bool false) ∧ Below w.heap.size w w' := by
  have H := qH h
  have HL := qH hl
  have HQ := qH hq
  clear h hl hq
  go_enter Tryz.func18, Tryz.ntmps18
  go_upto_region 1 with fail
  obtain ⟨v1, hW⟩ : ∃ V : World, w.alloc (.cells #[.int .i64 F, .int .i64 O, .bool s, .slice A xs.length c, .int .i64 x, .int .i64 W, .int .i64 Q, .int .i64 D, .slice P n k] 29) = V := ⟨_, rfl⟩
  rw [hW]
  have B1 := qH (show Below w.heap.size w v1 by rw [← hW]; exact below1 _ _)
  have R1 := qH (show v1.heap[w.heap.size]? = some (.cells #[.int .i64 F, .int .i64 O, .bool s, .slice A xs.length c, .int .i64 x, .int .i64 W, .int .i64 Q, .int .i64 D, .slice P n k] 29 (0, 0)) by rw [← hW]; exact heap_alloc_new _ _)
  clear hW
  obtain ⟨f0, zf0, f1, zf1, f2, zf2, f3, zf3, f4, zf4, f5, zf5, f6, zf6, f7, zf7, f8, zf8, xf⟩ := ly9z R1.out
  by_cases k0 : F < 1
  · have d0 : decide (F < 1) = true := decide_eq_true k0
    clear k0
    go_wp2_with fail
    go_ret
    exact ⟨rfl, B1.out⟩
  · have d0 : decide (F < 1) = false := decide_eq_false k0
    by_cases k1 : 10 < F
    · have d1 : decide (10 < F) = true := decide_eq_true k1
      clear k0 k1
      go_wp2_with fail
      go_ret
      exact ⟨rfl, B1.out⟩
    · have d1 : decide (10 < F) = false := decide_eq_false k1
      by_cases k2 : O < 0
      · have d2 : decide (O < 0) = true := decide_eq_true k2
        clear k0 k1 k2
        go_wp2_with fail
        go_ret
        exact ⟨rfl, B1.out⟩
      · have d2 : decide (O < 0) = false := decide_eq_false k2
        by_cases k3 : 64 < O
        · have d3 : decide (64 < O) = true := decide_eq_true k3
          clear k0 k1 k2 k3
          go_wp2_with fail
          go_ret
          exact ⟨rfl, B1.out⟩
        · have d3 : decide (64 < O) = false := decide_eq_false k3
          obtain ⟨rp, hrp⟩ : ∃ t, plainB s xs x = t := ⟨_, rfl⟩
          have HP := qH hrp
          clear hrp
          go_wp2_with fail
          refine (r15plain_any (H.out.below B1.out) HL.out HP.out).mono ?_
          rintro e v2 ⟨rfl, hb⟩
          have B2 := qH (B1.out.trans (hb.mono B1.out.size))
          have R2 := co R1 hb
          clear hb f0 zf0 f1 zf1 f2 zf2 f3 zf3 f4 zf4 f5 zf5 f6 zf6 f7 zf7 f8 zf8 xf
          obtain ⟨f0, zf0, f1, zf1, f2, zf2, f3, zf3, f4, zf4, f5, zf5, f6, zf6, f7, zf7, f8, zf8, xf⟩ := ly9z R2.out
          cases rp
          · go_wp2_with fail
            go_ret
            exact ⟨rfl, B2.out⟩
          · have HP := HP
            by_cases k5 : W < -30
            · have d5 : decide (W < -30) = true := decide_eq_true k5
              clear k0 k1 k2 k3 k5
              go_wp2_with fail
              go_ret
              exact ⟨rfl, B2.out⟩
            · have d5 : decide (W < -30) = false := decide_eq_false k5
              by_cases k6 : 10 < W
              · have d6 : decide (10 < W) = true := decide_eq_true k6
                clear k0 k1 k2 k3 k5 k6
                go_wp2_with fail
                go_ret
                exact ⟨rfl, B2.out⟩
              · have d6 : decide (10 < W) = false := decide_eq_false k6
                by_cases k7 : Q < 4
                · have d7 : decide (Q < 4) = true := decide_eq_true k7
                  clear k0 k1 k2 k3 k5 k6 k7
                  go_wp2_with fail
                  go_ret
                  exact ⟨rfl, B2.out⟩
                · have d7 : decide (Q < 4) = false := decide_eq_false k7
                  by_cases k8 : 48 < Q
                  · have d8 : decide (48 < Q) = true := decide_eq_true k8
                    clear k0 k1 k2 k3 k5 k6 k7 k8
                    go_wp2_with fail
                    go_ret
                    exact ⟨rfl, B2.out⟩
                  · have d8 : decide (48 < Q) = false := decide_eq_false k8
                    by_cases k9 : D < 1
                    · have d9 : decide (D < 1) = true := decide_eq_true k9
                      clear k0 k1 k2 k3 k5 k6 k7 k8 k9
                      go_wp2_with fail
                      go_ret
                      exact ⟨rfl, B2.out⟩
                    · have d9 : decide (D < 1) = false := decide_eq_false k9
                      by_cases k10 : 16 < D
                      · have d10 : decide (16 < D) = true := decide_eq_true k10
                        clear k0 k1 k2 k3 k5 k6 k7 k8 k9 k10
                        go_wp2_with fail
                        go_ret
                        exact ⟨rfl, B2.out⟩
                      · have d10 : decide (16 < D) = false := decide_eq_false k10
                        by_cases k11 : n < 1
                        · have d11 : decide (n < 1) = true := decide_eq_true k11
                          have e11 : decide ((n : Int) < 1) = true := decide_eq_true (by omega)
                          clear k0 k1 k2 k3 k5 k6 k7 k8 k9 k10 k11
                          go_wp2_with fail
                          go_ret
                          exact ⟨rfl, B2.out⟩
                        · have d11 : decide (n < 1) = false := decide_eq_false k11
                          have e11 : decide ((n : Int) < 1) = false := decide_eq_false (by omega)
                          by_cases k12 : 32 < n
                          · have d12 : decide (32 < n) = true := decide_eq_true k12
                            have e12 : decide (32 < (n : Int)) = true := decide_eq_true (by omega)
                            clear k0 k1 k2 k3 k5 k6 k7 k8 k9 k10 k11 k12
                            go_wp2_with fail
                            go_ret
                            exact ⟨rfl, B2.out⟩
                          · have d12 : decide (32 < n) = false := decide_eq_false k12
                            have e12 : decide (32 < (n : Int)) = false := decide_eq_false (by omega)
                            exfalso
                            have hq := HQ.out
                            rw [HP.out, Bool.eq_false_iff] at hq
                            apply hq
                            simp only [Bool.and_eq_true, decide_eq_true_eq, true_and]
                            omega
theorem r15right_go (A : Option Addr) (c b o k n : Nat) (m x F O W Q D : Int) (ps : List Pd) (w : World) (h : Dg w A c (digs m.natAbs)) (hl : (digs m.natAbs).length ≤ 10000) (r1 : Rt m x) (hb : b < w.heap.size) (hps : PsW w b o ps) (hsm : SmP ps) (hn : ps.length = n) (h0 : 1 ≤ F ∧ F ≤ 10) (h1 : 0 ≤ O ∧ O ≤ 64) (h2 : plainB (decide (m < 0)) (digs m.natAbs) x = true) (h3 : -30 ≤ W ∧ W ≤ 10) (h4 : 4 ≤ Q ∧ Q ≤ 48) (h5 : 1 ≤ D ∧ D ≤ 16) (h6 : 1 ≤ n ∧ n ≤ 32) {q : Bool} (hq : (rightL D ps (m, x) == some (endq m x W)) = q) :
    Calls Tryz.prog 18 #[.agg #[.int .i64 F, .int .i64 O, .bool (decide (m < 0)), .slice A (digs m.natAbs).length c, .int .i64 x, .int .i64 W, .int .i64 Q, .int .i64 D, .slice (some ⟨b, o, none⟩) n k]] w fun e w' => e = .returned (.bool q) ∧ Below w.heap.size w w' := by
  have lx := qH hl
  have HR1 := qH r1
  have HBB := qH hb
  have HPS := qH hps
  have HSM := qH hsm
  have HN := qH hn
  have HQ := qH hq
  have HW := qH h3
  have HN6 := qH h6
  have HD := qH h5
  have HPL := qH h2
  have d0 : decide (F < 1) = false := decide_eq_false (by omega)
  have d1 : decide (10 < F) = false := decide_eq_false (by omega)
  have d2 : decide (O < 0) = false := decide_eq_false (by omega)
  have d3 : decide (64 < O) = false := decide_eq_false (by omega)
  have d5 : decide (W < -30) = false := decide_eq_false (by omega)
  have d6 : decide (10 < W) = false := decide_eq_false (by omega)
  have d7 : decide (Q < 4) = false := decide_eq_false (by omega)
  have d8 : decide (48 < Q) = false := decide_eq_false (by omega)
  have d9 : decide (D < 1) = false := decide_eq_false (by omega)
  have d10 : decide (16 < D) = false := decide_eq_false (by omega)
  have d11 : decide (n < 1) = false := decide_eq_false (by omega)
  have e11 : decide ((n : Int) < 1) = false := decide_eq_false (by omega)
  have d12 : decide (32 < n) = false := decide_eq_false (by omega)
  have e12 : decide (32 < (n : Int)) = false := decide_eq_false (by omega)
  have L0 := qH ((live_start w).add h)
  clear h hl r1 hb hps hsm hq h0 h1 h2 h3 h4 h5 h6 hn
  go_enter Tryz.func18, Tryz.ntmps18
  go_upto_region 1 with fail
  obtain ⟨v1, hW, hb, Rt_1⟩ := new1 w (.cells #[.int .i64 F, .int .i64 O, .bool (decide (m < 0)), .slice A (digs m.natAbs).length c, .int .i64 x, .int .i64 W, .int .i64 Q, .int .i64 D, .slice (some ⟨b, o, none⟩) n k] 29)
  rw [← hW]
  have L1 := ls L0 hb
  clear hW hb
  obtain ⟨ft0, zt0, ft1, zt1, ft2, zt2, ft3, zt3, ft4, zt4, ft5, zt5, ft6, zt6, ft7, zt7, ft8, zt8, xt⟩ := ly9z Rt_1.out
  go_wp2_with fail
  refine (r15plain_any (L1.out.get (A := A) (c := c) (xs := digs m.natAbs) (by simp)) lx.out HPL.out).mono ?_
  rintro e w4 ⟨rfl, hb⟩
  have L4 := ls L1 hb
  clear ft0 zt0 ft1 zt1 ft2 zt2 ft3 zt3 ft4 zt4 ft5 zt5 ft6 zt6 ft7 zt7 ft8 zt8 xt
  have Rt_4 := co Rt_1 hb
  clear hb
  obtain ⟨ft0, zt0, ft1, zt1, ft2, zt2, ft3, zt3, ft4, zt4, ft5, zt5, ft6, zt6, ft7, zt7, ft8, zt8, xt⟩ := ly9z Rt_4.out
  go_wp2
  clear d0 d1 d2 d3 d5 d6 d7 d8 d9 d10 d11 d12 e11 e12
  obtain ⟨w9, hW, hb, Rnx_9⟩ := new1 w4 (.cells #[.bool (decide (m < 0)), .slice A (digs m.natAbs).length c, .int .i64 x] 26)
  rw [← hW]
  have L9 := ls L4 hb
  have Rt_9 := co Rt_4 hb
  have Gnx := gl0 L4.out
  have Ntnx := nl0 Rt_4.out
  clear hW hb ft0 zt0 ft1 zt1 ft2 zt2 ft3 zt3 ft4 zt4 ft5 zt5 ft6 zt6 ft7 zt7 ft8 zt8 xt
  go_loopw [4] (fun i wr => ∃ (j : Nat) (K E : Int) (A1 : Option Addr) (c1 : Nat), j ≤ n ∧ i = .int .i64 j ∧ Hid (rightL D (ps.take j) (m, x) = some (K, E)) ∧ Hid (Rt K E ∧ (digs K.natAbs).length ≤ 10000) ∧ Hid (Below w.heap.size w wr) ∧ Hid (wr.heap[w.heap.size]? = some (.cells #[.int .i64 F, .int .i64 O, .bool (decide (m < 0)), .slice A (digs m.natAbs).length c, .int .i64 x, .int .i64 W, .int .i64 Q, .int .i64 D, .slice (some ⟨b, o, none⟩) n k] 29 (0, 0))) ∧ Hid (wr.heap[w4.heap.size]? = some (.cells #[.bool (decide (K < 0)), .slice A1 (digs K.natAbs).length c1, .int .i64 E] 26 (0, 0))) ∧ Hid (Dg wr A1 c1 (digs K.natAbs))) (fun i _ => n - (intOf i).toNat)
  case atStart => exact ⟨0, m, x, A, c, Nat.zero_le _, rfl, qH rfl, qH ⟨HR1.out, lx.out⟩, qH L9.out.1, Rt_9, Rnx_9, qH (L9.out.get (A := A) (c := c) (xs := digs m.natAbs) (by simp))⟩
  case round =>
    obtain ⟨j, K, E, A1, c1, hj, rfl, HL, HK, HB, HRT, HRN, HD1⟩ := hrel
    have L0r := qH (((L0.out.step HB.out)).add HD1.out)
    have GTn : w.heap.size < wr.heap.size := heap_lt HRT.out
    by_cases hlt : j < n
    · obtain ⟨p, hp⟩ : ∃ p, ps[j]? = some p := ⟨_, List.getElem?_eq_getElem (by have := HN.out; omega)⟩
      obtain ⟨A2, c2, B2, d2, P2, k2, e0, e1, e2, e3, e4, e5, e6, e7, hda, hde, hns⟩ := HPS.out j p hp
      have HP := qH hp
      have SM := qH (HSM.out p (List.mem_of_getElem? hp))
      have HLT := qH hlt
      have g0 := (HB.out.cell (p := ⟨b, o + j * 8, none⟩) HBB.out).trans e0
      have g1 := (HB.out.cell (p := ⟨b, o + j * 8 + 1, none⟩) HBB.out).trans e1
      have g2 := (HB.out.cell (p := ⟨b, o + j * 8 + 2, none⟩) HBB.out).trans e2
      have g3 := (HB.out.cell (p := ⟨b, o + j * 8 + 3, none⟩) HBB.out).trans e3
      have g4 := (HB.out.cell (p := ⟨b, o + j * 8 + 4, none⟩) HBB.out).trans e4
      have g5 := (HB.out.cell (p := ⟨b, o + j * 8 + 5, none⟩) HBB.out).trans e5
      have g6 := (HB.out.cell (p := ⟨b, o + j * 8 + 6, none⟩) HBB.out).trans e6
      have g7 := (HB.out.cell (p := ⟨b, o + j * 8 + 7, none⟩) HBB.out).trans e7
      have LR := qH ((L0r.out.add (hda.below HB.out)).add (hde.below HB.out))
      have HNS := qH hns
      clear e0 e1 e2 e3 e4 e5 e6 e7 hda hde hns hp
      obtain ⟨pb, hpb⟩ : ∃ r, fitsB p = r := ⟨_, rfl⟩
      have HPB := qH hpb
      clear hpb
      obtain ⟨ft0, zt0, ft1, zt1, ft2, zt2, ft3, zt3, ft4, zt4, ft5, zt5, ft6, zt6, ft7, zt7, ft8, zt8, xt⟩ := ly9z HRT.out
      go_upto_region 8 with fail
      obtain ⟨w10, hW, hb, Rp_10⟩ := new1 wr (.cells #[.bool p.a.1, .slice A2 p.a.2.1.length c2, .int .i64 p.a.2.2, .int .i64 p.w, .slice P2 p.cs.length k2, .bool p.er.1, .slice B2 p.er.2.1.length d2, .int .i64 p.er.2.2] 49)
      rw [← hW]
      have L10 := ls LR hb
      have Rt_10 := co HRT hb
      have Rnx_10 := co HRN hb
      have Gp := gl0 LR.out
      have Ntp := nl0 HRT.out
      have Nnxp := nl0 HRN.out
      clear hW hb
      clear ft0 zt0 ft1 zt1 ft2 zt2 ft3 zt3 ft4 zt4 ft5 zt5 ft6 zt6 ft7 zt7 ft8 zt8 xt
      clear g0 g1 g2 g3 g4 g5 g6 g7
      obtain ⟨fp0, zp0, fp1, zp1, fp2, zp2, fp3, zp3, fp4, zp4, fp5, zp5, fp6, zp6, fp7, zp7, xp⟩ := ly8z Rp_10.out
      go_wp2_with fail
      refine (r15fits_any (p := p) (q := pb) (L10.out.get (A := A2) (c := c2) (xs := p.a.2.1) (by simp)) (L10.out.get (A := B2) (c := d2) (xs := p.er.2.1) (by simp)) SM.out.1 SM.out.2.1 (HNS.out.below L10.out.1) SM.out.2.2 HPB.out).mono ?_
      rintro e w11 ⟨rfl, hb⟩
      have L11 := ls L10 hb
      clear fp0 zp0 fp1 zp1 fp2 zp2 fp3 zp3 fp4 zp4 fp5 zp5 fp6 zp6 fp7 zp7 xp
      have Rt_11 := co Rt_10 hb
      have Rnx_11 := co Rnx_10 hb
      have Rp_11 := co Rp_10 hb
      clear hb
      have PO := qH (piece_of (p := p) HD.out.1 HD.out.2)
      cases pb
      · have HQF := qH (show q = false by rw [← HQ.out, right_none HP.out HL.out (by rw [PO.out, HPB.out]; rfl)]; rfl)
        go_wp2
        try rw [Exit.noGoto_ret]
        go_ret
        exact ⟨by rw [HQF.out]; rfl, L11.out.1⟩
      · obtain ⟨n2, hn2⟩ : ∃ t, p.cs.length = t := ⟨_, rfl⟩
        obtain ⟨D1, hD1⟩ : ∃ t, D + 1 = t := ⟨_, rfl⟩
        rw [hn2] at Rp_11 ⊢
        have hwD : wrap64 (D + 1) = D1 := by have := HD.out; rw [← hD1]; exact IntWalk.wrap64_in _ ⟨by omega, by omega⟩
        have hiD : IntKind.i64.wrap (D + 1) = D1 := by have := HD.out; rw [← hD1]; exact IntWalk.i64_in _ (by omega)
        have HN2 := qH hn2
        have HDD := qH hD1
        clear hn2 hD1
        obtain ⟨ft0, zt0, ft1, zt1, ft2, zt2, ft3, zt3, ft4, zt4, ft5, zt5, ft6, zt6, ft7, zt7, ft8, zt8, xt⟩ := ly9z Rt_11.out
        obtain ⟨fnx0, znx0, fnx1, znx1, fnx2, znx2, xnx⟩ := ly3 Rnx_11.out
        obtain ⟨fp0, zp0, fp1, zp1, fp2, zp2, fp3, zp3, fp4, zp4, fp5, zp5, fp6, zp6, fp7, zp7, xp⟩ := ly8z Rp_11.out
        obtain ⟨pw, hpw⟩ : ∃ t, p.w = t := ⟨_, rfl⟩
        have HPW := qH hpw
        rw [hpw] at fp3 Rp_11 ⊢
        clear hpw
        by_cases k1 : pw < -30
        · have d1 : decide (pw < -30) = true := decide_eq_true k1
          have HQF := qH (show q = false by rw [← HQ.out, right_none HP.out HL.out (by rw [PO.out, HPW.out, decide_eq_false (show ¬ -30 ≤ pw by omega)]; simp)]; rfl)
          clear k1
          go_wp2
          try rw [Exit.noGoto_ret]
          go_ret
          exact ⟨by rw [HQF.out]; rfl, L11.out.1⟩
        · have d1 : decide (pw < -30) = false := decide_eq_false k1
          by_cases k2 : 10 < pw
          · have d2 : decide (10 < pw) = true := decide_eq_true k2
            have HQF := qH (show q = false by rw [← HQ.out, right_none HP.out HL.out (by rw [PO.out, HPW.out, decide_eq_false (show ¬ pw ≤ 10 by omega)]; simp)]; rfl)
            clear k1 k2
            go_wp2
            try rw [Exit.noGoto_ret]
            go_ret
            exact ⟨by rw [HQF.out]; rfl, L11.out.1⟩
          · have d2 : decide (10 < pw) = false := decide_eq_false k2
            by_cases k3 : (n2 : Int) = D1
            · have HWB := qH (show -30 ≤ pw ∧ pw ≤ 10 by omega)
              have HK3 := qH (show pieceB p D = true by rw [PO.out, HPB.out, HPW.out, HN2.out, HDD.out, k3, decide_eq_true (show -30 ≤ pw by omega), decide_eq_true (show pw ≤ 10 by omega)]; simp)
              have d3 : ((n2 : Int) != D1) = false := by simp [k3]
              clear k1 k2 k3
              have hnb : nmB p.a = true := by have := HK3.out; unfold pieceB at this; simp only [Bool.and_eq_true] at this; exact this.2.2.1.1
              unfold nmB mayB at hnb
              rw [Bool.and_eq_true] at hnb
              obtain ⟨m2, hm2, hs2, rr2⟩ := num_of ((L11.out.get (A := A2) (c := c2) (xs := p.a.2.1) (by simp))).2.1 hnb.1
              have hnv : nmv p.a = m2 := by unfold nmv; rw [← hm2, ← hs2, val_digs]; exact sg_dzM m2
              obtain ⟨qs, hqs⟩ : ∃ t, decide (m2 = K ∧ p.a.2.2 = E) = t := ⟨_, rfl⟩
              have HC := qH (fun (V : World) (ha : Dg V A2 c2 p.a.2.1) (hb : Dg V A1 c1 (digs K.natAbs)) => (by rw [← hm2] at ha; have := dSame_q ha hb (by rw [hm2]; exact SM.out.1) hqs; rw [hm2, hs2] at this; exact this : Calls Tryz.prog 34 #[.agg #[.bool p.a.1, .slice A2 p.a.2.1.length c2, .int .i64 p.a.2.2], .agg #[.bool (decide (K < 0)), .slice A1 (digs K.natAbs).length c1, .int .i64 E]] V fun e w' => e = .returned (.bool qs) ∧ Below V.heap.size V w'))
              obtain ⟨⟨K2, F2⟩, hkf⟩ : ∃ t, endq m2 p.a.2.2 pw = t := ⟨_, rfl⟩
              have HE := qH (fun (V : World) (ha : Dg V A2 c2 p.a.2.1) => (by rw [← hm2] at ha; have := r15end_q ha (by rw [hm2]; exact SM.out.1) rr2 HWB.out.1 HWB.out.2 hkf; rw [hm2, hs2] at this; exact this : Calls Tryz.prog 35 #[.agg #[.bool p.a.1, .slice A2 p.a.2.1.length c2, .int .i64 p.a.2.2], .int .i64 pw] V fun e w' => Yr K2 F2 V e w'))
              have RK2 := qH (endq_rt m2 p.a.2.2 pw)
              rw [hkf] at RK2
              go_wp2_with fail
              refine (HC.out _ (L11.out.get (A := A2) (c := c2) (xs := p.a.2.1) (by simp)) (L11.out.get (A := A1) (c := c1) (xs := digs K.natAbs) (by simp))).mono ?_
              rintro e w12 ⟨rfl, hb⟩
              have L12 := ls L11 hb
              clear fnx0 znx0 fnx1 znx1 fnx2 znx2 xnx ft0 zt0 ft1 zt1 ft2 zt2 ft3 zt3 ft4 zt4 ft5 zt5 ft6 zt6 ft7 zt7 ft8 zt8 xt fp0 zp0 fp1 zp1 fp2 zp2 fp3 zp3 fp4 zp4 fp5 zp5 fp6 zp6 fp7 zp7 xp
              have Rt_12 := co Rt_11 hb
              have Rnx_12 := co Rnx_11 hb
              have Rp_12 := co Rp_11 hb
              clear hb
              cases qs
              · have HQF := qH (show q = false by rw [← HQ.out, right_none (r := (K, E)) HP.out HL.out (by rw [HK3.out, hnv]; dsimp only; rw [hqs]; rfl)]; rfl)
                clear hnb hm2 hs2 rr2 hnv hqs hkf
                go_wp2
                try rw [Exit.noGoto_ret]
                go_ret
                exact ⟨by rw [HQF.out]; rfl, L12.out.1⟩
              · have HRS := qH (right_some (r := (K, E)) HP.out HL.out (by rw [HK3.out, hnv]; dsimp only; rw [hqs]; rfl))
                rw [decide_eq_true_eq] at hqs
                rw [← hqs.1, ← hqs.2, HPW.out, hkf] at HRS
                clear hnb hm2 hs2 rr2 hnv hqs hkf
                obtain ⟨fp0, zp0, fp1, zp1, fp2, zp2, fp3, zp3, fp4, zp4, fp5, zp5, fp6, zp6, fp7, zp7, xp⟩ := ly8z Rp_12.out
                obtain ⟨fnx0, znx0, fnx1, znx1, fnx2, znx2, xnx⟩ := ly3 Rnx_12.out
                go_wp2_with fail
                refine (HE.out _ (L12.out.get (A := A2) (c := c2) (xs := p.a.2.1) (by simp))).mono ?_
                rintro e w13 ⟨A13, c13, rfl, hd, hb⟩
                have L13 := la L12 hb hd
                clear fp0 zp0 fp1 zp1 fp2 zp2 fp3 zp3 fp4 zp4 fp5 zp5 fp6 zp6 fp7 zp7 xp fnx0 znx0 fnx1 znx1 fnx2 znx2 xnx
                have Rt_13 := co Rt_12 hb
                have Rnx_13 := co Rnx_12 hb
                have Rp_13 := co Rp_12 hb
                clear hb hd
                obtain ⟨fnx0, znx0, fnx1, znx1, fnx2, znx2, xnx⟩ := ly3 Rnx_13.out
                go_wp2
                obtain ⟨w14, hW⟩ : ∃ W : World, W = (((w13.setCell ⟨w4.heap.size, 0, none⟩ (.bool (decide (K2 < 0)))).setCell ⟨w4.heap.size, 1, none⟩ (.slice A13 (digs K2.natAbs).length c13)).setCell ⟨w4.heap.size, 2, none⟩ (.int .i64 F2)) := ⟨_, rfl⟩
                rw [← hW]
                have hO : Only (w4.heap.size) w13 w14 := by rw [hW]; exact ((((Only.refl (w4.heap.size) w13).setCell 0 _).setCell 1 _).setCell 2 _)
                have L14 := qH (live_only L13.out hO Rnx_13.out noint_dy Gnx)
                have Rt_14 := qH ((hO.block _ (by omega)).trans Rt_13.out)
                have Rnx_14 := qH (show w14.heap[w4.heap.size]? = some (.cells #[.bool (decide (K2 < 0)), .slice A13 (digs K2.natAbs).length c13, .int .i64 F2] 26 (0, 0)) by rw [hW]; exact (heap_setCell_same _ _ 2 _ _ _ (heap_setCell_same _ _ 1 _ _ _ (heap_setCell_same _ _ 0 _ _ _ Rnx_13.out))))
                clear hW hO
                clear fnx0 znx0 fnx1 znx1 fnx2 znx2 xnx hwD hiD d1 d2 d3
                go_roundw
                case rel =>
                  have hlen := HN6.out
                  have hlt := HLT.out
                  have hw : wrap64 ((j : Int) + 1) = (j : Int) + 1 := IntWalk.wrap64_in _ ⟨by omega, by omega⟩
                  first
                    | exact ⟨j + 1, K2, F2, A13, c13, HLT.out, by rw [hw]; exact congrArg _ (by omega), HRS, RK2, qH L14.out.1, Rt_14, Rnx_14, qH (L14.out.get (A := A13) (c := c13) (xs := digs K2.natAbs) (by simp))⟩
                    | (refine ⟨_, _, _, _, _, _, _, _, _, _, _, _, _, _, _, _, _, _, _, _, _, _, _, _, _, _, _, _, _, _, _, _, _, _, _, _, _, _, _, _, _, _, _, _, _, _, _, _, _, _, ⟨j + 1, K2, F2, A13, c13, HLT.out, ?_, HRS, RK2, qH L14.out.1, Rt_14, Rnx_14, qH (L14.out.get (A := A13) (c := c13) (xs := digs K2.natAbs) (by simp))⟩, rfl⟩; rw [hw]; exact congrArg _ (by omega))
                case measure =>
                  have hlen := HN6.out
                  have hlt := HLT.out
                  have hw : wrap64 ((j : Int) + 1) = (j : Int) + 1 := IntWalk.wrap64_in _ ⟨by omega, by omega⟩
                  rw [hw]
                  simp [intOf]; omega
            · have d3 : ((n2 : Int) != D1) = true := by simpa using k3
              have HQF := qH (show q = false by rw [← HQ.out, right_none HP.out HL.out (by rw [PO.out, HN2.out, HDD.out, decide_eq_false k3]; simp)]; rfl)
              clear k1 k2 k3
              go_wp2
              try rw [Exit.noGoto_ret]
              go_ret
              exact ⟨by rw [HQF.out]; rfl, L11.out.1⟩
    · obtain rfl : j = n := by omega
      have hl2 := HL.out
      rw [← HN.out, List.take_length] at hl2
      obtain ⟨⟨Z1, Z2⟩, hzz⟩ : ∃ t, endq m x W = t := ⟨_, rfl⟩
      have RZ := endq_rt m x W
      rw [hzz] at RZ
      dsimp only at RZ
      have hqz : decide (K = Z1 ∧ E = Z2) = q := by
        rw [← HQ.out, hl2, hzz, Bool.eq_iff_iff]
        simp only [beq_iff_eq, Option.some.injEq, Prod.mk.injEq, decide_eq_true_eq]
      have HZ := qH hzz
      have HQZ := qH hqz
      have LK := qH HK.out.2
      clear hl2 hzz RZ hqz
      obtain ⟨ft0, zt0, ft1, zt1, ft2, zt2, ft3, zt3, ft4, zt4, ft5, zt5, ft6, zt6, ft7, zt7, ft8, zt8, xt⟩ := ly9z HRT.out
      obtain ⟨fnx0, znx0, fnx1, znx1, fnx2, znx2, xnx⟩ := ly3 HRN.out
      go_upto_region 11 with fail
      have KD := qH (bd0 wr)
      have LD := ls L0r KD.out
      go_region_held3 (fun w' => ∀ b o, b < wr.heap.size → w'.cell? ⟨b, o, none⟩ = wr.cell? ⟨b, o, none⟩)
        (first | with_reducible exact (bcell KD.out).1 | with_reducible exact (bcell K14.out).1 | with_reducible exact (bcell K15.out).1)
        (first
          | (go_at_call 35; (with_reducible refine (r15end_q (K := Z1) (F := Z2) (LD.out.get (A := A) (c := c) (xs := digs m.natAbs) (by simp)) lx.out HR1.out HW.out.1 HW.out.2 HZ.out).mono ?_); rintro e w14 ⟨A14, c14, rfl, hd, hb⟩; (have K14 := bt KD hb); (have L14 := la LD hb hd); clear hb hd)
          | (go_at_call 34; (with_reducible refine (dSame_q (L14.out.get (A := A1) (c := c1) (xs := digs K.natAbs) (by simp)) (L14.out.get (A := A14) (c := c14) (xs := digs Z1.natAbs) (by simp)) LK.out HQZ.out).mono ?_); rintro e w15 ⟨rfl, hb⟩; (have K15 := bt K14 hb); (have L15 := qH (L14.out.step hb)); clear hb ))
      rename_i hHeld
      clear hHeld
      clear fnx0 znx0 fnx1 znx1 fnx2 znx2 xnx ft0 zt0 ft1 zt1 ft2 zt2 ft3 zt3 ft4 zt4 ft5 zt5 ft6 zt6 ft7 zt7 ft8 zt8 xt
      clear KD LD
      go_wp2
      go_ret
      exact ⟨rfl, L15.out.1⟩
theorem r15right_any {A P : Option Addr} {c k : Nat} {F O W Q D : Int} {a : Nm} {ps : List Pd} {q : Bool} {w : World} (h : Dg w A c a.2.1) (hl : a.2.1.length ≤ 10000) (hps : PsL w P ps) (hsm : SmP ps) (hq : rightT F O a W Q D ps = q) :
    Calls Tryz.prog 18 #[.agg #[.int .i64 F, .int .i64 O, .bool a.1, .slice A a.2.1.length c, .int .i64 a.2.2, .int .i64 W, .int .i64 Q, .int .i64 D, .slice P ps.length k]] w fun e w' => e = .returned (.bool q) ∧ Below w.heap.size w w' := by
  obtain ⟨s, xs, x⟩ := a
  dsimp only at *
  cases hh : ((decide (1 ≤ F) && decide (F ≤ 10)) && ((decide (0 ≤ O) && decide (O ≤ 64)) && (plainB s xs x && ((decide (-30 ≤ W) && decide (W ≤ 10)) && ((decide (4 ≤ Q) && decide (Q ≤ 48)) && ((decide (1 ≤ D) && decide (D ≤ 16)) && (decide (1 ≤ ps.length) && decide (ps.length ≤ 32))))))))
  · obtain rfl : q = false := by
      rw [← hq, Bool.eq_false_iff]; intro e
      have h2 := right_parts e
      rw [Bool.eq_false_iff] at hh
      apply hh
      simp only [Bool.and_eq_true, decide_eq_true_eq]
      exact ⟨h2.1, h2.2.1, h2.2.2.1, h2.2.2.2.1, h2.2.2.2.2.1, h2.2.2.2.2.2.1, h2.2.2.2.2.2.2.1⟩
    exact r15right_no A P c _ k F O W Q D s xs x w h hl hh
  · have hh0 := hh
    simp only [Bool.and_eq_true, decide_eq_true_eq] at hh
    obtain ⟨h0, h1, h2, h3, h4, h5, h6⟩ := hh
    have hr : dyR s xs x = true := by have := h2; unfold plainB at this; rw [Bool.and_eq_true] at this; exact this.1
    obtain ⟨m, rfl, rfl, r1⟩ := num_of h.2.1 hr
    obtain ⟨b, o, rfl, hb, hp⟩ := hps (by omega)
    have hv : nmv (decide (m < 0), digs m.natAbs, x) = m := by unfold nmv; rw [val_digs]; exact sg_dzM m
    refine r15right_go A c b o k _ m x F O W Q D ps w h hl r1 hb hp hsm rfl h0 h1 h2 h3 h4 h5 h6 ?_
    rw [← hq]
    unfold rightT
    rw [hv]
    have e7 : (decide (1 ≤ (ps.length : Int)) && decide ((ps.length : Int) ≤ 32)) = true := by simp; omega
    simp [h0, h1, h2, h3, h4, h5, e7]
def CsR (W0 w : World) (P : Option Addr) (k : Nat) (cs : List Nm) : Prop := cs.length ≤ k ∧ (cs.length ≠ 0 → ∃ b o, P = some ⟨b, o, none⟩ ∧ b < w.heap.size ∧ (b < W0.heap.size ∨ ∃ cur fr, w.heap[b]? = some (.cells cur 26 fr)) ∧
  ∀ (i : Nat) v, cs[i]? = some v → ∃ A c, w.cell? ⟨b, o + i * 3, none⟩ = some (.bool v.1) ∧ w.cell? ⟨b, o + i * 3 + 1, none⟩ = some (.slice A v.2.1.length c) ∧ w.cell? ⟨b, o + i * 3 + 2, none⟩ = some (.int .i64 v.2.2) ∧ Dg W0 A c v.2.1)
theorem NsL.csr {W0 w : World} {P : Option Addr} {k : Nat} {cs : List Nm} (h : NsL W0 P k cs) (hB : Below W0.heap.size W0 w) : CsR W0 w P k cs := by
  have hr := h.rowq
  obtain ⟨A, C, hc, h⟩ := h
  refine ⟨hc, fun h0 => ?_⟩
  obtain ⟨b, o, rfl, hb, _⟩ := h h0
  refine ⟨b, o, rfl, Nat.lt_of_lt_of_le hb hB.size, .inl hb, fun i v hv => ?_⟩
  obtain ⟨b2, o2, A2, c2, e, c0, c1, c2', hd⟩ := hr i v hv
  injection e with e; injection e with e1 e2 e3
  subst e1 e2
  have ce : ∀ j, w.cell? ⟨b, j, none⟩ = W0.cell? ⟨b, j, none⟩ := fun j => hB.cell (p := ⟨b, j, none⟩) hb
  exact ⟨A2, c2, (ce _).trans c0, (ce _).trans c1, (ce _).trans c2', hd⟩
theorem CsR.same {W0 w w' : World} {P : Option Addr} {k : Nat} {cs : List Nm} (h : CsR W0 w P k cs) (hs : w.heap.size ≤ w'.heap.size) (hk : ∀ b, b < w.heap.size → (b < W0.heap.size ∨ ∃ cur fr, w.heap[b]? = some (.cells cur 26 fr)) → w'.heap[b]? = w.heap[b]?) : CsR W0 w' P k cs := by
  refine ⟨h.1, fun h0 => ?_⟩
  obtain ⟨b, o, e, hb, hd, hc⟩ := h.2 h0
  have e1 := hk b hb hd
  have ce : ∀ j, w'.cell? ⟨b, j, none⟩ = w.cell? ⟨b, j, none⟩ := fun j => World.cell?_of_block (a := ⟨b, j, none⟩) e1
  refine ⟨b, o, e, Nat.lt_of_lt_of_le hb hs, hd.imp id (fun ⟨cur, fr, h⟩ => ⟨cur, fr, e1.trans h⟩), fun i v hv => ?_⟩
  obtain ⟨A, c, c0, c1, c2, hg⟩ := hc i v hv
  exact ⟨A, c, (ce _).trans c0, (ce _).trans c1, (ce _).trans c2, hg⟩
def PcR (W0 w : World) (xs : List Value) (ps : List Pd) : Prop := xs.length = ps.length * 8 ∧ ∀ (i : Nat) p, ps[i]? = some p → ∃ A c P k B d, xs[i * 8]? = some (.bool p.a.1) ∧ xs[i * 8 + 1]? = some (.slice A p.a.2.1.length c) ∧ xs[i * 8 + 2]? = some (.int .i64 p.a.2.2) ∧ xs[i * 8 + 3]? = some (.int .i64 p.w) ∧ xs[i * 8 + 4]? = some (.slice P p.cs.length k) ∧ xs[i * 8 + 5]? = some (.bool p.er.1) ∧ xs[i * 8 + 6]? = some (.slice B p.er.2.1.length d) ∧ xs[i * 8 + 7]? = some (.int .i64 p.er.2.2) ∧ Dg W0 A c p.a.2.1 ∧ CsR W0 w P k p.cs ∧ Dg W0 B d p.er.2.1
theorem PcR.same {W0 w w' : World} {xs : List Value} {ps : List Pd} (h : PcR W0 w xs ps) (hs : w.heap.size ≤ w'.heap.size) (hk : ∀ b, b < w.heap.size → (b < W0.heap.size ∨ ∃ cur fr, w.heap[b]? = some (.cells cur 26 fr)) → w'.heap[b]? = w.heap[b]?) : PcR W0 w' xs ps :=
  ⟨h.1, fun i p hp => by obtain ⟨A, c, P, k, B, d, h0, h1, h2, h3, h4, h5, h6, h7, ha, hn, hb⟩ := h.2 i p hp; exact ⟨A, c, P, k, B, d, h0, h1, h2, h3, h4, h5, h6, h7, ha, hn.same hs hk, hb⟩⟩
def cellsAt (w : World) (b o m : Nat) : List Value := (List.range m).map fun j => (w.cell? ⟨b, o + j, none⟩).getD (.bool false)
theorem cellsAt_get {w : World} {b o m j : Nat} {v : Value} (hj : j < m) (h : w.cell? ⟨b, o + j, none⟩ = some v) : (cellsAt w b o m)[j]? = some v := by
  unfold cellsAt
  rw [List.getElem?_map, List.getElem?_range hj]
  simp [h]
def CyR (W0 : World) (ys : List Value) (cs : List Nm) : Prop := ys.length = cs.length * 3 ∧ ∀ (i : Nat) v, cs[i]? = some v → ∃ A c, ys[i * 3]? = some (.bool v.1) ∧ ys[i * 3 + 1]? = some (.slice A v.2.1.length c) ∧ ys[i * 3 + 2]? = some (.int .i64 v.2.2) ∧ Dg W0 A c v.2.1
theorem CyR.set {W0 : World} {ys : List Value} {cs : List Nm} (h : CyR W0 ys cs) {j : Nat} (hj : j < cs.length) {v : Nm} {A : Option Addr} {c : Nat} (hd : Dg W0 A c v.2.1) : CyR W0 (((ys.set (j * 3) (.bool v.1)).set (j * 3 + 1) (.slice A v.2.1.length c)).set (j * 3 + 2) (.int .i64 v.2.2)) (cs.set j v) := by
  have hl := h.1
  refine ⟨by simp only [List.length_set]; exact hl, fun i u hu => ?_⟩
  by_cases e : i = j
  · subst e
    rw [List.getElem?_set_self hj] at hu
    obtain rfl : v = u := Option.some.inj hu
    refine ⟨A, c, ?_, ?_, ?_, hd⟩
    · rw [List.getElem?_set_ne (by omega), List.getElem?_set_ne (by omega), List.getElem?_set_self (by omega)]
    · rw [List.getElem?_set_ne (by omega), List.getElem?_set_self (by simp; omega)]
    · rw [List.getElem?_set_self (by simp; omega)]
  · rw [List.getElem?_set_ne (fun x => e x.symm)] at hu
    obtain ⟨A2, c2, h0, h1, h2, hd2⟩ := h.2 i u hu
    refine ⟨A2, c2, ?_, ?_, ?_, hd2⟩
    · rw [List.getElem?_set_ne (by omega), List.getElem?_set_ne (by omega), List.getElem?_set_ne (by omega)]; exact h0
    · rw [List.getElem?_set_ne (by omega), List.getElem?_set_ne (by omega), List.getElem?_set_ne (by omega)]; exact h1
    · rw [List.getElem?_set_ne (by omega), List.getElem?_set_ne (by omega), List.getElem?_set_ne (by omega)]; exact h2
theorem newc_of {W0 w : World} {P : Option Addr} {k : Nat} {cs : List Nm} (hcs : CsR W0 w P k cs) (m : Nat) : ∃ news : List Value, news.length = (cs.take m).length * 3 ∧ (∀ u ∈ news, u.oneCell' = true) ∧ CyR W0 news (cs.take m) ∧ ((cs.take m).length ≠ 0 → ∃ ad, P = some ad ∧ ∀ j u, news[j]? = some u → w.cell? (ad.add j) = some u) := by
  by_cases h0 : (cs.take m).length = 0
  · refine ⟨[], by rw [h0]; rfl, fun u hu => by simp at hu, ⟨by rw [h0]; rfl, fun i p hp => ?_⟩, fun h => absurd h0 h⟩
    rw [List.getElem?_eq_none (by omega)] at hp; cases hp
  · have hn : cs.length ≠ 0 := by rw [List.length_take] at h0; omega
    obtain ⟨b, o, rfl, hb, _, hr⟩ := hcs.2 hn
    have hp : ∀ i p, (cs.take m)[i]? = some p → cs[i]? = some p := fun i p h => by
      rw [List.getElem?_take] at h
      split at h
      · exact h
      · cases h
    have key : ∀ i v, (cs.take m)[i]? = some v → ∃ A c, (cellsAt w b o ((cs.take m).length * 3))[i * 3]? = some (.bool v.1) ∧ (cellsAt w b o ((cs.take m).length * 3))[i * 3 + 1]? = some (.slice A v.2.1.length c) ∧ (cellsAt w b o ((cs.take m).length * 3))[i * 3 + 2]? = some (.int .i64 v.2.2) ∧ Dg W0 A c v.2.1 := fun i v h => by
      obtain ⟨A, c, e0, e1, e2, hd⟩ := hr i v (hp i v h)
      have hi : i < (cs.take m).length := by
        rcases Nat.lt_or_ge i (cs.take m).length with h1 | h1
        · exact h1
        · rw [List.getElem?_eq_none_iff.2 h1] at h; cases h
      exact ⟨A, c, cellsAt_get (by omega) e0, cellsAt_get (j := i * 3 + 1) (by omega) e1, cellsAt_get (j := i * 3 + 2) (by omega) e2, hd⟩
    have hlen : (cellsAt w b o ((cs.take m).length * 3)).length = (cs.take m).length * 3 := by unfold cellsAt; simp
    have each : ∀ j, j < (cs.take m).length * 3 → ∃ u, w.cell? ⟨b, o + j, none⟩ = some u ∧ u.oneCell' = true := fun j hj => by
      have hi : j / 3 < (cs.take m).length := by omega
      obtain ⟨p, hpp⟩ : ∃ p, (cs.take m)[j / 3]? = some p := ⟨_, List.getElem?_eq_getElem hi⟩
      obtain ⟨A, c, e0, e1, e2, _⟩ := hr (j / 3) p (hp _ p hpp)
      have h8 : j % 3 = 0 ∨ j % 3 = 1 ∨ j % 3 = 2 := by omega
      rcases h8 with h | h | h
      · exact ⟨_, by rw [show o + j = o + j / 3 * 3 by omega]; exact e0, rfl⟩
      · exact ⟨_, by rw [show o + j = o + j / 3 * 3 + 1 by omega]; exact e1, rfl⟩
      · exact ⟨_, by rw [show o + j = o + j / 3 * 3 + 2 by omega]; exact e2, rfl⟩
    refine ⟨cellsAt w b o ((cs.take m).length * 3), hlen, fun u hu => ?_, ⟨hlen, key⟩, fun _ => ⟨⟨b, o, none⟩, rfl, fun j u hj => ?_⟩⟩
    · obtain ⟨j, hj, e⟩ := List.mem_map.1 hu
      obtain ⟨u2, h1, h2⟩ := each j (by simpa using hj)
      rw [h1] at e
      simp at e; rw [← e]; exact h2
    · have hj2 : j < (cs.take m).length * 3 := by rw [← hlen]; exact (List.getElem?_eq_some_iff.1 hj).1
      obtain ⟨u2, h1, _⟩ := each j hj2
      rw [cellsAt_get hj2 h1] at hj
      rw [Addr.add_lit, h1]; exact hj
theorem own_at8 {w : World} {base n size g cap : Nat} {e : TypeId} {xs : List Value} (h : w.ownsRow base e size (.slice (some ⟨g, 0, none⟩) n cap) n xs) {j : Nat} {u : Value} (hj : xs[j]? = some u) : w.cell? ⟨g, j, none⟩ = some u ∧ w.frozen? ⟨g, j, none⟩ = false := by
  have h1 := h.cells (g := g) rfl j u hj
  rw [Addr.add_lit, Nat.zero_add] at h1
  refine ⟨h1, ?_⟩
  rcases h.2 with ⟨h2, _⟩ | ⟨q, cap2, cur, h2, _, hq, _⟩
  · cases h2
  · injection h2 with e1 _ _
    injection e1 with e1; injection e1 with e1 _ _
    subst e1
    exact frozen_of_row _ _ j _ _ hq
theorem own_formT {w : World} {base n size : Nat} {e : TypeId} {v : Value} {xs : List Value} (h : w.ownsRow base e size v n xs) : ∃ X c, v = .slice X n c ∧ (n ≠ 0 → ∃ g, X = some ⟨g, 0, none⟩) := by
  rcases h.2 with ⟨rfl, h0⟩ | ⟨q, cap, cur, rfl, _⟩
  · exact ⟨none, 0, by rw [h0], fun h => absurd h0 h⟩
  · exact ⟨_, _, rfl, fun _ => ⟨q, rfl⟩⟩
theorem only_setRow (w : World) (g : Nat) (cs : Array Value) : Only g w (w.setRow g cs) := ⟨rfl, rfl, rfl, by simp, fun k hk => setRow_other w g k cs hk⟩
theorem wpList_store_box {P : Program} {ops : Array Oper} {rest : List Oper} {o : Oper} {a : Act} {w : World} {Q : Exit → Act → World → Prop} (hgd : o.guard = none) (ty : TypeId) (x v : Operand) (ho : o.op = .store ty x v) (g : Nat) (hx : a.eval x = .pointer (some ⟨g, 0, none⟩)) (cells : Array Value) (hv : a.eval v = .agg cells) (old : Array Value) (T : TypeId) (hg : w.heap[g]? = some (.cells old T (0, 0)))
    (hi : (P.info? ty).map (·.size) = some cells.size) (hz : old.size = cells.size) (h1 : cells.all (·.oneCell') = true) (h : ∀ w', Only g w w' → w'.heap[g]? = some (.cells cells T (0, 0)) → wpList P ops Q rest (a.put o.dst undef) w') : wpList P ops Q (o :: rest) a w :=
  wpList_plain hgd fun K hK => by
    have hs := run_storeVar_row (P := P) w g T ty old cells hg hi hz h1
    unfold Oper.wp execOp
    simp only [ho, hx, hv, Instr.storeAt, Instr.sureAddr, Sem.run_bind, Sem.run_pure, Result.andThen_ok, hs]
    exact hK _ _ (h _ (only_setRow w g cells) (setRow_heap w g old cells T (0, 0) hg))
theorem wpList_load_box {P : Program} {ops : Array Oper} {rest : List Oper} {o : Oper} {a : Act} {w : World} {Q : Exit → Act → World → Prop} (hgd : o.guard = none) (ty : TypeId) (x : Operand) (ho : o.op = .load ty x) (g : Nat) (hx : a.eval x = .pointer (some ⟨g, 0, none⟩)) (cells : Array Value) (T : TypeId) (hg : w.heap[g]? = some (.cells cells T (0, 0))) (d : TypeDesc)
    (hu : P.underlying ty = some d) (hd : (match d with | .struct _ | .array _ _ => true | _ => false) = true) (hi : (P.info? ty).map (·.size) = some cells.size)
    (h : wpList P ops Q rest (a.put o.dst (.agg cells)) w) : wpList P ops Q (o :: rest) a w :=
  wpList_plain hgd fun _ hK => by
    have hl : (loadCells ⟨g, 0, none⟩ cells.size).run P w = .ok cells w := by
      have hl := run_loadCells_list (P := P) w ⟨g, 0, none⟩ cells.toList (fun j v hv => by
        rw [Addr.add_lit, Nat.zero_add]
        exact row_c hg (by simpa using hv))
      simpa using hl
    have hld : (loadVar ty ⟨g, 0, none⟩).run P w = .ok (.agg cells) w := by
      cases hq : P.info? ty with
      | none => simp [hq] at hi
      | some i =>
        have hs : i.size = cells.size := by simpa [hq] using hi
        have hagg : (isAgg ty).run P w = .ok true w := by
          unfold isAgg
          rw [Sem.run_bind, run_underlying hu w]
          cases d <;> simp_all
        simp [loadVar, Sem.run_bind, hagg, sizeOf, typeInfo, hq, hs, hl]
    unfold Oper.wp execOp
    simp only [ho, hx, Instr.loadAt, Instr.sureAddr, Sem.run_bind, Sem.run_pure, Result.andThen_ok, hld]
    exact hK _ _ h
theorem tab_one {F O W Q D x : Int} {s : Bool} {A P : Option Addr} {n c m k : Nat} : (#[.int .i64 F, .int .i64 O, .bool s, .slice A n c, .int .i64 x, .int .i64 W, .int .i64 Q, .int .i64 D, .slice P m k] : Array Value).all (·.oneCell') = true := by simp [Value.oneCell']
theorem tab_size : (Tryz.prog.info? 29).map (·.size) = some 9 := by kernel_rfl
theorem PcR.only {W0 w w' : World} {xs : List Value} {ps : List Pd} (h : PcR W0 w xs ps) {b : Nat} (hO : Only b w w') (hb : W0.heap.size ≤ b) {cur : Array Value} {T : TypeId} {fr : Nat × Nat} (hT : w.heap[b]? = some (.cells cur T fr)) (hne : T ≠ 26) : PcR W0 w' xs ps :=
  h.same (Nat.le_of_eq hO.size.symm) (fun k _ hk => hO.block k (fun e => by
    subst e
    rcases hk with hk | ⟨c2, f2, hk⟩
    · omega
    · rw [hT] at hk; exact hne (by injection hk with hk; injection hk)))
theorem CsR.only {W0 w w' : World} {P : Option Addr} {k : Nat} {cs : List Nm} (h : CsR W0 w P k cs) {b : Nat} (hO : Only b w w') (hb : W0.heap.size ≤ b) {cur : Array Value} {T : TypeId} {fr : Nat × Nat} (hT : w.heap[b]? = some (.cells cur T fr)) (hne : T ≠ 26) : CsR W0 w' P k cs :=
  h.same (Nat.le_of_eq hO.size.symm) (fun k _ hk => hO.block k (fun e => by
    subst e
    rcases hk with hk | ⟨c2, f2, hk⟩
    · omega
    · rw [hT] at hk; exact hne (by injection hk with hk; injection hk)))
theorem CsR.below {W0 w w' : World} {P : Option Addr} {k : Nat} {cs : List Nm} (h : CsR W0 w P k cs) (hB : Below w.heap.size w w') : CsR W0 w' P k cs := h.same hB.size (fun b h1 _ => hB.block b h1)
theorem PcR.below {W0 w w' : World} {xs : List Value} {ps : List Pd} (h : PcR W0 w xs ps) (hB : Below w.heap.size w w') : PcR W0 w' xs ps := h.same hB.size (fun b h1 _ => hB.block b h1)
theorem CsR.ns {W0 w : World} {P : Option Addr} {k : Nat} {cs : List Nm} (h : CsR W0 w P k cs) (hB : Below W0.heap.size W0 w) : NsL w P k cs := by
  by_cases h0 : cs.length = 0
  · have : cs = [] := List.length_eq_zero_iff.1 h0
    subst this
    exact ⟨fun _ => none, fun _ => 0, Nat.zero_le _, fun h => absurd rfl h⟩
  · obtain ⟨b, o, rfl, hb, _, hc⟩ := h.2 h0
    have key : ∀ i, ∃ Ac : Option Addr × Nat, i < cs.length → w.cell? ⟨b, o + i * 3, none⟩ = some (.bool ((cs[i]?.getD (false, [], 0)).1)) ∧ w.cell? ⟨b, o + i * 3 + 1, none⟩ = some (.slice Ac.1 ((cs[i]?.getD (false, [], 0)).2.1).length Ac.2) ∧ w.cell? ⟨b, o + i * 3 + 2, none⟩ = some (.int .i64 (cs[i]?.getD (false, [], 0)).2.2) ∧ Dg w Ac.1 Ac.2 (cs[i]?.getD (false, [], 0)).2.1 := by
      intro i
      by_cases hi : i < cs.length
      · obtain ⟨A, c, c0, c1, c2, hd⟩ := hc i cs[i] (List.getElem?_eq_getElem hi)
        refine ⟨(A, c), fun _ => ?_⟩
        have e : cs[i]?.getD (false, [], 0) = cs[i] := by rw [List.getElem?_eq_getElem hi]; rfl
        rw [e]
        exact ⟨c0, c1, c2, hd.below hB⟩
      · exact ⟨(none, 0), fun h => absurd h hi⟩
    exact ⟨fun i => (Classical.choose (key i)).1, fun i => (Classical.choose (key i)).2, h.1, fun _ => ⟨b, o, rfl, hb, fun i hi => Classical.choose_spec (key i) hi⟩⟩
def TyR (w : World) (xs : List Value) (m : Nat) : Prop := ∀ i, i < m → ∀ P n k, xs[i * 8 + 4]? = some (.slice P n k) → n ≠ 0 → ∃ b o cur fr, P = some ⟨b, o, none⟩ ∧ w.heap[b]? = some (.cells cur 26 fr)
theorem TyR.below {w w' : World} {xs : List Value} {m : Nat} (h : TyR w xs m) (hB : Below w.heap.size w w') : TyR w' xs m := fun i hi P n k hx hn => by
  obtain ⟨b, o, cur, fr, e, hc⟩ := h i hi P n k hx hn
  exact ⟨b, o, cur, fr, e, (hB.block b (heap_lt hc)).trans hc⟩
theorem TyR.only {w w' : World} {xs : List Value} {m b : Nat} (h : TyR w xs m) (hO : Only b w w') {cur : Array Value} {T : TypeId} {fr : Nat × Nat} (hT : w.heap[b]? = some (.cells cur T fr)) (hne : T ≠ 26) : TyR w' xs m := fun i hi P n k hx hn => by
  obtain ⟨b2, o, cur2, fr2, e, hc⟩ := h i hi P n k hx hn
  refine ⟨b2, o, cur2, fr2, e, (hO.block b2 (fun e2 => ?_)).trans hc⟩
  subst e2
  rw [hT] at hc; exact hne (by injection hc with hc; injection hc)
theorem TyR.xs {w : World} {xs ys : List Value} {m : Nat} (h : TyR w xs m) (hx : ∀ i, i < m → ys[i * 8 + 4]? = xs[i * 8 + 4]?) : TyR w ys m := fun i hi P n k hc hn => h i hi P n k ((hx i hi).symm.trans hc) hn
def CsT (w : World) (P : Option Addr) (k : Nat) (cs : List Nm) : Prop := cs.length ≤ k ∧ (cs.length ≠ 0 → ∃ b o cur fr, P = some ⟨b, o, none⟩ ∧ w.heap[b]? = some (.cells cur 26 fr) ∧ ∀ (i : Nat) v, cs[i]? = some v → ∃ A c, w.cell? ⟨b, o + i * 3, none⟩ = some (.bool v.1) ∧ w.cell? ⟨b, o + i * 3 + 1, none⟩ = some (.slice A v.2.1.length c) ∧ w.cell? ⟨b, o + i * 3 + 2, none⟩ = some (.int .i64 v.2.2) ∧ Dg w A c v.2.1)
def PsT (w : World) (P : Option Addr) (ps : List Pd) : Prop := ps.length ≠ 0 → ∃ b o cur fr, P = some ⟨b, o, none⟩ ∧ w.heap[b]? = some (.cells cur 49 fr) ∧ ∀ (i : Nat) p, ps[i]? = some p → ∃ A c B d P k, w.cell? ⟨b, o + i * 8, none⟩ = some (.bool p.a.1) ∧ w.cell? ⟨b, o + i * 8 + 1, none⟩ = some (.slice A p.a.2.1.length c) ∧ w.cell? ⟨b, o + i * 8 + 2, none⟩ = some (.int .i64 p.a.2.2) ∧ w.cell? ⟨b, o + i * 8 + 3, none⟩ = some (.int .i64 p.w) ∧ w.cell? ⟨b, o + i * 8 + 4, none⟩ = some (.slice P p.cs.length k) ∧ w.cell? ⟨b, o + i * 8 + 5, none⟩ = some (.bool p.er.1) ∧ w.cell? ⟨b, o + i * 8 + 6, none⟩ = some (.slice B p.er.2.1.length d) ∧ w.cell? ⟨b, o + i * 8 + 7, none⟩ = some (.int .i64 p.er.2.2) ∧ Dg w A c p.a.2.1 ∧ Dg w B d p.er.2.1 ∧ CsT w P k p.cs
theorem CsT.ns {w : World} {P : Option Addr} {k : Nat} {cs : List Nm} (h : CsT w P k cs) : NsL w P k cs := by
  refine CsR.ns (W0 := w) ⟨h.1, fun h0 => ?_⟩ (Below.refl _ _)
  obtain ⟨b, o, cur, fr, e, hc, hr⟩ := h.2 h0
  exact ⟨b, o, e, heap_lt hc, .inl (heap_lt hc), hr⟩
theorem PsT.ps {w : World} {P : Option Addr} {ps : List Pd} (h : PsT w P ps) : PsL w P ps := fun h0 => by
  obtain ⟨b, o, cur, fr, e, hc, hr⟩ := h h0
  refine ⟨b, o, e, heap_lt hc, fun i p hp => ?_⟩
  obtain ⟨A, c, B, d, P2, k, e0, e1, e2, e3, e4, e5, e6, e7, ha, he, hn⟩ := hr i p hp
  exact ⟨A, c, B, d, P2, k, e0, e1, e2, e3, e4, e5, e6, e7, ha, he, hn.ns⟩
theorem PsT.keep {w w' : World} {P : Option Addr} {ps : List Pd} (h : PsT w P ps) (hk : Kept w w') (hb : ∀ (b : Nat) (cur : Array Value) (T : TypeId) (fr : Nat × Nat), w.heap[b]? = some (.cells cur T fr) → (T = 49 ∨ T = 26) → w'.heap[b]? = some (.cells cur T fr)) : PsT w' P ps := fun h0 => by
  obtain ⟨b, o, cur, fr, e, hc, hr⟩ := h h0
  have hc' := hb b cur _ fr hc (.inl rfl)
  have ce : ∀ j, w'.cell? ⟨b, j, none⟩ = w.cell? ⟨b, j, none⟩ := fun j => World.cell?_of_block (a := ⟨b, j, none⟩) (hc'.trans hc.symm)
  refine ⟨b, o, cur, fr, e, hc', fun i p hp => ?_⟩
  obtain ⟨A, c, B, d, P2, k, e0, e1, e2, e3, e4, e5, e6, e7, ha, he, hn⟩ := hr i p hp
  refine ⟨A, c, B, d, P2, k, (ce _).trans e0, (ce _).trans e1, (ce _).trans e2, (ce _).trans e3, (ce _).trans e4, (ce _).trans e5, (ce _).trans e6, (ce _).trans e7, ha.kept hk, he.kept hk, hn.1, fun h1 => ?_⟩
  obtain ⟨b2, o2, cur2, fr2, e8, hc2, hr2⟩ := hn.2 h1
  have hc2' := hb b2 cur2 _ fr2 hc2 (.inr rfl)
  have ce2 : ∀ j, w'.cell? ⟨b2, j, none⟩ = w.cell? ⟨b2, j, none⟩ := fun j => World.cell?_of_block (a := ⟨b2, j, none⟩) (hc2'.trans hc2.symm)
  refine ⟨b2, o2, cur2, fr2, e8, hc2', fun i v hv => ?_⟩
  obtain ⟨A3, c3, x0, x1, x2, hd⟩ := hr2 i v hv
  exact ⟨A3, c3, (ce2 _).trans x0, (ce2 _).trans x1, (ce2 _).trans x2, hd.kept hk⟩
theorem PsT.below {w w' : World} {P : Option Addr} {ps : List Pd} (h : PsT w P ps) (hB : Below w.heap.size w w') : PsT w' P ps := h.keep (Kept.below hB) (fun b cur T fr hc _ => (hB.block b (heap_lt hc)).trans hc)
theorem PsT.only {w w' : World} {P : Option Addr} {ps : List Pd} (h : PsT w P ps) {g : Nat} (hO : Only g w w') {cur : Array Value} {T : TypeId} (hT : w.heap[g]? = some (.cells cur T (0, 0))) (hz : ∀ (i : Nat) (n : Int), cur[i]? ≠ some (.int .u32 n)) (h1 : T ≠ 49) (h2 : T ≠ 26) : PsT w' P ps :=
  h.keep (hO.kept hT hz) (fun b cur2 T2 fr2 hc hT2 => (hO.block b (fun e => by
    subst e
    rw [hT] at hc
    injection hc with hc; injection hc with _ e2 _
    rcases hT2 with e3 | e3
    · exact h1 (e2.trans e3)
    · exact h2 (e2.trans e3))).trans hc)
theorem cell_ltA {w : World} {p : Addr} {v : Value} (h : w.cell? p = some v) : p.block < w.heap.size := by
  rcases Nat.lt_or_ge p.block w.heap.size with h' | h'
  · exact h'
  · simp [World.cell?, Array.getElem?_eq_none h'] at h
theorem NXB {w w3 : World} {P : Option Addr} {n : Nat} {news : List Value} (h : n ≠ 0 → ∃ ad, P = some ad ∧ ∀ j u, news[j]? = some u → w.cell? (ad.add j) = some u) (hB : Below w.heap.size w w3) (h0 : n ≠ 0) : ∃ ad, P = some ad ∧ ∀ j u, news[j]? = some u → w3.cell? (ad.add j) = some u := by
  obtain ⟨ad, e, hc⟩ := h h0
  refine ⟨ad, e, fun j u hj => ?_⟩
  have h1 := hc j u hj
  have hb : (ad.add j).block < w.heap.size := cell_ltA h1
  exact (hB.cell (p := ad.add j) hb).trans h1
theorem r16conv6 (x : World) (g : Nat) (a b c d e f : Int) (h : x.heap[g]? = some (.cells #[.int .u8 (a % 256), .int .u8 (b % 256), .int .u8 (c % 256), .int .u8 (d % 256), .int .u8 (e % 256), .int .u8 (f % 256)] 5 (0, 0))) :
    (convert 50 9 (.slice (some ⟨g, 0, none⟩) 6 6)).run Tryz.prog x = .ok (.string ⟨([a, b, c, d, e, f].map by8).toArray⟩) x := by
  have e8 : ∀ n : Int, ((by8 n).toNat : Int) = n % 256 := fun n => by
    unfold by8; rw [UInt8.toNat_ofNat']; omega
  refine run_convert_bytes_back (P := Tryz.prog) x 50 9 5 ⟨g, 0, none⟩ 6 ([a, b, c, d, e, f].map by8) Tryz.underlying50 Tryz.underlying5 Tryz.underlying9 (fun j hj => ?_)
  rw [Addr.add_lit, Nat.zero_add, cell_of_row _ _ _ _ _ _ h]
  match j, hj with
  | 0, _ => simp [e8]
  | 1, _ => simp [e8]
  | 2, _ => simp [e8]
  | 3, _ => simp [e8]
  | 4, _ => simp [e8]
  | 5, _ => simp [e8]
theorem r16conv1 (x : World) (g : Nat) (a : Int) (h : x.heap[g]? = some (.cells #[.int .u8 (a % 256)] 5 (0, 0))) :
    (convert 50 9 (.slice (some ⟨g, 0, none⟩) 1 1)).run Tryz.prog x = .ok (.string ⟨[by8 a].toArray⟩) x := by
  refine run_convert_bytes_back (P := Tryz.prog) x 50 9 5 ⟨g, 0, none⟩ 1 [by8 a] Tryz.underlying50 Tryz.underlying5 Tryz.underlying9 (fun j hj => ?_)
  rw [Addr.add_lit, Nat.zero_add, cell_of_row _ _ _ _ _ _ h]
  match j, hj with
  | 0, _ => simp [by8]; omega
theorem r16append_zero {P : Program} {w : World} (base : Nat) (t ty e : TypeId) (i : TypeInfo) (size c : Nat) (B : Option Addr) (ht : P.underlying t = some (.slice e)) (hi : P.info? e = some i)
    (v : Value) (n : Nat) (xs : List Value) (hown : w.ownsRow base e size v n xs) : (Builtin.append_ #[t, t] ty #[v, .slice B 0 c]).run P w = .ok v w := by
  rcases hown.2 with ⟨rfl, rfl⟩ | ⟨g, cap, cur, rfl, _, _, hnc, _⟩
  · cases B <;> simp [Builtin.append_, run_underlying ht, sizeOf, typeInfo, hi, Builtin.lenOf, Builtin.firstCells, loadCells, loadCellsFrom]
  · cases B <;> simp [Builtin.append_, run_underlying ht, sizeOf, typeInfo, hi, Builtin.lenOf, Builtin.firstCells, hnc, loadCells, loadCellsFrom, storeCells]
theorem grown_new {w w' : World} {o : Obj} (h : (w.alloc o).grownBy w' (some w.heap.size)) : Below w.heap.size w w' :=
  ⟨h.os, h.tape, h.output, Nat.le_trans (by simp) h.size, fun k hk => (h.block k (by simp; omega) (by intro e; injection e; omega)).trans (heap_alloc_old _ _ hk)⟩
theorem own_one3 (w : World) (a b c : Value) : (w.alloc (.cells #[a, b, c] 26)).ownsRow w.heap.size 26 3 (.slice (some ⟨w.heap.size, 0, none⟩) 1 1) 1 [a, b, c] :=
  ⟨rfl, .inr ⟨w.heap.size, 1, _, rfl, Nat.le_refl _, heap_alloc_new _ _, Nat.le_refl _, by decide, rfl, rfl⟩⟩
theorem CyR.cons {W0 : World} {ys : List Value} {cs : List Nm} {v : Nm} {A : Option Addr} {c : Nat} (h : CyR W0 ys cs) (hd : Dg W0 A c v.2.1) : CyR W0 ([.bool v.1, .slice A v.2.1.length c, .int .i64 v.2.2] ++ ys) (v :: cs) := by
  refine ⟨by simp [h.1]; omega, fun i u hu => ?_⟩
  rcases i with _ | i
  · obtain rfl : v = u := by simpa using hu
    exact ⟨A, c, rfl, rfl, rfl, hd⟩
  · obtain ⟨A', c', h0, h1, h2, h3⟩ := h.2 i u (by simpa using hu)
    refine ⟨A', c', ?_, ?_, ?_, h3⟩
    · rw [List.getElem?_append_right (by simp; omega)]; rw [← h0]; congr 1; simp; omega
    · rw [List.getElem?_append_right (by simp; omega)]; rw [← h1]; congr 1; simp; omega
    · rw [List.getElem?_append_right (by simp; omega)]; rw [← h2]; congr 1; simp; omega
theorem enc_bad {F O W Q D : Int} {a : Nm} {ps : List Pd} (h : dyIn a = false ∨ ∃ p, p ∈ ps ∧ ∃ v, v ∈ p.er :: p.cs ∧ dyIn v = false) : ((encS F O a W Q D ps).2 == 0) = false ∧ outB (encS F O a W Q D ps) = [] := by
  have key : (encS F O a W Q D ps).2 ≠ 0 := by
    intro e
    unfold encS at e
    rw [stpPs_snd, stp_snd] at e
    rcases h with h | ⟨p, hp, v, hv, hd⟩
    · rw [e.1.2] at h; cases h
    · have h2 := e.2 p hp
      rcases List.mem_cons.1 hv with rfl | hv
      · rw [h2.1] at hd; cases hd
      · rw [h2.2 v hv] at hd; cases hd
  exact ⟨by simpa using key, by unfold outB; rw [if_neg key]⟩
theorem stp_yes {L : List UInt8} {v : Nm} (hd : dyIn v = true) : stp (L, 0) v = (L ++ bytT v, 0) := by
  unfold stp errT; rw [if_pos hd]; rfl
theorem fold_snoc {β γ : Type} (f : β → γ → β) {l : List γ} {k : Nat} {v : γ} {s t : β} (h : l[k]? = some v) (hf : (l.take k).foldl f s = t) : (l.take (k + 1)).foldl f s = f t v := by
  rw [List.take_add_one, h, List.foldl_append, hf]; rfl
theorem wpList_append_row {w : World} {ops : Array Oper} {rest : List Oper} {o : Oper} {a : Act} {Q : Exit → Act → World → Prop} (hgd : o.guard = none) (s x : Operand) (t e : TypeId) (ho : o.op = .call { callee := .builtin .append, args := #[s, x], argTypes := #[t, t] }) (base : Nat) (i0 : TypeInfo) (z : Value) (size bytes : Nat) (ht : Tryz.prog.underlying t = some (.slice e)) (hi : Tryz.prog.info? e = some i0) (hz : i0.zero = some z) (hsize : i0.size = size) (hby : i0.bytes = bytes) (hzs : z.cells.size = size) (hsz : 0 < size)
    (v : Value) (n0 : Nat) (vs : List Value) (X : Option Addr) (n c : Nat) (news : List Value) (hs : a.eval s = v) (hown : w.ownsRow base e size v n0 vs) (hx : a.eval x = .slice X n c) (hl : news.length = n * size) (hX : n ≠ 0 → ∃ ad, X = some ad ∧ ∀ j u, news[j]? = some u → w.cell? (ad.add j) = some u) (h1 : ∀ u ∈ news, u.oneCell' = true) (h63 : n0 + n ≤ maxLen) (hbytes : (n0 + n) * bytes ≤ 140737488355328) (hbase : base ≤ w.heap.size)
    (h : ∀ v' w', w'.ownsRow base e size v' (n0 + n) (vs ++ news) → w.grownBy w' v.ownBlock → wpList Tryz.prog ops Q rest (a.put o.dst v') w') : wpList Tryz.prog ops Q (o :: rest) a w := by
  refine wpList_plain hgd fun K hK => ?_
  rcases Nat.eq_zero_or_pos n with h0 | h0
  · subst h0
    obtain rfl : news = [] := List.length_eq_zero_iff.1 (by rw [hl]; omega)
    have hrun := r16append_zero (P := Tryz.prog) (w := w) base t o.type e i0 size c X ht hi v n0 vs hown
    unfold Oper.wp
    simp [execOp, ho, resolve, invoke, builtin, hs, hx, hrun, Result.andThen]
    exact hK _ _ (h v w (by rw [Nat.add_zero, List.append_nil]; exact hown) (World.grownBy.refl _ _))
  · obtain ⟨ad, rfl, hc⟩ := hX (by omega)
    exact wp_append_own w s x t ho base e i0 z size bytes ht hi hz hsize hby hzs hsz v n0 vs hs hown ad n c news hx hl hc h1 h63 hbytes hbase (fun v' w' h2 h3 _ => hK _ _ (h v' w' h2 h3))
theorem r16encode_no (A P : Option Addr) (c k n : Nat) (F O W Q D : Int) (s : Bool) (xs : List Nat) (x : Int) (ps : List Pd) (w : World) (h : Dg w A c xs) (hl : xs.length ≤ 10000) (hps : PsL w P ps) (hsm : SmP ps) (hn : ps.length = n) (hq : rightT F O (s, xs, x) W Q D ps = false) :
    Calls Tryz.prog 8 #[.agg #[.int .i64 F, .int .i64 O, .bool s, .slice A xs.length c, .int .i64 x, .int .i64 W, .int .i64 Q, .int .i64 D, .slice P n k]] w fun e w' => e = .returned (.tuple #[.string ⟨#[]⟩, .bool false]) ∧ Below w.heap.size w w' := by
  have HR := qH (fun (V : World) (hV : Below w.heap.size w V) => hn ▸ r15right_any (A := A) (c := c) (k := k) (a := (s, xs, x)) (h.below hV) hl (PsL.below hps hV) hsm hq)
  clear h hl hps hsm hq hn
  go_enter Tryz.func8, Tryz.ntmps8
  go_wp2_with fail
  obtain ⟨v1, hW, hb, Rt_1⟩ := new1 w (.cells #[.int .i64 F, .int .i64 O, .bool s, .slice A xs.length c, .int .i64 x, .int .i64 W, .int .i64 Q, .int .i64 D, .slice P n k] 29)
  rw [← hW]
  have B1 := qH hb
  clear hW hb
  refine (HR.out _ B1.out).mono ?_
  rintro e w2 ⟨rfl, hb⟩
  have B2 := bt B1 hb
  clear hb
  go_wp2
  exact bodyPost_ret (v := .tuple #[.string ⟨#[]⟩, .bool false]) (by simp [results, Tryz.results8, go_sem]) rfl ⟨rfl, B2.out⟩
theorem r16encode_go (A P : Option Addr) (c k n : Nat) (F O W Q D : Int) (s : Bool) (xs : List Nat) (x : Int) (ps : List Pd) (w : World) (h : Dg w A c xs) (hl : xs.length ≤ 10000) (hps : PsL w P ps) (hsm : SmP ps) (hn : ps.length = n) (hq : rightT F O (s, xs, x) W Q D ps = true) :
    Calls Tryz.prog 8 #[.agg #[.int .i64 F, .int .i64 O, .bool s, .slice A xs.length c, .int .i64 x, .int .i64 W, .int .i64 Q, .int .i64 D, .slice P n k]] w fun e w' => (∃ t : ByteArray, e = .returned (.tuple #[.string t, .bool ((encS F O (s, xs, x) W Q D ps).2 == 0)]) ∧ t.data.toList = outB (encS F O (s, xs, x) W Q D ps)) ∧ Below w.heap.size w w' := by
  have HR := qH (fun (V : World) (hV : Below w.heap.size w V) => hn ▸ r15right_any (A := A) (c := c) (k := k) (a := (s, xs, x)) (h.below hV) hl (PsL.below hps hV) hsm hq)
  have H := qH h
  have HPS := qH hps
  have HN := qH hn
  have HP := qH (right_parts hq)
  have RA := qH (rightA h.2.1 HP.out.2.2.1)
  clear h hl hps hsm hq hn
  obtain ⟨ta, hta, BA⟩ := r5bytes_any (v := (s, xs, x)) RA.out.2.1 RA.out.2.2.1 RA.out.1
  have TA := qH hta
  have HBA := qH BA
  clear hta BA
  obtain ⟨h6, h6e⟩ : ∃ z : ByteArray, (⟨([F, O, Q, D, W + 128, (n : Int)].map by8).toArray⟩ : ByteArray) = z := ⟨_, rfl⟩
  have wW : wrap64 (W + 128) = W + 128 := by have := HP.out.2.2.2.1; exact IntWalk.wrap64_in _ ⟨by omega, by omega⟩
  have H6 := qH h6e
  clear h6e
  go_enter Tryz.func8, Tryz.ntmps8
  go_wp2_with fail
  obtain ⟨v1, hW, hb, Rt_1⟩ := new1 w (.cells #[.int .i64 F, .int .i64 O, .bool s, .slice A xs.length c, .int .i64 x, .int .i64 W, .int .i64 Q, .int .i64 D, .slice P n k] 29)
  rw [← hW]
  have B1 := qH hb
  clear hW hb
  refine (HR.out _ B1.out).mono ?_
  rintro e w2 ⟨rfl, hb⟩
  have B2 := bt B1 hb
  have Rt_2 := co Rt_1 hb
  clear hb
  obtain ⟨ft0, zt0, ft1, zt1, ft2, zt2, ft3, zt3, ft4, zt4, ft5, zt5, ft6, zt6, ft7, zt7, ft8, zt8, xt⟩ := ly9z Rt_2.out
  have cv := r16conv6 (w2.alloc (.cells #[.int .u8 (F % 256), .int .u8 (O % 256), .int .u8 (Q % 256), .int .u8 (D % 256), .int .u8 ((W + 128) % 256), .int .u8 ((n : Int) % 256)] 5)) w2.heap.size F O Q D (W + 128) (n : Int) (heap_alloc_new _ _)
  rw [H6.out] at cv
  have s6 : ¬ (9223372036854775807 < 1 + h6.size) := by rw [← H6.out]; show ¬ (9223372036854775807 < 1 + 6); omega
  go_wp2_with fail
  obtain ⟨v3, hW⟩ : ∃ V : World, w2.alloc (.cells #[.int .u8 (F % 256), .int .u8 (O % 256), .int .u8 (Q % 256), .int .u8 (D % 256), .int .u8 ((W + 128) % 256), .int .u8 ((n : Int) % 256)] 5) = V := ⟨_, rfl⟩
  rw [hW]
  have hb : Below w2.heap.size w2 v3 := by rw [← hW]; exact below1 _ _
  have B3 := bt B2 hb
  have Rt_3 := co Rt_2 hb
  clear hW hb cv s6 ft0 zt0 ft1 zt1 ft2 zt2 ft3 zt3 ft4 zt4 ft5 zt5 ft6 zt6 ft7 zt7 ft8 zt8 xt
  refine (HBA.out A c _ (H.out.below B3.out)).mono ?_
  rintro e w4 ⟨rfl, hb⟩
  have B4 := bt B3 hb
  have Rt_4 := co Rt_3 hb
  clear hb
  obtain ⟨o0, ho0⟩ : ∃ z : ByteArray, (⟨#[84]⟩ : ByteArray) ++ h6 = z := ⟨_, rfl⟩
  rw [ho0]
  have O0 := qH (show o0.data.toList = headB F O W Q D n by rw [← ho0, ← H6.out]; simp [headB]; decide)
  have O0S := qH (show o0.size = 7 by have h := congrArg List.length O0.out; simpa [headB] using h)
  clear ho0
  cases hda : dyIn (s, xs, x)
  · have ev : errT (s, xs, x) = 4 := by unfold errT; rw [hda]; rfl
    have NB := qH (enc_bad (F := F) (O := O) (W := W) (Q := Q) (D := D) (ps := ps) (.inl hda))
    rw [ev]
    clear hda ev
    go_wp2
    exact bodyPost_ret (v := .tuple #[.string ⟨#[]⟩, .bool false]) (by simp [results, Tryz.results8, go_sem]) rfl ⟨⟨⟨#[]⟩, by rw [NB.out.1], by rw [NB.out.2]⟩, B4.out⟩
  · have ev : errT (s, xs, x) = 0 := by unfold errT; rw [hda]; rfl
    have S0 := qH (stp_yes (L := headB F O W Q D n) hda)
    have TS := qH (show ta.size ≤ 2000 by
      have h1 := stp_len [(s, xs, x)] (fun v hv => by rw [List.mem_singleton] at hv; subst hv; exact RA.out.2) (headB F O W Q D n, 0)
      rw [List.foldl_cons, List.foldl_nil, S0.out] at h1
      have h2 : ta.size = (bytT (s, xs, x)).length := by rw [← TA.out]; simp
      rw [List.length_append] at h1
      rw [h2]; simp at h1; omega)
    rw [ev]
    clear hda ev
    have sa : ¬ (9223372036854775807 < o0.size + ta.size) := by have := O0S.out; have := TS.out; omega
    go_wp2_with fail
    obtain ⟨o1, ho1⟩ : ∃ z : ByteArray, o0 ++ ta = z := ⟨_, rfl⟩
    rw [ho1]
    obtain ⟨L1, hL1⟩ : ∃ L, headB F O W Q D n ++ bytT (s, xs, x) = L := ⟨_, rfl⟩
    have O1 := qH (show o1.data.toList = L1 by rw [← ho1, ← hL1, ← O0.out, ← TA.out]; simp)
    have L1L := qH (show L1.length ≤ 10000 by rw [← O1.out, ← ho1]; have := O0S.out; have := TS.out; simp; omega)
    have SS := qH (show stp (headB F O W Q D n, 0) (s, xs, x) = (L1, 0) by rw [S0.out, hL1])
    clear ho1 hL1 sa
    go_loopw [5, 8] (fun ov i wr => ∃ (j : Nat) (ob : ByteArray) (L : List UInt8), j ≤ n ∧ i = .int .i64 j ∧ ov = .string ob ∧ Hid ((ps.take j).foldl stpP (L1, 0) = (L, 0)) ∧ Hid (ob.data.toList = L) ∧ Hid (L.length ≤ 10000 + 40000 * j) ∧ Hid (Below w.heap.size w wr) ∧ Hid (wr.heap[w.heap.size]? = some (.cells #[.int .i64 F, .int .i64 O, .bool s, .slice A xs.length c, .int .i64 x, .int .i64 W, .int .i64 Q, .int .i64 D, .slice P n k] 29 (0, 0)))) (fun _ i _ => n - (intOf i).toNat)
    case atStart => exact ⟨0, o1, L1, Nat.zero_le _, rfl, rfl, qH rfl, O1, L1L, B4, Rt_4⟩
    case round =>
      obtain ⟨j, ob, L, hj, rfl, rfl, HF, HOB, HLL, HB, HRT⟩ := hrel
      have N32 := qH (show n ≤ 32 by have := HP.out.2.2.2.2.2.2.1; have := HN.out; omega)
      have ft8 := row_c (i := 8) HRT.out rfl
      by_cases hlt : j < n
      · obtain ⟨b, o, rfl, hb0, hpw⟩ := HPS.out (by have := HN.out; omega)
        obtain ⟨p, hp⟩ : ∃ p, ps[j]? = some p := ⟨_, List.getElem?_eq_getElem (by have := HN.out; omega)⟩
        obtain ⟨A2, c2, B2, d2, P2, k2, e0, e1, e2, e3, e4, e5, e6, e7, hda, hde, hns⟩ := hpw j p hp
        have HPJ := qH hp
        have HLT := qH hlt
        have PB := qH (rightL_all HP.out.2.2.2.2.2.2.2 p (List.mem_of_getElem? hp))
        have g0 := (HB.out.cell (p := ⟨b, o + j * 8, none⟩) hb0).trans e0
        have g1 := (HB.out.cell (p := ⟨b, o + j * 8 + 1, none⟩) hb0).trans e1
        have g2 := (HB.out.cell (p := ⟨b, o + j * 8 + 2, none⟩) hb0).trans e2
        have g3 := (HB.out.cell (p := ⟨b, o + j * 8 + 3, none⟩) hb0).trans e3
        have g4 := (HB.out.cell (p := ⟨b, o + j * 8 + 4, none⟩) hb0).trans e4
        have g5 := (HB.out.cell (p := ⟨b, o + j * 8 + 5, none⟩) hb0).trans e5
        have g6 := (HB.out.cell (p := ⟨b, o + j * 8 + 6, none⟩) hb0).trans e6
        have g7 := (HB.out.cell (p := ⟨b, o + j * 8 + 7, none⟩) hb0).trans e7
        have RG := qH (show ∀ v, v ∈ p.er :: p.cs → dyR v.1 v.2.1 v.2.2 = true ∧ ok32 v.2.1 ∧ v.2.1.length ≤ 400 ∧ -131072 ≤ v.2.2 ∧ v.2.2 ≤ 131072 from fun v hv => by
          have hpb := PB.out
          unfold pieceB at hpb
          simp only [Bool.and_eq_true, List.all_eq_true] at hpb
          rcases List.mem_cons.1 hv with rfl | hv
          · exact rightN hde.2.1 hpb.2.2.1.2
          · exact rightN (hns.ok v hv) (hpb.2.2.2.1 v hv))
        have PW := qH (show -30 ≤ p.w ∧ p.w ≤ 10 by have hpb := PB.out; unfold pieceB at hpb; simp only [Bool.and_eq_true, decide_eq_true_eq] at hpb; exact hpb.1)
        have PQ := qH (show p.cs.length ≤ 17 by have hpb := PB.out; unfold pieceB at hpb; simp only [Bool.and_eq_true, decide_eq_true_eq] at hpb; have := hpb.2.1; have := HP.out.2.2.2.2.2.1; omega)
        have HDE := qH hde
        obtain ⟨news, hnl, hno, hnc, hnx⟩ := newc_of (hns.csr (Below.refl _ _)) p.cs.length
        rw [List.take_length] at hnl hnc hnx
        have NL := qH hnl
        have NO := qH hno
        have NX := qH hnx
        have CY := qH (hnc.cons (v := p.er) hde)
        clear e0 e1 e2 e3 e4 e5 e6 e7 hda hde hns hp hnl hno hnc hnx hb0 hpw
        go_upto_region 13 with fail
        obtain ⟨w3, hW, hb, Rp_3⟩ := new1 wr (.cells #[.bool p.a.1, .slice A2 p.a.2.1.length c2, .int .i64 p.a.2.2, .int .i64 p.w, .slice P2 p.cs.length k2, .bool p.er.1, .slice B2 p.er.2.1.length d2, .int .i64 p.er.2.2] 49)
        rw [← hW]
        have HB3 := bt HB hb
        have HRT3 := co HRT hb
        clear hW hb ft8 g0 g1 g2 g3 g4 g5 g6 g7
        have fp3 := row_c (i := 3) Rp_3.out rfl
        have wpw : wrap64 (p.w + 128) = p.w + 128 := by have := PW.out; exact IntWalk.wrap64_in _ ⟨by omega, by omega⟩
        have cv := r16conv1 (w3.alloc (.cells #[.int .u8 ((p.w + 128) % 256)] 5)) w3.heap.size (p.w + 128) (heap_alloc_new _ _)
        obtain ⟨t1, ht1⟩ : ∃ z : ByteArray, (⟨[by8 (p.w + 128)].toArray⟩ : ByteArray) = z := ⟨_, rfl⟩
        rw [ht1] at cv
        have T1S := qH (show t1.size = 1 by rw [← ht1]; rfl)
        have OBS := qH (show ob.size = L.length by rw [← HOB.out]; simp)
        have s1 : ¬ (9223372036854775807 < ob.size + t1.size) := by have := T1S.out; have := OBS.out; have := HLL.out; have := N32.out; omega
        go_upto_region 14 with fail
        obtain ⟨w4x, hW⟩ : ∃ V : World, w3.alloc (.cells #[.int .u8 ((p.w + 128) % 256)] 5) = V := ⟨_, rfl⟩
        rw [hW]
        have hb : Below w3.heap.size w3 w4x := by rw [← hW]; exact below1 _ _
        have HB4 := bt HB3 hb
        have HRT4 := co HRT3 hb
        have Rp_4 := co Rp_3 hb
        clear hW hb cv s1 fp3 wpw
        obtain ⟨ob1, hob1⟩ : ∃ z : ByteArray, ob ++ t1 = z := ⟨_, rfl⟩
        rw [hob1]
        have OB1 := qH (show ob1.data.toList = L ++ [by8 (p.w + 128)] by rw [← hob1, ← ht1, ← HOB.out]; simp)
        clear hob1 ht1
        obtain ⟨fp0, zp0, fp1, zp1, fp2, zp2, fp3, zp3, fp4, zp4, fp5, zp5, fp6, zp6, fp7, zp7, xp⟩ := ly8z Rp_4.out
        obtain ⟨j0, hi0, hy0, hy1, hy2⟩ := dy_info
        go_wp2_with (at_builtin; refine wpList_append_row rfl _ _ 47 26 rfl w4x.heap.size j0 zdy 3 40 Tryz.underlying47 hi0 hy0 hy1 hy2 rfl (by decide) _ 1 _ P2 p.cs.length k2 news rfl (own_one3 _ _ _ _) rfl NL.out (fun h0 => NXB NX.out (HB4.out.trans ((below1 _ _).mono HB4.out.size)) h0) NO.out (by have := PQ.out; unfold maxLen; omega) (by have := PQ.out; omega) (by simp) ?_)
        intro v5 w5 hown hgr
        have hb := grown_new hgr
        obtain ⟨X, cap, rfl, hX⟩ := own_formT hown
        obtain ⟨g, rfl⟩ := hX (by omega)
        have OW := qH hown
        have HB5 := bt HB4 hb
        have HRT5 := co HRT4 hb
        clear hown hgr hb hX hi0 hy0 hy1 hy2 fp0 zp0 fp1 zp1 fp2 zp2 fp3 zp3 fp4 zp4 fp5 zp5 fp6 zp6 fp7 zp7 xp
        obtain ⟨ls, hls⟩ : ∃ l, p.er :: p.cs = l := ⟨_, rfl⟩
        obtain ⟨m, hm⟩ : ∃ m, 1 + p.cs.length = m := ⟨_, rfl⟩
        rw [hls] at CY RG
        rw [hm] at OW ⊢
        have LSL := qH (show ls.length = m by rw [← hls, ← hm]; simp; omega)
        have M18 := qH (show m ≤ 18 by rw [← hm]; have := PQ.out; omega)
        have SP := qH (show ∀ M, ls.foldl stp (L ++ [by8 (p.w + 128)], 0) = (M, 0) → stpP (L, 0) p = (M, 0) from fun M h => by unfold stpP; rw [← hls] at h; exact h)
        have BAD := qH (show ∀ v, v ∈ ls → dyIn v = false → ((encS F O (s, xs, x) W Q D ps).2 == 0) = false ∧ outB (encS F O (s, xs, x) W Q D ps) = [] from fun v hv hd => enc_bad (.inr ⟨p, List.mem_of_getElem? HPJ.out, v, by rw [hls]; exact hv, hd⟩))
        clear hls hm
        go_wp2_with fail
        go_loopw [5, 11] (fun ov i wi => ∃ (k2 : Nat) (oc : ByteArray) (M : List UInt8), k2 ≤ m ∧ i = .int .i64 k2 ∧ ov = .string oc ∧ Hid ((ls.take k2).foldl stp (L ++ [by8 (p.w + 128)], 0) = (M, 0)) ∧ Hid (oc.data.toList = M) ∧ Hid (M.length ≤ 10001 + 40000 * j + 2000 * k2) ∧ Hid (Below w5.heap.size w5 wi)) (fun _ i _ => m - (intOf i).toNat)
        case atStart => exact ⟨0, ob1, _, Nat.zero_le _, rfl, rfl, qH rfl, OB1, qH (by have := HLL.out; simp; omega), qH (Below.refl _ _)⟩
        case round =>
          obtain ⟨q2, oc, M, hq2, rfl, rfl, HFM, HOC, HML, HBI⟩ := hrel
          by_cases hlt2 : q2 < m
          · obtain ⟨v, hv⟩ : ∃ v, ls[q2]? = some v := ⟨_, List.getElem?_eq_getElem (by have := LSL.out; omega)⟩
            obtain ⟨A6, c6, y0, y1, y2, hdv⟩ := CY.out.2 q2 v hv
            have OWI := own_later OW.out HBI.out
            have c0 := (own_at8 OWI y0).1
            have c1 := (own_at8 OWI y1).1
            have c2x := (own_at8 OWI y2).1
            have HV := qH hv
            have GV := qH (RG.out v (List.mem_of_getElem? hv))
            have HDV := qH (hdv.below (HB5.out.trans (HBI.out.mono HB5.out.size)))
            obtain ⟨tv, htv, BV⟩ := r5bytes_any GV.out.2.1 GV.out.2.2.1 GV.out.1
            have TV := qH htv
            have HBV := qH BV
            clear hv y0 y1 y2 hdv OWI htv BV
            go_wp2_with fail
            refine (HBV.out A6 c6 _ HDV.out).mono ?_
            rintro e wk ⟨rfl, hb⟩
            have HBK := bt HBI hb
            clear hb c0 c1 c2x
            cases hdv : dyIn v
            · have ev : errT v = 4 := by unfold errT; rw [hdv]; rfl
              have NB := qH (BAD.out v (List.mem_of_getElem? HV.out) hdv)
              rw [ev]
              clear hdv ev
              have BE := qH (HB5.out.trans (HBK.out.mono HB5.out.size))
              go_wp2
              try rw [Exit.noGoto_ret]
              try rw [Exit.noGoto_ret]
              exact bodyPost_ret (v := .tuple #[.string ⟨#[]⟩, .bool false]) (by simp [results, Tryz.results8, go_sem]) rfl ⟨⟨⟨#[]⟩, by rw [NB.out.1], by rw [NB.out.2]⟩, BE.out⟩
            · have ev : errT v = 0 := by unfold errT; rw [hdv]; rfl
              have S1 := qH (fold_snoc stp HV.out HFM.out)
              rw [stp_yes hdv] at S1
              have TVS := qH (show tv.size ≤ 2000 by
                have h1 := stp_len [v] (fun u hu => by rw [List.mem_singleton] at hu; subst hu; exact GV.out.2) (M, 0)
                rw [List.foldl_cons, List.foldl_nil, stp_yes hdv] at h1
                have h2 : tv.size = (bytT v).length := by rw [← TV.out]; simp
                rw [List.length_append] at h1
                rw [h2]; simp at h1; omega)
              rw [ev]
              clear hdv ev
              have OCS := qH (show oc.size = M.length by rw [← HOC.out]; simp)
              have sv : ¬ (9223372036854775807 < oc.size + tv.size) := by have := TVS.out; have := OCS.out; have := HML.out; have := N32.out; have := M18.out; omega
              go_wp2_with fail
              obtain ⟨od, hod⟩ : ∃ z : ByteArray, oc ++ tv = z := ⟨_, rfl⟩
              rw [hod]
              obtain ⟨M2, hM2⟩ : ∃ z, M ++ bytT v = z := ⟨_, rfl⟩
              have OD := qH (show od.data.toList = M2 by rw [← hod, ← hM2, ← HOC.out, ← TV.out]; simp)
              have ML2 := qH (show M2.length ≤ 10001 + 40000 * j + 2000 * (q2 + 1) by rw [← OD.out, ← hod]; have := OCS.out; have := TVS.out; have := HML.out; simp; omega)
              rw [hM2] at S1
              clear hod hM2 sv
              have HQ2 := qH hlt2
              go_roundw
              case rel =>
                have hq2 := HQ2.out
                have h18 := M18.out
                have hw : wrap64 ((q2 : Int) + 1) = (q2 : Int) + 1 := IntWalk.wrap64_in _ ⟨by omega, by omega⟩
                first
                  | exact ⟨q2 + 1, od, M2, HQ2.out, by rw [hw]; exact congrArg _ (by omega), rfl, S1, OD, ML2, HBK⟩
                  | trace_state
              case measure =>
                have hq2 := HQ2.out
                have h18 := M18.out
                have hw : wrap64 ((q2 : Int) + 1) = (q2 : Int) + 1 := IntWalk.wrap64_in _ ⟨by omega, by omega⟩
                rw [hw]
                simp [intOf]; omega
          · obtain rfl : q2 = m := by omega
            have hf := HFM.out
            rw [← LSL.out, List.take_length] at hf
            have HF2 := qH (fold_snoc stpP HPJ.out HF.out)
            rw [SP.out M hf] at HF2
            have HL2 := qH (show M.length ≤ 10000 + 40000 * (j + 1) by have := HML.out; have := M18.out; omega)
            have HBF := qH (HB5.out.trans (HBI.out.mono HB5.out.size))
            have HRTF := co HRT5 HBI.out
            clear hf
            go_wp2
            go_roundw
            case rel =>
              have hlt := HLT.out
              have h32 := N32.out
              have hw : wrap64 ((j : Int) + 1) = (j : Int) + 1 := IntWalk.wrap64_in _ ⟨by omega, by omega⟩
              first
                | exact ⟨j + 1, oc, M, HLT.out, by rw [hw]; exact congrArg _ (by omega), rfl, HF2, HOC, HL2, HBF, HRTF⟩
                | trace_state
            case measure =>
              have hlt := HLT.out
              have h32 := N32.out
              have hw : wrap64 ((j : Int) + 1) = (j : Int) + 1 := IntWalk.wrap64_in _ ⟨by omega, by omega⟩
              rw [hw]
              simp [intOf]; omega
      · obtain rfl : j = n := by omega
        have hf := HF.out
        rw [← HN.out, List.take_length, ← SS.out, ← HN.out] at hf
        have EF := qH (show encS F O (s, xs, x) W Q D ps = (L, 0) from hf)
        clear hf
        go_wp2
        exact bodyPost_ret (v := .tuple #[.string ob, .bool true]) (by simp [results, Tryz.results8, go_sem]) rfl ⟨⟨ob, by rw [EF.out]; rfl, by rw [EF.out, HOB.out]; rfl⟩, HB.out⟩
end Go.Proofs.YtdmfapgclppmhaaGreatDoor
end
