import Derived.Test.YtdmfapgclppmhaaGreatDoorMB4
import Derived.Test.YtdmfapgclppmhaaGreatDoorMB3
import Derived.Test.YtdmfapgclppmhaaGreatDoorMB2
import Derived.Test.YtdmfapgclppmhaaGreatDoorMB0
import Derived.Lib.AppendStr
import Derived.Test.YtdmfapgclppmhaaGreatDoorMB1
set_option maxHeartbeats 16000000
set_option maxRecDepth 100000
section
namespace Go.Proofs.YtdmfapgclppmhaaGreatDoor
open Go.RowKit
def PsW (w : World) (b o : Nat) (ps : List Pd) : Prop := ∀ (i : Nat) (p : Pd), ps[i]? = some p → ∃ A c B d P k, w.cell? ⟨b, o + i * 8, none⟩ = some (.bool p.a.1) ∧ w.cell? ⟨b, o + i * 8 + 1, none⟩ = some (.slice A p.a.2.1.length c) ∧ w.cell? ⟨b, o + i * 8 + 2, none⟩ = some (.int .i64 p.a.2.2) ∧ w.cell? ⟨b, o + i * 8 + 3, none⟩ = some (.int .i64 p.w) ∧ w.cell? ⟨b, o + i * 8 + 4, none⟩ = some (.slice P p.cs.length k) ∧ w.cell? ⟨b, o + i * 8 + 5, none⟩ = some (.bool p.er.1) ∧ w.cell? ⟨b, o + i * 8 + 6, none⟩ = some (.slice B p.er.2.1.length d) ∧ w.cell? ⟨b, o + i * 8 + 7, none⟩ = some (.int .i64 p.er.2.2) ∧ Dg w A c p.a.2.1 ∧ Dg w B d p.er.2.1 ∧ NsL w P k p.cs
def SmP (ps : List Pd) : Prop := ∀ p, p ∈ ps → p.a.2.1.length ≤ 10000 ∧ p.er.2.1.length ≤ 10000 ∧ ∀ v, v ∈ p.cs → v.2.1.length ≤ 10000
theorem sg_dzM (m : Int) : sg (decide (m < 0)) m.natAbs = m := by
  unfold sg; split <;> rename_i h <;> simp at h <;> omega
theorem take_snocP {ps : List Pd} {j : Nat} {p : Pd} (h : ps[j]? = some p) : ps.take (j + 1) = ps.take j ++ [p] := by
  rw [List.take_add_one, h]; rfl
theorem right_none {D : Int} {ps : List Pd} {j : Nat} {p : Pd} {q r : Int × Int} (h : ps[j]? = some p) (hr : rightL D (ps.take j) q = some r) (hc : (pieceB p D && decide (nmv p.a = r.1 ∧ p.a.2.2 = r.2)) = false) : rightL D ps q = none := by
  have e : rightL D (ps.take (j + 1)) q = none := by
    rw [take_snocP h, rightL_snoc, hr, Option.bind_some, hc]; rfl
  have := rightL_app D (ps.take (j + 1)) (ps.drop (j + 1)) q e
  rwa [List.take_append_drop] at this
theorem right_some {D : Int} {ps : List Pd} {j : Nat} {p : Pd} {q r : Int × Int} (h : ps[j]? = some p) (hr : rightL D (ps.take j) q = some r) (hc : (pieceB p D && decide (nmv p.a = r.1 ∧ p.a.2.2 = r.2)) = true) : rightL D (ps.take (j + 1)) q = some (endq r.1 r.2 p.w) := by
  rw [take_snocP h, rightL_snoc, hr, Option.bind_some, hc]; rfl
theorem right_go (A : Option Addr) (c b o k : Nat) (m x F O W Q D : Int) (ps : List Pd) (w : World) (h : Dg w A c (digs m.natAbs)) (hl : (digs m.natAbs).length ≤ 10000) (r1 : Rt m x) (hT : T32 w) (hb : b < w.heap.size) (hps : PsW w b o ps) (hsm : SmP ps) (h0 : (decide (1 ≤ F) && decide (F ≤ 10)) = true) (h1 : (decide (0 ≤ O) && decide (O ≤ 64)) = true) (h2 : plainB (decide (m < 0)) (digs m.natAbs) x = true) (h3 : (decide ((-30) ≤ W) && decide (W ≤ 10)) = true) (h4 : (decide (4 ≤ Q) && decide (Q ≤ 48)) = true) (h5 : (decide (1 ≤ D) && decide (D ≤ 16)) = true) (h6 : (decide (1 ≤ ((ps.length : Nat) : Int)) && decide (((ps.length : Nat) : Int) ≤ 32)) = true) {q : Bool} (hq : (rightL D ps (m, x) == some (endq m x W)) = q):
    Calls Tryz.prog 15 #[.agg #[.int .i64 F, .int .i64 O, .bool (decide (m < 0)), .slice A (digs m.natAbs).length c, .int .i64 x, .int .i64 W, .int .i64 Q, .int .i64 D, .slice (some ⟨b, o, none⟩) ps.length k]] w fun e w' => e = .returned (.bool q) ∧ Below w.heap.size w w' := by
  have lx := qH hl
  have HR1 := qH r1
  have HBB := qH hb
  have HPS := qH hps
  have HSM := qH hsm
  have HQ := qH hq
  have HW := qH (show -30 ≤ W ∧ W ≤ 10 by simpa using h3)
  have HLEN := qH (show ps.length ≤ 32 by simp at h6; omega)
  have HD := qH (show 0 ≤ D ∧ D ≤ 1000 by simp at h5; omega)
  have H0 := qH h0
  have H1 := qH h1
  have H2 := qH h2
  have H3 := qH h3
  have H4 := qH h4
  have H5 := qH h5
  have H6 := qH h6
  have HT := qH hT
  clear hT
  have L0 := qH ((live_start w).add h)
  clear h hl r1 hb hps hsm hq h0 h1 h2 h3 h4 h5 h6
  go_enter Tryz.func15, Tryz.ntmps15
  go_wp2_with fail
  obtain ⟨v1, hW, hb, Rt_1⟩ := new1 w (.cells #[.int .i64 F, .int .i64 O, .bool (decide (m < 0)), .slice A (digs m.natAbs).length c, .int .i64 x, .int .i64 W, .int .i64 Q, .int .i64 D, .slice (some ⟨b, o, none⟩) ps.length k] 29)
  rw [← hW]
  have L1 := ls L0 hb
  have Gt := gl0 L0.out
  clear hW hb
  refine (within_any F 1 10 _ H0.out).mono ?_
  rintro e w2 ⟨rfl, rfl⟩
  obtain ⟨ft0, zt0, ft1, zt1, ft2, zt2, ft3, zt3, ft4, zt4, ft5, zt5, ft6, zt6, ft7, zt7, ft8, zt8, xt⟩ := ly9z Rt_1.out
  go_wp2_with fail
  refine (within_any O 0 64 _ H1.out).mono ?_
  rintro e w3 ⟨rfl, rfl⟩
  clear ft0 zt0 ft1 zt1 ft2 zt2 ft3 zt3 ft4 zt4 ft5 zt5 ft6 zt6 ft7 zt7 ft8 zt8 xt
  obtain ⟨ft0, zt0, ft1, zt1, ft2, zt2, ft3, zt3, ft4, zt4, ft5, zt5, ft6, zt6, ft7, zt7, ft8, zt8, xt⟩ := ly9z Rt_1.out
  go_wp2_with fail
  refine (plain_any (L1.out.get (A := A) (c := c) (xs := digs m.natAbs) (by simp)) lx.out H2.out).mono ?_
  rintro e w4 ⟨rfl, hb⟩
  have L4 := ls L1 hb
  clear ft0 zt0 ft1 zt1 ft2 zt2 ft3 zt3 ft4 zt4 ft5 zt5 ft6 zt6 ft7 zt7 ft8 zt8 xt
  have Rt_4 := co Rt_1 hb
  clear hb 
  obtain ⟨ft0, zt0, ft1, zt1, ft2, zt2, ft3, zt3, ft4, zt4, ft5, zt5, ft6, zt6, ft7, zt7, ft8, zt8, xt⟩ := ly9z Rt_4.out
  go_wp2_with fail
  refine (within_any W (-30) 10 _ H3.out).mono ?_
  rintro e w5 ⟨rfl, rfl⟩
  clear ft0 zt0 ft1 zt1 ft2 zt2 ft3 zt3 ft4 zt4 ft5 zt5 ft6 zt6 ft7 zt7 ft8 zt8 xt
  obtain ⟨ft0, zt0, ft1, zt1, ft2, zt2, ft3, zt3, ft4, zt4, ft5, zt5, ft6, zt6, ft7, zt7, ft8, zt8, xt⟩ := ly9z Rt_4.out
  go_wp2_with fail
  refine (within_any Q 4 48 _ H4.out).mono ?_
  rintro e w6 ⟨rfl, rfl⟩
  clear ft0 zt0 ft1 zt1 ft2 zt2 ft3 zt3 ft4 zt4 ft5 zt5 ft6 zt6 ft7 zt7 ft8 zt8 xt
  obtain ⟨ft0, zt0, ft1, zt1, ft2, zt2, ft3, zt3, ft4, zt4, ft5, zt5, ft6, zt6, ft7, zt7, ft8, zt8, xt⟩ := ly9z Rt_4.out
  go_wp2_with fail
  refine (within_any D 1 16 _ H5.out).mono ?_
  rintro e w7 ⟨rfl, rfl⟩
  clear ft0 zt0 ft1 zt1 ft2 zt2 ft3 zt3 ft4 zt4 ft5 zt5 ft6 zt6 ft7 zt7 ft8 zt8 xt
  obtain ⟨ft0, zt0, ft1, zt1, ft2, zt2, ft3, zt3, ft4, zt4, ft5, zt5, ft6, zt6, ft7, zt7, ft8, zt8, xt⟩ := ly9z Rt_4.out
  go_wp2_with fail
  refine (within_any ((ps.length : Nat) : Int) 1 32 _ H6.out).mono ?_
  rintro e w8 ⟨rfl, rfl⟩
  clear ft0 zt0 ft1 zt1 ft2 zt2 ft3 zt3 ft4 zt4 ft5 zt5 ft6 zt6 ft7 zt7 ft8 zt8 xt
  obtain ⟨ft0, zt0, ft1, zt1, ft2, zt2, ft3, zt3, ft4, zt4, ft5, zt5, ft6, zt6, ft7, zt7, ft8, zt8, xt⟩ := ly9z Rt_4.out
  go_wp2
  obtain ⟨w9, hW, hb, Rnx_9⟩ := new1 w4 (.cells #[.bool (decide (m < 0)), .slice A (digs m.natAbs).length c, .int .i64 x] 26)
  rw [← hW]
  have L9 := ls L4 hb
  have Rt_9 := co Rt_4 hb
  have Gnx := gl0 L4.out
  have Ntnx := nl0 Rt_4.out
  clear hW hb
  clear ft0 zt0 ft1 zt1 ft2 zt2 ft3 zt3 ft4 zt4 ft5 zt5 ft6 zt6 ft7 zt7 ft8 zt8 xt
  go_loopw [52] (fun i wr => ∃ (j : Nat) (K E : Int) (A1 : Option Addr) (c1 : Nat), j ≤ ps.length ∧ i = .int .i64 j ∧ Hid (rightL D (ps.take j) (m, x) = some (K, E)) ∧ Hid (Rt K E ∧ (digs K.natAbs).length ≤ 10000) ∧ Hid (Below w.heap.size w wr) ∧ Hid (wr.heap[w.heap.size]? = some (.cells #[.int .i64 F, .int .i64 O, .bool (decide (m < 0)), .slice A (digs m.natAbs).length c, .int .i64 x, .int .i64 W, .int .i64 Q, .int .i64 D, .slice (some ⟨b, o, none⟩) ps.length k] 29 (0, 0))) ∧ Hid (wr.heap[w4.heap.size]? = some (.cells #[.bool (decide (K < 0)), .slice A1 (digs K.natAbs).length c1, .int .i64 E] 26 (0, 0))) ∧ Hid (Dg wr A1 c1 (digs K.natAbs))) (fun i _ => ps.length - (intOf i).toNat)
  case atStart => exact ⟨0, m, x, A, c, Nat.zero_le _, rfl, qH rfl, qH ⟨HR1.out, lx.out⟩, qH L9.out.1, Rt_9, Rnx_9, qH (L9.out.get (A := A) (c := c) (xs := digs m.natAbs) (by simp))⟩
  case round =>
    obtain ⟨j, K, E, A1, c1, hj, rfl, HL, HK, HB, HRT, HRN, HD1⟩ := hrel
    have L0r := qH (((L0.out.step HB.out)).add HD1.out)
    by_cases hlt : j < ps.length
    · obtain ⟨p, hp⟩ : ∃ p, ps[j]? = some p := ⟨_, List.getElem?_eq_getElem hlt⟩
      obtain ⟨A2, c2, B2, d2, P2, k2, e0, e1, e2, e3, e4, e5, e6, e7, hda, hde, hns⟩ := HPS.out j p hp
      have HP := qH hp
      have SM := qH (HSM.out p (List.mem_of_getElem? hp))
      have HLT := qH hlt
      have g0 := (HB.out.cell (p := ⟨b, o + j * 8, none⟩) HBB.out).trans e0
      have g1 := (HB.out.cell (p := ⟨b, o + j * 8 + 1, none⟩) HBB.out).trans e1
      have g2 := (HB.out.cell (p := ⟨b, o + j * 8 + 2, none⟩) HBB.out).trans e2
      have g3 := (HB.out.cell (p := ⟨b, o + j * 8 + 3, none⟩) HBB.out).trans e3
      have g4 := (HB.out.cell (p := ⟨b, o + j * 8 + 4, none⟩) HBB.out).trans e4
      have g5 := (HB.out.cell (p := ⟨b, o + j * 8 + 5, none⟩) HBB.out).trans e5
      have g6 := (HB.out.cell (p := ⟨b, o + j * 8 + 6, none⟩) HBB.out).trans e6
      have g7 := (HB.out.cell (p := ⟨b, o + j * 8 + 7, none⟩) HBB.out).trans e7
      have LR := qH ((L0r.out.add (hda.below HB.out)).add (hde.below HB.out))
      have HNS := qH hns
      have GTn : w.heap.size < wr.heap.size := heap_lt HRT.out
      clear e0 e1 e2 e3 e4 e5 e6 e7 hda hde hns hp
      obtain ⟨pb, hpb⟩ : ∃ r, pieceB p D = r := ⟨_, rfl⟩
      have HPB := qH hpb
      clear hpb
      obtain ⟨ft0, zt0, ft1, zt1, ft2, zt2, ft3, zt3, ft4, zt4, ft5, zt5, ft6, zt6, ft7, zt7, ft8, zt8, xt⟩ := ly9z HRT.out
      obtain ⟨fnx0, znx0, fnx1, znx1, fnx2, znx2, xnx⟩ := ly3 HRN.out
      go_wp2_with fail
      obtain ⟨w10, hW, hb, Rp_10⟩ := new1 wr (.cells #[.bool p.a.1, .slice A2 p.a.2.1.length c2, .int .i64 p.a.2.2, .int .i64 p.w, .slice P2 p.cs.length k2, .bool p.er.1, .slice B2 p.er.2.1.length d2, .int .i64 p.er.2.2] 49)
      rw [← hW]
      have L10 := ls LR hb
      have Rt_10 := co HRT hb
      have Rnx_10 := co HRN hb
      have Gp := gl0 LR.out
      have Ntp := nl0 HRT.out
      have Nnxp := nl0 HRN.out
      clear hW hb
      clear ft0 zt0 ft1 zt1 ft2 zt2 ft3 zt3 ft4 zt4 ft5 zt5 ft6 zt6 ft7 zt7 ft8 zt8 xt fnx0 znx0 fnx1 znx1 fnx2 znx2 xnx
      clear g0 g1 g2 g3 g4 g5 g6 g7
      obtain ⟨ft0, zt0, ft1, zt1, ft2, zt2, ft3, zt3, ft4, zt4, ft5, zt5, ft6, zt6, ft7, zt7, ft8, zt8, xt⟩ := ly9z Rt_10.out
      obtain ⟨fp0, zp0, fp1, zp1, fp2, zp2, fp3, zp3, fp4, zp4, fp5, zp5, fp6, zp6, fp7, zp7, xp⟩ := ly8z Rp_10.out
      go_wp2_with fail
      refine (rpiece_any (p := p) (q := pb) (L10.out.get (A := A2) (c := c2) (xs := p.a.2.1) (by simp)) (L10.out.get (A := B2) (c := d2) (xs := p.er.2.1) (by simp)) SM.out.1 SM.out.2.1 (HNS.out.below L10.out.1) SM.out.2.2 HD.out.1 HD.out.2 HPB.out).mono ?_
      rintro e w11 ⟨rfl, hb⟩
      have L11 := ls L10 hb
      clear ft0 zt0 ft1 zt1 ft2 zt2 ft3 zt3 ft4 zt4 ft5 zt5 ft6 zt6 ft7 zt7 ft8 zt8 xt fp0 zp0 fp1 zp1 fp2 zp2 fp3 zp3 fp4 zp4 fp5 zp5 fp6 zp6 fp7 zp7 xp
      have Rt_11 := co Rt_10 hb
      have Rnx_11 := co Rnx_10 hb
      have Rp_11 := co Rp_10 hb
      clear hb 
      cases pb
      · have HQF := qH (show q = false by rw [← HQ.out, right_none HP.out HL.out (by rw [HPB.out]; rfl)]; rfl)
        go_wp2
        try rw [Exit.noGoto_ret]
        go_ret
        exact ⟨by rw [HQF.out]; rfl, L11.out.1⟩
      · have hnb : nmB p.a = true := by have := HPB.out; unfold pieceB at this; simp only [Bool.and_eq_true] at this; exact this.2.2.1.1
        have hwb : -30 ≤ p.w ∧ p.w ≤ 10 := by have := HPB.out; unfold pieceB at this; simp only [Bool.and_eq_true, decide_eq_true_eq] at this; exact this.1
        unfold nmB mayB at hnb
        rw [Bool.and_eq_true] at hnb
        obtain ⟨m2, hm2, hs2, rr2⟩ := num_of ((L11.out.get (A := A2) (c := c2) (xs := p.a.2.1) (by simp))).2.1 hnb.1
        have hnv : nmv p.a = m2 := by unfold nmv; rw [← hm2, ← hs2, val_digs]; exact sg_dzM m2
        obtain ⟨j0, hj0⟩ : ∃ j, cmpd (dv m2 p.a.2.2) (dv K E) = j := ⟨_, rfl⟩
        have HC := qH (fun (V : World) (ha : Dg V A2 c2 p.a.2.1) (hb : Dg V A1 c1 (digs K.natAbs)) => (by rw [← hm2] at ha; have := dcmp_any ha hb (by rw [hm2]; have := SM.out.1; omega) (by have := HK.out.2; omega) rr2 HK.out.1 hj0; rw [hm2, hs2] at this; exact this : Calls Tryz.prog 29 #[.agg #[.bool p.a.1, .slice A2 p.a.2.1.length c2, .int .i64 p.a.2.2], .agg #[.bool (decide (K < 0)), .slice A1 (digs K.natAbs).length c1, .int .i64 E]] V fun e w' => e = .returned (.int .i64 j0) ∧ Below V.heap.size V w'))
        obtain ⟨⟨K2, F2⟩, hkf⟩ : ∃ t, endq m2 p.a.2.2 p.w = t := ⟨_, rfl⟩
        have HE := qH (fun (V : World) (ha : Dg V A2 c2 p.a.2.1) (hT : T32 V) => (by rw [← hm2] at ha; have := end_q ha (by rw [hm2]; exact SM.out.1) rr2 hT hwb.1 hwb.2 hkf; rw [hm2, hs2] at this; exact this : Calls Tryz.prog 30 #[.agg #[.bool p.a.1, .slice A2 p.a.2.1.length c2, .int .i64 p.a.2.2], .int .i64 p.w] V fun e w' => Yr K2 F2 V e w'))
        have RK2 := qH (endq_rt m2 p.a.2.2 p.w)
        rw [hkf] at RK2
        by_cases hsm : m2 = K ∧ p.a.2.2 = E
        · have hz : (j0 != 0) = false := by rw [← hj0, hsm.1, hsm.2, cmpd_eq rfl]; rfl
          have HRS := qH (right_some (r := (K, E)) HP.out HL.out (by rw [HPB.out, hnv, decide_eq_true hsm]; rfl))
          rw [← hsm.1, ← hsm.2, hkf] at HRS
          clear hnb hm2 hs2 rr2 hnv hj0 hkf hwb hsm
          obtain ⟨fp0, zp0, fp1, zp1, fp2, zp2, fp3, zp3, fp4, zp4, fp5, zp5, fp6, zp6, fp7, zp7, xp⟩ := ly8z Rp_11.out
          obtain ⟨fnx0, znx0, fnx1, znx1, fnx2, znx2, xnx⟩ := ly3 Rnx_11.out
          go_wp2_with fail
          refine (HC.out _ (L11.out.get (A := A2) (c := c2) (xs := p.a.2.1) (by simp)) (L11.out.get (A := A1) (c := c1) (xs := digs K.natAbs) (by simp))).mono ?_
          rintro e w12 ⟨rfl, hb⟩
          have L12 := ls L11 hb
          clear fp0 zp0 fp1 zp1 fp2 zp2 fp3 zp3 fp4 zp4 fp5 zp5 fp6 zp6 fp7 zp7 xp fnx0 znx0 fnx1 znx1 fnx2 znx2 xnx
          have Rt_12 := co Rt_11 hb
          have Rnx_12 := co Rnx_11 hb
          have Rp_12 := co Rp_11 hb
          clear hb 
          obtain ⟨fp0, zp0, fp1, zp1, fp2, zp2, fp3, zp3, fp4, zp4, fp5, zp5, fp6, zp6, fp7, zp7, xp⟩ := ly8z Rp_12.out
          go_wp2_with fail
          refine (HE.out _ (L12.out.get (A := A2) (c := c2) (xs := p.a.2.1) (by simp)) (t32_live HT.out L12.out)).mono ?_
          rintro e w13 ⟨A13, c13, rfl, hd, hb⟩
          have L13 := la L12 hb hd
          clear fp0 zp0 fp1 zp1 fp2 zp2 fp3 zp3 fp4 zp4 fp5 zp5 fp6 zp6 fp7 zp7 xp
          have Rt_13 := co Rt_12 hb
          have Rnx_13 := co Rnx_12 hb
          have Rp_13 := co Rp_12 hb
          clear hb hd
          obtain ⟨fnx0, znx0, fnx1, znx1, fnx2, znx2, xnx⟩ := ly3 Rnx_13.out
          go_wp2
          obtain ⟨w14, hW⟩ : ∃ W : World, W = (((w13.setCell ⟨w4.heap.size, 0, none⟩ (.bool (decide (K2 < 0)))).setCell ⟨w4.heap.size, 1, none⟩ (.slice A13 (digs K2.natAbs).length c13)).setCell ⟨w4.heap.size, 2, none⟩ (.int .i64 F2)) := ⟨_, rfl⟩
          rw [← hW]
          have hO : Only (w4.heap.size) w13 w14 := by rw [hW]; exact ((((Only.refl (w4.heap.size) w13).setCell 0 _).setCell 1 _).setCell 2 _)
          have L14 := qH (live_only L13.out hO Rnx_13.out noint_dy Gnx)
          have Rt_14 := qH ((hO.block _ (by omega)).trans Rt_13.out)
          have Rp_14 := qH ((hO.block _ (by omega)).trans Rp_13.out)
          have Rnx_14 := qH (show w14.heap[w4.heap.size]? = some (.cells #[.bool (decide (K2 < 0)), .slice A13 (digs K2.natAbs).length c13, .int .i64 F2] 26 (0, 0)) by rw [hW]; exact (heap_setCell_same _ _ 2 _ _ _ (heap_setCell_same _ _ 1 _ _ _ (heap_setCell_same _ _ 0 _ _ _ Rnx_13.out))))
          clear hW hO
          clear fnx0 znx0 fnx1 znx1 fnx2 znx2 xnx
          go_roundw
          case rel =>
            have hlen := HLEN.out
            have hlt := HLT.out
            have hw : wrap64 ((j : Int) + 1) = (j : Int) + 1 := IntWalk.wrap64_in _ ⟨by omega, by omega⟩
            exact ⟨j + 1, K2, F2, A13, c13, HLT.out, by rw [hw]; exact congrArg _ (by omega), HRS, RK2, qH L14.out.1, Rt_14, Rnx_14, qH (L14.out.get (A := A13) (c := c13) (xs := digs K2.natAbs) (by simp))⟩
          case measure =>
            have hlen := HLEN.out
            have hlt := HLT.out
            have hw : wrap64 ((j : Int) + 1) = (j : Int) + 1 := IntWalk.wrap64_in _ ⟨by omega, by omega⟩
            rw [hw]
            simp [intOf]; omega
        · have hz : (j0 != 0) = true := bne_iff_ne.2 (fun e => hsm (by rw [← hj0, cmpd_zero] at e; exact nf_inj rr2.1 HK.out.1.1 e))
          have HQF := qH (show q = false by rw [← HQ.out, right_none (r := (K, E)) HP.out HL.out (by rw [HPB.out, hnv, decide_eq_false hsm]; rfl)]; rfl)
          clear hnb hm2 hs2 rr2 hnv hj0 hkf hwb hsm
          obtain ⟨fp0, zp0, fp1, zp1, fp2, zp2, fp3, zp3, fp4, zp4, fp5, zp5, fp6, zp6, fp7, zp7, xp⟩ := ly8z Rp_11.out
          obtain ⟨fnx0, znx0, fnx1, znx1, fnx2, znx2, xnx⟩ := ly3 Rnx_11.out
          go_wp2_with fail
          refine (HC.out _ (L11.out.get (A := A2) (c := c2) (xs := p.a.2.1) (by simp)) (L11.out.get (A := A1) (c := c1) (xs := digs K.natAbs) (by simp))).mono ?_
          rintro e w12 ⟨rfl, hb⟩
          have L12 := ls L11 hb
          clear fp0 zp0 fp1 zp1 fp2 zp2 fp3 zp3 fp4 zp4 fp5 zp5 fp6 zp6 fp7 zp7 xp fnx0 znx0 fnx1 znx1 fnx2 znx2 xnx
          have Rt_12 := co Rt_11 hb
          have Rnx_12 := co Rnx_11 hb
          have Rp_12 := co Rp_11 hb
          clear hb 
          go_wp2
          try rw [Exit.noGoto_ret]
          go_ret
          exact ⟨by rw [HQF.out]; rfl, L12.out.1⟩
    · obtain rfl : j = ps.length := by omega
      have GTn : w.heap.size < wr.heap.size := heap_lt HRT.out
      have hl2 := HL.out
      rw [List.take_length] at hl2
      obtain ⟨⟨Z1, Z2⟩, hzz⟩ : ∃ t, endq m x W = t := ⟨_, rfl⟩
      have RZ := endq_rt m x W
      rw [hzz] at RZ
      dsimp only at RZ
      obtain ⟨j1, hj1⟩ : ∃ j, cmpd (dv K E) (dv Z1 Z2) = j := ⟨_, rfl⟩
      have hqz : (j1 == 0) = q := by
        rw [← HQ.out, hl2, hzz, Bool.eq_iff_iff]
        simp only [beq_iff_eq, Option.some.injEq, Prod.mk.injEq]
        rw [← hj1, cmpd_zero]
        exact ⟨fun e => nf_inj HK.out.1.1 RZ.1.1 e, fun e => by rw [e.1, e.2]⟩
      have HZ := qH hzz
      have HRZ := qH RZ
      have HJ := qH hj1
      have LK := qH (show (digs K.natAbs).length ≤ 400000 by have := HK.out.2; omega)
      have LZ := qH (show (digs Z1.natAbs).length ≤ 400000 by omega)
      have RKK := qH HK.out.1
      clear hl2 hzz RZ hj1
      obtain ⟨ft0, zt0, ft1, zt1, ft2, zt2, ft3, zt3, ft4, zt4, ft5, zt5, ft6, zt6, ft7, zt7, ft8, zt8, xt⟩ := ly9z HRT.out
      obtain ⟨fnx0, znx0, fnx1, znx1, fnx2, znx2, xnx⟩ := ly3 HRN.out
      go_wp2_with fail
      clear ft0 zt0 ft1 zt1 ft2 zt2 ft3 zt3 ft4 zt4 ft5 zt5 ft6 zt6 ft7 zt7 ft8 zt8 xt fnx0 znx0 fnx1 znx1 fnx2 znx2 xnx
      obtain ⟨fnx0, znx0, fnx1, znx1, fnx2, znx2, xnx⟩ := ly3 HRN.out
      obtain ⟨ft0, zt0, ft1, zt1, ft2, zt2, ft3, zt3, ft4, zt4, ft5, zt5, ft6, zt6, ft7, zt7, ft8, zt8, xt⟩ := ly9z HRT.out
      have KD := qH (bd0 wr)
      have LD := ls L0r KD.out
      go_region_held3 (fun w' => ∀ b o, b < wr.heap.size → w'.cell? ⟨b, o, none⟩ = wr.cell? ⟨b, o, none⟩)
        (first | with_reducible exact (bcell KD.out).1 | with_reducible exact (bcell K14.out).1 | with_reducible exact (bcell K15.out).1)
        (first
          | (go_at_call 30; (with_reducible refine (end_q (K := Z1) (F := Z2) (LD.out.get (A := A) (c := c) (xs := digs m.natAbs) (by simp)) lx.out HR1.out (t32_live HT.out LD.out) HW.out.1 HW.out.2 HZ.out).mono ?_); rintro e w14 ⟨A14, c14, rfl, hd, hb⟩; (have K14 := bt KD hb); (have L14 := la LD hb hd); clear hb hd)
          | (go_at_call 29; (with_reducible refine (dcmp_any (L14.out.get (A := A1) (c := c1) (xs := digs K.natAbs) (by simp)) (L14.out.get (A := A14) (c := c14) (xs := digs Z1.natAbs) (by simp)) LK.out LZ.out RKK.out HRZ.out.1 HJ.out).mono ?_); rintro e w15 ⟨rfl, hb⟩; (have K15 := bt K14 hb); (have L15 := qH (L14.out.step hb)); clear hb ))
      rename_i hHeld
      clear hHeld
      clear fnx0 znx0 fnx1 znx1 fnx2 znx2 xnx ft0 zt0 ft1 zt1 ft2 zt2 ft3 zt3 ft4 zt4 ft5 zt5 ft6 zt6 ft7 zt7 ft8 zt8 xt
      have Rt_15 := co HRT K15.out
      have Rnx_15 := co HRN K15.out
      clear KD LD
      go_wp2
      go_ret
      exact ⟨rfl, L15.out.1⟩
def PsL (w : World) (P : Option Addr) (ps : List Pd) : Prop := ps.length ≠ 0 → ∃ b o, P = some ⟨b, o, none⟩ ∧ b < w.heap.size ∧ PsW w b o ps
theorem cright_any {A P : Option Addr} {c k : Nat} {F O W Q D : Int} {a : Nm} {ps : List Pd} {q : Bool} {w : World} (h : Dg w A c a.2.1) (hl : a.2.1.length ≤ 10000) (hT : T32 w) (hps : PsL w P ps) (hsm : SmP ps) (hq : rightT F O a W Q D ps = q) :
    Calls Tryz.prog 15 #[.agg #[.int .i64 F, .int .i64 O, .bool a.1, .slice A a.2.1.length c, .int .i64 a.2.2, .int .i64 W, .int .i64 Q, .int .i64 D, .slice P ps.length k]] w fun e w' => e = .returned (.bool q) ∧ Below w.heap.size w w' := by
  obtain ⟨s, xs, x⟩ := a
  unfold rightT at hq
  dsimp only at *
  cases h0 : (decide (1 ≤ F) && decide (F ≤ 10))
  · obtain rfl : q = false := by rw [← hq, h0]; rfl
    exact right_0 A P c _ k s xs F O x W Q D w h hl h0
  · rw [h0, Bool.true_and] at hq
    cases h1 : (decide (0 ≤ O) && decide (O ≤ 64))
    · obtain rfl : q = false := by rw [← hq, h1]; rfl
      exact right_1 A P c _ k s xs F O x W Q D w h hl h0 h1
    · rw [h1, Bool.true_and] at hq
      cases h2 : plainB s xs x
      · obtain rfl : q = false := by rw [← hq, h2]; rfl
        exact right_2 A P c _ k s xs F O x W Q D w h hl h0 h1 h2
      · rw [h2, Bool.true_and] at hq
        cases h3 : (decide ((-30) ≤ W) && decide (W ≤ 10))
        · obtain rfl : q = false := by rw [← hq, h3]; rfl
          exact right_3 A P c _ k s xs F O x W Q D w h hl h0 h1 h2 h3
        · rw [h3, Bool.true_and] at hq
          cases h4 : (decide (4 ≤ Q) && decide (Q ≤ 48))
          · obtain rfl : q = false := by rw [← hq, h4]; rfl
            exact right_4 A P c _ k s xs F O x W Q D w h hl h0 h1 h2 h3 h4
          · rw [h4, Bool.true_and] at hq
            cases h5 : (decide (1 ≤ D) && decide (D ≤ 16))
            · obtain rfl : q = false := by rw [← hq, h5]; rfl
              exact right_5 A P c _ k s xs F O x W Q D w h hl h0 h1 h2 h3 h4 h5
            · rw [h5, Bool.true_and] at hq
              cases h6 : (decide (1 ≤ (ps.length : Int)) && decide ((ps.length : Int) ≤ 32))
              · obtain rfl : q = false := by rw [← hq, h6]; rfl
                exact right_6 A P c _ k s xs F O x W Q D w h hl h0 h1 h2 h3 h4 h5 h6
              · rw [h6, Bool.true_and] at hq
                have hr : dyR s xs x = true := by unfold plainB at h2; rw [Bool.and_eq_true] at h2; exact h2.1
                obtain ⟨m, rfl, rfl, r1⟩ := num_of h.2.1 hr
                obtain ⟨b, o, rfl, hb, hp⟩ := hps (by simp at h6; omega)
                have hv : nmv (decide (m < 0), digs m.natAbs, x) = m := by unfold nmv; rw [val_digs]; exact sg_dzM m
                rw [hv] at hq
                exact right_go A c b o k m x F O W Q D ps w h hl r1 hT hb hp hsm h0 h1 h2 h3 h4 h5 h6 hq
theorem dbytes_no (A : Option Addr) (c : Nat) (m x : Int) (w : World) (h : Dg w A c (digs m.natAbs)) (hl : (digs m.natAbs).length ≤ 400) (r1 : Rt m x) (hq : inR m x = false):
    Calls Tryz.prog 31 #[.agg #[.bool (decide (m < 0)), .slice A (digs m.natAbs).length c, .int .i64 x]] w fun e w' => e = .returned (.tuple #[.string ⟨#[]⟩, .int .i64 4]) ∧ Below w.heap.size w w' := by
  have HR1 := qH r1
  have lx := qH hl
  have HQ := qH hq
  have x0 := r1.2.1
  have x1 := r1.2.2
  obtain ⟨t1, ht1⟩ : ∃ t : ByteArray, t.data.toList = zb m := ⟨⟨(zb m).toArray⟩, rfl⟩
  obtain ⟨t2, ht2⟩ : ∃ t : ByteArray, t.data.toList = zb x := ⟨⟨(zb x).toArray⟩, rfl⟩
  have ZM := qH (fun W A c hW => zby_yes (A := A) (c := c) hl ht1 W hW)
  have lx2 : (digs x.natAbs).length ≤ 2 := digs_small (by omega)
  have ZX := qH (fun W A c hW => zby_yes (A := A) (c := c) (Nat.le_trans lx2 (by omega)) ht2 W hW)
  have FX := qH (fun W => zfrom_any x W (by omega) (by omega))
  have L0 := qH ((live_start w).add h)
  clear h hl r1 hq ht1 ht2 lx2 x0 x1
  go_enter Tryz.func31, Tryz.ntmps31
  go_wp2_with fail
  obtain ⟨v1, hW, hb, Rx_1, Rsl_1⟩ := new2 w (.cells #[.bool (decide (m < 0)), .slice A (digs m.natAbs).length c, .int .i64 x] 26) (.cells #[.bool (decide (m < 0)), .slice A (digs m.natAbs).length c, .int .i64 x] 26)
  rw [← hW]
  have L1 := ls L0 hb
  have Gx := gl0 L0.out
  have Gsl := gl1 L0.out
  have Nxsl : w.heap.size < w.heap.size + 1 := by omega
  clear hW hb
  refine (begin_1 Rsl_1.out (L1.out.get (A := A) (c := c) (xs := digs m.natAbs) (by simp)) (dyR_num HR1.out) (Nat.le_trans lx.out (by omega)) (k := 0) rfl).mono ?_
  rintro e w2 ⟨rfl, hb⟩
  have L2 := ls L1 hb
  have Rx_2 := co Rx_1 hb
  have Rsl_2 := co Rsl_1 hb
  clear hb 
  obtain ⟨fx0, zx0, fx1, zx1, fx2, zx2, xx⟩ := ly3 Rx_2.out
  go_wp2_with fail
  obtain ⟨w3, hW, hb, Rk_3⟩ := new1 w2 (.cells #[.int .i64 0] 103)
  rw [← hW]
  have L3 := ls L2 hb
  have Rx_3 := co Rx_2 hb
  have Rsl_3 := co Rsl_2 hb
  have Gk := gl0 L2.out
  have Nxk := nl0 Rx_2.out
  have Nslk := nl0 Rsl_2.out
  clear hW hb
  clear fx0 zx0 fx1 zx1 fx2 zx2 xx
  refine (inRange_any A c (decide (m < 0)) m x _ (L3.out.get (A := A) (c := c) (xs := digs m.natAbs) (by simp)) false HQ.out (Nat.le_trans lx.out (by omega))).mono ?_
  rintro e w4 ⟨rfl, hb⟩
  have L4 := ls L3 hb
  have Rx_4 := co Rx_3 hb
  have Rsl_4 := co Rsl_3 hb
  have Rk_4 := co Rk_3 hb
  clear hb 
  go_wp2_with fail
  refine (tell_yes _ 4 _ (row_c Rk_4.out (i := 0) rfl) (frozen_of_row _ _ 0 _ _ Rk_4.out)).mono ?_
  rintro e w5 ⟨rfl, rfl⟩
  obtain ⟨w6, hW⟩ : ∃ W : World, W = (w4.setCell ⟨w2.heap.size, 0, none⟩ (.int .i64 4)) := ⟨_, rfl⟩
  rw [← hW]
  have hO : Only (w2.heap.size) w4 w6 := by rw [hW]; exact ((Only.refl (w2.heap.size) w4).setCell 0 _)
  have L6 := qH (live_only L4.out hO Rk_4.out noint_re Gk)
  have Rx_6 := qH ((hO.block _ (by omega)).trans Rx_4.out)
  have Rsl_6 := qH ((hO.block _ (by omega)).trans Rsl_4.out)
  have Rk_6 := qH (show w6.heap[w2.heap.size]? = some (.cells #[.int .i64 4] 103 (0, 0)) by rw [hW]; exact (heap_setCell_same _ _ 0 _ _ _ Rk_4.out))
  clear hW hO
  obtain ⟨fx0, zx0, fx1, zx1, fx2, zx2, xx⟩ := ly3 Rx_6.out
  go_wp2_with fail
  refine (ZM.out _ _ _ (L6.out.get (A := A) (c := c) (xs := digs m.natAbs) (by simp))).mono ?_
  rintro e w7 ⟨rfl, hb⟩
  have L7 := ls L6 hb
  clear fx0 zx0 fx1 zx1 fx2 zx2 xx
  have Rx_7 := co Rx_6 hb
  have Rsl_7 := co Rsl_6 hb
  have Rk_7 := co Rk_6 hb
  clear hb 
  go_wp2_with fail
  refine (tell_no _ 4 0 false _ (row_c Rk_7.out (i := 0) rfl) (.inl rfl)).mono ?_
  rintro e w8 ⟨rfl, rfl⟩
  obtain ⟨fx0, zx0, fx1, zx1, fx2, zx2, xx⟩ := ly3 Rx_7.out
  go_wp2_with fail
  refine (FX.out _).mono ?_
  rintro e w9 ⟨A9, c9, rfl, hd, hb⟩
  have L9 := la L7 hb hd
  clear fx0 zx0 fx1 zx1 fx2 zx2 xx
  have Rx_9 := co Rx_7 hb
  have Rsl_9 := co Rsl_7 hb
  have Rk_9 := co Rk_7 hb
  clear hb hd
  go_wp2_with fail
  refine (ZX.out _ _ _ (L9.out.get (A := A9) (c := c9) (xs := digs x.natAbs) (by simp))).mono ?_
  rintro e w10 ⟨rfl, hb⟩
  have L10 := ls L9 hb
  have Rx_10 := co Rx_9 hb
  have Rsl_10 := co Rsl_9 hb
  have Rk_10 := co Rk_9 hb
  clear hb 
  go_wp2_with fail
  refine (tell_no _ 4 0 false _ (row_c Rk_10.out (i := 0) rfl) (.inl rfl)).mono ?_
  rintro e w11 ⟨rfl, rfl⟩
  go_wp2_with fail
  refine (fails_any _ 4 true _ (row_c Rk_10.out (i := 0) rfl) rfl).mono ?_
  rintro e w12 ⟨rfl, rfl⟩
  obtain ⟨fk0, zk0, xk⟩ := ly1 Rk_10.out
  go_wp2_with fail
  go_region
  go_wp2
  go_ret2
  exact ⟨rfl, below_drew L10.out.1⟩
def Gq (base g : Nat) (w w' : World) : Prop :=
  (w'.os = w.os ∧ w'.tape = w.tape ∧ w'.output = w.output ∧ w.heap.size ≤ w'.heap.size) ∧ ∀ k, k < w.heap.size → k ≠ g → (k < base ∨ ∀ cs fr, w.heap[k]? ≠ some (.cells cs 5 fr)) → w'.heap[k]? = w.heap[k]?
theorem Gq.refl (base g : Nat) (w : World) : Gq base g w w := ⟨⟨rfl, rfl, rfl, Nat.le_refl _⟩, fun _ _ _ _ => rfl⟩
theorem Gq.trans {base g : Nat} {a b c : World} (h : Gq base g a b) (k : Gq base g b c) : Gq base g a c := by
  refine ⟨⟨k.1.1.trans h.1.1, k.1.2.1.trans h.1.2.1, k.1.2.2.1.trans h.1.2.2.1, Nat.le_trans h.1.2.2.2 k.1.2.2.2⟩, fun i hi hg hb => ?_⟩
  have e := h.2 i hi hg hb
  exact (k.2 i (Nat.lt_of_lt_of_le hi h.1.2.2.2) hg (hb.imp id (fun f cs fr x => f cs fr (e ▸ x)))).trans e
theorem Gq.below {base g : Nat} {a b : World} (h : Below a.heap.size a b) : Gq base g a b := ⟨⟨h.os, h.tape, h.output, h.size⟩, fun i hi _ _ => h.block i hi⟩
theorem Gq.only {base g : Nat} {a b : World} (h : Only g a b) : Gq base g a b := ⟨⟨h.os, h.tape, h.output, Nat.le_of_eq h.size.symm⟩, fun i _ hg _ => h.block i hg⟩
theorem own_at {w : World} {base n : Nat} {v : Value} {xs : List Value} (h : w.ownsRow base 5 1 v n xs) {k : Nat} (hk : v.ownBlock = some k) : base ≤ k ∧ ∃ cs fr, w.heap[k]? = some (.cells cs 5 fr) := by
  rcases h.2 with ⟨rfl, _⟩ | ⟨g, cap, cur, rfl, hb, hg, _⟩
  · cases hk
  · obtain rfl : g = k := by simpa [Value.ownBlock] using hk
    exact ⟨hb, cur, _, hg⟩
theorem Gq.grown {base g n : Nat} {a b : World} {v : Value} {xs : List Value} (h : a.grownBy b v.ownBlock) (ho : a.ownsRow base 5 1 v n xs) : Gq base g a b :=
  ⟨⟨h.os, h.tape, h.output, h.size⟩, fun i hi _ hb => h.block i hi (fun e => by
    obtain ⟨h1, cs, fr, h2⟩ := own_at ho e.symm
    rcases hb with hb | hb
    · omega
    · exact hb cs fr h2)⟩
theorem Gq.row {base g : Nat} {a b : World} (h : Gq base g a b) {k : Nat} {cs : Array Value} {T : TypeId} {fr : Nat × Nat} (hr : a.heap[k]? = some (.cells cs T fr)) (hk : k ≠ g) (hT : T ≠ 5) : b.heap[k]? = some (.cells cs T fr) :=
  (h.2 k (heap_lt hr) hk (.inr (fun cs' fr' e => by rw [hr] at e; exact hT (by injection e with e; injection e)))).trans hr
theorem Gq.base {base g N : Nat} {W a b : World} (h : Gq base g a b) (hB : Below N W a) (hN : N ≤ a.heap.size) (hg : N ≤ g) (hb : N ≤ base) : Below N W b :=
  ⟨h.1.1.trans hB.os, h.1.2.1.trans hB.tape, h.1.2.2.1.trans hB.output, Nat.le_trans hB.size h.1.2.2.2, fun i hi => (h.2 i (by omega) (by omega) (.inl (by omega))).trans (hB.block i hi)⟩
theorem str_size (l : List UInt8) : (⟨l.toArray⟩ : ByteArray).size = l.length := rfl
theorem str_bytes (l : List UInt8) : Lib.strCells ⟨l.toArray⟩ = Lib.byteCells l := by unfold Lib.strCells Lib.byteCells; simp
theorem byte_cell1 (X : Int) : Lib.byteCells [UInt8.ofNat (X % 256).toNat] = [.int .u8 (X % 256)] := by
  have h0 : 0 ≤ X % 256 := Int.emod_nonneg _ (by decide)
  have h1 : X % 256 < 256 := Int.emod_lt_of_pos _ (by decide)
  unfold Lib.byteCells
  simp
  omega
def by8 (n : Int) : UInt8 := UInt8.ofNat (n % 256).toNat
theorem one_new {w : World} {a : Value} {T : TypeId} {j : Nat} {u : Value} (hj : [a][j]? = some u) : (w.alloc (.cells #[a] T)).cell? ((⟨w.heap.size, 0, none⟩ : Addr).add j) = some u := by
  rw [Addr.add_lit, Nat.zero_add, cell_of_row _ _ _ _ _ _ (heap_alloc_new w _)]
  simpa using hj
def PB (w : World) (base g : Nat) (v : Value) (L : List UInt8) (E : Int) : Prop :=
  w.heap[g]? = some (.cells #[v, .int .i64 E] 52 (0, 0)) ∧ w.ownsRow base 5 1 v L.length (Lib.byteCells L) ∧ base ≤ g
theorem own_keep {w w' : World} {base n : Nat} {v : Value} {xs : List Value} (h : w.ownsRow base 5 1 v n xs) (hk : ∀ k, v.ownBlock = some k → w'.heap[k]? = w.heap[k]?) : w'.ownsRow base 5 1 v n xs := by
  refine ⟨h.1, ?_⟩
  rcases h.2 with h1 | ⟨g, cap, cur, rfl, hb, hg, hr⟩
  · exact .inl h1
  · exact .inr ⟨g, cap, cur, rfl, hb, (hk g rfl).trans hg, hr⟩
theorem PB.below {w w' : World} {base g : Nat} {v : Value} {L : List UInt8} {E : Int} (h : PB w base g v L E) (hb : Below w.heap.size w w') : PB w' base g v L E :=
  ⟨cells_of h.1 hb, own_keep h.2.1 (fun k hk => by obtain ⟨_, cs, fr, e⟩ := own_at h.2.1 hk; exact hb.block k (heap_lt e)), h.2.2⟩
theorem PB.ne {w : World} {base g : Nat} {v : Value} {L : List UInt8} {E : Int} (h : PB w base g v L E) : v.ownBlock ≠ some g := fun e => by
  obtain ⟨_, cs, fr, e2⟩ := own_at h.2.1 e
  rw [h.1] at e2
  injection e2 with e2; injection e2 with e3 e4 e5
  exact absurd e4 (by decide)
theorem wpList_append_sq {w : World} {ops : Array Oper} {rest : List Oper} {o : Oper} {a : Act} {Q : Exit → Act → World → Prop} (hgd : o.guard = none) (s x : Operand)
    (ho : o.op = .call { callee := .builtin .append, args := #[s, x], argTypes := #[50, 9] }) (base : Nat) (v : Value) (n : Nat) (zs ys : List UInt8)
    (hs : a.eval s = v) (hown : w.ownsRow base 5 1 v n (Lib.byteCells zs)) (t : ByteArray) (ht : t.data.toList = ys) (hx : a.eval x = .string t) (hb : n + ys.length ≤ 400000000) (hbase : base ≤ w.heap.size)
    (h : ∀ v' w', w'.ownsRow base 5 1 v' (n + ys.length) (Lib.byteCells (zs ++ ys)) → w.grownBy w' v.ownBlock → wpList Tryz.prog ops Q rest (a.put o.dst v') w') : wpList Tryz.prog ops Q (o :: rest) a w := by
  obtain ⟨i0, hi, hz0, hz1, hz2⟩ := info_parts elem8_info
  obtain rfl : t = ⟨ys.toArray⟩ := by apply ByteArray.ext; apply Array.toList_inj.1; rw [ht]
  refine Lib.wpList_append_own_string _ hgd s x _ _ ho base _ i0 Tryz.underlying50 Tryz.underlying9 hi hz0 hz1 hz2 v n _ hs hown ⟨ys.toArray⟩ hx (by rw [str_size]; unfold maxLen; omega) (by rw [str_size]; omega) hbase fun v' w' h1 h2 _ => ?_
  rw [str_size, str_bytes, ← byteCells_add] at h1
  exact h v' w' h1 h2
theorem own_form {w : World} {base n : Nat} {v : Value} {xs : List Value} (h : w.ownsRow base 5 1 v n xs) : ∃ A m c, v = .slice A m c := by
  rcases h.2 with ⟨rfl, _⟩ | ⟨g, cap, cur, rfl, _⟩
  · exact ⟨_, _, _, rfl⟩
  · exact ⟨_, _, _, rfl⟩
theorem PB.put {w w1 w2 : World} {base g : Nat} {v v1 : Value} {L L1 : List UInt8} {E : Int} (h : PB w base g v L E) (hown : w1.ownsRow base 5 1 v1 L1.length (Lib.byteCells L1)) (hg : w.grownBy w1 v.ownBlock) (e : w1.setCell ⟨g, 0, none⟩ v1 = w2) : PB w2 base g v1 L1 E ∧ Gq base g w w2 := by
  subst e
  have hr : w1.heap[g]? = some (.cells #[v, .int .i64 E] 52 (0, 0)) := (hg.block g (heap_lt h.1) (fun e => h.ne e.symm)).trans h.1
  refine ⟨⟨heap_setCell_same _ _ 0 _ _ _ hr, own_keep hown (fun k hk => ?_), h.2.2⟩, (Gq.grown hg h.2.1).trans (Gq.only ((Only.refl g w1).setCell 0 _))⟩
  refine ((Only.refl g w1).setCell 0 v1).block k (fun e => ?_)
  subst e
  obtain ⟨_, cs, fr, e2⟩ := own_at hown hk
  rw [hr] at e2
  injection e2 with e2; injection e2 with e3 e4 e5
  exact absurd e4 (by decide)
theorem psmall_any (base g b o c : Nat) (v : Value) (L : List UInt8) (E : Int) (ns : List Int) (w : World) (hp : PB w base g v L E) (cs : Array Value) (T : TypeId) (hrow : w.heap[b]? = some (.cells cs T (0, 0))) (hT : T ≠ 5) (hbg : b ≠ g) (hcs : ∀ i x, ns[i]? = some x → w.cell? ⟨b, o + i, none⟩ = some (.int .i64 x)) (hbase : base ≤ w.heap.size) (hl : L.length + ns.length ≤ 100000000) :
    Calls Tryz.prog 16 #[.pointer (some ⟨g, 0, none⟩), .slice (some ⟨b, o, none⟩) ns.length c] w fun e w' => ∃ v', e = .returned (.tuple #[]) ∧ PB w' base g v' (L ++ ns.map by8) E ∧ Gq base g w w' := by
  obtain ⟨i0, hi, hz0, hz1, hz2⟩ := info_parts elem8_info
  have HP := qH hp
  have HR := qH hrow
  have HC := qH hcs
  have HTT := qH (And.intro hT hbg)
  have hlen : ns.length ≤ 100000000 := by omega
  clear hp hrow hcs hT hbg
  go_enter Tryz.func16, Tryz.ntmps16
  go_wp2
  go_loopw [8] (fun i wr => ∃ (k : Nat) (v1 : Value), k ≤ ns.length ∧ i = .int .i64 k ∧ Hid (PB wr base g v1 (L ++ (ns.take k).map by8) E) ∧ Hid (Gq base g w wr)) (fun i _ => ns.length - (intOf i).toNat)
  case atStart => exact ⟨0, v, Nat.zero_le _, rfl, qH (by simpa using HP.out), qH (Gq.refl _ _ _)⟩
  case round =>
    obtain ⟨k, v1, hk, rfl, HP1, HG⟩ := hrel
    by_cases hlt : k < ns.length
    · obtain ⟨x, hx⟩ : ∃ x, ns[k]? = some x := ⟨_, List.getElem?_eq_getElem hlt⟩
      have HX := qH hx
      have hcell : wr.cell? ⟨b, o + k, none⟩ = some (.int .i64 x) := by
        rw [World.cell?_of_block (a := ⟨b, o + k, none⟩) ((HG.out.row HR.out HTT.out.2 HTT.out.1).trans HR.out.symm)]
        exact HC.out k x hx
      have f0 := row_c (i := 0) HP1.out.1 rfl
      have z0 := frozen_of_row _ _ 0 _ _ HP1.out.1
      have xg := heap_lt HP1.out.1
      have bz : base ≤ wr.heap.size := Nat.le_trans hbase HG.out.1.2.2.2
      have ln : (L ++ (ns.take k).map by8).length = L.length + k := by simp; omega
      have HLN := qH ln
      obtain ⟨M, hM⟩ : ∃ M, L ++ (ns.take k).map by8 = M := ⟨_, rfl⟩
      have HM := qH hM
      rw [hM] at HP1 HLN
      clear hx ln hM
      go_wp2_with (at_builtin; refine wpList_append_own _ rfl _ _ 50 rfl base 5 i0 (.int .u8 0) 1 1 Tryz.underlying50 hi hz0 hz1 hz2 rfl (by decide) _ _ _ rfl (HP1.out.2.1.alloc _) ⟨wr.heap.size, 0, none⟩ 1 1 [.int .u8 (x % 256)] rfl rfl (fun j u hj => one_new hj) (by intro u hu; simp at hu; subst hu; rfl) (by rw [HLN.out]; unfold maxLen; omega) (by rw [HLN.out]; omega) (by simp; omega) ?_)
      intro v2 w1 hown1 hgrow hnil
      clear hnil
      have HA := qH (HP1.out.below (below1 wr (.cells #[.int .u8 (x % 256)] 5)))
      have NO := qH (show w1.ownsRow base 5 1 v2 (M ++ [by8 x]).length (Lib.byteCells (M ++ [by8 x])) by
        rw [byteCells_add]; unfold by8; rw [byte_cell1, List.length_append]; exact hown1)
      have HGR := qH hgrow
      have r1 : w1.heap[g]? = some (.cells #[v1, .int .i64 E] 52 (0, 0)) := (hgrow.block g (heap_lt HA.out.1) (fun e => HA.out.ne e.symm)).trans HA.out.1
      have z1 := frozen_of_row _ _ 0 _ _ r1
      have f1 := row_c (i := 0) r1 rfl
      have x1 := heap_lt r1
      clear hown1 hgrow f0 z0 xg hcell r1
      obtain ⟨A2, n2, c2, rfl⟩ := own_form NO.out
      go_wp2_with fail
      obtain ⟨w2, hw2⟩ : ∃ W, W = w1.setCell ⟨g, 0, none⟩ (.slice A2 n2 c2) := ⟨_, rfl⟩
      rw [← hw2]
      have PP := qH (HA.out.put NO.out HGR.out hw2.symm)
      have HX2 := qH (show M ++ [by8 x] = L ++ (ns.take (k + 1)).map by8 by rw [← HM.out, List.take_add_one, HX.out]; simp)
      clear hw2 f1 z1 x1
      go_roundw
      case rel =>
        refine ⟨k + 1, .slice A2 n2 c2, hlt, by go_num, qH ?_, qH ((HG.out.trans (Gq.below (below1 _ _))).trans PP.out.2)⟩
        rw [← HX2.out]; exact PP.out.1
      case measure => simp [intOf]; omega
    · obtain rfl : k = ns.length := by omega
      go_wp2
      go_end0
      exact ⟨v1, rfl, by have := HP1.out; rwa [List.take_length] at this, HG.out⟩
def dyIn (v : Nm) : Bool := inR (nmv v) v.2.2
def nbB (v : Nm) : List UInt8 := zb (nmv v) ++ zb v.2.2
def bytT (v : Nm) : List UInt8 := if dyIn v then nbB v else []
def errT (v : Nm) : Int := if dyIn v then 0 else 4
def stp (s : List UInt8 × Int) (v : Nm) : List UInt8 × Int := (s.1 ++ bytT v, if s.2 = 0 then errT v else s.2)
theorem dbytes_any {v : Nm} (hk : ok32 v.2.1) (hl : v.2.1.length ≤ 400) (hr : dyR v.1 v.2.1 v.2.2 = true) : ∃ t : ByteArray, t.data.toList = bytT v ∧ ∀ (A : Option Addr) (c : Nat) (w : World), Dg w A c v.2.1 →
    Calls Tryz.prog 31 #[.agg #[.bool v.1, .slice A v.2.1.length c, .int .i64 v.2.2]] w fun e w' => e = .returned (.tuple #[.string t, .int .i64 (errT v)]) ∧ Below w.heap.size w w' := by
  obtain ⟨s, xs, x⟩ := v
  dsimp only at *
  obtain ⟨m, rfl, rfl, r1⟩ := num_of hk hr
  have hv : nmv (decide (m < 0), digs m.natAbs, x) = m := by unfold nmv; rw [val_digs]; exact sg_dzM m
  unfold bytT errT dyIn nbB
  rw [hv]
  dsimp only
  cases hi : inR m x
  · exact ⟨⟨#[]⟩, rfl, fun A c w h => dbytes_no A c m x w h hl r1 hi⟩
  · exact ⟨⟨(zb m ++ zb x).toArray⟩, rfl, fun A c w h => dbytes_yes A c m x _ w h hl r1 hi rfl⟩
def RowQ (w : World) (P : Option Addr) (cs : List Nm) : Prop := ∀ (i : Nat) (v : Nm), cs[i]? = some v → ∃ b o A c, P = some ⟨b, o, none⟩ ∧ w.cell? ⟨b, o + i * 3, none⟩ = some (.bool v.1) ∧ w.cell? ⟨b, o + i * 3 + 1, none⟩ = some (.slice A v.2.1.length c) ∧ w.cell? ⟨b, o + i * 3 + 2, none⟩ = some (.int .i64 v.2.2) ∧ Dg w A c v.2.1
theorem PB.err {w w2 : World} {base g : Nat} {v : Value} {L : List UInt8} {E E2 : Int} (h : PB w base g v L E) (e : w.setCell ⟨g, 1, none⟩ (.int .i64 E2) = w2) : PB w2 base g v L E2 ∧ Gq base g w w2 := by
  subst e
  refine ⟨⟨heap_setCell_same _ _ 1 _ _ _ h.1, own_keep h.2.1 (fun k hk => ?_), h.2.2⟩, Gq.only ((Only.refl g w).setCell 1 _)⟩
  exact ((Only.refl g w).setCell 1 (.int .i64 E2)).block k (fun e => by subst e; exact h.ne hk)
theorem stp_len (cs : List Nm) (h : ∀ v, v ∈ cs → ok32 v.2.1 ∧ v.2.1.length ≤ 400 ∧ -131072 ≤ v.2.2 ∧ v.2.2 ≤ 131072) : ∀ s : List UInt8 × Int, (cs.foldl stp s).1.length ≤ s.1.length + 2000 * cs.length := by
  induction cs with
  | nil => intro s; simp
  | cons v cs ih =>
    intro s
    have h1 := ih (fun u hu => h u (List.mem_cons_of_mem _ hu)) (stp s v)
    have h2 : (stp s v).1.length ≤ s.1.length + 2000 := by
      obtain ⟨hk, hl, e0, e1⟩ := h v (List.mem_cons_self ..)
      unfold stp bytT nbB
      dsimp only
      split
      · rw [List.length_append, List.length_append]
        have l1 := zbytes_len (decide (nmv v < 0)) (digs (nmv v).natAbs)
        have l2 := zbytes_len (decide (v.2.2 < 0)) (digs v.2.2.natAbs)
        have l3 : (digs v.2.2.natAbs).length ≤ 2 := digs_small (by omega)
        have l4 : (digs (nmv v).natAbs).length ≤ 400 := by
          have : (nmv v).natAbs = val v.2.1 := by unfold nmv sg; split <;> omega
          rw [this]; exact Nat.le_trans (digs_len_le hk) hl
        unfold zb; omega
      · simp
    rw [List.foldl_cons, List.length_cons]
    omega
theorem pnumbers_any (g c : Nat) (P : Option Addr) (v : Value) (L : List UInt8) (E : Int) (cs : List Nm) (W0 w : World) (hp : PB w W0.heap.size g v L E) (hB : Below W0.heap.size W0 w) (hcs : ∀ w', Gq W0.heap.size g w w' → RowQ w' P cs) (hR : ∀ v, v ∈ cs → dyR v.1 v.2.1 v.2.2 = true ∧ ok32 v.2.1 ∧ v.2.1.length ≤ 400 ∧ -131072 ≤ v.2.2 ∧ v.2.2 ≤ 131072) (hl : L.length + 2000 * cs.length ≤ 100000000) :
    Calls Tryz.prog 17 #[.pointer (some ⟨g, 0, none⟩), .slice P cs.length c] w fun e w' => ∃ v', e = .returned (.tuple #[]) ∧ PB w' W0.heap.size g v' (cs.foldl stp (L, E)).1 (cs.foldl stp (L, E)).2 ∧ Gq W0.heap.size g w w' := by
  have HP := qH hp
  have HC := qH hcs
  have HRR := qH hR
  have HL := qH hl
  have hlen : cs.length ≤ 100000000 := by omega
  clear hp hcs hR hl hB
  go_enter Tryz.func17, Tryz.ntmps17
  go_wp2
  go_loopw [10] (fun i wr => ∃ (k : Nat) (v1 : Value) (L1 : List UInt8) (E1 : Int), k ≤ cs.length ∧ i = .int .i64 k ∧ Hid ((cs.take k).foldl stp (L, E) = (L1, E1)) ∧ Hid (PB wr W0.heap.size g v1 L1 E1) ∧ Hid (Gq W0.heap.size g w wr)) (fun i _ => cs.length - (intOf i).toNat)
  case atStart => exact ⟨0, v, L, E, Nat.zero_le _, rfl, qH rfl, HP, qH (Gq.refl _ _ _)⟩
  case round =>
    obtain ⟨k, v1, L1, E1, hk, rfl, HF, HP1, HG⟩ := hrel
    by_cases hlt : k < cs.length
    · obtain ⟨x, hx⟩ : ∃ x, cs[k]? = some x := ⟨_, List.getElem?_eq_getElem hlt⟩
      obtain ⟨b, o, A, d, rfl, c0, c1, c2, hd⟩ := HC.out wr HG.out k x hx
      have HX := qH (show (cs.take (k + 1)).foldl stp (L, E) = stp (L1, E1) x by rw [List.take_add_one, hx, List.foldl_append, HF.out]; rfl)
      have RX := qH (HRR.out x (List.mem_of_getElem? hx))
      have HDG := qH hd
      have LL := qH (show L1.length ≤ 100000000 - 2000 by
        have := stp_len (cs.take k) (fun u hu => (HRR.out u (List.mem_of_mem_take hu)).2) (L, E)
        rw [HF.out, List.length_take] at this
        have := HL.out
        dsimp only at *
        omega)
      obtain ⟨t, ht, hT⟩ := dbytes_any RX.out.2.1 RX.out.2.2.1 RX.out.1
      have HT := qH hT
      have HTL := qH ht
      have LT := qH (show (bytT x).length ≤ 2000 by
        have := stp_len [x] (fun u hu => by rw [List.mem_singleton] at hu; subst hu; exact RX.out.2) ([], 0)
        simpa [stp] using this)
      have xb := cell_lt c0
      clear hx hd hT ht
      obtain ⟨s, xs, y⟩ := x
      obtain ⟨E2, hE2⟩ : ∃ z, errT (s, xs, y) = z := ⟨_, rfl⟩
      have HE2 := qH hE2
      rw [hE2] at HT
      clear hE2
      dsimp only at *
      go_wp2_with fail
      clear c0 c1 c2
      obtain ⟨wa, hW⟩ : ∃ W : World, W = wr.alloc (.cells #[.bool s, .slice A xs.length d, .int .i64 y] 26) := ⟨_, rfl⟩
      rw [← hW]
      have hb : Below wr.heap.size wr wa := by rw [hW]; exact below1 _ _
      have PA := qH (HP1.out.below hb)
      have GA := qH (HG.out.trans (Gq.below hb))
      have DA := qH (HDG.out.below hb)
      clear hW hb
      refine (HT.out A d wa DA.out).mono ?_
      rintro e w2 ⟨rfl, hb⟩
      have P2 := qH (PA.out.below hb)
      have G2 := qH (GA.out.trans (Gq.below hb))
      clear hb
      have f0 := row_c (i := 0) P2.out.1 rfl
      have z0 := frozen_of_row _ _ 0 _ _ P2.out.1
      have f1 := row_c (i := 1) P2.out.1 rfl
      have z1 := frozen_of_row _ _ 1 _ _ P2.out.1
      have xg := heap_lt P2.out.1
      have bz : W0.heap.size ≤ w2.heap.size := Nat.le_trans P2.out.2.2 (Nat.le_of_lt xg)
      by_cases he : E1 = 0
      · subst he
        go_upto_region 6 with fail
        obtain ⟨w3, hw3⟩ : ∃ W, W = w2.setCell ⟨g, 1, none⟩ (.int .i64 E2) := ⟨_, rfl⟩
        rw [← hw3]
        have P3 := qH (P2.out.err hw3.symm).1
        have G3 := qH (G2.out.trans (P2.out.err hw3.symm).2)
        clear hw3 f0 z0 f1 z1 xg bz
        have HXS := qH (show stp (L1, 0) (s, xs, y) = (L1 ++ bytT (s, xs, y), E2) by unfold stp; dsimp only; rw [if_pos rfl, HE2.out])
        have f0 := row_c (i := 0) P3.out.1 rfl
        have z0 := frozen_of_row _ _ 0 _ _ P3.out.1
        have xg := heap_lt P3.out.1
        have bz : W0.heap.size ≤ w3.heap.size := Nat.le_trans P3.out.2.2 (Nat.le_of_lt xg)
        go_wp2_with (at_builtin; refine wpList_append_sq rfl _ _ rfl W0.heap.size _ _ L1 (bytT (s, xs, y)) rfl P3.out.2.1 t HTL.out rfl (by have := LL.out; have := LT.out; omega) bz ?_)
        intro v4 w4 hown1 hgrow
        obtain ⟨A4, n4, c4, rfl⟩ := own_form hown1
        have NO := qH (show w4.ownsRow W0.heap.size 5 1 (.slice A4 n4 c4) (L1 ++ bytT (s, xs, y)).length (Lib.byteCells (L1 ++ bytT (s, xs, y))) by rw [List.length_append]; exact hown1)
        have HGR := qH hgrow
        have r4 : w4.heap[g]? = some (.cells #[v1, .int .i64 (E2)] 52 (0, 0)) := (hgrow.block g (heap_lt P3.out.1) (fun e => P3.out.ne e.symm)).trans P3.out.1
        have z4 := frozen_of_row _ _ 0 _ _ r4
        have f4 := row_c (i := 0) r4 rfl
        have x4 := heap_lt r4
        clear hown1 hgrow r4 f0 z0 xg
        go_wp2_with fail
        obtain ⟨w5, hw5⟩ : ∃ W, W = w4.setCell ⟨g, 0, none⟩ (.slice A4 n4 c4) := ⟨_, rfl⟩
        rw [← hw5]
        have PP := qH (P3.out.put NO.out HGR.out hw5.symm)
        clear hw5 f4 z4 x4
        go_roundw
        case rel => exact ⟨k + 1, .slice A4 n4 c4, L1 ++ bytT (s, xs, y), E2, hlt, by go_num, qH (by rw [HX.out]; exact HXS.out), qH PP.out.1, qH (G3.out.trans PP.out.2)⟩
        case measure => simp [intOf]; omega
      · have hz : (E1 == 0) = false := beq_eq_false_iff_ne.2 he
        have HEE := qH he
        go_upto_region 6 with fail
        obtain ⟨w3, hw3⟩ : ∃ W, W = w2 := ⟨_, rfl⟩
        clear f0 z0 f1 z1 xg bz hz he
        rw [← hw3] at P2 G2
        rw [← hw3]
        have P3 := P2
        have G3 := G2
        clear hw3
        have HXS := qH (show stp (L1, E1) (s, xs, y) = (L1 ++ bytT (s, xs, y), E1) by unfold stp; dsimp only; rw [if_neg HEE.out])
        have f0 := row_c (i := 0) P3.out.1 rfl
        have z0 := frozen_of_row _ _ 0 _ _ P3.out.1
        have xg := heap_lt P3.out.1
        have bz : W0.heap.size ≤ w3.heap.size := Nat.le_trans P3.out.2.2 (Nat.le_of_lt xg)
        go_wp2_with (at_builtin; refine wpList_append_sq rfl _ _ rfl W0.heap.size _ _ L1 (bytT (s, xs, y)) rfl P3.out.2.1 t HTL.out rfl (by have := LL.out; have := LT.out; omega) bz ?_)
        intro v4 w4 hown1 hgrow
        obtain ⟨A4, n4, c4, rfl⟩ := own_form hown1
        have NO := qH (show w4.ownsRow W0.heap.size 5 1 (.slice A4 n4 c4) (L1 ++ bytT (s, xs, y)).length (Lib.byteCells (L1 ++ bytT (s, xs, y))) by rw [List.length_append]; exact hown1)
        have HGR := qH hgrow
        have r4 : w4.heap[g]? = some (.cells #[v1, .int .i64 (E1)] 52 (0, 0)) := (hgrow.block g (heap_lt P3.out.1) (fun e => P3.out.ne e.symm)).trans P3.out.1
        have z4 := frozen_of_row _ _ 0 _ _ r4
        have f4 := row_c (i := 0) r4 rfl
        have x4 := heap_lt r4
        clear hown1 hgrow r4 f0 z0 xg
        go_wp2_with fail
        obtain ⟨w5, hw5⟩ : ∃ W, W = w4.setCell ⟨g, 0, none⟩ (.slice A4 n4 c4) := ⟨_, rfl⟩
        rw [← hw5]
        have PP := qH (P3.out.put NO.out HGR.out hw5.symm)
        clear hw5 f4 z4 x4
        go_roundw
        case rel => exact ⟨k + 1, .slice A4 n4 c4, L1 ++ bytT (s, xs, y), E1, hlt, by go_num, qH (by rw [HX.out]; exact HXS.out), qH PP.out.1, qH (G3.out.trans PP.out.2)⟩
        case measure => simp [intOf]; omega
    · obtain rfl : k = cs.length := by omega
      go_wp2
      go_end0
      have e := HF.out
      rw [List.take_length] at e
      exact ⟨v1, rfl, by rw [e]; exact HP1.out, HG.out⟩
theorem rmake_any (A : Option Addr) (c : Nat) (s : Bool) (xs : List Nat) (w : World) (h : Dg w A c xs) (hl : xs.length ≤ 1000000) :
    Calls Tryz.prog 71 #[.bool s, .slice A xs.length c] w fun e w' => Zr (sg s (val xs)) w e w' := by
  have l1 := digs_len_le h.2.1
  obtain ⟨q, hq⟩ : ∃ q, decide (0 < (digs (val xs)).length) = q := ⟨_, rfl⟩
  have hq' : decide ((0 : Int) < ((digs (val xs)).length : Int)) = q := by rw [← hq, decide_eq_decide]; omega
  have HS := qH (show (s && q) = decide (sg s (val xs) < 0) by
    rw [← sg_neg, ← hq]
    congr 1
    rw [decide_eq_decide]
    constructor
    · intro h0 e; rw [e, digs_zero] at h0; simp at h0
    · intro h0; have : (digs (val xs)).length ≠ 0 := fun e => h0 (digs_nil.1 e); omega)
  have HA := qH (sg_abs s (val xs))
  generalize sg s (val xs) = z at *
  go_enter Tryz.func71, Tryz.ntmps71
  go_wp2_with fail
  refine (rtrim_any A c xs _ (h.below (below1 _ _)) (by omega)).mono ?_
  rintro e w1 ⟨A1, c1, rfl, hd, hb⟩
  have K1 := qH hb
  have G1 := qH hd
  have HO1 := qH (off_box (g := w.heap.size) hd hb rfl noint2')
  obtain ⟨hc1, hf1⟩ := bcell hb
  clear hb hd h
  cases s
  · go_wp2
    refine bodyPost_ret (v := .agg #[.bool false, .slice A1 (digs (val xs)).length c1]) (by simp [results, Tryz.results71, go_sem, hc1]) rfl ?_
    refine ⟨A1, c1, by rw [← HS.out, HA.out]; rfl, ?_, ?_⟩
    · rw [HA.out]; exact (G1.out.set_off HO1.out _ _).set_off HO1.out _ _
    · exact ((below1 w _).trans (K1.out.mono (by simp))).setCell (by simp) _ |>.setCell (by simp) _
  · go_wp2
    refine bodyPost_ret (v := .agg #[.bool q, .slice A1 (digs (val xs)).length c1]) (by simp [results, Tryz.results71, go_sem, hc1]) rfl ?_
    refine ⟨A1, c1, by rw [← HS.out, HA.out]; rfl, ?_, ?_⟩
    · rw [HA.out]; exact (G1.out.set_off HO1.out _ _).set_off HO1.out _ _
    · exact ((below1 w _).trans (K1.out.mono (by simp))).setCell (by simp) _ |>.setCell (by simp) _
theorem rmake_z {A : Option Addr} {c : Nat} {s : Bool} {xs : List Nat} {z : Int} {w : World} (h : Dg w A c xs) (hl : xs.length ≤ 1000000) (hz : sg s (val xs) = z) :
    Calls Tryz.prog 71 #[.bool s, .slice A xs.length c] w fun e w' => Zr z w e w' := by
  subst hz; exact rmake_any A c s xs w h hl
theorem rbit_z {A : Option Addr} {c v j : Nat} {q : Bool} {w : World} (h : Dg w A c (digs v)) (hl : (digs v).length ≤ 100000) (hj : j ≤ 10000000) (hq : bitAt v (j : Int) = q) :
    Calls Tryz.prog 85 #[.slice A (digs v).length c, .int .i64 j] w fun e w' => e = .returned (.bool q) ∧ w = w' := by
  have := rbit_any A c (digs v) (j : Int) w h (by omega) (by omega) (by omega)
  rwa [val_digs, hq] at this
theorem rshr_z {A : Option Addr} {c v n : Nat} {w : World} (h : Dg w A c (digs v)) (hl : (digs v).length ≤ 1048576) (hn : n ≤ 9223372036854775807) :
    Calls Tryz.prog 86 #[.slice A (digs v).length c, .int .i64 n] w fun e w' => ∃ A' c', e = .returned (.slice A' (digs (v / 2 ^ n)).length c') ∧ Dg w' A' c' (digs (v / 2 ^ n)) ∧ Below w.heap.size w w' := by
  have := rshr_any A c (digs v) n w h hl hn
  rwa [val_digs] at this
theorem len_shr {v j : Nat} (h : (digs v).length ≤ 100000) : (digs (v / 2 ^ j)).length ≤ 1000000 := Nat.le_trans (digs_shr_len _ _) (by omega)
theorem rnorm_any (A : Option Addr) (c : Nat) (s : Bool) (xs : List Nat) (y z m : Int) (k : Nat) (w : World) (h : Dg w A c xs) (hl : xs.length ≤ 100000) (hz : sg s (val xs) = z) (h0 : (digs z.natAbs).length ≠ 0) (hlz : (digs z.natAbs).length ≤ 100000) (hb : ∀ j, j < k → bitAt z.natAbs (j : Int) = false) (hk1 : bitAt z.natAbs (k : Int) = true) (hk : k ≤ 10000000) (hm : sg (decide (z < 0)) (z.natAbs / 2 ^ k) = m) (y0 : -1000000 ≤ y) (y1 : y ≤ 1000000):
    Calls Tryz.prog 49 #[.agg #[.bool s, .slice A xs.length c], .int .i64 y] w fun e w' => Yr m (y + k) w e w' := by
  have HZ := qH hz
  have HL := qH hl
  have HLZ := qH hlz
  have HB := qH hb
  have HK1 := qH hk1
  have HM := qH hm
  have n0 := qH (show ((((digs z.natAbs).length : Nat) : Int) == 0) = false by simp; exact fun e => h0 (by rw [e]; rfl))
  have L0 := qH ((live_start w).add h)
  clear h hl hz hlz hb hk1 hm h0
  go_enter Tryz.func49, Tryz.ntmps49
  go_wp2_with fail
  obtain ⟨v1, hW, hb, Ri_1, Rr_1⟩ := new2 w (.cells #[.bool s, .slice A xs.length c] 24) (.cells #[.bool false, .slice none 0 0, .int .i64 0] 26)
  rw [← hW]
  have L1 := ls L0 hb
  have Gi := gl0 L0.out
  have Gr := gl1 L0.out
  have Nir : w.heap.size < w.heap.size + 1 := by omega
  clear hW hb
  obtain ⟨fi0, zi0, fi1, zi1, xi⟩ := ly2 Ri_1.out
  go_wp2_with fail
  refine (rmake_z (L1.out.get (A := A) (c := c) (xs := xs) (by simp)) (Nat.le_trans HL.out (by omega)) HZ.out).mono ?_
  rintro e w2 ⟨A2, c2, rfl, hd, hb⟩
  have L2 := la L1 hb hd
  clear fi0 zi0 fi1 zi1 xi
  have Ri_2 := co Ri_1 hb
  have Rr_2 := co Rr_1 hb
  clear hb hd
  go_upto_region 2 with fail
  obtain ⟨w3, hW, hb, Rx_3⟩ := new1 w2 (.cells #[.bool (decide (z < 0)), .slice A2 (digs z.natAbs).length c2] 24)
  rw [← hW]
  have L3 := ls L2 hb
  have Ri_3 := co Ri_2 hb
  have Rr_3 := co Rr_2 hb
  have Gx := gl0 L2.out
  have Nix := nl0 Ri_2.out
  have Nrx := nl0 Rr_2.out
  clear hW hb
  have e0 := n0.out
  obtain ⟨fx0, zx0, fx1, zx1, xx⟩ := ly2 Rx_3.out
  go_wp2_with fail
  clear fx0 zx0 fx1 zx1 xx
  clear e0
  go_loopw [6] (fun iv wr => ∃ j : Nat, j ≤ k ∧ iv = .int .i64 j ∧ wr = w3) (fun iv _ => k - (intOf iv).toNat)
  case atStart => exact ⟨0, Nat.zero_le _, rfl, rfl⟩
  case round =>
    obtain ⟨j, hj, rfl, hwr⟩ := hrel
    subst hwr
    by_cases hlt : j < k
    · have bj := HB.out j hlt
      have BJ := qH bj
      clear bj
      obtain ⟨fx0, zx0, fx1, zx1, xx⟩ := ly2 Rx_3.out
      go_wp2_with fail
      refine (rbit_z (L3.out.get (A := A2) (c := c2) (xs := digs z.natAbs) (by simp)) HLZ.out (by omega) BJ.out).mono ?_
      rintro e w4 ⟨rfl, rfl⟩
      go_wp2
      go_roundw
      case rel => exact ⟨j + 1, by omega, by go_num, by first | trivial | rfl⟩
      case measure => simp [intOf]; omega
    · obtain rfl : j = k := by omega
      obtain ⟨fx0, zx0, fx1, zx1, xx⟩ := ly2 Rx_3.out
      go_wp2_with fail
      refine (rbit_z (L3.out.get (A := A2) (c := c2) (xs := digs z.natAbs) (by simp)) HLZ.out (by omega) HK1.out).mono ?_
      rintro e w5 ⟨rfl, rfl⟩
      clear fx0 zx0 fx1 zx1 xx
      have wj : IntKind.i64.wrap (y + (j : Int)) = y + (j : Int) := IntWalk.i64_in _ (by omega)
      go_upto_region 7 with fail
      obtain ⟨fx0, zx0, fx1, zx1, xx⟩ := ly2 Rx_3.out
      have KD := qH (bd0 wr)
      have LD := ls L3 KD.out
      have Mx : w2.heap.size ≠ w.heap.size + 1 := by omega
      go_region_held3 (fun w' => (∀ o, w'.cell? ⟨w2.heap.size, o, none⟩ = wr.cell? ⟨w2.heap.size, o, none⟩))
        (first | with_reducible exact keep_b KD.out xx | with_reducible exact keep_b K7.out xx | with_reducible exact keep_b K8.out xx | exact (keep_set (keep_b K8.out xx) Mx) | exact (keep_set (keep_set (keep_b K8.out xx) Mx) Mx) | exact (keep_set (keep_set (keep_set (keep_b K8.out xx) Mx) Mx) Mx))
        (first
          | (go_at_call 86; (with_reducible refine (rshr_z (LD.out.get (A := A2) (c := c2) (xs := digs z.natAbs) (by simp)) (Nat.le_trans HLZ.out (by omega)) (by omega)).mono ?_); rintro e w7 ⟨A7, c7, rfl, hd, hb⟩; (have K7 := bt KD hb); (have L7 := la LD hb hd); clear hb hd)
          | (go_at_call 71; (with_reducible refine (rmake_z (z := m) (L7.out.get (A := A7) (c := c7) (xs := digs (z.natAbs / 2 ^ j)) (by simp)) (len_shr HLZ.out) (by rw [val_digs]; exact HM.out)).mono ?_); rintro e w8 ⟨A8, c8, rfl, hd, hb⟩; (have K8 := bt K7 hb); (have L8 := la L7 hb hd); (have qr0_K8 := row_c (i := 0) (co Rr_3 K8.out).out rfl); (have pr0_K8 := frozen_of_row _ _ 0 _ _ (cells_of Rr_3.out K8.out)); (have qr1_K8 := row_c (i := 1) (co Rr_3 K8.out).out rfl); (have pr1_K8 := frozen_of_row _ _ 1 _ _ (cells_of Rr_3.out K8.out)); (have qr2_K8 := row_c (i := 2) (co Rr_3 K8.out).out rfl); (have pr2_K8 := frozen_of_row _ _ 2 _ _ (cells_of Rr_3.out K8.out)); clear hb hd))
      rename_i hHeld
      clear hHeld
      clear fx0 zx0 fx1 zx1 xx
      have Ri_8 := co Ri_3 K8.out
      have Rr_8 := co Rr_3 K8.out
      have Rx_8 := co Rx_3 K8.out
      obtain ⟨fr0, zr0, fr1, zr1, fr2, zr2, xr⟩ := ly3 Rr_8.out
      go_wp2
      refine bodyPost_ret (v := .agg #[.bool (decide (m < 0)), .slice A8 (digs m.natAbs).length c8, .int .i64 ((y + j))]) (by simp [results, Tryz.results49, go_sem, fr0, fr1, fr2, wj]) rfl ?_
      refine ⟨A8, c8, rfl, ?_, ?_⟩
      · exact (fin3 L8.out Rr_8.out noint3 Gr).get (A := A8) (c := c8) (xs := digs m.natAbs) (by simp)
      · exact (fin3 L8.out Rr_8.out noint3 Gr).1
theorem rright_any (A : Option Addr) (c : Nat) (s : Bool) (xs : List Nat) (w : World) (h : Dg w A c xs) (q : Bool) (hq : rightB s xs = q) (hl : xs.length ≤ 9223372036854775807) :
    Calls Tryz.prog 68 #[.agg #[.bool s, .slice A xs.length c]] w fun e w' => e = .returned (.bool q) ∧ Below w.heap.size w w' := by
  by_cases h0 : xs.length = 0
  · have t0 : ((xs.length : Int) == 0) = true := by rw [h0]; rfl
    have t1 : decide (0 < xs.length) = false := by rw [h0]; rfl
    have HQ := qH (show (!s) = q by rw [← hq]; unfold rightB; rw [if_pos h0])
    clear h h0 hq
    cases s
    all_goals
      go_enter Tryz.func68, Tryz.ntmps68
      go_wp2
      go_ret
      exact ⟨by rw [← HQ.out]; rfl, below1 _ _⟩
  · have t0 : ((xs.length : Int) == 0) = false := beq_eq_false_iff_ne.2 (by omega)
    have t1 : decide (0 < xs.length) = true := by simp; omega
    obtain ⟨b, off, hA, hb, hc⟩ := h.2.2 (by omega)
    have hx := hc (xs.length - 1) (by omega)
    have hp : 0 < xs.length := by omega
    have hq' : decide (xs[xs.length - 1]?.getD 0 ≠ 0) = q := by rw [← hq]; unfold rightB; rw [if_neg h0]
    generalize xs[xs.length - 1]?.getD 0 = x at *
    have hxq : ((x : Int) != 0) = q := by
      rw [← hq', Bool.eq_iff_iff]; simp
    have HX := qH hxq
    clear h h0 hq hc hq' hxq
    subst hA
    go_enter Tryz.func68, Tryz.ntmps68
    go_wp2
    go_ret
    refine ⟨?_, below1 _ _⟩
    rw [← HX.out]
    rfl
theorem rzfrom_any (n : Int) (w : World) (h0 : -9223372036854775808 ≤ n) (h1 : n ≤ 9223372036854775807) :
    Calls Tryz.prog 39 #[.int .i64 n] w fun e w' => Zr n w e w' := by
  have lf := digs_small (n := n.natAbs) (by omega)
  by_cases hn : n < 0
  · have d0 : decide (n < 0) = true := by simp [hn]
    have TM := qH (fun A' c' W h => rmake_any A' c' true (digs n.natAbs) W h (by omega))
    rw [val_digs, show sg true n.natAbs = n by unfold sg; simp; omega] at TM
    go_enter Tryz.func39, Tryz.ntmps39
    go_wp2_with fail
    refine (rfrom_l (i := _) (k := n.natAbs) (live_start _) (by first | omega | (simp only [wrap_u64_eq]; omega)) (by omega)).mono ?_
    rintro e w1 ⟨A1, c1, rfl, hL⟩
    have K1 := qH hL.1
    have G1 := qH (hL.get (A := A1) (c := c1) (xs := digs n.natAbs) (by simp))
    clear hL
    go_wp2_with fail
    refine (TM.out A1 c1 _ G1.out).mono ?_
    rintro e w2 ⟨A2, c2, rfl, hd, hb⟩
    have K2 := qH (K1.out.trans (hb.mono K1.out.size))
    have G2 := qH hd
    have HO2 := qH (off_box (g := w.heap.size) hd K2.out rfl noint2')
    obtain ⟨hc2, hf2⟩ := bcell K2.out
    clear hb hd
    go_wp2
    refine bodyPost_ret (v := .agg #[.bool true, .slice A2 (digs n.natAbs).length c2]) (by simp [results, Tryz.results39, go_sem, hc2]) rfl ?_
    exact ⟨A2, c2, by rw [d0], (G2.out.set_off HO2.out _ _).set_off HO2.out _ _, (((below1 w _).trans (K2.out.mono (by simp))).setCell (by simp) _).setCell (by simp) _⟩
  · have d0 : decide (n < 0) = false := by simp; omega
    have TM := qH (fun A' c' W h => rmake_any A' c' false (digs n.natAbs) W h (by omega))
    rw [val_digs, show sg false n.natAbs = n by unfold sg; simp; omega] at TM
    go_enter Tryz.func39, Tryz.ntmps39
    go_wp2_with fail
    refine (rfrom_l (i := _) (k := n.natAbs) (live_start _) (by first | omega | (simp only [wrap_u64_eq]; omega)) (by omega)).mono ?_
    rintro e w1 ⟨A1, c1, rfl, hL⟩
    have K1 := qH hL.1
    have G1 := qH (hL.get (A := A1) (c := c1) (xs := digs n.natAbs) (by simp))
    clear hL
    go_wp2_with fail
    refine (TM.out A1 c1 _ G1.out).mono ?_
    rintro e w2 ⟨A2, c2, rfl, hd, hb⟩
    have K2 := qH (K1.out.trans (hb.mono K1.out.size))
    have G2 := qH hd
    have HO2 := qH (off_box (g := w.heap.size) hd K2.out rfl noint2')
    obtain ⟨hc2, hf2⟩ := bcell K2.out
    clear hb hd
    go_wp2
    refine bodyPost_ret (v := .agg #[.bool false, .slice A2 (digs n.natAbs).length c2]) (by simp [results, Tryz.results39, go_sem, hc2]) rfl ?_
    exact ⟨A2, c2, by rw [d0], (G2.out.set_off HO2.out _ _).set_off HO2.out _ _, (((below1 w _).trans (K2.out.mono (by simp))).setCell (by simp) _).setCell (by simp) _⟩
theorem sg_dz' (m : Int) : sg (decide (m < 0)) m.natAbs = m := by
  unfold sg; split <;> rename_i h <;> simp at h <;> omega
theorem tz_bit {z : Nat} (h : z ≠ 0) : bitAt z (tz z : Int) = true := by
  have ⟨a, b⟩ := tz_spec z h
  unfold bitAt
  simp only [Int.toNat_natCast, Bool.and_eq_true, decide_eq_true_eq]
  refine ⟨by omega, ?_⟩
  rw [Nat.testBit_eq_decide_div_mod_eq, decide_eq_true_eq]; exact a
theorem tz_lowb {z j : Nat} (h : z ≠ 0) (hj : j < tz z) : bitAt z (j : Int) = false := by
  have ⟨a, b⟩ := tz_spec z h
  unfold bitAt
  simp only [Int.toNat_natCast]
  rw [Bool.and_eq_false_iff]
  right
  rw [Nat.testBit_eq_decide_div_mod_eq, decide_eq_false_iff_not]
  have e : z = z / 2 ^ tz z * 2 ^ (tz z - j - 1) * 2 * 2 ^ j := by
    rw [Nat.mul_assoc _ 2, ← Nat.pow_succ', Nat.mul_assoc, ← Nat.pow_add]
    rw [show tz z - j - 1 + (j + 1) = tz z by omega]; exact b
  rw [e, Nat.mul_div_cancel _ (Nat.pow_pos (by omega))]
  omega
theorem nm_sgz {z : Int} (h : z ≠ 0) : sg (decide (z < 0)) (z.natAbs / 2 ^ tz z.natAbs) = nm z := by
  have ⟨a, b⟩ := tz_spec z.natAbs (by omega)
  have ⟨c, d, e⟩ := nm_back h
  rw [← e]
  have := nm_neg_iff z
  rw [← this]
  exact sg_dz' _
theorem r5right_z (A : Option Addr) (c : Nat) (m x : Int) (w : World) (h : Dg w A c (digs m.natAbs)) (hl : (digs m.natAbs).length ≤ 10000) (r : Rt m x) (m0 : m = 0):
    Calls Tryz.prog 36 #[.agg #[.bool (decide (m < 0)), .slice A (digs m.natAbs).length c, .int .i64 x]] w fun e w' => e = .returned (.bool true) ∧ Below w.heap.size w w' := by
  have hx0 := nf_zero r.1 m0
  have t0 : ((((digs m.natAbs).length : Nat) : Int) == 0) = true := by rw [m0, show digs (0 : Int).natAbs = [] from digs_zero]; rfl
  have x0 : (x == 0) = true := by simp [hx0]
  have HR := qH (show rightB (decide (m < 0)) (digs m.natAbs) = true by rw [m0, show digs (0 : Int).natAbs = [] from digs_zero]; rfl)
  have HL := qH hl
  have L0 := qH ((live_start w).add h)
  clear h hl r m0 hx0
  go_enter Tryz.func36, Tryz.ntmps36
  go_wp2_with fail
  obtain ⟨v1, hW, hb, Rx_1⟩ := new1 w (.cells #[.bool (decide (m < 0)), .slice A (digs m.natAbs).length c, .int .i64 x] 26)
  rw [← hW]
  have L1 := ls L0 hb
  have Gx := gl0 L0.out
  clear hW hb
  refine (rright_any A c _ _ _ (L1.out.get (A := A) (c := c) (xs := digs m.natAbs) (by simp)) true HR.out (Nat.le_trans HL.out (by omega))).mono ?_
  rintro e w2 ⟨rfl, hb⟩
  have L2 := ls L1 hb
  have Rx_2 := co Rx_1 hb
  clear hb 
  obtain ⟨fx0, zx0, fx1, zx1, fx2, zx2, xx⟩ := ly3 Rx_2.out
  go_wp2
  go_ret
  exact ⟨rfl, L2.out.1⟩
theorem r5right_p (A : Option Addr) (c : Nat) (m x : Int) (w : World) (h : Dg w A c (digs m.natAbs)) (hl : (digs m.natAbs).length ≤ 10000) (r : Rt m x) (m0 : m ≠ 0):
    Calls Tryz.prog 36 #[.agg #[.bool (decide (m < 0)), .slice A (digs m.natAbs).length c, .int .i64 x]] w fun e w' => e = .returned (.bool true) ∧ Below w.heap.size w w' := by
  have dr := dyR_num r
  unfold dyR at dr
  have n0 : (digs m.natAbs).length ≠ 0 := fun e => m0 (by have := digs_nil.1 e; omega)
  rw [if_neg n0] at dr
  simp only [Bool.and_eq_true, decide_eq_true_eq] at dr
  obtain ⟨⟨⟨dr, od⟩, x0⟩, x1⟩ := dr
  have HR := qH dr
  have HL := qH hl
  have t0 : ((((digs m.natAbs).length : Nat) : Int) == 0) = false := beq_eq_false_iff_ne.2 (by omega)
  have hp : 0 < (digs m.natAbs).length := by omega
  have hc1 : 0 < c := by have := h.1; omega
  obtain ⟨b, off, hA, hb, hc⟩ := h.2.2 hp
  have hx := hc 0 hp
  rw [Nat.add_zero] at hx
  have H := qH h
  generalize (digs m.natAbs)[0]?.getD 0 = d at *
  have hd : (((d : Nat) : Int).tmod 2 == 1) = true := by
    rw [Int.tmod_eq_emod_of_nonneg (by omega), beq_iff_eq]; omega
  have hd2 : (((d : Nat) : Int) % 2 == 1) = true := by rw [beq_iff_eq]; omega
  have d1 : decide (-131072 ≤ x) = true := decide_eq_true x0
  have d2 : decide (x ≤ 131072) = true := decide_eq_true x1
  have HB := qH hb
  have HX := qH hx
  clear hc hx hb
  subst hA
  have L0 := qH ((live_start w).add h)
  clear h hl r dr od x0 x1 m0 n0
  go_enter Tryz.func36, Tryz.ntmps36
  go_wp2_with fail
  obtain ⟨v1, hW, hb, Rx_1⟩ := new1 w (.cells #[.bool (decide (m < 0)), .slice (some ⟨b, off, none⟩) (digs m.natAbs).length c, .int .i64 x] 26)
  rw [← hW]
  have L1 := ls L0 hb
  have Gx := gl0 L0.out
  clear hW hb
  refine (rright_any (some ⟨b, off, none⟩) c _ _ _ (L1.out.get (A := (some ⟨b, off, none⟩)) (c := c) (xs := digs m.natAbs) (by simp)) true HR.out (Nat.le_trans HL.out (by omega))).mono ?_
  rintro e w2 ⟨rfl, hb⟩
  have L2 := ls L1 hb
  have Rx_2 := co Rx_1 hb
  clear hb 
  have hx := (L2.out.1.cell (p := ⟨b, off, none⟩) HB.out).trans HX.out
  obtain ⟨fx0, zx0, fx1, zx1, fx2, zx2, xx⟩ := ly3 Rx_2.out
  go_wp2
  go_ret
  exact ⟨rfl, L2.out.1⟩
theorem r5right_t {A : Option Addr} {c : Nat} {m x : Int} {w : World} (h : Dg w A c (digs m.natAbs)) (hl : (digs m.natAbs).length ≤ 10000) (r : Rt m x) :
    Calls Tryz.prog 36 #[.agg #[.bool (decide (m < 0)), .slice A (digs m.natAbs).length c, .int .i64 x]] w fun e w' => e = .returned (.bool true) ∧ Below w.heap.size w w' := by
  by_cases m0 : m = 0
  · exact r5right_z A c m x w h hl r m0
  · exact r5right_p A c m x w h hl r m0
theorem rbits_z {A : Option Addr} {c x : Nat} {z : Int} {w : World} (h : Dg w A c (digs x)) (hl : (digs x).length ≤ 1000000) (hz : (blen x : Int) = z) :
    Calls Tryz.prog 70 #[.slice A (digs x).length c] w fun e w' => e = .returned (.int .i64 z) ∧ Below w.heap.size w w' := by
  have := rbits_any A c (digs x) w h (by omega)
  rw [val_digs, hz] at this; exact this
theorem r5size_any (A : Option Addr) (c : Nat) (m x s : Int) (w : World) (h : Dg w A c (digs m.natAbs)) (hl : (digs m.natAbs).length ≤ 100000) (x0 : -10000000 ≤ x) (x1 : x ≤ 10000000) (hs : x + bl m = s):
    Calls Tryz.prog 69 #[.agg #[.bool (decide (m < 0)), .slice A (digs m.natAbs).length c, .int .i64 x]] w fun e w' => e = .returned (.int .i64 s) ∧ Below w.heap.size w w' := by
  have b1 := bl_bd hl
  unfold bl at hs
  obtain ⟨z, hz⟩ : ∃ z : Int, (blen m.natAbs : Int) = z := ⟨_, rfl⟩
  rw [hz] at hs
  have z0 : 0 ≤ z ∧ z ≤ 13000000 := by omega
  obtain ⟨z0, z1⟩ := z0
  have ws : IntKind.i64.wrap (x + z) = s := by rw [IntWalk.i64_in _ (by omega)]; exact hs
  have HZ := qH hz
  have HL := qH hl
  have L0 := qH ((live_start w).add h)
  clear h hl hz hs b1
  go_enter Tryz.func69, Tryz.ntmps69
  go_wp2_with fail
  obtain ⟨v1, hW, hb, Rx_1⟩ := new1 w (.cells #[.bool (decide (m < 0)), .slice A (digs m.natAbs).length c, .int .i64 x] 26)
  rw [← hW]
  have L1 := ls L0 hb
  have Gx := gl0 L0.out
  clear hW hb
  obtain ⟨fx0, zx0, fx1, zx1, fx2, zx2, xx⟩ := ly3 Rx_1.out
  have KD := qH (bd0 v1)
  have LD := ls L1 KD.out
  go_region_held3 (fun w' => ∀ b o, b < v1.heap.size → w'.cell? ⟨b, o, none⟩ = v1.cell? ⟨b, o, none⟩)
    (first | with_reducible exact (bcell KD.out).1 | with_reducible exact (bcell K3.out).1)
    (first
      | (go_at_call 70; (with_reducible refine (rbits_z (LD.out.get (A := A) (c := c) (xs := digs m.natAbs) (by simp)) (Nat.le_trans HL.out (by omega)) HZ.out).mono ?_); rintro e w3 ⟨rfl, hb⟩; (have K3 := bt KD hb); (have L3 := qH (LD.out.step hb)); clear hb ))
  rename_i hHeld
  clear hHeld
  clear fx0 zx0 fx1 zx1 fx2 zx2 xx
  have Rx_3 := co Rx_1 K3.out
  clear KD LD
  clear ws
  go_wp2
  go_ret
  exact ⟨rfl, L3.out.1⟩
theorem r5inr_z (A : Option Addr) (c : Nat) (m x : Int) (w : World) (m0 : m = 0) :
    Calls Tryz.prog 37 #[.agg #[.bool (decide (m < 0)), .slice A (digs m.natAbs).length c, .int .i64 x]] w fun e w' => e = .returned (.bool true) ∧ Below w.heap.size w w' := by
  have t0 : ((((digs m.natAbs).length : Nat) : Int) == 0) = true := by rw [m0, show digs (0 : Int).natAbs = [] from digs_zero]; rfl
  clear m0
  go_enter Tryz.func37, Tryz.ntmps37
  go_wp2
  go_ret
  exact ⟨rfl, below1 _ _⟩
theorem r5inr_p (A : Option Addr) (c : Nat) (m x : Int) (w : World) (h : Dg w A c (digs m.natAbs)) (hl : (digs m.natAbs).length ≤ 10000) (hq : inR m x = true) (m0 : m ≠ 0):
    Calls Tryz.prog 37 #[.agg #[.bool (decide (m < 0)), .slice A (digs m.natAbs).length c, .int .i64 x]] w fun e w' => e = .returned (.bool true) ∧ Below w.heap.size w w' := by
  unfold inR at hq
  rw [decide_eq_true_eq] at hq
  rcases hq with hq | ⟨x0, x1, hb, s0, s1⟩
  · exact absurd hq m0
  have t0 : ((((digs m.natAbs).length : Nat) : Int) == 0) = false := beq_eq_false_iff_ne.2 (fun e => m0 (by have := digs_nil.1 (show (digs m.natAbs).length = 0 by omega); omega))
  obtain ⟨s, hs⟩ : ∃ s : Int, x + bl m = s := ⟨_, rfl⟩
  rw [hs] at s0 s1
  obtain ⟨z, hz⟩ : ∃ z : Int, (blen m.natAbs : Int) = z := ⟨_, rfl⟩
  unfold bl at hb
  have zb : z ≤ 262144 := by omega
  have HZ := qH hz
  have HS := qH hs
  have HL := qH hl
  have SC := qH (show -10000000 ≤ x ∧ x ≤ 10000000 by omega)
  have d1 : decide (-65536 ≤ s) = true := decide_eq_true s0
  have d2 : decide (s ≤ 65536) = true := decide_eq_true s1
  have d3 : decide (-131072 ≤ x) = true := decide_eq_true x0
  have d4 : decide (x ≤ 131072) = true := decide_eq_true x1
  have d5 : decide (z ≤ 262144) = true := decide_eq_true zb
  have L0 := qH ((live_start w).add h)
  clear h hl hs hz hb zb s0 s1 x0 x1 m0
  go_enter Tryz.func37, Tryz.ntmps37
  go_wp2_with fail
  obtain ⟨v1, hW, hb, Rx_1⟩ := new1 w (.cells #[.bool (decide (m < 0)), .slice A (digs m.natAbs).length c, .int .i64 x] 26)
  rw [← hW]
  have L1 := ls L0 hb
  have Gx := gl0 L0.out
  clear hW hb
  obtain ⟨fx0, zx0, fx1, zx1, fx2, zx2, xx⟩ := ly3 Rx_1.out
  clear fx0 zx0 fx1 zx1 fx2 zx2 xx
  obtain ⟨fx0, zx0, fx1, zx1, fx2, zx2, xx⟩ := ly3 Rx_1.out
  go_wp2_with fail
  refine (r5size_any A c m x s _ (L1.out.get (A := A) (c := c) (xs := digs m.natAbs) (by simp)) (Nat.le_trans HL.out (by omega)) SC.out.1 SC.out.2 HS.out).mono ?_
  rintro e w2 ⟨rfl, hb⟩
  have L2 := ls L1 hb
  clear fx0 zx0 fx1 zx1 fx2 zx2 xx
  have Rx_2 := co Rx_1 hb
  clear hb 
  obtain ⟨fx0, zx0, fx1, zx1, fx2, zx2, xx⟩ := ly3 Rx_2.out
  go_wp2_with fail
  refine (rbits_z (L2.out.get (A := A) (c := c) (xs := digs m.natAbs) (by simp)) (Nat.le_trans HL.out (by omega)) HZ.out).mono ?_
  rintro e w3 ⟨rfl, hb⟩
  have L3 := ls L2 hb
  clear fx0 zx0 fx1 zx1 fx2 zx2 xx
  have Rx_3 := co Rx_2 hb
  clear hb 
  go_wp2
  go_ret
  exact ⟨rfl, L3.out.1⟩
theorem r5inr_t {A : Option Addr} {c : Nat} {m x : Int} {w : World} (h : Dg w A c (digs m.natAbs)) (hl : (digs m.natAbs).length ≤ 10000) (hq : inR m x = true) :
    Calls Tryz.prog 37 #[.agg #[.bool (decide (m < 0)), .slice A (digs m.natAbs).length c, .int .i64 x]] w fun e w' => e = .returned (.bool true) ∧ Below w.heap.size w w' := by
  by_cases m0 : m = 0
  · exact r5inr_z A c m x w m0
  · exact r5inr_p A c m x w h hl hq m0
theorem rnorm_0 (A : Option Addr) (c : Nat) (s : Bool) (xs : List Nat) (y z : Int) (w : World) (h : Dg w A c xs) (hl : xs.length ≤ 100000) (hz : sg s (val xs) = z) (z0 : z = 0):
    Calls Tryz.prog 49 #[.agg #[.bool s, .slice A xs.length c], .int .i64 y] w fun e w' => Yr 0 0 w e w' := by
  have HZ := qH hz
  have HL := qH hl
  have t0 : ((((digs z.natAbs).length : Nat) : Int) == 0) = true := by rw [z0, show digs (0 : Int).natAbs = [] from digs_zero]; rfl
  have L0 := qH ((live_start w).add h)
  clear h hl hz z0
  go_enter Tryz.func49, Tryz.ntmps49
  go_wp2_with fail
  obtain ⟨v1, hW, hb, Ri_1, Rr_1⟩ := new2 w (.cells #[.bool s, .slice A xs.length c] 24) (.cells #[.bool false, .slice none 0 0, .int .i64 0] 26)
  rw [← hW]
  have L1 := ls L0 hb
  have Gi := gl0 L0.out
  have Gr := gl1 L0.out
  have Nir : w.heap.size < w.heap.size + 1 := by omega
  clear hW hb
  refine (rmake_z (L1.out.get (A := A) (c := c) (xs := xs) (by simp)) (Nat.le_trans HL.out (by omega)) HZ.out).mono ?_
  rintro e w2 ⟨A2, c2, rfl, hd, hb⟩
  have L2 := la L1 hb hd
  have Ri_2 := co Ri_1 hb
  have Rr_2 := co Rr_1 hb
  clear hb hd
  go_upto_region 2 with fail
  obtain ⟨w3, hW, hb, Rx_3⟩ := new1 w2 (.cells #[.bool (decide (z < 0)), .slice A2 (digs z.natAbs).length c2] 24)
  rw [← hW]
  have L3 := ls L2 hb
  have Ri_3 := co Ri_2 hb
  have Rr_3 := co Rr_2 hb
  have Gx := gl0 L2.out
  have Nix := nl0 Ri_2.out
  have Nrx := nl0 Rr_2.out
  clear hW hb
  obtain ⟨fx0, zx0, fx1, zx1, xx⟩ := ly2 Rx_3.out
  obtain ⟨fr0, zr0, fr1, zr1, fr2, zr2, xr⟩ := ly3 Rr_3.out
  go_wp2
  refine bodyPost_ret (v := .agg #[.bool false, .slice none 0 0, .int .i64 0]) (by simp [results, Tryz.results49, go_sem, fx0, fx1, fr0, fr1, fr2]) rfl ?_
  exact zero_yr (fin3 L3.out Rr_3.out noint3 Gr).1
theorem rnorm_z {A : Option Addr} {c : Nat} {s : Bool} {xs : List Nat} {y z M E : Int} {w : World} (h : Dg w A c xs) (hl : xs.length ≤ 100000) (hz : sg s (val xs) = z) (hlz : (digs z.natAbs).length ≤ 100000) (y0 : -1000000 ≤ y) (y1 : y ≤ 1000000) (hM : nm z = M) (hE : nx z y = E) :
    Calls Tryz.prog 49 #[.agg #[.bool s, .slice A xs.length c], .int .i64 y] w fun e w' => Yr M E w e w' := by
  by_cases h0 : z = 0
  · subst hM hE; have := rnorm_0 A c s xs y z w h hl hz h0; rw [h0]; exact this
  · have hb := bl_bd hlz
    have hlt : tz z.natAbs < 2 * 3200000 := by
      have := (blen_bd z.natAbs (by omega)).2.1
      have := tz_lt (by omega) this
      omega
    have e2 : nx z y = y + tz z.natAbs := by unfold nx; rw [if_neg h0]
    rw [← hM, ← hE, e2]
    exact rnorm_any A c s xs y z _ (tz z.natAbs) w h hl hz (fun e => h0 (by have := digs_nil.1 e; omega)) hlz (fun j hj => tz_lowb (by omega) hj) (tz_bit (by omega)) (by omega) (nm_sgz h0) y0 y1
theorem r5make_yes (A : Option Addr) (c : Nat) (s : Bool) (xs : List Nat) (y M E : Int) (w : World) (h : Dg w A c xs) (hl : xs.length ≤ 9000) (y0 : -100000 ≤ y) (y1 : y ≤ 100000) (hM : nm (sg s (val xs)) = M) (hE : nx (sg s (val xs)) y = E) (hq : inR M E = true):
    Calls Tryz.prog 51 #[.agg #[.bool s, .slice A xs.length c], .int .i64 y] w fun e w' => Yb M E true w e w' := by
  have HL := qH hl
  have HM := qH hM
  have HE := qH hE
  have HQ := qH hq
  have LM := qH (inr_len hq)
  have LZ := qH (show (digs (sg s (val xs)).natAbs).length ≤ 100000 by rw [sg_abs]; exact Nat.le_trans (digs_len_le h.2.1) (by omega))
  have d1 : decide (y < -100000) = false := decide_eq_false (by omega)
  have d2 : decide (100000 < y) = false := decide_eq_false (by omega)
  have Y := qH (show -1000000 ≤ y ∧ y ≤ 1000000 by omega)
  have L0 := qH ((live_start w).add h)
  clear h hl hM hE hq y0 y1
  go_enter Tryz.func51, Tryz.ntmps51
  go_wp2_with fail
  obtain ⟨v1, hW, hb, Ri_1, Rr_1⟩ := new2 w (.cells #[.bool s, .slice A xs.length c] 24) (.cells #[.bool false, .slice none 0 0, .int .i64 0] 26)
  rw [← hW]
  have L1 := ls L0 hb
  have Gi := gl0 L0.out
  have Gr := gl1 L0.out
  have Nir : w.heap.size < w.heap.size + 1 := by omega
  clear hW hb
  refine (rnorm_z (z := sg s (val xs)) (L1.out.get (A := A) (c := c) (xs := xs) (by simp)) (Nat.le_trans HL.out (by omega)) rfl LZ.out Y.out.1 Y.out.2 HM.out HE.out).mono ?_
  rintro e w2 ⟨A2, c2, rfl, hd, hb⟩
  have L2 := la L1 hb hd
  have Ri_2 := co Ri_1 hb
  have Rr_2 := co Rr_1 hb
  clear hb hd
  go_wp2_with fail
  obtain ⟨w3, hW, hb, Rx_3⟩ := new1 w2 (.cells #[.bool (decide (M < 0)), .slice A2 (digs M.natAbs).length c2, .int .i64 E] 26)
  rw [← hW]
  have L3 := ls L2 hb
  have Ri_3 := co Ri_2 hb
  have Rr_3 := co Rr_2 hb
  have Gx := gl0 L2.out
  have Nix := nl0 Ri_2.out
  have Nrx := nl0 Rr_2.out
  clear hW hb
  refine (r5inr_t (L3.out.get (A := A2) (c := c2) (xs := digs M.natAbs) (by simp)) LM.out HQ.out).mono ?_
  rintro e w4 ⟨rfl, hb⟩
  have L4 := ls L3 hb
  have Ri_4 := co Ri_3 hb
  have Rr_4 := co Rr_3 hb
  have Rx_4 := co Rx_3 hb
  clear hb 
  obtain ⟨fx0, zx0, fx1, zx1, fx2, zx2, xx⟩ := ly3 Rx_4.out
  obtain ⟨fr0, zr0, fr1, zr1, fr2, zr2, xr⟩ := ly3 Rr_4.out
  go_wp2
  refine bodyPost_ret (v := .tuple #[.agg #[.bool (decide (M < 0)), .slice A2 (digs M.natAbs).length c2, .int .i64 E], .bool true]) (by simp [results, Tryz.results51, go_sem, fx0, fx1, fx2, fr0, fr1, fr2]) rfl ?_
  refine ⟨A2, c2, rfl, ?_, ?_⟩
  · exact (fin3 L4.out Rr_4.out noint3 Gr).get (A := A2) (c := c2) (xs := digs M.natAbs) (by simp)
  · exact (fin3 L4.out Rr_4.out noint3 Gr).1
theorem rshl_z {A : Option Addr} {c v n : Nat} {w : World} (h : Dg w A c (digs v)) (hl : (digs v).length ≤ 1048576) (hn : n ≤ 100000) :
    Calls Tryz.prog 108 #[.slice A (digs v).length c, .int .i64 n] w fun e w' => ∃ A' c', e = .returned (.tuple #[.slice A' (digs (v * 2 ^ n)).length c', .bool true]) ∧ Dg w' A' c' (digs (v * 2 ^ n)) ∧ Below w.heap.size w w' := by
  have := rshl_any A c (digs v) n w h hl hn
  rwa [val_digs] at this
theorem len_pow {v n k : Nat} (h : (digs v).length ≤ k) : (digs (v * 2 ^ n)).length ≤ k + n / 32 + 2 := by
  have h1 : blen v ≤ 32 * k := by
    refine blen_le ?_
    have := val_lt (ok_digs v)
    rw [val_digs] at this
    refine Nat.lt_of_lt_of_le this ?_
    rw [show (4294967296 : Nat) = 2 ^ 32 from rfl, ← Nat.pow_mul]
    exact Nat.pow_le_pow_right (by omega) (by omega)
  have h2 := len_bl ((v * 2 ^ n : Nat) : Int)
  simp only [Int.natAbs_natCast] at h2
  have h3 : bl ((v * 2 ^ n : Nat) : Int) ≤ 32 * k + n := by
    unfold bl
    simp only [Int.natAbs_natCast]
    by_cases h0 : v = 0
    · rw [h0, Nat.zero_mul, blen_zero]; omega
    · rw [blen_up h0]; omega
  omega
theorem pow_step (v d k : Nat) : v * 2 ^ d * 2 ^ k = v * 2 ^ (d + k) := by rw [Nat.mul_assoc, ← Nat.pow_add]
theorem r5up_any (A : Option Addr) (c : Nat) (s : Bool) (v n : Nat) (z : Int) (w : World) (h : Dg w A c (digs v)) (hl : (digs v).length ≤ 100000) (hn : n ≤ 300000) (hz : sg s (v * 2 ^ n) = z):
    Calls Tryz.prog 84 #[.agg #[.bool s, .slice A (digs v).length c], .int .i64 n] w fun e w' => Zr z w e w' := by
  have HL := qH hl
  have HZ := qH hz
  have L0 := qH ((live_start w).add h)
  clear h hl hz
  go_enter Tryz.func84, Tryz.ntmps84
  go_wp2_with fail
  obtain ⟨v1, hW, hb, Ri_1, Rr_1⟩ := new2 w (.cells #[.bool s, .slice A (digs v).length c] 24) (.cells #[.bool false, .slice none 0 0] 24)
  rw [← hW]
  have L1 := ls L0 hb
  have Gi := gl0 L0.out
  have Gr := gl1 L0.out
  have Nir : w.heap.size < w.heap.size + 1 := by omega
  clear hW hb
  obtain ⟨fi0, zi0, fi1, zi1, xi⟩ := ly2 Ri_1.out
  have D0 := qH (show Dg v1 A c (digs (v * 2 ^ 0)) by rw [Nat.pow_zero, Nat.mul_one]; exact L1.out.get (A := A) (c := c) (xs := digs v) (by simp))
  have EL := qH (show (digs v).length = (digs (v * 2 ^ 0)).length by rw [Nat.pow_zero, Nat.mul_one])
  go_loopw [1, 5, 6] (fun nv mv kv wr => ∃ (d : Nat) (A1 : Option Addr) (c1 : Nat), d ≤ n ∧ nv = .int .i64 ((n : Int) - (d : Int)) ∧ mv = .slice A1 (digs (v * 2 ^ d)).length c1 ∧ Dg wr A1 c1 (digs (v * 2 ^ d)) ∧ Below v1.heap.size v1 wr) (fun nv _ _ _ => (intOf nv).toNat)
  case atStart => exact ⟨0, A, c, Nat.zero_le _, by simp, by rw [← EL.out], D0.out, Below.refl _ _⟩
  case round =>
    obtain ⟨d, A1, c1, hd, rfl, rfl, hD, hb⟩ := hrel
    have HD := qH hD
    have HB := qH hb
    clear hD hb
    obtain ⟨q, hq⟩ : ∃ q : Int, (n : Int) - (d : Int) = q := ⟨_, rfl⟩
    rw [hq]
    by_cases hlt : d < n
    · obtain ⟨k, hk⟩ : ∃ k : Nat, min (n - d) 100000 = k := ⟨_, rfl⟩
      have mk : min q 100000 = (k : Int) := by omega
      have mk2 : (if q < 100000 then q else 100000) = (k : Int) := by split <;> omega
      have mk3 : (if 100000 < q then 100000 else q) = (k : Int) := by split <;> omega
      have d1 : decide (0 < q) = true := decide_eq_true (by omega)
      have hk1 : k ≤ 100000 := by omega
      have LL := qH (show (digs (v * 2 ^ d)).length ≤ 1048576 by have := len_pow (n := d) HL.out; omega)
      have hq0 : 0 ≤ q ∧ q ≤ 300000 := by omega
      have wk : IntKind.i64.wrap (q - (k : Int)) = q - (k : Int) := IntWalk.i64_in _ (by omega)
      have HK := qH (show q = (n : Int) - (d : Int) ∧ d + k ≤ n ∧ 0 < k by omega)
      obtain ⟨q0, q1⟩ := hq0
      clear hk hq hlt hd hn
      go_wp2_with fail
      refine (rshl_z HD.out LL.out hk1).mono ?_
      rintro e w2 ⟨A2, c2, rfl, hd2, hb2⟩
      rw [pow_step] at hd2 ⊢
      have HD2 := qH hd2
      have HB2 := qH (HB.out.trans (hb2.mono HB.out.size))
      clear hd2 hb2
      go_wp2
      go_roundw
      case rel => exact ⟨d + k, A2, c2, HK.out.2.1, by rw [HK.out.1]; congr 1; all_goals omega, rfl, HD2.out, HB2.out⟩
      case measure => have := HK.out; simp [intOf]; omega
    · obtain rfl : d = n := by omega
      have d1 : decide (0 < q) = false := decide_eq_false (by omega)
      clear hq hlt hd
      have L9 := ls L1 HB.out
      have Rwi := co Ri_1 HB.out
      have Rwr := co Rr_1 HB.out
      have LL := qH (show (digs (v * 2 ^ d)).length ≤ 1000000 by have := len_pow (n := d) HL.out; omega)
      clear fi0 zi0 fi1 zi1 xi
      obtain ⟨fi0, zi0, fi1, zi1, xi⟩ := ly2 Rwi.out
      go_wp2_with fail
      refine (rmake_z (z := z) HD.out LL.out (by rw [val_digs]; exact HZ.out)).mono ?_
      rintro e w22 ⟨A22, c22, rfl, hd, hb⟩
      have L22 := la L9 hb hd
      clear fi0 zi0 fi1 zi1 xi
      have Ri_22 := co Rwi hb
      have Rr_22 := co Rwr hb
      clear hb hd
      obtain ⟨fr0, zr0, fr1, zr1, xr⟩ := ly2 Rr_22.out
      go_wp2
      refine bodyPost_ret (v := .agg #[.bool (decide (z < 0)), .slice A22 (digs z.natAbs).length c22]) (by simp [results, Tryz.results84, go_sem, fr0, fr1]) rfl ?_
      refine ⟨A22, c22, rfl, ?_, ?_⟩
      · exact (fin2 L22.out Rr_22.out noint_int Gr).get (A := A22) (c := c22) (xs := digs z.natAbs) (by simp)
      · exact (fin2 L22.out Rr_22.out noint_int Gr).1
theorem r5up_z {A : Option Addr} {c : Nat} {m q x e0 k : Int} {w : World} (h : Dg w A c (digs m.natAbs)) (hl : (digs m.natAbs).length ≤ 100000) (h0 : e0 ≤ x) (h1 : x - e0 ≤ 300000) (hk : x - e0 = k) (hq : upto m x e0 = q) :
    Calls Tryz.prog 84 #[.agg #[.bool (decide (m < 0)), .slice A (digs m.natAbs).length c], .int .i64 k] w fun e w' => Zr q w e w' := by
  have := r5up_any A c (decide (m < 0)) m.natAbs (x - e0).toNat q w h hl (by omega) (by
    rw [← hq]
    have h2 := upto_abs m x e0
    have h3 := upto_neg m x e0
    rw [← h2, ← h3]
    exact sg_dz' _)
  rw [show (((x - e0).toNat : Nat) : Int) = k by omega] at this
  exact this
theorem r5lift_gt (A B : Option Addr) (c d : Nat) (m n x y : Int) (w : World) (h : Dg w A c (digs m.natAbs)) (h' : Dg w B d (digs n.natAbs)) (hl : (digs m.natAbs).length ≤ 10000) (hl' : (digs n.natAbs).length ≤ 10000) (x0 : -131072 ≤ x) (x1 : x ≤ 131072) (y0 : -131072 ≤ y) (y1 : y ≤ 131072) (m0 : m ≠ 0) (n0 : n ≠ 0) {p q e0 : Int} (he : min x y = e0) (hp : upto m x e0 = p) (hq : upto n y e0 = q) (hc : y < x):
    Calls Tryz.prog 47 #[.agg #[.bool (decide (m < 0)), .slice A (digs m.natAbs).length c, .int .i64 x], .agg #[.bool (decide (n < 0)), .slice B (digs n.natAbs).length d, .int .i64 y]] w fun e w' => Ybs p q e0 w e w' := by
  have t1 : ((((digs m.natAbs).length : Nat) : Int) == 0) = false := beq_eq_false_iff_ne.2 (fun e => m0 (by have := digs_nil.1 (show (digs m.natAbs).length = 0 by omega); omega))
  have t2 : ((((digs n.natAbs).length : Nat) : Int) == 0) = false := beq_eq_false_iff_ne.2 (fun e => n0 (by have := digs_nil.1 (show (digs n.natAbs).length = 0 by omega); omega))
  have d1 : decide (y < x) = true := by simp; omega
  obtain rfl : y = e0 := by omega
  obtain ⟨k, hk⟩ : ∃ k : Int, x - y = k := ⟨_, rfl⟩
  have wk : IntKind.i64.wrap (x - y) = k := by rw [IntWalk.i64_in _ (by omega)]; exact hk
  obtain rfl : n = q := by rw [← hq, upto_self]
  have HK := qH hk
  have HU := qH hp
  have lx := qH hl
  have ly := qH hl'
  have HC := qH (show y ≤ x ∧ x - y ≤ 300000 by omega)
  have L0 := qH (((live_start w).add h).add h')
  clear h h' hl hl' m0 n0 he hp hq hc hk
  go_enter Tryz.func47, Tryz.ntmps47
  go_wp2_with fail
  obtain ⟨v1, hW, hb, Rx_1, Ry_1, Ra_1, Rb_1⟩ := new4 w (.cells #[.bool (decide (m < 0)), .slice A (digs m.natAbs).length c, .int .i64 x] 26) (.cells #[.bool (decide (n < 0)), .slice B (digs n.natAbs).length d, .int .i64 y] 26) (.cells #[.bool false, .slice none 0 0] 24) (.cells #[.bool false, .slice none 0 0] 24)
  rw [← hW]
  have L1 := ls L0 hb
  have Gx := gl0 L0.out
  have Gy := gl1 L0.out
  have Nxy : w.heap.size < w.heap.size + 1 := by omega
  have Ga := gl2 L0.out
  have Nxa : w.heap.size < w.heap.size + 1 + 1 := by omega
  have Nya : w.heap.size + 1 < w.heap.size + 1 + 1 := by omega
  have Gb := gl3 L0.out
  have Nxb : w.heap.size < w.heap.size + 1 + 1 + 1 := by omega
  have Nyb : w.heap.size + 1 < w.heap.size + 1 + 1 + 1 := by omega
  have Nab : w.heap.size + 1 + 1 < w.heap.size + 1 + 1 + 1 := by omega
  clear hW hb
  obtain ⟨fx0, zx0, fx1, zx1, fx2, zx2, xx⟩ := ly3 Rx_1.out
  obtain ⟨fy0, zy0, fy1, zy1, fy2, zy2, xy⟩ := ly3 Ry_1.out
  go_upto_region 6 with fail
  clear fx0 zx0 fx1 zx1 fx2 zx2 xx fy0 zy0 fy1 zy1 fy2 zy2 xy
  obtain ⟨fx0, zx0, fx1, zx1, fx2, zx2, xx⟩ := ly3 Rx_1.out
  obtain ⟨fy0, zy0, fy1, zy1, fy2, zy2, xy⟩ := ly3 Ry_1.out
  have KD := qH (bd0 v1)
  have LD := ls L1 KD.out
  have Mxa : w.heap.size ≠ w.heap.size + 1 + 1 := by omega
  have Mxb : w.heap.size ≠ w.heap.size + 1 + 1 + 1 := by omega
  have Mya : w.heap.size + 1 ≠ w.heap.size + 1 + 1 := by omega
  have Myb : w.heap.size + 1 ≠ w.heap.size + 1 + 1 + 1 := by omega
  go_region_held3 (fun w' => (∀ o, w'.cell? ⟨w.heap.size, o, none⟩ = v1.cell? ⟨w.heap.size, o, none⟩) ∧ (∀ o, w'.cell? ⟨w.heap.size + 1, o, none⟩ = v1.cell? ⟨w.heap.size + 1, o, none⟩))
    (first | with_reducible exact ⟨keep_b KD.out xx, keep_b KD.out xy⟩ | with_reducible exact ⟨keep_b K3.out xx, keep_b K3.out xy⟩ | exact ⟨(keep_set (keep_b K3.out xx) Mxa), (keep_set (keep_b K3.out xy) Mya)⟩ | exact ⟨(keep_set (keep_set (keep_b K3.out xx) Mxa) Mxa), (keep_set (keep_set (keep_b K3.out xy) Mya) Mya)⟩ | exact ⟨(keep_set (keep_set (keep_set (keep_b K3.out xx) Mxa) Mxa) Mxb), (keep_set (keep_set (keep_set (keep_b K3.out xy) Mya) Mya) Myb)⟩ | exact ⟨(keep_set (keep_set (keep_set (keep_set (keep_b K3.out xx) Mxa) Mxa) Mxb) Mxb), (keep_set (keep_set (keep_set (keep_set (keep_b K3.out xy) Mya) Mya) Myb) Myb)⟩)
    (first
      | (go_at_call 84; (with_reducible refine (r5up_z (LD.out.get (A := A) (c := c) (xs := digs m.natAbs) (by simp)) (Nat.le_trans lx.out (by omega)) HC.out.1 HC.out.2 HK.out HU.out).mono ?_); rintro e w3 ⟨A3, c3, rfl, hd, hb⟩; (have K3 := bt KD hb); (have L3 := la LD hb hd); (have qa0_K3 := row_c (i := 0) (co Ra_1 K3.out).out rfl); (have pa0_K3 := frozen_of_row _ _ 0 _ _ (cells_of Ra_1.out K3.out)); (have qa1_K3 := row_c (i := 1) (co Ra_1 K3.out).out rfl); (have pa1_K3 := frozen_of_row _ _ 1 _ _ (cells_of Ra_1.out K3.out)); (have qb0_K3 := row_c (i := 0) (co Rb_1 K3.out).out rfl); (have pb0_K3 := frozen_of_row _ _ 0 _ _ (cells_of Rb_1.out K3.out)); (have qb1_K3 := row_c (i := 1) (co Rb_1 K3.out).out rfl); (have pb1_K3 := frozen_of_row _ _ 1 _ _ (cells_of Rb_1.out K3.out)); clear hb hd))
  rename_i hHeld
  clear hHeld
  clear fx0 zx0 fx1 zx1 fx2 zx2 xx fy0 zy0 fy1 zy1 fy2 zy2 xy
  have Rx_3 := co Rx_1 K3.out
  have Ry_3 := co Ry_1 K3.out
  have Ra_3 := co Ra_1 K3.out
  have Rb_3 := co Rb_1 K3.out
  clear wk
  -- the end
  obtain ⟨w4, hW⟩ : ∃ W : World, W = ((w3.setCell ⟨w.heap.size + 1 + 1, 0, none⟩ (.bool (decide (p < 0)))).setCell ⟨w.heap.size + 1 + 1, 1, none⟩ (.slice A3 (digs p.natAbs).length c3)) := ⟨_, rfl⟩
  rw [← hW]
  have hO : Only (w.heap.size + 1 + 1) w3 w4 := by rw [hW]; exact (((Only.refl (w.heap.size + 1 + 1) w3).setCell 0 _).setCell 1 _)
  have L4 := qH (live_only L3.out hO Ra_3.out noint_int Ga)
  have Rx_4 := qH ((hO.block _ (by omega)).trans Rx_3.out)
  have Ry_4 := qH ((hO.block _ (by omega)).trans Ry_3.out)
  have Rb_4 := qH ((hO.block _ (by omega)).trans Rb_3.out)
  have Ra_4 := qH (show w4.heap[w.heap.size + 1 + 1]? = some (.cells #[.bool (decide (p < 0)), .slice A3 (digs p.natAbs).length c3] 24 (0, 0)) by rw [hW]; exact (heap_setCell_same _ _ 1 _ _ _ (heap_setCell_same _ _ 0 _ _ _ Ra_3.out)))
  clear hW hO
  obtain ⟨w5, hW⟩ : ∃ W : World, W = ((w4.setCell ⟨w.heap.size + 1 + 1 + 1, 0, none⟩ (.bool (decide (n < 0)))).setCell ⟨w.heap.size + 1 + 1 + 1, 1, none⟩ (.slice B (digs n.natAbs).length d)) := ⟨_, rfl⟩
  rw [← hW]
  have hO : Only (w.heap.size + 1 + 1 + 1) w4 w5 := by rw [hW]; exact (((Only.refl (w.heap.size + 1 + 1 + 1) w4).setCell 0 _).setCell 1 _)
  have L5 := qH (live_only L4.out hO Rb_4.out noint_int Gb)
  have Rx_5 := qH ((hO.block _ (by omega)).trans Rx_4.out)
  have Ry_5 := qH ((hO.block _ (by omega)).trans Ry_4.out)
  have Ra_5 := qH ((hO.block _ (by omega)).trans Ra_4.out)
  have Rb_5 := qH (show w5.heap[w.heap.size + 1 + 1 + 1]? = some (.cells #[.bool (decide (n < 0)), .slice B (digs n.natAbs).length d] 24 (0, 0)) by rw [hW]; exact (heap_setCell_same _ _ 1 _ _ _ (heap_setCell_same _ _ 0 _ _ _ Rb_4.out)))
  clear hW hO
  obtain ⟨fa0, za0, fa1, za1, xa⟩ := ly2 Ra_5.out
  obtain ⟨fb0, zb0, fb1, zb1, xb⟩ := ly2 Rb_5.out
  go_wp2
  refine bodyPost_ret (v := .tuple #[.agg #[.bool (decide (p < 0)), .slice A3 (digs p.natAbs).length c3], .agg #[.bool (decide (n < 0)), .slice B (digs n.natAbs).length d], .int .i64 y]) (by simp [results, Tryz.results47, go_sem, fa0, fa1, fb0, fb1]) rfl ?_
  refine ⟨A3, c3, B, d, rfl, L5.out.get (A := A3) (c := c3) (xs := digs p.natAbs) (by simp), L5.out.get (A := B) (c := d) (xs := digs n.natAbs) (by simp), L5.out.1⟩
theorem r5lift_le (A B : Option Addr) (c d : Nat) (m n x y : Int) (w : World) (h : Dg w A c (digs m.natAbs)) (h' : Dg w B d (digs n.natAbs)) (hl : (digs m.natAbs).length ≤ 10000) (hl' : (digs n.natAbs).length ≤ 10000) (x0 : -131072 ≤ x) (x1 : x ≤ 131072) (y0 : -131072 ≤ y) (y1 : y ≤ 131072) (m0 : m ≠ 0) (n0 : n ≠ 0) {p q e0 : Int} (he : min x y = e0) (hp : upto m x e0 = p) (hq : upto n y e0 = q) (hc : x ≤ y):
    Calls Tryz.prog 47 #[.agg #[.bool (decide (m < 0)), .slice A (digs m.natAbs).length c, .int .i64 x], .agg #[.bool (decide (n < 0)), .slice B (digs n.natAbs).length d, .int .i64 y]] w fun e w' => Ybs p q e0 w e w' := by
  have t1 : ((((digs m.natAbs).length : Nat) : Int) == 0) = false := beq_eq_false_iff_ne.2 (fun e => m0 (by have := digs_nil.1 (show (digs m.natAbs).length = 0 by omega); omega))
  have t2 : ((((digs n.natAbs).length : Nat) : Int) == 0) = false := beq_eq_false_iff_ne.2 (fun e => n0 (by have := digs_nil.1 (show (digs n.natAbs).length = 0 by omega); omega))
  have d1 : decide (y < x) = false := by simp; omega
  obtain rfl : x = e0 := by omega
  obtain ⟨k, hk⟩ : ∃ k : Int, y - x = k := ⟨_, rfl⟩
  have wk : IntKind.i64.wrap (y - x) = k := by rw [IntWalk.i64_in _ (by omega)]; exact hk
  obtain rfl : m = p := by rw [← hp, upto_self]
  have HK := qH hk
  have HU := qH hq
  have lx := qH hl
  have ly := qH hl'
  have HC := qH (show x ≤ y ∧ y - x ≤ 300000 by omega)
  have L0 := qH (((live_start w).add h).add h')
  clear h h' hl hl' m0 n0 he hp hq hc hk
  go_enter Tryz.func47, Tryz.ntmps47
  go_wp2_with fail
  obtain ⟨v1, hW, hb, Rx_1, Ry_1, Ra_1, Rb_1⟩ := new4 w (.cells #[.bool (decide (m < 0)), .slice A (digs m.natAbs).length c, .int .i64 x] 26) (.cells #[.bool (decide (n < 0)), .slice B (digs n.natAbs).length d, .int .i64 y] 26) (.cells #[.bool false, .slice none 0 0] 24) (.cells #[.bool false, .slice none 0 0] 24)
  rw [← hW]
  have L1 := ls L0 hb
  have Gx := gl0 L0.out
  have Gy := gl1 L0.out
  have Nxy : w.heap.size < w.heap.size + 1 := by omega
  have Ga := gl2 L0.out
  have Nxa : w.heap.size < w.heap.size + 1 + 1 := by omega
  have Nya : w.heap.size + 1 < w.heap.size + 1 + 1 := by omega
  have Gb := gl3 L0.out
  have Nxb : w.heap.size < w.heap.size + 1 + 1 + 1 := by omega
  have Nyb : w.heap.size + 1 < w.heap.size + 1 + 1 + 1 := by omega
  have Nab : w.heap.size + 1 + 1 < w.heap.size + 1 + 1 + 1 := by omega
  clear hW hb
  obtain ⟨fx0, zx0, fx1, zx1, fx2, zx2, xx⟩ := ly3 Rx_1.out
  obtain ⟨fy0, zy0, fy1, zy1, fy2, zy2, xy⟩ := ly3 Ry_1.out
  go_upto_region 7 with fail
  clear fx0 zx0 fx1 zx1 fx2 zx2 xx fy0 zy0 fy1 zy1 fy2 zy2 xy
  obtain ⟨fx0, zx0, fx1, zx1, fx2, zx2, xx⟩ := ly3 Rx_1.out
  obtain ⟨fy0, zy0, fy1, zy1, fy2, zy2, xy⟩ := ly3 Ry_1.out
  have KD := qH (bd0 v1)
  have LD := ls L1 KD.out
  have Mxa : w.heap.size ≠ w.heap.size + 1 + 1 := by omega
  have Mxb : w.heap.size ≠ w.heap.size + 1 + 1 + 1 := by omega
  have Mya : w.heap.size + 1 ≠ w.heap.size + 1 + 1 := by omega
  have Myb : w.heap.size + 1 ≠ w.heap.size + 1 + 1 + 1 := by omega
  go_region_held3 (fun w' => (∀ o, w'.cell? ⟨w.heap.size, o, none⟩ = v1.cell? ⟨w.heap.size, o, none⟩) ∧ (∀ o, w'.cell? ⟨w.heap.size + 1, o, none⟩ = v1.cell? ⟨w.heap.size + 1, o, none⟩))
    (first | with_reducible exact ⟨keep_b KD.out xx, keep_b KD.out xy⟩ | with_reducible exact ⟨keep_b K3.out xx, keep_b K3.out xy⟩ | exact ⟨(keep_set (keep_b K3.out xx) Mxa), (keep_set (keep_b K3.out xy) Mya)⟩ | exact ⟨(keep_set (keep_set (keep_b K3.out xx) Mxa) Mxa), (keep_set (keep_set (keep_b K3.out xy) Mya) Mya)⟩ | exact ⟨(keep_set (keep_set (keep_set (keep_b K3.out xx) Mxa) Mxa) Mxb), (keep_set (keep_set (keep_set (keep_b K3.out xy) Mya) Mya) Myb)⟩ | exact ⟨(keep_set (keep_set (keep_set (keep_set (keep_b K3.out xx) Mxa) Mxa) Mxb) Mxb), (keep_set (keep_set (keep_set (keep_set (keep_b K3.out xy) Mya) Mya) Myb) Myb)⟩)
    (first
      | (go_at_call 84; (with_reducible refine (r5up_z (LD.out.get (A := B) (c := d) (xs := digs n.natAbs) (by simp)) (Nat.le_trans ly.out (by omega)) HC.out.1 HC.out.2 HK.out HU.out).mono ?_); rintro e w3 ⟨A3, c3, rfl, hd, hb⟩; (have K3 := bt KD hb); (have L3 := la LD hb hd); (have qa0_K3 := row_c (i := 0) (co Ra_1 K3.out).out rfl); (have pa0_K3 := frozen_of_row _ _ 0 _ _ (cells_of Ra_1.out K3.out)); (have qa1_K3 := row_c (i := 1) (co Ra_1 K3.out).out rfl); (have pa1_K3 := frozen_of_row _ _ 1 _ _ (cells_of Ra_1.out K3.out)); (have qb0_K3 := row_c (i := 0) (co Rb_1 K3.out).out rfl); (have pb0_K3 := frozen_of_row _ _ 0 _ _ (cells_of Rb_1.out K3.out)); (have qb1_K3 := row_c (i := 1) (co Rb_1 K3.out).out rfl); (have pb1_K3 := frozen_of_row _ _ 1 _ _ (cells_of Rb_1.out K3.out)); clear hb hd))
  rename_i hHeld
  clear hHeld
  clear fx0 zx0 fx1 zx1 fx2 zx2 xx fy0 zy0 fy1 zy1 fy2 zy2 xy
  have Rx_3 := co Rx_1 K3.out
  have Ry_3 := co Ry_1 K3.out
  have Ra_3 := co Ra_1 K3.out
  have Rb_3 := co Rb_1 K3.out
  clear wk
  -- the end
  obtain ⟨w4, hW⟩ : ∃ W : World, W = ((w3.setCell ⟨w.heap.size + 1 + 1, 0, none⟩ (.bool (decide (m < 0)))).setCell ⟨w.heap.size + 1 + 1, 1, none⟩ (.slice A (digs m.natAbs).length c)) := ⟨_, rfl⟩
  rw [← hW]
  have hO : Only (w.heap.size + 1 + 1) w3 w4 := by rw [hW]; exact (((Only.refl (w.heap.size + 1 + 1) w3).setCell 0 _).setCell 1 _)
  have L4 := qH (live_only L3.out hO Ra_3.out noint_int Ga)
  have Rx_4 := qH ((hO.block _ (by omega)).trans Rx_3.out)
  have Ry_4 := qH ((hO.block _ (by omega)).trans Ry_3.out)
  have Rb_4 := qH ((hO.block _ (by omega)).trans Rb_3.out)
  have Ra_4 := qH (show w4.heap[w.heap.size + 1 + 1]? = some (.cells #[.bool (decide (m < 0)), .slice A (digs m.natAbs).length c] 24 (0, 0)) by rw [hW]; exact (heap_setCell_same _ _ 1 _ _ _ (heap_setCell_same _ _ 0 _ _ _ Ra_3.out)))
  clear hW hO
  obtain ⟨w5, hW⟩ : ∃ W : World, W = ((w4.setCell ⟨w.heap.size + 1 + 1 + 1, 0, none⟩ (.bool (decide (q < 0)))).setCell ⟨w.heap.size + 1 + 1 + 1, 1, none⟩ (.slice A3 (digs q.natAbs).length c3)) := ⟨_, rfl⟩
  rw [← hW]
  have hO : Only (w.heap.size + 1 + 1 + 1) w4 w5 := by rw [hW]; exact (((Only.refl (w.heap.size + 1 + 1 + 1) w4).setCell 0 _).setCell 1 _)
  have L5 := qH (live_only L4.out hO Rb_4.out noint_int Gb)
  have Rx_5 := qH ((hO.block _ (by omega)).trans Rx_4.out)
  have Ry_5 := qH ((hO.block _ (by omega)).trans Ry_4.out)
  have Ra_5 := qH ((hO.block _ (by omega)).trans Ra_4.out)
  have Rb_5 := qH (show w5.heap[w.heap.size + 1 + 1 + 1]? = some (.cells #[.bool (decide (q < 0)), .slice A3 (digs q.natAbs).length c3] 24 (0, 0)) by rw [hW]; exact (heap_setCell_same _ _ 1 _ _ _ (heap_setCell_same _ _ 0 _ _ _ Rb_4.out)))
  clear hW hO
  obtain ⟨fa0, za0, fa1, za1, xa⟩ := ly2 Ra_5.out
  obtain ⟨fb0, zb0, fb1, zb1, xb⟩ := ly2 Rb_5.out
  go_wp2
  refine bodyPost_ret (v := .tuple #[.agg #[.bool (decide (m < 0)), .slice A (digs m.natAbs).length c], .agg #[.bool (decide (q < 0)), .slice A3 (digs q.natAbs).length c3], .int .i64 x]) (by simp [results, Tryz.results47, go_sem, fa0, fa1, fb0, fb1]) rfl ?_
  refine ⟨A, c, A3, c3, rfl, L5.out.get (A := A) (c := c) (xs := digs m.natAbs) (by simp), L5.out.get (A := A3) (c := c3) (xs := digs q.natAbs) (by simp), L5.out.1⟩
theorem rzsmall_case (A : Option Addr) (c : Nat) (s : Bool) (xs : List Nat) (w : World) (h : Dg w A c xs) (hl : xs.length ≤ 1000000) (z : Int) (hz : sg s (val xs) = z) (ng : Bool) (hng : decide (z < 0) = ng) (m : Nat) (hm : z.natAbs = m) (q : Int) (ok : Bool)
    (hq : (18446744073709551616 ≤ m ∧ q = 0 ∧ ok = false) ∨ (m < 18446744073709551616 ∧ 9223372036854775808 < m ∧ q = 0 ∧ ok = false) ∨ (m = 9223372036854775808 ∧ ng = false ∧ q = 0 ∧ ok = false) ∨ (m = 9223372036854775808 ∧ ng = true ∧ q = -9223372036854775808 ∧ ok = true) ∨ (m < 9223372036854775808 ∧ ng = false ∧ q = m ∧ ok = true) ∨ (m < 9223372036854775808 ∧ ng = true ∧ q = -m ∧ ok = true)) :
    Calls Tryz.prog 46 #[.agg #[.bool s, .slice A xs.length c]] w fun e w' => e = .returned (.tuple #[.int .i64 q, .bool ok]) ∧ Below w.heap.size w w' := by
  have HC := qH (fun A1 c1 W h1 hb => rsmall_any A1 c1 (digs m) W h1 hb)
  simp only [val_digs] at HC
  have l1 := digs_len_le h.2.1
  have l2 : (digs m).length ≤ xs.length := by rw [← hm, ← hz, sg_abs]; exact l1
  have MK := qH (fun W h => rmake_any A c s xs W h hl)
  rw [hz] at MK
  simp only [Zr, hng, hm] at MK
  clear hz hng hm
  rcases hq with ⟨h1, rfl, rfl⟩ | ⟨h1, h2, rfl, rfl⟩ | ⟨h1, rfl, rfl, rfl⟩ | ⟨h1, rfl, rfl, rfl⟩ | ⟨h1, rfl, rfl, rfl⟩ | ⟨h1, rfl, rfl, rfl⟩
  · have hd : decide (m < 18446744073709551616) = false := decide_eq_false (by omega)
    rw [hd] at HC
    clear hd h1
    go_enter Tryz.func46, Tryz.ntmps46
    go_wp2_with fail
    refine (MK.out _ (h.below (below1 _ _))).mono ?_
    rintro e w1 ⟨A1, c1, rfl, hd, hb⟩
    have K1 := qH hb
    have G1 := qH hd
    obtain ⟨hc1, hf1⟩ := bcell hb
    clear hb hd h MK
    go_wp2_with fail
    refine (HC.out A1 c1 _ (G1.out.below (below1 _ _)) (by omega)).mono ?_
    rintro e w2 ⟨rfl, hb⟩
    have K2 := qH (K1.out.trans (((below1 _ _).trans (hb.mono (by simp))).mono K1.out.size))
    obtain ⟨hc2, hf2⟩ := bcell hb
    clear hb
    go_wp2
    go_ret2
    exact ⟨rfl, (below1 w _).trans (K2.out.mono (by simp))⟩
  · have hs : small? m = m := by unfold small?; rw [if_pos (by omega)]
    have hd : decide (m < 18446744073709551616) = true := decide_eq_true (by omega)
    rw [hs, hd] at HC
    have d1 : decide ((9223372036854775808 : Int) < (m : Int)) = true := by simp; omega
    clear hs hd h1 h2
    go_enter Tryz.func46, Tryz.ntmps46
    go_wp2_with fail
    refine (MK.out _ (h.below (below1 _ _))).mono ?_
    rintro e w1 ⟨A1, c1, rfl, hd, hb⟩
    have K1 := qH hb
    have G1 := qH hd
    obtain ⟨hc1, hf1⟩ := bcell hb
    clear hb hd h MK
    go_wp2_with fail
    refine (HC.out A1 c1 _ (G1.out.below (below1 _ _)) (by omega)).mono ?_
    rintro e w2 ⟨rfl, hb⟩
    have K2 := qH (K1.out.trans (((below1 _ _).trans (hb.mono (by simp))).mono K1.out.size))
    obtain ⟨hc2, hf2⟩ := bcell hb
    clear hb
    go_wp2
    go_ret2
    exact ⟨rfl, (below1 w _).trans (K2.out.mono (by simp))⟩
  · have hs : small? m = m := by unfold small?; rw [if_pos (by omega)]
    have hd : decide (m < 18446744073709551616) = true := decide_eq_true (by omega)
    rw [hs, hd] at HC
    have d1 : decide ((9223372036854775808 : Int) < (m : Int)) = false := by simp; omega
    have d2 : ((m : Int) == 9223372036854775808) = true := by simp; omega
    clear hs hd h1
    go_enter Tryz.func46, Tryz.ntmps46
    go_wp2_with fail
    refine (MK.out _ (h.below (below1 _ _))).mono ?_
    rintro e w1 ⟨A1, c1, rfl, hd, hb⟩
    have K1 := qH hb
    have G1 := qH hd
    obtain ⟨hc1, hf1⟩ := bcell hb
    clear hb hd h MK
    go_wp2_with fail
    refine (HC.out A1 c1 _ (G1.out.below (below1 _ _)) (by omega)).mono ?_
    rintro e w2 ⟨rfl, hb⟩
    have K2 := qH (K1.out.trans (((below1 _ _).trans (hb.mono (by simp))).mono K1.out.size))
    obtain ⟨hc2, hf2⟩ := bcell hb
    clear hb
    go_wp2
    go_ret2
    exact ⟨rfl, (below1 w _).trans (K2.out.mono (by simp))⟩
  · have hs : small? m = m := by unfold small?; rw [if_pos (by omega)]
    have hd : decide (m < 18446744073709551616) = true := decide_eq_true (by omega)
    rw [hs, hd] at HC
    have d1 : decide ((9223372036854775808 : Int) < (m : Int)) = false := by simp; omega
    have d2 : ((m : Int) == 9223372036854775808) = true := by simp; omega
    clear hs hd h1
    go_enter Tryz.func46, Tryz.ntmps46
    go_wp2_with fail
    refine (MK.out _ (h.below (below1 _ _))).mono ?_
    rintro e w1 ⟨A1, c1, rfl, hd, hb⟩
    have K1 := qH hb
    have G1 := qH hd
    obtain ⟨hc1, hf1⟩ := bcell hb
    clear hb hd h MK
    go_wp2_with fail
    refine (HC.out A1 c1 _ (G1.out.below (below1 _ _)) (by omega)).mono ?_
    rintro e w2 ⟨rfl, hb⟩
    have K2 := qH (K1.out.trans (((below1 _ _).trans (hb.mono (by simp))).mono K1.out.size))
    obtain ⟨hc2, hf2⟩ := bcell hb
    clear hb
    go_wp2
    go_ret2
    exact ⟨rfl, (below1 w _).trans (K2.out.mono (by simp))⟩
  · have hs : small? m = m := by unfold small?; rw [if_pos (by omega)]
    have hd : decide (m < 18446744073709551616) = true := decide_eq_true (by omega)
    rw [hs, hd] at HC
    have d1 : decide ((9223372036854775808 : Int) < (m : Int)) = false := by simp; omega
    have d2 : ((m : Int) == 9223372036854775808) = false := by simp; omega
    have HT := qH (IntWalk.wrap64_in (m : Int) (by omega))
    clear hs hd
    go_enter Tryz.func46, Tryz.ntmps46
    go_wp2_with fail
    refine (MK.out _ (h.below (below1 _ _))).mono ?_
    rintro e w1 ⟨A1, c1, rfl, hd, hb⟩
    have K1 := qH hb
    have G1 := qH hd
    obtain ⟨hc1, hf1⟩ := bcell hb
    clear hb hd h MK
    go_wp2_with fail
    refine (HC.out A1 c1 _ (G1.out.below (below1 _ _)) (by omega)).mono ?_
    rintro e w2 ⟨rfl, hb⟩
    have K2 := qH (K1.out.trans (((below1 _ _).trans (hb.mono (by simp))).mono K1.out.size))
    obtain ⟨hc2, hf2⟩ := bcell hb
    clear hb
    go_wp2
    go_ret2
    exact ⟨rfl, (below1 w _).trans (K2.out.mono (by simp))⟩
  · have hs : small? m = m := by unfold small?; rw [if_pos (by omega)]
    have hd : decide (m < 18446744073709551616) = true := decide_eq_true (by omega)
    rw [hs, hd] at HC
    have d1 : decide ((9223372036854775808 : Int) < (m : Int)) = false := by simp; omega
    have d2 : ((m : Int) == 9223372036854775808) = false := by simp; omega
    have e1 : wrap64 (m : Int) = m := IntWalk.wrap64_in (m : Int) (by omega)
    have HT := qH e1
    clear hs hd e1
    go_enter Tryz.func46, Tryz.ntmps46
    go_wp2_with fail
    refine (MK.out _ (h.below (below1 _ _))).mono ?_
    rintro e w1 ⟨A1, c1, rfl, hd, hb⟩
    have K1 := qH hb
    have G1 := qH hd
    obtain ⟨hc1, hf1⟩ := bcell hb
    clear hb hd h MK
    go_wp2_with fail
    refine (HC.out A1 c1 _ (G1.out.below (below1 _ _)) (by omega)).mono ?_
    rintro e w2 ⟨rfl, hb⟩
    have K2 := qH (K1.out.trans (((below1 _ _).trans (hb.mono (by simp))).mono K1.out.size))
    obtain ⟨hc2, hf2⟩ := bcell hb
    clear hb
    go_wp2
    go_ret2
    exact ⟨rfl, (below1 w _).trans (K2.out.mono (by simp))⟩
theorem rzsmall_any (A : Option Addr) (c : Nat) (s : Bool) (xs : List Nat) (w : World) (h : Dg w A c xs) (hl : xs.length ≤ 1000000) (q : Int) (ok : Bool) (hq : smallz (sg s (val xs)) = q) (hok : smallb (sg s (val xs)) = ok) :
    Calls Tryz.prog 46 #[.agg #[.bool s, .slice A xs.length c]] w fun e w' => e = .returned (.tuple #[.int .i64 q, .bool ok]) ∧ Below w.heap.size w w' := by
  refine rzsmall_case A c s xs w h hl (sg s (val xs)) rfl _ rfl _ rfl q ok ?_
  generalize sg s (val xs) = z at *
  subst hq hok
  unfold smallz smallb
  by_cases h1 : -9223372036854775808 ≤ z ∧ z ≤ 9223372036854775807
  · rw [if_pos h1, decide_eq_true h1]
    by_cases h2 : z < 0
    · rw [decide_eq_true h2]
      rcases Nat.lt_or_ge z.natAbs 9223372036854775808 with h3 | h3
      · exact .inr (.inr (.inr (.inr (.inr ⟨h3, rfl, by omega, rfl⟩))))
      · exact .inr (.inr (.inr (.inl ⟨by omega, rfl, by omega, rfl⟩)))
    · rw [decide_eq_false h2]
      exact .inr (.inr (.inr (.inr (.inl ⟨by omega, rfl, by omega, rfl⟩))))
  · rw [if_neg h1, decide_eq_false h1]
    rcases Nat.lt_or_ge z.natAbs 18446744073709551616 with h3 | h3
    · rcases Nat.lt_or_ge 9223372036854775808 z.natAbs with h4 | h4
      · exact .inr (.inl ⟨h3, h4, rfl, rfl⟩)
      · exact .inr (.inr (.inl ⟨by omega, decide_eq_false (by omega), rfl, rfl⟩))
    · exact .inl ⟨h3, rfl, rfl⟩
theorem sg_of (b : Bool) {m : Int} (h : decide (m < 0) = b) : sg b (val (digs m.natAbs)) = m := by
  rw [val_digs, ← h]; exact sg_dz' m
theorem r5lift_any {A B : Option Addr} {c d : Nat} {m n x y p q e0 : Int} {w : World} (h : Dg w A c (digs m.natAbs)) (h' : Dg w B d (digs n.natAbs)) (hl : (digs m.natAbs).length ≤ 10000) (hl' : (digs n.natAbs).length ≤ 10000) (x0 : -131072 ≤ x) (x1 : x ≤ 131072) (y0 : -131072 ≤ y) (y1 : y ≤ 131072) (m0 : m ≠ 0) (n0 : n ≠ 0) (he : min x y = e0) (hp : upto m x e0 = p) (hq : upto n y e0 = q) :
    Calls Tryz.prog 47 #[.agg #[.bool (decide (m < 0)), .slice A (digs m.natAbs).length c, .int .i64 x], .agg #[.bool (decide (n < 0)), .slice B (digs n.natAbs).length d, .int .i64 y]] w fun e w' => Ybs p q e0 w e w' := by
  by_cases hc : y < x
  · exact r5lift_gt A B c d m n x y w h h' hl hl' x0 x1 y0 y1 m0 n0 he hp hq hc
  · exact r5lift_le A B c d m n x y w h h' hl hl' x0 x1 y0 y1 m0 n0 he hp hq (by omega)
theorem r5right_z0 (A : Option Addr) (c : Nat) (s : Bool) (xs : List Nat) (x : Int) (w : World) (h : Dg w A c xs) (hl : xs.length ≤ 9223372036854775807) (h0 : xs.length = 0) (hs : s = false) {q : Bool} (hq : (x == 0) = q):
    Calls Tryz.prog 36 #[.agg #[.bool s, .slice A xs.length c, .int .i64 x]] w fun e w' => e = .returned (.bool q) ∧ Below w.heap.size w w' := by
  have HL := qH hl
  have t0 : ((xs.length : Int) == 0) = true := by rw [h0]; rfl
  subst hs
  have HR := qH (show rightB false xs = true by unfold rightB; rw [if_pos h0]; rfl)
  have HQ := qH hq
  have L0 := qH ((live_start w).add h)
  clear h hl h0 hq
  go_enter Tryz.func36, Tryz.ntmps36
  go_wp2_with fail
  obtain ⟨v1, hW, hb, Rx_1⟩ := new1 w (.cells #[.bool false, .slice A xs.length c, .int .i64 x] 26)
  rw [← hW]
  have L1 := ls L0 hb
  have Gx := gl0 L0.out
  clear hW hb
  refine (rright_any A c false xs _ (L1.out.get (A := A) (c := c) (xs := xs) (by simp)) _ HR.out HL.out).mono ?_
  rintro e w2 ⟨rfl, hb⟩
  have L2 := ls L1 hb
  have Rx_2 := co Rx_1 hb
  clear hb 
  obtain ⟨fx0, zx0, fx1, zx1, fx2, zx2, xx⟩ := ly3 Rx_2.out
  go_wp2
  go_ret
  exact ⟨ret_b HQ.out, L2.out.1⟩
theorem r5right_z1 (A : Option Addr) (c : Nat) (s : Bool) (xs : List Nat) (x : Int) (w : World) (h : Dg w A c xs) (hl : xs.length ≤ 9223372036854775807) (h0 : xs.length = 0) (hs : s = true):
    Calls Tryz.prog 36 #[.agg #[.bool s, .slice A xs.length c, .int .i64 x]] w fun e w' => e = .returned (.bool false) ∧ Below w.heap.size w w' := by
  have HL := qH hl
  have t0 : ((xs.length : Int) == 0) = true := by rw [h0]; rfl
  subst hs
  have HR := qH (show rightB true xs = false by unfold rightB; rw [if_pos h0]; rfl)
  have L0 := qH ((live_start w).add h)
  clear h hl h0
  go_enter Tryz.func36, Tryz.ntmps36
  go_wp2_with fail
  obtain ⟨v1, hW, hb, Rx_1⟩ := new1 w (.cells #[.bool true, .slice A xs.length c, .int .i64 x] 26)
  rw [← hW]
  have L1 := ls L0 hb
  have Gx := gl0 L0.out
  clear hW hb
  refine (rright_any A c true xs _ (L1.out.get (A := A) (c := c) (xs := xs) (by simp)) _ HR.out HL.out).mono ?_
  rintro e w2 ⟨rfl, hb⟩
  have L2 := ls L1 hb
  have Rx_2 := co Rx_1 hb
  clear hb 
  obtain ⟨fx0, zx0, fx1, zx1, fx2, zx2, xx⟩ := ly3 Rx_2.out
  go_wp2
  go_ret
  exact ⟨rfl, L2.out.1⟩
theorem r5right_w (A : Option Addr) (c : Nat) (s : Bool) (xs : List Nat) (x : Int) (w : World) (h : Dg w A c xs) (hl : xs.length ≤ 9223372036854775807) (h0 : xs.length ≠ 0) (hr : rightB s xs = false):
    Calls Tryz.prog 36 #[.agg #[.bool s, .slice A xs.length c, .int .i64 x]] w fun e w' => e = .returned (.bool false) ∧ Below w.heap.size w w' := by
  have HL := qH hl
  have HR := qH hr
  have t0 : ((xs.length : Int) == 0) = false := beq_eq_false_iff_ne.2 (by omega)
  have L0 := qH ((live_start w).add h)
  clear h hl hr h0
  go_enter Tryz.func36, Tryz.ntmps36
  go_wp2_with fail
  obtain ⟨v1, hW, hb, Rx_1⟩ := new1 w (.cells #[.bool s, .slice A xs.length c, .int .i64 x] 26)
  rw [← hW]
  have L1 := ls L0 hb
  have Gx := gl0 L0.out
  clear hW hb
  refine (rright_any A c s xs _ (L1.out.get (A := A) (c := c) (xs := xs) (by simp)) _ HR.out HL.out).mono ?_
  rintro e w2 ⟨rfl, hb⟩
  have L2 := ls L1 hb
  have Rx_2 := co Rx_1 hb
  clear hb 
  obtain ⟨fx0, zx0, fx1, zx1, fx2, zx2, xx⟩ := ly3 Rx_2.out
  go_wp2
  go_ret
  exact ⟨rfl, L2.out.1⟩
theorem r5right_e (A : Option Addr) (c : Nat) (s : Bool) (xs : List Nat) (x : Int) (w : World) (h : Dg w A c xs) (hl : xs.length ≤ 9223372036854775807) (h0 : xs.length ≠ 0) (hr : rightB s xs = true) (ho : decide (xs[0]?.getD 0 % 2 = 1) = false):
    Calls Tryz.prog 36 #[.agg #[.bool s, .slice A xs.length c, .int .i64 x]] w fun e w' => e = .returned (.bool false) ∧ Below w.heap.size w w' := by
  have HL := qH hl
  have HR := qH hr
  have t0 : ((xs.length : Int) == 0) = false := beq_eq_false_iff_ne.2 (by omega)
  have hp : 0 < xs.length := by omega
  have hc1 : 0 < c := by have := h.1; omega
  obtain ⟨b, off, hA, hb, hc⟩ := h.2.2 hp
  have hx0 := hc 0 hp
  rw [Nat.add_zero] at hx0
  have H := qH h
  generalize xs[0]?.getD 0 = d at *
  have hd2 : (((d : Nat) : Int) % 2 == 1) = false := by rw [← ho, Bool.eq_iff_iff]; simp; omega
  have hd : (((d : Nat) : Int).tmod 2 == 1) = false := by rw [Int.tmod_eq_emod_of_nonneg (by omega)]; exact hd2
  have HB := qH hb
  have HX := qH hx0
  clear hc hx0 hb
  subst hA
  have L0 := qH ((live_start w).add h)
  clear h hl hr ho h0
  go_enter Tryz.func36, Tryz.ntmps36
  go_wp2_with fail
  obtain ⟨v1, hW, hb, Rx_1⟩ := new1 w (.cells #[.bool s, .slice (some ⟨b, off, none⟩) xs.length c, .int .i64 x] 26)
  rw [← hW]
  have L1 := ls L0 hb
  have Gx := gl0 L0.out
  clear hW hb
  refine (rright_any (some ⟨b, off, none⟩) c s xs _ (L1.out.get (A := (some ⟨b, off, none⟩)) (c := c) (xs := xs) (by simp)) _ HR.out HL.out).mono ?_
  rintro e w2 ⟨rfl, hb⟩
  have L2 := ls L1 hb
  have Rx_2 := co Rx_1 hb
  clear hb 
  have hx := (L2.out.1.cell (p := ⟨b, off, none⟩) HB.out).trans HX.out
  obtain ⟨fx0, zx0, fx1, zx1, fx2, zx2, xx⟩ := ly3 Rx_2.out
  go_wp2
  go_ret
  exact ⟨rfl, L2.out.1⟩
theorem r5right_l (A : Option Addr) (c : Nat) (s : Bool) (xs : List Nat) (x : Int) (w : World) (h : Dg w A c xs) (hl : xs.length ≤ 9223372036854775807) (h0 : xs.length ≠ 0) (hr : rightB s xs = true) (ho : decide (xs[0]?.getD 0 % 2 = 1) = true) (hx : x < -131072):
    Calls Tryz.prog 36 #[.agg #[.bool s, .slice A xs.length c, .int .i64 x]] w fun e w' => e = .returned (.bool false) ∧ Below w.heap.size w w' := by
  have HL := qH hl
  have HR := qH hr
  have t0 : ((xs.length : Int) == 0) = false := beq_eq_false_iff_ne.2 (by omega)
  have hp : 0 < xs.length := by omega
  have hc1 : 0 < c := by have := h.1; omega
  obtain ⟨b, off, hA, hb, hc⟩ := h.2.2 hp
  have hx0 := hc 0 hp
  rw [Nat.add_zero] at hx0
  have H := qH h
  generalize xs[0]?.getD 0 = d at *
  have hd2 : (((d : Nat) : Int) % 2 == 1) = true := by rw [← ho, Bool.eq_iff_iff]; simp; omega
  have hd : (((d : Nat) : Int).tmod 2 == 1) = true := by rw [Int.tmod_eq_emod_of_nonneg (by omega)]; exact hd2
  have HB := qH hb
  have HX := qH hx0
  clear hc hx0 hb
  subst hA
  have d1 : decide (-131072 ≤ x) = false := decide_eq_false (by omega)
  have L0 := qH ((live_start w).add h)
  clear h hl hr ho h0 hx
  go_enter Tryz.func36, Tryz.ntmps36
  go_wp2_with fail
  obtain ⟨v1, hW, hb, Rx_1⟩ := new1 w (.cells #[.bool s, .slice (some ⟨b, off, none⟩) xs.length c, .int .i64 x] 26)
  rw [← hW]
  have L1 := ls L0 hb
  have Gx := gl0 L0.out
  clear hW hb
  refine (rright_any (some ⟨b, off, none⟩) c s xs _ (L1.out.get (A := (some ⟨b, off, none⟩)) (c := c) (xs := xs) (by simp)) _ HR.out HL.out).mono ?_
  rintro e w2 ⟨rfl, hb⟩
  have L2 := ls L1 hb
  have Rx_2 := co Rx_1 hb
  clear hb 
  have hx := (L2.out.1.cell (p := ⟨b, off, none⟩) HB.out).trans HX.out
  obtain ⟨fx0, zx0, fx1, zx1, fx2, zx2, xx⟩ := ly3 Rx_2.out
  go_wp2
  go_ret
  exact ⟨rfl, L2.out.1⟩
theorem r5right_g (A : Option Addr) (c : Nat) (s : Bool) (xs : List Nat) (x : Int) (w : World) (h : Dg w A c xs) (hl : xs.length ≤ 9223372036854775807) (h0 : xs.length ≠ 0) (hr : rightB s xs = true) (ho : decide (xs[0]?.getD 0 % 2 = 1) = true) (hx : 131072 < x):
    Calls Tryz.prog 36 #[.agg #[.bool s, .slice A xs.length c, .int .i64 x]] w fun e w' => e = .returned (.bool false) ∧ Below w.heap.size w w' := by
  have HL := qH hl
  have HR := qH hr
  have t0 : ((xs.length : Int) == 0) = false := beq_eq_false_iff_ne.2 (by omega)
  have hp : 0 < xs.length := by omega
  have hc1 : 0 < c := by have := h.1; omega
  obtain ⟨b, off, hA, hb, hc⟩ := h.2.2 hp
  have hx0 := hc 0 hp
  rw [Nat.add_zero] at hx0
  have H := qH h
  generalize xs[0]?.getD 0 = d at *
  have hd2 : (((d : Nat) : Int) % 2 == 1) = true := by rw [← ho, Bool.eq_iff_iff]; simp; omega
  have hd : (((d : Nat) : Int).tmod 2 == 1) = true := by rw [Int.tmod_eq_emod_of_nonneg (by omega)]; exact hd2
  have HB := qH hb
  have HX := qH hx0
  clear hc hx0 hb
  subst hA
  have d1 : decide (-131072 ≤ x) = true := decide_eq_true (by omega)
  have d2 : decide (x ≤ 131072) = false := decide_eq_false (by omega)
  have L0 := qH ((live_start w).add h)
  clear h hl hr ho h0 hx
  go_enter Tryz.func36, Tryz.ntmps36
  go_wp2_with fail
  obtain ⟨v1, hW, hb, Rx_1⟩ := new1 w (.cells #[.bool s, .slice (some ⟨b, off, none⟩) xs.length c, .int .i64 x] 26)
  rw [← hW]
  have L1 := ls L0 hb
  have Gx := gl0 L0.out
  clear hW hb
  refine (rright_any (some ⟨b, off, none⟩) c s xs _ (L1.out.get (A := (some ⟨b, off, none⟩)) (c := c) (xs := xs) (by simp)) _ HR.out HL.out).mono ?_
  rintro e w2 ⟨rfl, hb⟩
  have L2 := ls L1 hb
  have Rx_2 := co Rx_1 hb
  clear hb 
  have hx := (L2.out.1.cell (p := ⟨b, off, none⟩) HB.out).trans HX.out
  obtain ⟨fx0, zx0, fx1, zx1, fx2, zx2, xx⟩ := ly3 Rx_2.out
  go_wp2
  go_ret
  exact ⟨rfl, L2.out.1⟩
theorem r5right_y (A : Option Addr) (c : Nat) (s : Bool) (xs : List Nat) (x : Int) (w : World) (h : Dg w A c xs) (hl : xs.length ≤ 9223372036854775807) (h0 : xs.length ≠ 0) (hr : rightB s xs = true) (ho : decide (xs[0]?.getD 0 % 2 = 1) = true) (hx : -131072 ≤ x ∧ x ≤ 131072):
    Calls Tryz.prog 36 #[.agg #[.bool s, .slice A xs.length c, .int .i64 x]] w fun e w' => e = .returned (.bool true) ∧ Below w.heap.size w w' := by
  have HL := qH hl
  have HR := qH hr
  have t0 : ((xs.length : Int) == 0) = false := beq_eq_false_iff_ne.2 (by omega)
  have hp : 0 < xs.length := by omega
  have hc1 : 0 < c := by have := h.1; omega
  obtain ⟨b, off, hA, hb, hc⟩ := h.2.2 hp
  have hx0 := hc 0 hp
  rw [Nat.add_zero] at hx0
  have H := qH h
  generalize xs[0]?.getD 0 = d at *
  have hd2 : (((d : Nat) : Int) % 2 == 1) = true := by rw [← ho, Bool.eq_iff_iff]; simp; omega
  have hd : (((d : Nat) : Int).tmod 2 == 1) = true := by rw [Int.tmod_eq_emod_of_nonneg (by omega)]; exact hd2
  have HB := qH hb
  have HX := qH hx0
  clear hc hx0 hb
  subst hA
  have d1 : decide (-131072 ≤ x) = true := decide_eq_true hx.1
  have d2 : decide (x ≤ 131072) = true := decide_eq_true hx.2
  have L0 := qH ((live_start w).add h)
  clear h hl hr ho h0 hx
  go_enter Tryz.func36, Tryz.ntmps36
  go_wp2_with fail
  obtain ⟨v1, hW, hb, Rx_1⟩ := new1 w (.cells #[.bool s, .slice (some ⟨b, off, none⟩) xs.length c, .int .i64 x] 26)
  rw [← hW]
  have L1 := ls L0 hb
  have Gx := gl0 L0.out
  clear hW hb
  refine (rright_any (some ⟨b, off, none⟩) c s xs _ (L1.out.get (A := (some ⟨b, off, none⟩)) (c := c) (xs := xs) (by simp)) _ HR.out HL.out).mono ?_
  rintro e w2 ⟨rfl, hb⟩
  have L2 := ls L1 hb
  have Rx_2 := co Rx_1 hb
  clear hb 
  have hx := (L2.out.1.cell (p := ⟨b, off, none⟩) HB.out).trans HX.out
  obtain ⟨fx0, zx0, fx1, zx1, fx2, zx2, xx⟩ := ly3 Rx_2.out
  go_wp2
  go_ret
  exact ⟨rfl, L2.out.1⟩
theorem r5right_any {A : Option Addr} {c : Nat} {s : Bool} {xs : List Nat} {x : Int} {q : Bool} {w : World} (h : Dg w A c xs) (hl : xs.length ≤ 9223372036854775807) (hq : dyR s xs x = q) :
    Calls Tryz.prog 36 #[.agg #[.bool s, .slice A xs.length c, .int .i64 x]] w fun e w' => e = .returned (.bool q) ∧ Below w.heap.size w w' := by
  unfold dyR at hq
  by_cases h0 : xs.length = 0
  · rw [if_pos h0] at hq
    cases s
    · exact r5right_z0 A c false xs x w h hl h0 rfl (by rw [← hq]; simp)
    · obtain rfl : q = false := by rw [← hq]; rfl
      exact r5right_z1 A c true xs x w h hl h0 rfl
  · rw [if_neg h0] at hq
    obtain ⟨r, hr⟩ : ∃ r, rightB s xs = r := ⟨_, rfl⟩
    obtain ⟨o, ho⟩ : ∃ o, decide (xs[0]?.getD 0 % 2 = 1) = o := ⟨_, rfl⟩
    rw [hr, ho] at hq
    cases r
    · obtain rfl : q = false := by rw [← hq]; rfl
      exact r5right_w A c s xs x w h hl h0 hr
    · cases o
      · obtain rfl : q = false := by rw [← hq]; rfl
        exact r5right_e A c s xs x w h hl h0 hr ho
      · by_cases h1 : x < -131072
        · obtain rfl : q = false := by rw [← hq, decide_eq_false (show ¬ -131072 ≤ x by omega)]; rfl
          exact r5right_l A c s xs x w h hl h0 hr ho h1
        · by_cases h2 : 131072 < x
          · obtain rfl : q = false := by rw [← hq, decide_eq_false (show ¬ x ≤ 131072 by omega)]; simp
            exact r5right_g A c s xs x w h hl h0 hr ho h2
          · obtain rfl : q = true := by rw [← hq, decide_eq_true (show -131072 ≤ x by omega), decide_eq_true (show x ≤ 131072 by omega)]; rfl
            exact r5right_y A c s xs x w h hl h0 hr ho ⟨by omega, by omega⟩
theorem r5inr_0 (A : Option Addr) (c : Nat) (m x s : Int) (w : World) (h : Dg w A c (digs m.natAbs)) (hl : (digs m.natAbs).length ≤ 100000) (x0 : -10000000 ≤ x) (x1 : x ≤ 10000000) (m0 : m ≠ 0) (hs : x + bl m = s) (hc : s < -65536):
    Calls Tryz.prog 37 #[.agg #[.bool (decide (m < 0)), .slice A (digs m.natAbs).length c, .int .i64 x]] w fun e w' => e = .returned (.bool false) ∧ Below w.heap.size w w' := by
  have t0 : ((((digs m.natAbs).length : Nat) : Int) == 0) = false := beq_eq_false_iff_ne.2 (fun e => m0 (by have := digs_nil.1 (show (digs m.natAbs).length = 0 by omega); omega))
  obtain ⟨z, hz⟩ : ∃ z : Int, (blen m.natAbs : Int) = z := ⟨_, rfl⟩
  have HZ := qH hz
  have HS := qH hs
  have HL := qH hl
  have SC := qH (And.intro x0 x1)
  have d0 : decide (-65536 ≤ s) = false := decide_eq_false (by omega)
  have L0 := qH ((live_start w).add h)
  clear h hl hs hz m0 hc x0 x1
  go_enter Tryz.func37, Tryz.ntmps37
  go_wp2_with fail
  obtain ⟨v1, hW, hb, Rx_1⟩ := new1 w (.cells #[.bool (decide (m < 0)), .slice A (digs m.natAbs).length c, .int .i64 x] 26)
  rw [← hW]
  have L1 := ls L0 hb
  have Gx := gl0 L0.out
  clear hW hb
  obtain ⟨fx0, zx0, fx1, zx1, fx2, zx2, xx⟩ := ly3 Rx_1.out
  clear fx0 zx0 fx1 zx1 fx2 zx2 xx
  obtain ⟨fx0, zx0, fx1, zx1, fx2, zx2, xx⟩ := ly3 Rx_1.out
  go_wp2_with fail
  refine (r5size_any A c m x s _ (L1.out.get (A := A) (c := c) (xs := digs m.natAbs) (by simp)) HL.out SC.out.1 SC.out.2 HS.out).mono ?_
  rintro e w2 ⟨rfl, hb⟩
  have L2 := ls L1 hb
  clear fx0 zx0 fx1 zx1 fx2 zx2 xx
  have Rx_2 := co Rx_1 hb
  clear hb 
  obtain ⟨fx0, zx0, fx1, zx1, fx2, zx2, xx⟩ := ly3 Rx_2.out
  go_wp2
  go_ret
  exact ⟨rfl, L2.out.1⟩
theorem r5inr_1 (A : Option Addr) (c : Nat) (m x s : Int) (w : World) (h : Dg w A c (digs m.natAbs)) (hl : (digs m.natAbs).length ≤ 100000) (x0 : -10000000 ≤ x) (x1 : x ≤ 10000000) (m0 : m ≠ 0) (hs : x + bl m = s) (hc : -65536 ≤ s ∧ 65536 < s):
    Calls Tryz.prog 37 #[.agg #[.bool (decide (m < 0)), .slice A (digs m.natAbs).length c, .int .i64 x]] w fun e w' => e = .returned (.bool false) ∧ Below w.heap.size w w' := by
  have t0 : ((((digs m.natAbs).length : Nat) : Int) == 0) = false := beq_eq_false_iff_ne.2 (fun e => m0 (by have := digs_nil.1 (show (digs m.natAbs).length = 0 by omega); omega))
  obtain ⟨z, hz⟩ : ∃ z : Int, (blen m.natAbs : Int) = z := ⟨_, rfl⟩
  have HZ := qH hz
  have HS := qH hs
  have HL := qH hl
  have SC := qH (And.intro x0 x1)
  have d0 : decide (-65536 ≤ s) = true := decide_eq_true (by omega)
  have d1 : decide (s ≤ 65536) = false := decide_eq_false (by omega)
  have L0 := qH ((live_start w).add h)
  clear h hl hs hz m0 hc x0 x1
  go_enter Tryz.func37, Tryz.ntmps37
  go_wp2_with fail
  obtain ⟨v1, hW, hb, Rx_1⟩ := new1 w (.cells #[.bool (decide (m < 0)), .slice A (digs m.natAbs).length c, .int .i64 x] 26)
  rw [← hW]
  have L1 := ls L0 hb
  have Gx := gl0 L0.out
  clear hW hb
  obtain ⟨fx0, zx0, fx1, zx1, fx2, zx2, xx⟩ := ly3 Rx_1.out
  clear fx0 zx0 fx1 zx1 fx2 zx2 xx
  obtain ⟨fx0, zx0, fx1, zx1, fx2, zx2, xx⟩ := ly3 Rx_1.out
  go_wp2_with fail
  refine (r5size_any A c m x s _ (L1.out.get (A := A) (c := c) (xs := digs m.natAbs) (by simp)) HL.out SC.out.1 SC.out.2 HS.out).mono ?_
  rintro e w2 ⟨rfl, hb⟩
  have L2 := ls L1 hb
  clear fx0 zx0 fx1 zx1 fx2 zx2 xx
  have Rx_2 := co Rx_1 hb
  clear hb 
  obtain ⟨fx0, zx0, fx1, zx1, fx2, zx2, xx⟩ := ly3 Rx_2.out
  go_wp2
  go_ret
  exact ⟨rfl, L2.out.1⟩
theorem r5inr_2 (A : Option Addr) (c : Nat) (m x s : Int) (w : World) (h : Dg w A c (digs m.natAbs)) (hl : (digs m.natAbs).length ≤ 100000) (x0 : -10000000 ≤ x) (x1 : x ≤ 10000000) (m0 : m ≠ 0) (hs : x + bl m = s) (hc : (-65536 ≤ s ∧ s ≤ 65536) ∧ x < -131072):
    Calls Tryz.prog 37 #[.agg #[.bool (decide (m < 0)), .slice A (digs m.natAbs).length c, .int .i64 x]] w fun e w' => e = .returned (.bool false) ∧ Below w.heap.size w w' := by
  have t0 : ((((digs m.natAbs).length : Nat) : Int) == 0) = false := beq_eq_false_iff_ne.2 (fun e => m0 (by have := digs_nil.1 (show (digs m.natAbs).length = 0 by omega); omega))
  obtain ⟨z, hz⟩ : ∃ z : Int, (blen m.natAbs : Int) = z := ⟨_, rfl⟩
  have HZ := qH hz
  have HS := qH hs
  have HL := qH hl
  have SC := qH (And.intro x0 x1)
  have d0 : decide (-65536 ≤ s) = true := decide_eq_true (by omega)
  have d1 : decide (s ≤ 65536) = true := decide_eq_true (by omega)
  have d2 : decide (-131072 ≤ x) = false := decide_eq_false (by omega)
  have L0 := qH ((live_start w).add h)
  clear h hl hs hz m0 hc x0 x1
  go_enter Tryz.func37, Tryz.ntmps37
  go_wp2_with fail
  obtain ⟨v1, hW, hb, Rx_1⟩ := new1 w (.cells #[.bool (decide (m < 0)), .slice A (digs m.natAbs).length c, .int .i64 x] 26)
  rw [← hW]
  have L1 := ls L0 hb
  have Gx := gl0 L0.out
  clear hW hb
  obtain ⟨fx0, zx0, fx1, zx1, fx2, zx2, xx⟩ := ly3 Rx_1.out
  clear fx0 zx0 fx1 zx1 fx2 zx2 xx
  obtain ⟨fx0, zx0, fx1, zx1, fx2, zx2, xx⟩ := ly3 Rx_1.out
  go_wp2_with fail
  refine (r5size_any A c m x s _ (L1.out.get (A := A) (c := c) (xs := digs m.natAbs) (by simp)) HL.out SC.out.1 SC.out.2 HS.out).mono ?_
  rintro e w2 ⟨rfl, hb⟩
  have L2 := ls L1 hb
  clear fx0 zx0 fx1 zx1 fx2 zx2 xx
  have Rx_2 := co Rx_1 hb
  clear hb 
  obtain ⟨fx0, zx0, fx1, zx1, fx2, zx2, xx⟩ := ly3 Rx_2.out
  go_wp2
  go_ret
  exact ⟨rfl, L2.out.1⟩
theorem r5inr_3 (A : Option Addr) (c : Nat) (m x s : Int) (w : World) (h : Dg w A c (digs m.natAbs)) (hl : (digs m.natAbs).length ≤ 100000) (x0 : -10000000 ≤ x) (x1 : x ≤ 10000000) (m0 : m ≠ 0) (hs : x + bl m = s) (hc : (-65536 ≤ s ∧ s ≤ 65536) ∧ -131072 ≤ x ∧ 131072 < x):
    Calls Tryz.prog 37 #[.agg #[.bool (decide (m < 0)), .slice A (digs m.natAbs).length c, .int .i64 x]] w fun e w' => e = .returned (.bool false) ∧ Below w.heap.size w w' := by
  have t0 : ((((digs m.natAbs).length : Nat) : Int) == 0) = false := beq_eq_false_iff_ne.2 (fun e => m0 (by have := digs_nil.1 (show (digs m.natAbs).length = 0 by omega); omega))
  obtain ⟨z, hz⟩ : ∃ z : Int, (blen m.natAbs : Int) = z := ⟨_, rfl⟩
  have HZ := qH hz
  have HS := qH hs
  have HL := qH hl
  have SC := qH (And.intro x0 x1)
  have d0 : decide (-65536 ≤ s) = true := decide_eq_true (by omega)
  have d1 : decide (s ≤ 65536) = true := decide_eq_true (by omega)
  have d2 : decide (-131072 ≤ x) = true := decide_eq_true (by omega)
  have d3 : decide (x ≤ 131072) = false := decide_eq_false (by omega)
  have L0 := qH ((live_start w).add h)
  clear h hl hs hz m0 hc x0 x1
  go_enter Tryz.func37, Tryz.ntmps37
  go_wp2_with fail
  obtain ⟨v1, hW, hb, Rx_1⟩ := new1 w (.cells #[.bool (decide (m < 0)), .slice A (digs m.natAbs).length c, .int .i64 x] 26)
  rw [← hW]
  have L1 := ls L0 hb
  have Gx := gl0 L0.out
  clear hW hb
  obtain ⟨fx0, zx0, fx1, zx1, fx2, zx2, xx⟩ := ly3 Rx_1.out
  clear fx0 zx0 fx1 zx1 fx2 zx2 xx
  obtain ⟨fx0, zx0, fx1, zx1, fx2, zx2, xx⟩ := ly3 Rx_1.out
  go_wp2_with fail
  refine (r5size_any A c m x s _ (L1.out.get (A := A) (c := c) (xs := digs m.natAbs) (by simp)) HL.out SC.out.1 SC.out.2 HS.out).mono ?_
  rintro e w2 ⟨rfl, hb⟩
  have L2 := ls L1 hb
  clear fx0 zx0 fx1 zx1 fx2 zx2 xx
  have Rx_2 := co Rx_1 hb
  clear hb 
  obtain ⟨fx0, zx0, fx1, zx1, fx2, zx2, xx⟩ := ly3 Rx_2.out
  go_wp2
  go_ret
  exact ⟨rfl, L2.out.1⟩
theorem r5inr_4 (A : Option Addr) (c : Nat) (m x s : Int) (w : World) (h : Dg w A c (digs m.natAbs)) (hl : (digs m.natAbs).length ≤ 100000) (x0 : -10000000 ≤ x) (x1 : x ≤ 10000000) (m0 : m ≠ 0) (hs : x + bl m = s) (hc : ((-65536 ≤ s ∧ s ≤ 65536) ∧ -131072 ≤ x ∧ x ≤ 131072) ∧ 262144 < bl m):
    Calls Tryz.prog 37 #[.agg #[.bool (decide (m < 0)), .slice A (digs m.natAbs).length c, .int .i64 x]] w fun e w' => e = .returned (.bool false) ∧ Below w.heap.size w w' := by
  have t0 : ((((digs m.natAbs).length : Nat) : Int) == 0) = false := beq_eq_false_iff_ne.2 (fun e => m0 (by have := digs_nil.1 (show (digs m.natAbs).length = 0 by omega); omega))
  obtain ⟨z, hz⟩ : ∃ z : Int, (blen m.natAbs : Int) = z := ⟨_, rfl⟩
  have HZ := qH hz
  have HS := qH hs
  have HL := qH hl
  have SC := qH (And.intro x0 x1)
  have hzb : 262144 < z := by have := hc.2; unfold bl at this; omega
  have d0 : decide (-65536 ≤ s) = true := decide_eq_true (by omega)
  have d1 : decide (s ≤ 65536) = true := decide_eq_true (by omega)
  have d2 : decide (-131072 ≤ x) = true := decide_eq_true (by omega)
  have d3 : decide (x ≤ 131072) = true := decide_eq_true (by omega)
  have d4 : decide (z ≤ 262144) = false := decide_eq_false (by omega)
  have L0 := qH ((live_start w).add h)
  clear h hl hs hz m0 hc x0 x1 hzb
  go_enter Tryz.func37, Tryz.ntmps37
  go_wp2_with fail
  obtain ⟨v1, hW, hb, Rx_1⟩ := new1 w (.cells #[.bool (decide (m < 0)), .slice A (digs m.natAbs).length c, .int .i64 x] 26)
  rw [← hW]
  have L1 := ls L0 hb
  have Gx := gl0 L0.out
  clear hW hb
  obtain ⟨fx0, zx0, fx1, zx1, fx2, zx2, xx⟩ := ly3 Rx_1.out
  clear fx0 zx0 fx1 zx1 fx2 zx2 xx
  obtain ⟨fx0, zx0, fx1, zx1, fx2, zx2, xx⟩ := ly3 Rx_1.out
  go_wp2_with fail
  refine (r5size_any A c m x s _ (L1.out.get (A := A) (c := c) (xs := digs m.natAbs) (by simp)) HL.out SC.out.1 SC.out.2 HS.out).mono ?_
  rintro e w2 ⟨rfl, hb⟩
  have L2 := ls L1 hb
  clear fx0 zx0 fx1 zx1 fx2 zx2 xx
  have Rx_2 := co Rx_1 hb
  clear hb 
  obtain ⟨fx0, zx0, fx1, zx1, fx2, zx2, xx⟩ := ly3 Rx_2.out
  go_wp2_with fail
  refine (rbits_z (L2.out.get (A := A) (c := c) (xs := digs m.natAbs) (by simp)) (Nat.le_trans HL.out (by omega)) HZ.out).mono ?_
  rintro e w3 ⟨rfl, hb⟩
  have L3 := ls L2 hb
  clear fx0 zx0 fx1 zx1 fx2 zx2 xx
  have Rx_3 := co Rx_2 hb
  clear hb 
  obtain ⟨fx0, zx0, fx1, zx1, fx2, zx2, xx⟩ := ly3 Rx_3.out
  go_wp2
  go_ret
  exact ⟨rfl, L3.out.1⟩
theorem r5inr_any {A : Option Addr} {c : Nat} {m x : Int} {q : Bool} {w : World} (h : Dg w A c (digs m.natAbs)) (hl : (digs m.natAbs).length ≤ 100000) (x0 : -10000000 ≤ x) (x1 : x ≤ 10000000) (hq : inR m x = q) :
    Calls Tryz.prog 37 #[.agg #[.bool (decide (m < 0)), .slice A (digs m.natAbs).length c, .int .i64 x]] w fun e w' => e = .returned (.bool q) ∧ Below w.heap.size w w' := by
  cases q
  · unfold inR at hq
    rw [decide_eq_false_iff_not] at hq
    have m0 : m ≠ 0 := fun e => hq (.inl e)
    have hq2 : ¬ (-131072 ≤ x ∧ x ≤ 131072 ∧ bl m ≤ 262144 ∧ -65536 ≤ x + bl m ∧ x + bl m ≤ 65536) := fun e => hq (.inr e)
    obtain ⟨s, hs⟩ : ∃ s : Int, x + bl m = s := ⟨_, rfl⟩
    rw [hs] at hq2
    by_cases h1 : s < -65536
    · exact r5inr_0 A c m x s w h hl x0 x1 m0 hs h1
    · by_cases h2 : 65536 < s
      · exact r5inr_1 A c m x s w h hl x0 x1 m0 hs ⟨by omega, h2⟩
      · by_cases h3 : x < -131072
        · exact r5inr_2 A c m x s w h hl x0 x1 m0 hs ⟨⟨by omega, by omega⟩, h3⟩
        · by_cases h4 : 131072 < x
          · exact r5inr_3 A c m x s w h hl x0 x1 m0 hs ⟨⟨by omega, by omega⟩, by omega, h4⟩
          · exact r5inr_4 A c m x s w h hl x0 x1 m0 hs ⟨⟨⟨by omega, by omega⟩, by omega, by omega⟩, by omega⟩
  · exact r5inr_t h (inr_len hq) hq
theorem r5told_y (A : Option Addr) (c : Nat) (m x : Int) (w : World) (h : Dg w A c (digs m.natAbs)) (hl : (digs m.natAbs).length ≤ 100000) (x0 : -10000000 ≤ x) (x1 : x ≤ 10000000) (hq : inR m x = true):
    Calls Tryz.prog 48 #[.agg #[.bool (decide (m < 0)), .slice A (digs m.natAbs).length c, .int .i64 x]] w fun e w' => Ye m x 0 w e w' := by
  have HL := qH hl
  have HQ := qH hq
  have SC := qH (And.intro x0 x1)
  have L0 := qH ((live_start w).add h)
  clear h hl hq x0 x1
  go_enter Tryz.func48, Tryz.ntmps48
  go_wp2_with fail
  obtain ⟨v1, hW, hb, Rx_1, Rr_1⟩ := new2 w (.cells #[.bool (decide (m < 0)), .slice A (digs m.natAbs).length c, .int .i64 x] 26) (.cells #[.bool false, .slice none 0 0, .int .i64 0] 26)
  rw [← hW]
  have L1 := ls L0 hb
  have Gx := gl0 L0.out
  have Gr := gl1 L0.out
  have Nxr : w.heap.size < w.heap.size + 1 := by omega
  clear hW hb
  refine (r5inr_any (L1.out.get (A := A) (c := c) (xs := digs m.natAbs) (by simp)) HL.out SC.out.1 SC.out.2 HQ.out).mono ?_
  rintro e w2 ⟨rfl, hb⟩
  have L2 := ls L1 hb
  have Rx_2 := co Rx_1 hb
  have Rr_2 := co Rr_1 hb
  clear hb 
  obtain ⟨fx0, zx0, fx1, zx1, fx2, zx2, xx⟩ := ly3 Rx_2.out
  obtain ⟨fr0, zr0, fr1, zr1, fr2, zr2, xr⟩ := ly3 Rr_2.out
  go_wp2
  refine bodyPost_ret (v := .tuple #[.agg #[.bool (decide (m < 0)), .slice A (digs m.natAbs).length c, .int .i64 x], .int .i64 0]) (by simp [results, Tryz.results48, go_sem, fx0, fx1, fx2, fr0, fr1, fr2]) rfl ?_
  refine ⟨A, c, rfl, ?_, ?_⟩
  · exact (fin3 L2.out Rr_2.out noint3 Gr).get (A := A) (c := c) (xs := digs m.natAbs) (by simp)
  · exact (fin3 L2.out Rr_2.out noint3 Gr).1
theorem r5told_n (A : Option Addr) (c : Nat) (m x : Int) (w : World) (h : Dg w A c (digs m.natAbs)) (hl : (digs m.natAbs).length ≤ 100000) (x0 : -10000000 ≤ x) (x1 : x ≤ 10000000) (hq : inR m x = false):
    Calls Tryz.prog 48 #[.agg #[.bool (decide (m < 0)), .slice A (digs m.natAbs).length c, .int .i64 x]] w fun e w' => e = .returned (.tuple #[.agg #[.bool false, .slice none 0 0, .int .i64 0], .int .i64 4]) ∧ Below w.heap.size w w' := by
  have HL := qH hl
  have HQ := qH hq
  have SC := qH (And.intro x0 x1)
  have L0 := qH ((live_start w).add h)
  clear h hl hq x0 x1
  go_enter Tryz.func48, Tryz.ntmps48
  go_wp2_with fail
  obtain ⟨v1, hW, hb, Rx_1, Rr_1⟩ := new2 w (.cells #[.bool (decide (m < 0)), .slice A (digs m.natAbs).length c, .int .i64 x] 26) (.cells #[.bool false, .slice none 0 0, .int .i64 0] 26)
  rw [← hW]
  have L1 := ls L0 hb
  have Gx := gl0 L0.out
  have Gr := gl1 L0.out
  have Nxr : w.heap.size < w.heap.size + 1 := by omega
  clear hW hb
  refine (r5inr_any (L1.out.get (A := A) (c := c) (xs := digs m.natAbs) (by simp)) HL.out SC.out.1 SC.out.2 HQ.out).mono ?_
  rintro e w2 ⟨rfl, hb⟩
  have L2 := ls L1 hb
  have Rx_2 := co Rx_1 hb
  have Rr_2 := co Rr_1 hb
  clear hb 
  obtain ⟨fx0, zx0, fx1, zx1, fx2, zx2, xx⟩ := ly3 Rx_2.out
  obtain ⟨fr0, zr0, fr1, zr1, fr2, zr2, xr⟩ := ly3 Rr_2.out
  go_wp2
  refine bodyPost_ret (v := .tuple #[.agg #[.bool false, .slice none 0 0, .int .i64 0], .int .i64 4]) (by simp [results, Tryz.results48, go_sem, fx0, fx1, fx2, fr0, fr1, fr2]) rfl ?_
  exact ⟨rfl, (fin3 L2.out Rr_2.out noint3 Gr).1⟩
theorem r5told {A : Option Addr} {c : Nat} {M E K F V : Int} {w : World} (h : Dg w A c (digs M.natAbs)) (hl : (digs M.natAbs).length ≤ 100000) (x0 : -10000000 ≤ E) (x1 : E ≤ 10000000) (hq : tot M E = (K, F, V)) :
    Calls Tryz.prog 48 #[.agg #[.bool (decide (M < 0)), .slice A (digs M.natAbs).length c, .int .i64 E]] w fun e w' => Ye K F V w e w' := by
  unfold tot at hq
  by_cases hi : inR M E = true
  · rw [if_pos hi] at hq
    obtain ⟨rfl, rfl, rfl⟩ : M = K ∧ E = F ∧ 0 = V := by simpa using hq
    exact r5told_y A c M E w h hl x0 x1 hi
  · rw [if_neg hi] at hq
    obtain ⟨rfl, rfl, rfl⟩ : 0 = K ∧ 0 = F ∧ 4 = V := by simpa using hq
    refine (r5told_n A c M E w h hl x0 x1 (by simpa using hi)).mono ?_
    rintro e w' ⟨rfl, hb⟩
    exact zero_ye hb
theorem r5lift_z1 (A B : Option Addr) (c d : Nat) (m n x y : Int) (w : World) (h : Dg w A c (digs m.natAbs)) (h' : Dg w B d (digs n.natAbs)) (m0 : m = 0):
    Calls Tryz.prog 47 #[.agg #[.bool (decide (m < 0)), .slice A (digs m.natAbs).length c, .int .i64 x], .agg #[.bool (decide (n < 0)), .slice B (digs n.natAbs).length d, .int .i64 y]] w fun e w' => ∃ C k, e = .returned (.tuple #[.agg #[.bool false, .slice none 0 0], .agg #[.bool (decide (n < 0)), .slice C (digs n.natAbs).length k], .int .i64 y]) ∧ Dg w' C k (digs n.natAbs) ∧ Below w.heap.size w w' := by
  have t1 : ((((digs m.natAbs).length : Nat) : Int) == 0) = true := by rw [m0, show digs (0 : Int).natAbs = [] from digs_zero]; rfl
  have L0 := qH (((live_start w).add h).add h')
  clear h h' m0
  go_enter Tryz.func47, Tryz.ntmps47
  go_wp2_with fail
  obtain ⟨v1, hW, hb, Rx_1, Ry_1, Ra_1, Rb_1⟩ := new4 w (.cells #[.bool (decide (m < 0)), .slice A (digs m.natAbs).length c, .int .i64 x] 26) (.cells #[.bool (decide (n < 0)), .slice B (digs n.natAbs).length d, .int .i64 y] 26) (.cells #[.bool false, .slice none 0 0] 24) (.cells #[.bool false, .slice none 0 0] 24)
  rw [← hW]
  have L1 := ls L0 hb
  have Gx := gl0 L0.out
  have Gy := gl1 L0.out
  have Nxy : w.heap.size < w.heap.size + 1 := by omega
  have Ga := gl2 L0.out
  have Nxa : w.heap.size < w.heap.size + 1 + 1 := by omega
  have Nya : w.heap.size + 1 < w.heap.size + 1 + 1 := by omega
  have Gb := gl3 L0.out
  have Nxb : w.heap.size < w.heap.size + 1 + 1 + 1 := by omega
  have Nyb : w.heap.size + 1 < w.heap.size + 1 + 1 + 1 := by omega
  have Nab : w.heap.size + 1 + 1 < w.heap.size + 1 + 1 + 1 := by omega
  clear hW hb
  obtain ⟨fx0, zx0, fx1, zx1, fx2, zx2, xx⟩ := ly3 Rx_1.out
  obtain ⟨fy0, zy0, fy1, zy1, fy2, zy2, xy⟩ := ly3 Ry_1.out
  obtain ⟨fa0, za0, fa1, za1, xa⟩ := ly2 Ra_1.out
  obtain ⟨fb0, zb0, fb1, zb1, xb⟩ := ly2 Rb_1.out
  go_upto_region 2 with fail
  clear fx0 zx0 fx1 zx1 fx2 zx2 xx fy0 zy0 fy1 zy1 fy2 zy2 xy fa0 za0 fa1 za1 xa fb0 zb0 fb1 zb1 xb
  obtain ⟨fx0, zx0, fx1, zx1, fx2, zx2, xx⟩ := ly3 Rx_1.out
  obtain ⟨fy0, zy0, fy1, zy1, fy2, zy2, xy⟩ := ly3 Ry_1.out
  obtain ⟨fa0, za0, fa1, za1, xa⟩ := ly2 Ra_1.out
  obtain ⟨fb0, zb0, fb1, zb1, xb⟩ := ly2 Rb_1.out
  go_region
  clear fx0 zx0 fx1 zx1 fx2 zx2 xx fy0 zy0 fy1 zy1 fy2 zy2 xy fa0 za0 fa1 za1 xa fb0 zb0 fb1 zb1 xb
  obtain ⟨w2, hW⟩ : ∃ W : World, W = ((v1.setCell ⟨w.heap.size + 1 + 1, 0, none⟩ (.bool false)).setCell ⟨w.heap.size + 1 + 1, 1, none⟩ (.slice none 0 0)) := ⟨_, rfl⟩
  rw [← hW]
  have hO : Only (w.heap.size + 1 + 1) v1 w2 := by rw [hW]; exact (((Only.refl (w.heap.size + 1 + 1) v1).setCell 0 _).setCell 1 _)
  have L2 := qH (live_only L1.out hO Ra_1.out noint_int Ga)
  have Rx_2 := qH ((hO.block _ (by omega)).trans Rx_1.out)
  have Ry_2 := qH ((hO.block _ (by omega)).trans Ry_1.out)
  have Rb_2 := qH ((hO.block _ (by omega)).trans Rb_1.out)
  have Ra_2 := qH (show w2.heap[w.heap.size + 1 + 1]? = some (.cells #[.bool false, .slice none 0 0] 24 (0, 0)) by rw [hW]; exact (heap_setCell_same _ _ 1 _ _ _ (heap_setCell_same _ _ 0 _ _ _ Ra_1.out)))
  clear hW hO
  obtain ⟨w3, hW⟩ : ∃ W : World, W = ((w2.setCell ⟨w.heap.size + 1 + 1 + 1, 0, none⟩ (.bool (decide (n < 0)))).setCell ⟨w.heap.size + 1 + 1 + 1, 1, none⟩ (.slice B (digs n.natAbs).length d)) := ⟨_, rfl⟩
  rw [← hW]
  have hO : Only (w.heap.size + 1 + 1 + 1) w2 w3 := by rw [hW]; exact (((Only.refl (w.heap.size + 1 + 1 + 1) w2).setCell 0 _).setCell 1 _)
  have L3 := qH (live_only L2.out hO Rb_2.out noint_int Gb)
  have Rx_3 := qH ((hO.block _ (by omega)).trans Rx_2.out)
  have Ry_3 := qH ((hO.block _ (by omega)).trans Ry_2.out)
  have Ra_3 := qH ((hO.block _ (by omega)).trans Ra_2.out)
  have Rb_3 := qH (show w3.heap[w.heap.size + 1 + 1 + 1]? = some (.cells #[.bool (decide (n < 0)), .slice B (digs n.natAbs).length d] 24 (0, 0)) by rw [hW]; exact (heap_setCell_same _ _ 1 _ _ _ (heap_setCell_same _ _ 0 _ _ _ Rb_2.out)))
  clear hW hO
  obtain ⟨w4, hW⟩ : ∃ W : World, W = w3.drew := ⟨_, rfl⟩
  rw [← hW]
  have hb : Below w3.heap.size w3 w4 := by rw [hW]; exact bd0 _
  have L4 := ls L3 hb
  have Rx_4 := co Rx_3 hb
  have Ry_4 := co Ry_3 hb
  have Ra_4 := co Ra_3 hb
  have Rb_4 := co Rb_3 hb
  clear hW hb
  obtain ⟨fa0, za0, fa1, za1, xa⟩ := ly2 Ra_4.out
  obtain ⟨fb0, zb0, fb1, zb1, xb⟩ := ly2 Rb_4.out
  go_wp2
  refine bodyPost_ret (v := .tuple #[.agg #[.bool false, .slice none 0 0], .agg #[.bool (decide (n < 0)), .slice B (digs n.natAbs).length d], .int .i64 y]) (by simp [results, Tryz.results47, go_sem, fa0, fa1, fb0, fb1]) rfl ?_
  exact ⟨B, d, rfl, L4.out.get (A := B) (c := d) (xs := digs n.natAbs) (by simp), L4.out.1⟩
theorem r5lift_z2 (A B : Option Addr) (c d : Nat) (m n x y : Int) (w : World) (h : Dg w A c (digs m.natAbs)) (h' : Dg w B d (digs n.natAbs)) (m0 : m ≠ 0) (n0 : n = 0):
    Calls Tryz.prog 47 #[.agg #[.bool (decide (m < 0)), .slice A (digs m.natAbs).length c, .int .i64 x], .agg #[.bool (decide (n < 0)), .slice B (digs n.natAbs).length d, .int .i64 y]] w fun e w' => ∃ C k, e = .returned (.tuple #[.agg #[.bool (decide (m < 0)), .slice C (digs m.natAbs).length k], .agg #[.bool false, .slice none 0 0], .int .i64 x]) ∧ Dg w' C k (digs m.natAbs) ∧ Below w.heap.size w w' := by
  have t1 : ((((digs m.natAbs).length : Nat) : Int) == 0) = false := beq_eq_false_iff_ne.2 (fun e => m0 (by have := digs_nil.1 (show (digs m.natAbs).length = 0 by omega); omega))
  have t2 : ((((digs n.natAbs).length : Nat) : Int) == 0) = true := by rw [n0, show digs (0 : Int).natAbs = [] from digs_zero]; rfl
  have L0 := qH (((live_start w).add h).add h')
  clear h h' m0 n0
  go_enter Tryz.func47, Tryz.ntmps47
  go_wp2_with fail
  obtain ⟨v1, hW, hb, Rx_1, Ry_1, Ra_1, Rb_1⟩ := new4 w (.cells #[.bool (decide (m < 0)), .slice A (digs m.natAbs).length c, .int .i64 x] 26) (.cells #[.bool (decide (n < 0)), .slice B (digs n.natAbs).length d, .int .i64 y] 26) (.cells #[.bool false, .slice none 0 0] 24) (.cells #[.bool false, .slice none 0 0] 24)
  rw [← hW]
  have L1 := ls L0 hb
  have Gx := gl0 L0.out
  have Gy := gl1 L0.out
  have Nxy : w.heap.size < w.heap.size + 1 := by omega
  have Ga := gl2 L0.out
  have Nxa : w.heap.size < w.heap.size + 1 + 1 := by omega
  have Nya : w.heap.size + 1 < w.heap.size + 1 + 1 := by omega
  have Gb := gl3 L0.out
  have Nxb : w.heap.size < w.heap.size + 1 + 1 + 1 := by omega
  have Nyb : w.heap.size + 1 < w.heap.size + 1 + 1 + 1 := by omega
  have Nab : w.heap.size + 1 + 1 < w.heap.size + 1 + 1 + 1 := by omega
  clear hW hb
  obtain ⟨fx0, zx0, fx1, zx1, fx2, zx2, xx⟩ := ly3 Rx_1.out
  obtain ⟨fy0, zy0, fy1, zy1, fy2, zy2, xy⟩ := ly3 Ry_1.out
  obtain ⟨fa0, za0, fa1, za1, xa⟩ := ly2 Ra_1.out
  obtain ⟨fb0, zb0, fb1, zb1, xb⟩ := ly2 Rb_1.out
  go_upto_region 4 with fail
  clear fx0 zx0 fx1 zx1 fx2 zx2 xx fy0 zy0 fy1 zy1 fy2 zy2 xy fa0 za0 fa1 za1 xa fb0 zb0 fb1 zb1 xb
  obtain ⟨fx0, zx0, fx1, zx1, fx2, zx2, xx⟩ := ly3 Rx_1.out
  obtain ⟨fy0, zy0, fy1, zy1, fy2, zy2, xy⟩ := ly3 Ry_1.out
  obtain ⟨fa0, za0, fa1, za1, xa⟩ := ly2 Ra_1.out
  obtain ⟨fb0, zb0, fb1, zb1, xb⟩ := ly2 Rb_1.out
  go_region
  clear fx0 zx0 fx1 zx1 fx2 zx2 xx fy0 zy0 fy1 zy1 fy2 zy2 xy fa0 za0 fa1 za1 xa fb0 zb0 fb1 zb1 xb
  obtain ⟨w2, hW⟩ : ∃ W : World, W = ((v1.setCell ⟨w.heap.size + 1 + 1, 0, none⟩ (.bool (decide (m < 0)))).setCell ⟨w.heap.size + 1 + 1, 1, none⟩ (.slice A (digs m.natAbs).length c)) := ⟨_, rfl⟩
  rw [← hW]
  have hO : Only (w.heap.size + 1 + 1) v1 w2 := by rw [hW]; exact (((Only.refl (w.heap.size + 1 + 1) v1).setCell 0 _).setCell 1 _)
  have L2 := qH (live_only L1.out hO Ra_1.out noint_int Ga)
  have Rx_2 := qH ((hO.block _ (by omega)).trans Rx_1.out)
  have Ry_2 := qH ((hO.block _ (by omega)).trans Ry_1.out)
  have Rb_2 := qH ((hO.block _ (by omega)).trans Rb_1.out)
  have Ra_2 := qH (show w2.heap[w.heap.size + 1 + 1]? = some (.cells #[.bool (decide (m < 0)), .slice A (digs m.natAbs).length c] 24 (0, 0)) by rw [hW]; exact (heap_setCell_same _ _ 1 _ _ _ (heap_setCell_same _ _ 0 _ _ _ Ra_1.out)))
  clear hW hO
  obtain ⟨w3, hW⟩ : ∃ W : World, W = ((w2.setCell ⟨w.heap.size + 1 + 1 + 1, 0, none⟩ (.bool false)).setCell ⟨w.heap.size + 1 + 1 + 1, 1, none⟩ (.slice none 0 0)) := ⟨_, rfl⟩
  rw [← hW]
  have hO : Only (w.heap.size + 1 + 1 + 1) w2 w3 := by rw [hW]; exact (((Only.refl (w.heap.size + 1 + 1 + 1) w2).setCell 0 _).setCell 1 _)
  have L3 := qH (live_only L2.out hO Rb_2.out noint_int Gb)
  have Rx_3 := qH ((hO.block _ (by omega)).trans Rx_2.out)
  have Ry_3 := qH ((hO.block _ (by omega)).trans Ry_2.out)
  have Ra_3 := qH ((hO.block _ (by omega)).trans Ra_2.out)
  have Rb_3 := qH (show w3.heap[w.heap.size + 1 + 1 + 1]? = some (.cells #[.bool false, .slice none 0 0] 24 (0, 0)) by rw [hW]; exact (heap_setCell_same _ _ 1 _ _ _ (heap_setCell_same _ _ 0 _ _ _ Rb_2.out)))
  clear hW hO
  obtain ⟨w4, hW⟩ : ∃ W : World, W = w3.drew := ⟨_, rfl⟩
  rw [← hW]
  have hb : Below w3.heap.size w3 w4 := by rw [hW]; exact bd0 _
  have L4 := ls L3 hb
  have Rx_4 := co Rx_3 hb
  have Ry_4 := co Ry_3 hb
  have Ra_4 := co Ra_3 hb
  have Rb_4 := co Rb_3 hb
  clear hW hb
  obtain ⟨fa0, za0, fa1, za1, xa⟩ := ly2 Ra_4.out
  obtain ⟨fb0, zb0, fb1, zb1, xb⟩ := ly2 Rb_4.out
  go_wp2
  refine bodyPost_ret (v := .tuple #[.agg #[.bool (decide (m < 0)), .slice A (digs m.natAbs).length c], .agg #[.bool false, .slice none 0 0], .int .i64 x]) (by simp [results, Tryz.results47, go_sem, fa0, fa1, fb0, fb1]) rfl ?_
  exact ⟨A, c, rfl, L4.out.get (A := A) (c := c) (xs := digs m.natAbs) (by simp), L4.out.1⟩
theorem zr_end {w w4 : World} {A4 : Option Addr} {c4 : Nat} {z : Int} (g : Nat) (hg : w.heap.size ≤ g) (hd : Dg w4 A4 c4 (digs z.natAbs)) (ho : Off g A4 (digs z.natAbs)) (hb : Below w.heap.size w w4) (v v' : Value) :
    Zr z w (.returned (.agg #[.bool (decide (z < 0)), .slice A4 (digs z.natAbs).length c4])) ((w4.setCell ⟨g, 0, none⟩ v).setCell ⟨g, 1, none⟩ v') :=
  ⟨A4, c4, rfl, (hd.set_off ho _ _).set_off ho _ _, (hb.setCell (by simpa using hg) _).setCell (by simpa using hg) _⟩
theorem rzadd_same (A B : Option Addr) (c d : Nat) (s : Bool) (xs ys : List Nat) (w : World) (h : Dg w A c xs) (h' : Dg w B d ys) (hl : xs.length ≤ 900000) (hl' : ys.length ≤ 900000) :
    Calls Tryz.prog 50 #[.agg #[.bool s, .slice A xs.length c], .agg #[.bool s, .slice B ys.length d]] w fun e w' => Zr (sg s (val xs + val ys)) w e w' := by
  have l1 := digs_len_le h.2.1
  have l2 := digs_len_le h'.2.1
  have l3 := digs_add_len (val xs) (val ys)
  have hss : (s == s) = true := by simp
  have TA := qH (fun W h h' => radd_any A B c d xs ys W h h' (by omega) (by omega))
  have TM := qH (fun A' c' W h => rmake_any A' c' s (digs (val xs + val ys)) W h (by omega))
  rw [val_digs] at TM
  generalize sg s (val xs + val ys) = z at *
  go_enter Tryz.func50, Tryz.ntmps50
  go_wp2
  go_region_held3 (fun w' => (∀ b o, b < w.heap.size + 2 → w'.cell? ⟨b, o, none⟩ = (((w.alloc (.cells #[.bool s, .slice A xs.length c] 24)).alloc (.cells #[.bool s, .slice B ys.length d] 24)).alloc (.cells #[.bool false, .slice none 0 0] 24)).cell? ⟨b, o, none⟩))
    (first | exact fun _ _ _ => rfl | with_reducible exact (bcellB (K1.out.mono (N2 _ _ _ _))).1 | with_reducible exact (bcellB (K2.out.mono (N2 _ _ _ _))).1 | exact (bcellB (((K2.out.mono (N2 _ _ _ _)).setCell (by simp) _).setCell (by simp) _)).1)
    (first
      | (go_at_call 87; ((with_reducible refine (TA.out _ (h.below (below_drew (below3 _ _ _ _))) (h'.below (below_drew (below3 _ _ _ _)))).mono ?_); rintro e w1 ⟨A1, c1, rfl, hd, hb⟩; (have K1 := qH (undrew hb)); (have G1 := qH hd); clear hb hd))
      | (go_at_call 71; ((with_reducible refine (TM.out _ _ _ G1.out).mono ?_); rintro e w2 ⟨A2, c2, rfl, hd, hb⟩; (have K2 := qH (K1.out.trans (hb.mono K1.out.size))); (obtain ⟨hc2, hf2⟩ := bcell K2.out); (have HO2 := qH (off_box (g := w.heap.size + 1 + 1) hd K2.out (by simp) noint2')); (have G2 := qH hd); clear hb hd)))
  go_wp2
  refine bodyPost_ret (v := .agg #[.bool (decide (z < 0)), .slice A2 (digs z.natAbs).length c2]) (by simp [results, Tryz.results50, go_sem, hc2]) rfl ?_
  exact zr_end _ (by omega) G2.out HO2.out ((below3 w _ _ _).trans (K2.out.mono (by simp; omega))) _ _
theorem rzadd_ge (A B : Option Addr) (c d : Nat) (s r : Bool) (xs ys : List Nat) (w : World) (h : Dg w A c xs) (h' : Dg w B d ys) (hl : xs.length ≤ 900000) (hl' : ys.length ≤ 900000) (hsr : (s == r) = false) (hle : val ys ≤ val xs) :
    Calls Tryz.prog 50 #[.agg #[.bool s, .slice A xs.length c], .agg #[.bool r, .slice B ys.length d]] w fun e w' => Zr (sg s (val xs - val ys)) w e w' := by
  have l1 := digs_len_le h.2.1
  have l3 := digs_sub_len (val xs) (val ys)
  have TA := qH (fun W h h' => rsub_yes A B c d xs ys W h h' (by omega) (by omega) hle)
  have TM := qH (fun A' c' W h => rmake_any A' c' s (digs (val xs - val ys)) W h (by omega))
  rw [val_digs] at TM
  generalize sg s (val xs - val ys) = z at *
  clear hle
  go_enter Tryz.func50, Tryz.ntmps50
  go_wp2_with fail
  refine (TA.out _ (h.below (below3 _ _ _ _)) (h'.below (below3 _ _ _ _))).mono ?_
  rintro e w1 ⟨A1, c1, rfl, hd, hb⟩
  have K1 := qH hb
  have G1 := qH hd
  obtain ⟨hc1, hf1⟩ := bcell hb
  clear hb hd
  go_wp2_with fail
  refine (TM.out _ _ _ G1.out).mono ?_
  rintro e w2 ⟨A2, c2, rfl, hd, hb⟩
  have K2 := qH (K1.out.trans (hb.mono K1.out.size))
  obtain ⟨hc2, hf2⟩ := bcell K2.out
  have HO2 := qH (off_box (g := w.heap.size + 1 + 1) hd K2.out (by simp) noint2')
  have G2 := qH hd
  clear hb hd
  go_wp2
  refine bodyPost_ret (v := .agg #[.bool (decide (z < 0)), .slice A2 (digs z.natAbs).length c2]) (by simp [results, Tryz.results50, go_sem, hc2]) rfl ?_
  exact zr_end _ (by omega) G2.out HO2.out ((below3 w _ _ _).trans (K2.out.mono (by simp; omega))) _ _
theorem rzadd_lt (A B : Option Addr) (c d : Nat) (s r : Bool) (xs ys : List Nat) (w : World) (h : Dg w A c xs) (h' : Dg w B d ys) (hl : xs.length ≤ 900000) (hl' : ys.length ≤ 900000) (hsr : (s == r) = false) (hlt : val xs < val ys) :
    Calls Tryz.prog 50 #[.agg #[.bool s, .slice A xs.length c], .agg #[.bool r, .slice B ys.length d]] w fun e w' => Zr (sg r (val ys - val xs)) w e w' := by
  have l1 := digs_len_le h'.2.1
  have l3 := digs_sub_len (val ys) (val xs)
  have TA := qH (fun W h h' => rsub_yes B A d c ys xs W h' h (by omega) (by omega) (Nat.le_of_lt hlt))
  have TN := qH (fun W h h' => rsub_no A B c d xs ys W h h' (by omega) (by omega) hlt)
  have TM := qH (fun A' c' W h => rmake_any A' c' r (digs (val ys - val xs)) W h (by omega))
  rw [val_digs] at TM
  generalize sg r (val ys - val xs) = z at *
  clear hlt
  go_enter Tryz.func50, Tryz.ntmps50
  go_wp2_with fail
  refine (TN.out _ (h.below (below3 _ _ _ _)) (h'.below (below3 _ _ _ _))).mono ?_
  rintro e w0 ⟨rfl, rfl⟩
  go_wp2_with fail
  refine (TA.out _ (h.below (below3 _ _ _ _)) (h'.below (below3 _ _ _ _))).mono ?_
  rintro e w1 ⟨A1, c1, rfl, hd, hb⟩
  have K1 := qH hb
  have G1 := qH hd
  obtain ⟨hc1, hf1⟩ := bcell hb
  clear hb hd
  go_wp2_with fail
  refine (TM.out _ _ _ G1.out).mono ?_
  rintro e w2 ⟨A2, c2, rfl, hd, hb⟩
  have K2 := qH (K1.out.trans (hb.mono K1.out.size))
  obtain ⟨hc2, hf2⟩ := bcell K2.out
  have HO2 := qH (off_box (g := w.heap.size + 1 + 1) hd K2.out (by simp) noint2')
  have G2 := qH hd
  clear hb hd
  go_wp2
  refine bodyPost_ret (v := .agg #[.bool (decide (z < 0)), .slice A2 (digs z.natAbs).length c2]) (by simp [results, Tryz.results50, go_sem, hc2]) rfl ?_
  exact zr_end _ (by omega) G2.out HO2.out ((below3 w _ _ _).trans (K2.out.mono (by simp; omega))) _ _
theorem rzadd_any (A B : Option Addr) (c d : Nat) (s r : Bool) (xs ys : List Nat) (w : World) (h : Dg w A c xs) (h' : Dg w B d ys) (hl : xs.length ≤ 900000) (hl' : ys.length ≤ 900000) :
    Calls Tryz.prog 50 #[.agg #[.bool s, .slice A xs.length c], .agg #[.bool r, .slice B ys.length d]] w fun e w' => Zr (sg s (val xs) + sg r (val ys)) w e w' := by
  cases hsr : (s == r)
  · rcases Nat.lt_or_ge (val xs) (val ys) with hlt | hge
    · rw [← sg_less hsr hlt]; exact rzadd_lt A B c d s r xs ys w h h' hl hl' hsr hlt
    · rw [← sg_more hsr hge]; exact rzadd_ge A B c d s r xs ys w h h' hl hl' hsr hge
  · have e : s = r := by simpa using hsr
    subst e
    rw [← sg_same]; exact rzadd_same A B c d s xs ys w h h' hl hl'
end Go.Proofs.YtdmfapgclppmhaaGreatDoor
end
