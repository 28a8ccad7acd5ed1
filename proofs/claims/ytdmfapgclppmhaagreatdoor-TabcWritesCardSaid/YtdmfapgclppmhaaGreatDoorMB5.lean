import Derived.Test.YtdmfapgclppmhaaGreatDoorMB4
import Derived.Test.YtdmfapgclppmhaaGreatDoorMB3
import Derived.Test.YtdmfapgclppmhaaGreatDoorMB2
import Derived.Test.YtdmfapgclppmhaaGreatDoorMB0
import Derived.Lib.AppendStr
import Derived.Lib.ConvBytes
import Derived.Deep.AppendLies
import Derived.Test.YtdmfapgclppmhaaGreatDoorMB1
section
namespace Go.Proofs.YtdmfapgclppmhaaGreatDoor
open Go.RowKit
set_option linter.unusedSimpArgs false
set_option linter.unusedVariables false
/-- Pieces in cells behind one another. -/
def PsW (w : World) (b o : Nat) (ps : List Pd) : Prop := ∀ (i : Nat) (p : Pd), ps[i]? = some p → ∃ A c B d P k, w.cell? ⟨b, o + i * 8, none⟩ = some (.bool p.a.1) ∧ w.cell? ⟨b, o + i * 8 + 1, none⟩ = some (.slice A p.a.2.1.length c) ∧ w.cell? ⟨b, o + i * 8 + 2, none⟩ = some (.int .i64 p.a.2.2) ∧ w.cell? ⟨b, o + i * 8 + 3, none⟩ = some (.int .i64 p.w) ∧ w.cell? ⟨b, o + i * 8 + 4, none⟩ = some (.slice P p.cs.length k) ∧ w.cell? ⟨b, o + i * 8 + 5, none⟩ = some (.bool p.er.1) ∧ w.cell? ⟨b, o + i * 8 + 6, none⟩ = some (.slice B p.er.2.1.length d) ∧ w.cell? ⟨b, o + i * 8 + 7, none⟩ = some (.int .i64 p.er.2.2) ∧ Dg w A c p.a.2.1 ∧ Dg w B d p.er.2.1 ∧ NsL w P k p.cs
def SmP (ps : List Pd) : Prop := ∀ p, p ∈ ps → p.a.2.1.length ≤ 10000 ∧ p.er.2.1.length ≤ 10000 ∧ ∀ v, v ∈ p.cs → v.2.1.length ≤ 10000
theorem sg_dzM (m : Int) : sg (decide (m < 0)) m.natAbs = m := by
  unfold sg; split <;> rename_i h <;> simp at h <;> omega
theorem take_snocP {ps : List Pd} {j : Nat} {p : Pd} (h : ps[j]? = some p) : ps.take (j + 1) = ps.take j ++ [p] := by
  rw [List.take_add_one, h]; rfl
theorem right_none {D : Int} {ps : List Pd} {j : Nat} {p : Pd} {q r : Int × Int} (h : ps[j]? = some p) (hr : rightL D (ps.take j) q = some r) (hc : (pieceB p D && decide (nmv p.a = r.1 ∧ p.a.2.2 = r.2)) = false) : rightL D ps q = none := by
  have e : rightL D (ps.take (j + 1)) q = none := by
    rw [take_snocP h, rightL_snoc, hr, Option.bind_some, hc]; rfl
  have := rightL_app D (ps.take (j + 1)) (ps.drop (j + 1)) q e
  rwa [List.take_append_drop] at this
theorem right_some {D : Int} {ps : List Pd} {j : Nat} {p : Pd} {q r : Int × Int} (h : ps[j]? = some p) (hr : rightL D (ps.take j) q = some r) (hc : (pieceB p D && decide (nmv p.a = r.1 ∧ p.a.2.2 = r.2)) = true) : rightL D (ps.take (j + 1)) q = some (endq r.1 r.2 p.w) := by
  rw [take_snocP h, rightL_snoc, hr, Option.bind_some, hc]; rfl

set_option maxHeartbeats 4000000 in
set_option maxRecDepth 100000 in
theorem right_go (A : Option Addr) (c b o k : Nat) (m x F O W Q D : Int) (ps : List Pd) (w : World) (h : Dg w A c (digs m.natAbs)) (hl : (digs m.natAbs).length ≤ 10000) (r1 : Rt m x) (hT : T32 w) (hb : b < w.heap.size) (hps : PsW w b o ps) (hsm : SmP ps) (h0 : (decide (1 ≤ F) && decide (F ≤ 10)) = true) (h1 : (decide (0 ≤ O) && decide (O ≤ 64)) = true) (h2 : plainB (decide (m < 0)) (digs m.natAbs) x = true) (h3 : (decide ((-30) ≤ W) && decide (W ≤ 10)) = true) (h4 : (decide (4 ≤ Q) && decide (Q ≤ 48)) = true) (h5 : (decide (1 ≤ D) && decide (D ≤ 16)) = true) (h6 : (decide (1 ≤ ((ps.length : Nat) : Int)) && decide (((ps.length : Nat) : Int) ≤ 32)) = true) {q : Bool} (hq : (rightL D ps (m, x) == some (endq m x W)) = q):
    Calls Tryz.prog 15 #[.agg #[.int .i64 F, .int .i64 O, .bool (decide (m < 0)), .slice A (digs m.natAbs).length c, .int .i64 x, .int .i64 W, .int .i64 Q, .int .i64 D, .slice (some ⟨b, o, none⟩) ps.length k]] w fun e w' => e = .returned (.bool q) ∧ Below w.heap.size w w' := by
  have lx := Lib.hid hl
  have HR1 := Lib.hid r1
  have HBB := Lib.hid hb
  have HPS := Lib.hid hps
  have HSM := Lib.hid hsm
  have HQ := Lib.hid hq
  have HW := Lib.hid (show -30 ≤ W ∧ W ≤ 10 by simpa using h3)
  have HLEN := Lib.hid (show ps.length ≤ 32 by simp at h6; omega)
  have HD := Lib.hid (show 0 ≤ D ∧ D ≤ 1000 by simp at h5; omega)
  have H0 := Lib.hid h0
  have H1 := Lib.hid h1
  have H2 := Lib.hid h2
  have H3 := Lib.hid h3
  have H4 := Lib.hid h4
  have H5 := Lib.hid h5
  have H6 := Lib.hid h6
  have HT := Lib.hid hT
  clear hT
  have L0 := Lib.hid ((live_start w).add h)
  clear h hl r1 hb hps hsm hq h0 h1 h2 h3 h4 h5 h6
  go_enter Tryz.func15, Tryz.ntmps15
  go_wp2_with fail
  obtain ⟨v1, hW, hb, Rt_1⟩ := new1 w (.cells #[.int .i64 F, .int .i64 O, .bool (decide (m < 0)), .slice A (digs m.natAbs).length c, .int .i64 x, .int .i64 W, .int .i64 Q, .int .i64 D, .slice (some ⟨b, o, none⟩) ps.length k] 29)
  rw [← hW]
  have L1 := ls L0 hb
  have Gt := gl0 L0.out
  clear hW hb
  refine (within_any F 1 10 _ H0.out).mono ?_
  rintro e w2 ⟨rfl, rfl⟩
  have ft0 := row_c (i := 0) Rt_1.out rfl
  have zt0 := frozen_of_row _ _ 0 _ _ Rt_1.out
  have ft1 := row_c (i := 1) Rt_1.out rfl
  have zt1 := frozen_of_row _ _ 1 _ _ Rt_1.out
  have ft2 := row_c (i := 2) Rt_1.out rfl
  have zt2 := frozen_of_row _ _ 2 _ _ Rt_1.out
  have ft3 := row_c (i := 3) Rt_1.out rfl
  have zt3 := frozen_of_row _ _ 3 _ _ Rt_1.out
  have ft4 := row_c (i := 4) Rt_1.out rfl
  have zt4 := frozen_of_row _ _ 4 _ _ Rt_1.out
  have ft5 := row_c (i := 5) Rt_1.out rfl
  have zt5 := frozen_of_row _ _ 5 _ _ Rt_1.out
  have ft6 := row_c (i := 6) Rt_1.out rfl
  have zt6 := frozen_of_row _ _ 6 _ _ Rt_1.out
  have ft7 := row_c (i := 7) Rt_1.out rfl
  have zt7 := frozen_of_row _ _ 7 _ _ Rt_1.out
  have ft8 := row_c (i := 8) Rt_1.out rfl
  have zt8 := frozen_of_row _ _ 8 _ _ Rt_1.out
  have xt := heap_lt Rt_1.out
  go_wp2_with fail
  refine (within_any O 0 64 _ H1.out).mono ?_
  rintro e w3 ⟨rfl, rfl⟩
  clear ft0 zt0 ft1 zt1 ft2 zt2 ft3 zt3 ft4 zt4 ft5 zt5 ft6 zt6 ft7 zt7 ft8 zt8 xt
  have ft0 := row_c (i := 0) Rt_1.out rfl
  have zt0 := frozen_of_row _ _ 0 _ _ Rt_1.out
  have ft1 := row_c (i := 1) Rt_1.out rfl
  have zt1 := frozen_of_row _ _ 1 _ _ Rt_1.out
  have ft2 := row_c (i := 2) Rt_1.out rfl
  have zt2 := frozen_of_row _ _ 2 _ _ Rt_1.out
  have ft3 := row_c (i := 3) Rt_1.out rfl
  have zt3 := frozen_of_row _ _ 3 _ _ Rt_1.out
  have ft4 := row_c (i := 4) Rt_1.out rfl
  have zt4 := frozen_of_row _ _ 4 _ _ Rt_1.out
  have ft5 := row_c (i := 5) Rt_1.out rfl
  have zt5 := frozen_of_row _ _ 5 _ _ Rt_1.out
  have ft6 := row_c (i := 6) Rt_1.out rfl
  have zt6 := frozen_of_row _ _ 6 _ _ Rt_1.out
  have ft7 := row_c (i := 7) Rt_1.out rfl
  have zt7 := frozen_of_row _ _ 7 _ _ Rt_1.out
  have ft8 := row_c (i := 8) Rt_1.out rfl
  have zt8 := frozen_of_row _ _ 8 _ _ Rt_1.out
  have xt := heap_lt Rt_1.out
  go_wp2_with fail
  refine (plain_any (L1.out.get (A := A) (c := c) (xs := digs m.natAbs) (by simp)) lx.out H2.out).mono ?_
  rintro e w4 ⟨rfl, hb⟩
  have L4 := ls L1 hb
  clear ft0 zt0 ft1 zt1 ft2 zt2 ft3 zt3 ft4 zt4 ft5 zt5 ft6 zt6 ft7 zt7 ft8 zt8 xt
  have Rt_4 := co Rt_1 hb
  clear hb 
  have ft0 := row_c (i := 0) Rt_4.out rfl
  have zt0 := frozen_of_row _ _ 0 _ _ Rt_4.out
  have ft1 := row_c (i := 1) Rt_4.out rfl
  have zt1 := frozen_of_row _ _ 1 _ _ Rt_4.out
  have ft2 := row_c (i := 2) Rt_4.out rfl
  have zt2 := frozen_of_row _ _ 2 _ _ Rt_4.out
  have ft3 := row_c (i := 3) Rt_4.out rfl
  have zt3 := frozen_of_row _ _ 3 _ _ Rt_4.out
  have ft4 := row_c (i := 4) Rt_4.out rfl
  have zt4 := frozen_of_row _ _ 4 _ _ Rt_4.out
  have ft5 := row_c (i := 5) Rt_4.out rfl
  have zt5 := frozen_of_row _ _ 5 _ _ Rt_4.out
  have ft6 := row_c (i := 6) Rt_4.out rfl
  have zt6 := frozen_of_row _ _ 6 _ _ Rt_4.out
  have ft7 := row_c (i := 7) Rt_4.out rfl
  have zt7 := frozen_of_row _ _ 7 _ _ Rt_4.out
  have ft8 := row_c (i := 8) Rt_4.out rfl
  have zt8 := frozen_of_row _ _ 8 _ _ Rt_4.out
  have xt := heap_lt Rt_4.out
  go_wp2_with fail
  refine (within_any W (-30) 10 _ H3.out).mono ?_
  rintro e w5 ⟨rfl, rfl⟩
  clear ft0 zt0 ft1 zt1 ft2 zt2 ft3 zt3 ft4 zt4 ft5 zt5 ft6 zt6 ft7 zt7 ft8 zt8 xt
  have ft0 := row_c (i := 0) Rt_4.out rfl
  have zt0 := frozen_of_row _ _ 0 _ _ Rt_4.out
  have ft1 := row_c (i := 1) Rt_4.out rfl
  have zt1 := frozen_of_row _ _ 1 _ _ Rt_4.out
  have ft2 := row_c (i := 2) Rt_4.out rfl
  have zt2 := frozen_of_row _ _ 2 _ _ Rt_4.out
  have ft3 := row_c (i := 3) Rt_4.out rfl
  have zt3 := frozen_of_row _ _ 3 _ _ Rt_4.out
  have ft4 := row_c (i := 4) Rt_4.out rfl
  have zt4 := frozen_of_row _ _ 4 _ _ Rt_4.out
  have ft5 := row_c (i := 5) Rt_4.out rfl
  have zt5 := frozen_of_row _ _ 5 _ _ Rt_4.out
  have ft6 := row_c (i := 6) Rt_4.out rfl
  have zt6 := frozen_of_row _ _ 6 _ _ Rt_4.out
  have ft7 := row_c (i := 7) Rt_4.out rfl
  have zt7 := frozen_of_row _ _ 7 _ _ Rt_4.out
  have ft8 := row_c (i := 8) Rt_4.out rfl
  have zt8 := frozen_of_row _ _ 8 _ _ Rt_4.out
  have xt := heap_lt Rt_4.out
  go_wp2_with fail
  refine (within_any Q 4 48 _ H4.out).mono ?_
  rintro e w6 ⟨rfl, rfl⟩
  clear ft0 zt0 ft1 zt1 ft2 zt2 ft3 zt3 ft4 zt4 ft5 zt5 ft6 zt6 ft7 zt7 ft8 zt8 xt
  have ft0 := row_c (i := 0) Rt_4.out rfl
  have zt0 := frozen_of_row _ _ 0 _ _ Rt_4.out
  have ft1 := row_c (i := 1) Rt_4.out rfl
  have zt1 := frozen_of_row _ _ 1 _ _ Rt_4.out
  have ft2 := row_c (i := 2) Rt_4.out rfl
  have zt2 := frozen_of_row _ _ 2 _ _ Rt_4.out
  have ft3 := row_c (i := 3) Rt_4.out rfl
  have zt3 := frozen_of_row _ _ 3 _ _ Rt_4.out
  have ft4 := row_c (i := 4) Rt_4.out rfl
  have zt4 := frozen_of_row _ _ 4 _ _ Rt_4.out
  have ft5 := row_c (i := 5) Rt_4.out rfl
  have zt5 := frozen_of_row _ _ 5 _ _ Rt_4.out
  have ft6 := row_c (i := 6) Rt_4.out rfl
  have zt6 := frozen_of_row _ _ 6 _ _ Rt_4.out
  have ft7 := row_c (i := 7) Rt_4.out rfl
  have zt7 := frozen_of_row _ _ 7 _ _ Rt_4.out
  have ft8 := row_c (i := 8) Rt_4.out rfl
  have zt8 := frozen_of_row _ _ 8 _ _ Rt_4.out
  have xt := heap_lt Rt_4.out
  go_wp2_with fail
  refine (within_any D 1 16 _ H5.out).mono ?_
  rintro e w7 ⟨rfl, rfl⟩
  clear ft0 zt0 ft1 zt1 ft2 zt2 ft3 zt3 ft4 zt4 ft5 zt5 ft6 zt6 ft7 zt7 ft8 zt8 xt
  have ft0 := row_c (i := 0) Rt_4.out rfl
  have zt0 := frozen_of_row _ _ 0 _ _ Rt_4.out
  have ft1 := row_c (i := 1) Rt_4.out rfl
  have zt1 := frozen_of_row _ _ 1 _ _ Rt_4.out
  have ft2 := row_c (i := 2) Rt_4.out rfl
  have zt2 := frozen_of_row _ _ 2 _ _ Rt_4.out
  have ft3 := row_c (i := 3) Rt_4.out rfl
  have zt3 := frozen_of_row _ _ 3 _ _ Rt_4.out
  have ft4 := row_c (i := 4) Rt_4.out rfl
  have zt4 := frozen_of_row _ _ 4 _ _ Rt_4.out
  have ft5 := row_c (i := 5) Rt_4.out rfl
  have zt5 := frozen_of_row _ _ 5 _ _ Rt_4.out
  have ft6 := row_c (i := 6) Rt_4.out rfl
  have zt6 := frozen_of_row _ _ 6 _ _ Rt_4.out
  have ft7 := row_c (i := 7) Rt_4.out rfl
  have zt7 := frozen_of_row _ _ 7 _ _ Rt_4.out
  have ft8 := row_c (i := 8) Rt_4.out rfl
  have zt8 := frozen_of_row _ _ 8 _ _ Rt_4.out
  have xt := heap_lt Rt_4.out
  go_wp2_with fail
  refine (within_any ((ps.length : Nat) : Int) 1 32 _ H6.out).mono ?_
  rintro e w8 ⟨rfl, rfl⟩
  clear ft0 zt0 ft1 zt1 ft2 zt2 ft3 zt3 ft4 zt4 ft5 zt5 ft6 zt6 ft7 zt7 ft8 zt8 xt
  have ft0 := row_c (i := 0) Rt_4.out rfl
  have zt0 := frozen_of_row _ _ 0 _ _ Rt_4.out
  have ft1 := row_c (i := 1) Rt_4.out rfl
  have zt1 := frozen_of_row _ _ 1 _ _ Rt_4.out
  have ft2 := row_c (i := 2) Rt_4.out rfl
  have zt2 := frozen_of_row _ _ 2 _ _ Rt_4.out
  have ft3 := row_c (i := 3) Rt_4.out rfl
  have zt3 := frozen_of_row _ _ 3 _ _ Rt_4.out
  have ft4 := row_c (i := 4) Rt_4.out rfl
  have zt4 := frozen_of_row _ _ 4 _ _ Rt_4.out
  have ft5 := row_c (i := 5) Rt_4.out rfl
  have zt5 := frozen_of_row _ _ 5 _ _ Rt_4.out
  have ft6 := row_c (i := 6) Rt_4.out rfl
  have zt6 := frozen_of_row _ _ 6 _ _ Rt_4.out
  have ft7 := row_c (i := 7) Rt_4.out rfl
  have zt7 := frozen_of_row _ _ 7 _ _ Rt_4.out
  have ft8 := row_c (i := 8) Rt_4.out rfl
  have zt8 := frozen_of_row _ _ 8 _ _ Rt_4.out
  have xt := heap_lt Rt_4.out
  go_wp2
  obtain ⟨w9, hW, hb, Rnx_9⟩ := new1 w4 (.cells #[.bool (decide (m < 0)), .slice A (digs m.natAbs).length c, .int .i64 x] 26)
  rw [← hW]
  have L9 := ls L4 hb
  have Rt_9 := co Rt_4 hb
  have Gnx := gl0 L4.out
  have Ntnx := nl0 Rt_4.out
  clear hW hb
  clear ft0 zt0 ft1 zt1 ft2 zt2 ft3 zt3 ft4 zt4 ft5 zt5 ft6 zt6 ft7 zt7 ft8 zt8 xt
  go_loopw [52] (fun i wr => ∃ (j : Nat) (K E : Int) (A1 : Option Addr) (c1 : Nat), j ≤ ps.length ∧ i = .int .i64 j ∧ Hid (rightL D (ps.take j) (m, x) = some (K, E)) ∧ Hid (Rt K E ∧ (digs K.natAbs).length ≤ 10000) ∧ Hid (Below w.heap.size w wr) ∧ Hid (wr.heap[w.heap.size]? = some (.cells #[.int .i64 F, .int .i64 O, .bool (decide (m < 0)), .slice A (digs m.natAbs).length c, .int .i64 x, .int .i64 W, .int .i64 Q, .int .i64 D, .slice (some ⟨b, o, none⟩) ps.length k] 29 (0, 0))) ∧ Hid (wr.heap[w4.heap.size]? = some (.cells #[.bool (decide (K < 0)), .slice A1 (digs K.natAbs).length c1, .int .i64 E] 26 (0, 0))) ∧ Hid (Dg wr A1 c1 (digs K.natAbs))) (fun i _ => ps.length - (intOf i).toNat)
  case atStart => exact ⟨0, m, x, A, c, Nat.zero_le _, rfl, Lib.hid rfl, Lib.hid ⟨HR1.out, lx.out⟩, Lib.hid L9.out.1, Rt_9, Rnx_9, Lib.hid (L9.out.get (A := A) (c := c) (xs := digs m.natAbs) (by simp))⟩
  case round =>
    obtain ⟨j, K, E, A1, c1, hj, rfl, HL, HK, HB, HRT, HRN, HD1⟩ := hrel
    have L0r := Lib.hid (((L0.out.step HB.out)).add HD1.out)
    by_cases hlt : j < ps.length
    · obtain ⟨p, hp⟩ : ∃ p, ps[j]? = some p := ⟨_, List.getElem?_eq_getElem hlt⟩
      obtain ⟨A2, c2, B2, d2, P2, k2, e0, e1, e2, e3, e4, e5, e6, e7, hda, hde, hns⟩ := HPS.out j p hp
      have HP := Lib.hid hp
      have SM := Lib.hid (HSM.out p (List.mem_of_getElem? hp))
      have HLT := Lib.hid hlt
      have g0 := (HB.out.cell (p := ⟨b, o + j * 8, none⟩) HBB.out).trans e0
      have g1 := (HB.out.cell (p := ⟨b, o + j * 8 + 1, none⟩) HBB.out).trans e1
      have g2 := (HB.out.cell (p := ⟨b, o + j * 8 + 2, none⟩) HBB.out).trans e2
      have g3 := (HB.out.cell (p := ⟨b, o + j * 8 + 3, none⟩) HBB.out).trans e3
      have g4 := (HB.out.cell (p := ⟨b, o + j * 8 + 4, none⟩) HBB.out).trans e4
      have g5 := (HB.out.cell (p := ⟨b, o + j * 8 + 5, none⟩) HBB.out).trans e5
      have g6 := (HB.out.cell (p := ⟨b, o + j * 8 + 6, none⟩) HBB.out).trans e6
      have g7 := (HB.out.cell (p := ⟨b, o + j * 8 + 7, none⟩) HBB.out).trans e7
      have LR := Lib.hid ((L0r.out.add (hda.below HB.out)).add (hde.below HB.out))
      have HNS := Lib.hid hns
      have GTn : w.heap.size < wr.heap.size := heap_lt HRT.out
      clear e0 e1 e2 e3 e4 e5 e6 e7 hda hde hns hp
      obtain ⟨pb, hpb⟩ : ∃ r, pieceB p D = r := ⟨_, rfl⟩
      have HPB := Lib.hid hpb
      clear hpb
      have ft0 := row_c (i := 0) HRT.out rfl
      have zt0 := frozen_of_row _ _ 0 _ _ HRT.out
      have ft1 := row_c (i := 1) HRT.out rfl
      have zt1 := frozen_of_row _ _ 1 _ _ HRT.out
      have ft2 := row_c (i := 2) HRT.out rfl
      have zt2 := frozen_of_row _ _ 2 _ _ HRT.out
      have ft3 := row_c (i := 3) HRT.out rfl
      have zt3 := frozen_of_row _ _ 3 _ _ HRT.out
      have ft4 := row_c (i := 4) HRT.out rfl
      have zt4 := frozen_of_row _ _ 4 _ _ HRT.out
      have ft5 := row_c (i := 5) HRT.out rfl
      have zt5 := frozen_of_row _ _ 5 _ _ HRT.out
      have ft6 := row_c (i := 6) HRT.out rfl
      have zt6 := frozen_of_row _ _ 6 _ _ HRT.out
      have ft7 := row_c (i := 7) HRT.out rfl
      have zt7 := frozen_of_row _ _ 7 _ _ HRT.out
      have ft8 := row_c (i := 8) HRT.out rfl
      have zt8 := frozen_of_row _ _ 8 _ _ HRT.out
      have xt := heap_lt HRT.out
      obtain ⟨fnx0, znx0, fnx1, znx1, fnx2, znx2, xnx⟩ := ly3 HRN.out
      go_wp2_with fail
      obtain ⟨w10, hW, hb, Rp_10⟩ := new1 wr (.cells #[.bool p.a.1, .slice A2 p.a.2.1.length c2, .int .i64 p.a.2.2, .int .i64 p.w, .slice P2 p.cs.length k2, .bool p.er.1, .slice B2 p.er.2.1.length d2, .int .i64 p.er.2.2] 49)
      rw [← hW]
      have L10 := ls LR hb
      have Rt_10 := co HRT hb
      have Rnx_10 := co HRN hb
      have Gp := gl0 LR.out
      have Ntp := nl0 HRT.out
      have Nnxp := nl0 HRN.out
      clear hW hb
      clear ft0 zt0 ft1 zt1 ft2 zt2 ft3 zt3 ft4 zt4 ft5 zt5 ft6 zt6 ft7 zt7 ft8 zt8 xt fnx0 znx0 fnx1 znx1 fnx2 znx2 xnx
      clear g0 g1 g2 g3 g4 g5 g6 g7
      have ft0 := row_c (i := 0) Rt_10.out rfl
      have zt0 := frozen_of_row _ _ 0 _ _ Rt_10.out
      have ft1 := row_c (i := 1) Rt_10.out rfl
      have zt1 := frozen_of_row _ _ 1 _ _ Rt_10.out
      have ft2 := row_c (i := 2) Rt_10.out rfl
      have zt2 := frozen_of_row _ _ 2 _ _ Rt_10.out
      have ft3 := row_c (i := 3) Rt_10.out rfl
      have zt3 := frozen_of_row _ _ 3 _ _ Rt_10.out
      have ft4 := row_c (i := 4) Rt_10.out rfl
      have zt4 := frozen_of_row _ _ 4 _ _ Rt_10.out
      have ft5 := row_c (i := 5) Rt_10.out rfl
      have zt5 := frozen_of_row _ _ 5 _ _ Rt_10.out
      have ft6 := row_c (i := 6) Rt_10.out rfl
      have zt6 := frozen_of_row _ _ 6 _ _ Rt_10.out
      have ft7 := row_c (i := 7) Rt_10.out rfl
      have zt7 := frozen_of_row _ _ 7 _ _ Rt_10.out
      have ft8 := row_c (i := 8) Rt_10.out rfl
      have zt8 := frozen_of_row _ _ 8 _ _ Rt_10.out
      have xt := heap_lt Rt_10.out
      have fp0 := row_c (i := 0) Rp_10.out rfl
      have zp0 := frozen_of_row _ _ 0 _ _ Rp_10.out
      have fp1 := row_c (i := 1) Rp_10.out rfl
      have zp1 := frozen_of_row _ _ 1 _ _ Rp_10.out
      have fp2 := row_c (i := 2) Rp_10.out rfl
      have zp2 := frozen_of_row _ _ 2 _ _ Rp_10.out
      have fp3 := row_c (i := 3) Rp_10.out rfl
      have zp3 := frozen_of_row _ _ 3 _ _ Rp_10.out
      have fp4 := row_c (i := 4) Rp_10.out rfl
      have zp4 := frozen_of_row _ _ 4 _ _ Rp_10.out
      have fp5 := row_c (i := 5) Rp_10.out rfl
      have zp5 := frozen_of_row _ _ 5 _ _ Rp_10.out
      have fp6 := row_c (i := 6) Rp_10.out rfl
      have zp6 := frozen_of_row _ _ 6 _ _ Rp_10.out
      have fp7 := row_c (i := 7) Rp_10.out rfl
      have zp7 := frozen_of_row _ _ 7 _ _ Rp_10.out
      have xp := heap_lt Rp_10.out
      go_wp2_with fail
      refine (rpiece_any (p := p) (q := pb) (L10.out.get (A := A2) (c := c2) (xs := p.a.2.1) (by simp)) (L10.out.get (A := B2) (c := d2) (xs := p.er.2.1) (by simp)) SM.out.1 SM.out.2.1 (HNS.out.below L10.out.1) SM.out.2.2 HD.out.1 HD.out.2 HPB.out).mono ?_
      rintro e w11 ⟨rfl, hb⟩
      have L11 := ls L10 hb
      clear ft0 zt0 ft1 zt1 ft2 zt2 ft3 zt3 ft4 zt4 ft5 zt5 ft6 zt6 ft7 zt7 ft8 zt8 xt fp0 zp0 fp1 zp1 fp2 zp2 fp3 zp3 fp4 zp4 fp5 zp5 fp6 zp6 fp7 zp7 xp
      have Rt_11 := co Rt_10 hb
      have Rnx_11 := co Rnx_10 hb
      have Rp_11 := co Rp_10 hb
      clear hb 
      cases pb
      · have HQF := Lib.hid (show q = false by rw [← HQ.out, right_none HP.out HL.out (by rw [HPB.out]; rfl)]; rfl)
        go_wp2
        try rw [Exit.noGoto_ret]
        go_ret
        exact ⟨by rw [HQF.out]; rfl, L11.out.1⟩
      · have hnb : nmB p.a = true := by have := HPB.out; unfold pieceB at this; simp only [Bool.and_eq_true] at this; exact this.2.2.1.1
        have hwb : -30 ≤ p.w ∧ p.w ≤ 10 := by have := HPB.out; unfold pieceB at this; simp only [Bool.and_eq_true, decide_eq_true_eq] at this; exact this.1
        unfold nmB mayB at hnb
        rw [Bool.and_eq_true] at hnb
        obtain ⟨m2, hm2, hs2, rr2⟩ := num_of ((L11.out.get (A := A2) (c := c2) (xs := p.a.2.1) (by simp))).2.1 hnb.1
        have hnv : nmv p.a = m2 := by unfold nmv; rw [← hm2, ← hs2, val_digs]; exact sg_dzM m2
        obtain ⟨j0, hj0⟩ : ∃ j, cmpd (dv m2 p.a.2.2) (dv K E) = j := ⟨_, rfl⟩
        have HC := Lib.hid (fun (V : World) (ha : Dg V A2 c2 p.a.2.1) (hb : Dg V A1 c1 (digs K.natAbs)) => (by rw [← hm2] at ha; have := dcmp_any ha hb (by rw [hm2]; have := SM.out.1; omega) (by have := HK.out.2; omega) rr2 HK.out.1 hj0; rw [hm2, hs2] at this; exact this : Calls Tryz.prog 29 #[.agg #[.bool p.a.1, .slice A2 p.a.2.1.length c2, .int .i64 p.a.2.2], .agg #[.bool (decide (K < 0)), .slice A1 (digs K.natAbs).length c1, .int .i64 E]] V fun e w' => e = .returned (.int .i64 j0) ∧ Below V.heap.size V w'))
        obtain ⟨⟨K2, F2⟩, hkf⟩ : ∃ t, endq m2 p.a.2.2 p.w = t := ⟨_, rfl⟩
        have HE := Lib.hid (fun (V : World) (ha : Dg V A2 c2 p.a.2.1) (hT : T32 V) => (by rw [← hm2] at ha; have := end_q ha (by rw [hm2]; exact SM.out.1) rr2 hT hwb.1 hwb.2 hkf; rw [hm2, hs2] at this; exact this : Calls Tryz.prog 30 #[.agg #[.bool p.a.1, .slice A2 p.a.2.1.length c2, .int .i64 p.a.2.2], .int .i64 p.w] V fun e w' => Yr K2 F2 V e w'))
        have RK2 := Lib.hid (endq_rt m2 p.a.2.2 p.w)
        rw [hkf] at RK2
        by_cases hsm : m2 = K ∧ p.a.2.2 = E
        · have hz : (j0 != 0) = false := by rw [← hj0, hsm.1, hsm.2, cmpd_eq rfl]; rfl
          have HRS := Lib.hid (right_some (r := (K, E)) HP.out HL.out (by rw [HPB.out, hnv, decide_eq_true hsm]; rfl))
          rw [← hsm.1, ← hsm.2, hkf] at HRS
          clear hnb hm2 hs2 rr2 hnv hj0 hkf hwb hsm
          have fp0 := row_c (i := 0) Rp_11.out rfl
          have zp0 := frozen_of_row _ _ 0 _ _ Rp_11.out
          have fp1 := row_c (i := 1) Rp_11.out rfl
          have zp1 := frozen_of_row _ _ 1 _ _ Rp_11.out
          have fp2 := row_c (i := 2) Rp_11.out rfl
          have zp2 := frozen_of_row _ _ 2 _ _ Rp_11.out
          have fp3 := row_c (i := 3) Rp_11.out rfl
          have zp3 := frozen_of_row _ _ 3 _ _ Rp_11.out
          have fp4 := row_c (i := 4) Rp_11.out rfl
          have zp4 := frozen_of_row _ _ 4 _ _ Rp_11.out
          have fp5 := row_c (i := 5) Rp_11.out rfl
          have zp5 := frozen_of_row _ _ 5 _ _ Rp_11.out
          have fp6 := row_c (i := 6) Rp_11.out rfl
          have zp6 := frozen_of_row _ _ 6 _ _ Rp_11.out
          have fp7 := row_c (i := 7) Rp_11.out rfl
          have zp7 := frozen_of_row _ _ 7 _ _ Rp_11.out
          have xp := heap_lt Rp_11.out
          obtain ⟨fnx0, znx0, fnx1, znx1, fnx2, znx2, xnx⟩ := ly3 Rnx_11.out
          go_wp2_with fail
          refine (HC.out _ (L11.out.get (A := A2) (c := c2) (xs := p.a.2.1) (by simp)) (L11.out.get (A := A1) (c := c1) (xs := digs K.natAbs) (by simp))).mono ?_
          rintro e w12 ⟨rfl, hb⟩
          have L12 := ls L11 hb
          clear fp0 zp0 fp1 zp1 fp2 zp2 fp3 zp3 fp4 zp4 fp5 zp5 fp6 zp6 fp7 zp7 xp fnx0 znx0 fnx1 znx1 fnx2 znx2 xnx
          have Rt_12 := co Rt_11 hb
          have Rnx_12 := co Rnx_11 hb
          have Rp_12 := co Rp_11 hb
          clear hb 
          have fp0 := row_c (i := 0) Rp_12.out rfl
          have zp0 := frozen_of_row _ _ 0 _ _ Rp_12.out
          have fp1 := row_c (i := 1) Rp_12.out rfl
          have zp1 := frozen_of_row _ _ 1 _ _ Rp_12.out
          have fp2 := row_c (i := 2) Rp_12.out rfl
          have zp2 := frozen_of_row _ _ 2 _ _ Rp_12.out
          have fp3 := row_c (i := 3) Rp_12.out rfl
          have zp3 := frozen_of_row _ _ 3 _ _ Rp_12.out
          have fp4 := row_c (i := 4) Rp_12.out rfl
          have zp4 := frozen_of_row _ _ 4 _ _ Rp_12.out
          have fp5 := row_c (i := 5) Rp_12.out rfl
          have zp5 := frozen_of_row _ _ 5 _ _ Rp_12.out
          have fp6 := row_c (i := 6) Rp_12.out rfl
          have zp6 := frozen_of_row _ _ 6 _ _ Rp_12.out
          have fp7 := row_c (i := 7) Rp_12.out rfl
          have zp7 := frozen_of_row _ _ 7 _ _ Rp_12.out
          have xp := heap_lt Rp_12.out
          go_wp2_with fail
          refine (HE.out _ (L12.out.get (A := A2) (c := c2) (xs := p.a.2.1) (by simp)) (t32_live HT.out L12.out)).mono ?_
          rintro e w13 ⟨A13, c13, rfl, hd, hb⟩
          have L13 := la L12 hb hd
          clear fp0 zp0 fp1 zp1 fp2 zp2 fp3 zp3 fp4 zp4 fp5 zp5 fp6 zp6 fp7 zp7 xp
          have Rt_13 := co Rt_12 hb
          have Rnx_13 := co Rnx_12 hb
          have Rp_13 := co Rp_12 hb
          clear hb hd
          obtain ⟨fnx0, znx0, fnx1, znx1, fnx2, znx2, xnx⟩ := ly3 Rnx_13.out
          go_wp2
          obtain ⟨w14, hW⟩ : ∃ W : World, W = (((w13.setCell ⟨w4.heap.size, 0, none⟩ (.bool (decide (K2 < 0)))).setCell ⟨w4.heap.size, 1, none⟩ (.slice A13 (digs K2.natAbs).length c13)).setCell ⟨w4.heap.size, 2, none⟩ (.int .i64 F2)) := ⟨_, rfl⟩
          rw [← hW]
          have hO : Only (w4.heap.size) w13 w14 := by rw [hW]; exact ((((Only.refl (w4.heap.size) w13).setCell 0 _).setCell 1 _).setCell 2 _)
          have L14 := Lib.hid (live_only L13.out hO Rnx_13.out noint_dy Gnx)
          have Rt_14 := Lib.hid ((hO.block _ (by omega)).trans Rt_13.out)
          have Rp_14 := Lib.hid ((hO.block _ (by omega)).trans Rp_13.out)
          have Rnx_14 := Lib.hid (show w14.heap[w4.heap.size]? = some (.cells #[.bool (decide (K2 < 0)), .slice A13 (digs K2.natAbs).length c13, .int .i64 F2] 26 (0, 0)) by rw [hW]; exact (heap_setCell_same _ _ 2 _ _ _ (heap_setCell_same _ _ 1 _ _ _ (heap_setCell_same _ _ 0 _ _ _ Rnx_13.out))))
          clear hW hO
          clear fnx0 znx0 fnx1 znx1 fnx2 znx2 xnx
          go_roundw
          case rel =>
            have hlen := HLEN.out
            have hlt := HLT.out
            have hw : wrap64 ((j : Int) + 1) = (j : Int) + 1 := IntWalk.wrap64_in _ ⟨by omega, by omega⟩
            exact ⟨j + 1, K2, F2, A13, c13, HLT.out, by rw [hw]; exact congrArg _ (by omega), HRS, RK2, Lib.hid L14.out.1, Rt_14, Rnx_14, Lib.hid (L14.out.get (A := A13) (c := c13) (xs := digs K2.natAbs) (by simp))⟩
          case measure =>
            have hlen := HLEN.out
            have hlt := HLT.out
            have hw : wrap64 ((j : Int) + 1) = (j : Int) + 1 := IntWalk.wrap64_in _ ⟨by omega, by omega⟩
            rw [hw]
            simp [intOf]; omega
        · have hz : (j0 != 0) = true := bne_iff_ne.2 (fun e => hsm (by rw [← hj0, cmpd_zero] at e; exact nf_inj rr2.1 HK.out.1.1 e))
          have HQF := Lib.hid (show q = false by rw [← HQ.out, right_none (r := (K, E)) HP.out HL.out (by rw [HPB.out, hnv, decide_eq_false hsm]; rfl)]; rfl)
          clear hnb hm2 hs2 rr2 hnv hj0 hkf hwb hsm
          have fp0 := row_c (i := 0) Rp_11.out rfl
          have zp0 := frozen_of_row _ _ 0 _ _ Rp_11.out
          have fp1 := row_c (i := 1) Rp_11.out rfl
          have zp1 := frozen_of_row _ _ 1 _ _ Rp_11.out
          have fp2 := row_c (i := 2) Rp_11.out rfl
          have zp2 := frozen_of_row _ _ 2 _ _ Rp_11.out
          have fp3 := row_c (i := 3) Rp_11.out rfl
          have zp3 := frozen_of_row _ _ 3 _ _ Rp_11.out
          have fp4 := row_c (i := 4) Rp_11.out rfl
          have zp4 := frozen_of_row _ _ 4 _ _ Rp_11.out
          have fp5 := row_c (i := 5) Rp_11.out rfl
          have zp5 := frozen_of_row _ _ 5 _ _ Rp_11.out
          have fp6 := row_c (i := 6) Rp_11.out rfl
          have zp6 := frozen_of_row _ _ 6 _ _ Rp_11.out
          have fp7 := row_c (i := 7) Rp_11.out rfl
          have zp7 := frozen_of_row _ _ 7 _ _ Rp_11.out
          have xp := heap_lt Rp_11.out
          obtain ⟨fnx0, znx0, fnx1, znx1, fnx2, znx2, xnx⟩ := ly3 Rnx_11.out
          go_wp2_with fail
          refine (HC.out _ (L11.out.get (A := A2) (c := c2) (xs := p.a.2.1) (by simp)) (L11.out.get (A := A1) (c := c1) (xs := digs K.natAbs) (by simp))).mono ?_
          rintro e w12 ⟨rfl, hb⟩
          have L12 := ls L11 hb
          clear fp0 zp0 fp1 zp1 fp2 zp2 fp3 zp3 fp4 zp4 fp5 zp5 fp6 zp6 fp7 zp7 xp fnx0 znx0 fnx1 znx1 fnx2 znx2 xnx
          have Rt_12 := co Rt_11 hb
          have Rnx_12 := co Rnx_11 hb
          have Rp_12 := co Rp_11 hb
          clear hb 
          go_wp2
          try rw [Exit.noGoto_ret]
          go_ret
          exact ⟨by rw [HQF.out]; rfl, L12.out.1⟩
    · obtain rfl : j = ps.length := by omega
      have GTn : w.heap.size < wr.heap.size := heap_lt HRT.out
      have hl2 := HL.out
      rw [List.take_length] at hl2
      obtain ⟨⟨Z1, Z2⟩, hzz⟩ : ∃ t, endq m x W = t := ⟨_, rfl⟩
      have RZ := endq_rt m x W
      rw [hzz] at RZ
      dsimp only at RZ
      obtain ⟨j1, hj1⟩ : ∃ j, cmpd (dv K E) (dv Z1 Z2) = j := ⟨_, rfl⟩
      have hqz : (j1 == 0) = q := by
        rw [← HQ.out, hl2, hzz, Bool.eq_iff_iff]
        simp only [beq_iff_eq, Option.some.injEq, Prod.mk.injEq]
        rw [← hj1, cmpd_zero]
        exact ⟨fun e => nf_inj HK.out.1.1 RZ.1.1 e, fun e => by rw [e.1, e.2]⟩
      have HZ := Lib.hid hzz
      have HRZ := Lib.hid RZ
      have HJ := Lib.hid hj1
      have LK := Lib.hid (show (digs K.natAbs).length ≤ 400000 by have := HK.out.2; omega)
      have LZ := Lib.hid (show (digs Z1.natAbs).length ≤ 400000 by omega)
      have RKK := Lib.hid HK.out.1
      clear hl2 hzz RZ hj1
      have ft0 := row_c (i := 0) HRT.out rfl
      have zt0 := frozen_of_row _ _ 0 _ _ HRT.out
      have ft1 := row_c (i := 1) HRT.out rfl
      have zt1 := frozen_of_row _ _ 1 _ _ HRT.out
      have ft2 := row_c (i := 2) HRT.out rfl
      have zt2 := frozen_of_row _ _ 2 _ _ HRT.out
      have ft3 := row_c (i := 3) HRT.out rfl
      have zt3 := frozen_of_row _ _ 3 _ _ HRT.out
      have ft4 := row_c (i := 4) HRT.out rfl
      have zt4 := frozen_of_row _ _ 4 _ _ HRT.out
      have ft5 := row_c (i := 5) HRT.out rfl
      have zt5 := frozen_of_row _ _ 5 _ _ HRT.out
      have ft6 := row_c (i := 6) HRT.out rfl
      have zt6 := frozen_of_row _ _ 6 _ _ HRT.out
      have ft7 := row_c (i := 7) HRT.out rfl
      have zt7 := frozen_of_row _ _ 7 _ _ HRT.out
      have ft8 := row_c (i := 8) HRT.out rfl
      have zt8 := frozen_of_row _ _ 8 _ _ HRT.out
      have xt := heap_lt HRT.out
      obtain ⟨fnx0, znx0, fnx1, znx1, fnx2, znx2, xnx⟩ := ly3 HRN.out
      go_wp2_with fail
      clear ft0 zt0 ft1 zt1 ft2 zt2 ft3 zt3 ft4 zt4 ft5 zt5 ft6 zt6 ft7 zt7 ft8 zt8 xt fnx0 znx0 fnx1 znx1 fnx2 znx2 xnx
      obtain ⟨fnx0, znx0, fnx1, znx1, fnx2, znx2, xnx⟩ := ly3 HRN.out
      have ft0 := row_c (i := 0) HRT.out rfl
      have zt0 := frozen_of_row _ _ 0 _ _ HRT.out
      have ft1 := row_c (i := 1) HRT.out rfl
      have zt1 := frozen_of_row _ _ 1 _ _ HRT.out
      have ft2 := row_c (i := 2) HRT.out rfl
      have zt2 := frozen_of_row _ _ 2 _ _ HRT.out
      have ft3 := row_c (i := 3) HRT.out rfl
      have zt3 := frozen_of_row _ _ 3 _ _ HRT.out
      have ft4 := row_c (i := 4) HRT.out rfl
      have zt4 := frozen_of_row _ _ 4 _ _ HRT.out
      have ft5 := row_c (i := 5) HRT.out rfl
      have zt5 := frozen_of_row _ _ 5 _ _ HRT.out
      have ft6 := row_c (i := 6) HRT.out rfl
      have zt6 := frozen_of_row _ _ 6 _ _ HRT.out
      have ft7 := row_c (i := 7) HRT.out rfl
      have zt7 := frozen_of_row _ _ 7 _ _ HRT.out
      have ft8 := row_c (i := 8) HRT.out rfl
      have zt8 := frozen_of_row _ _ 8 _ _ HRT.out
      have xt := heap_lt HRT.out
      have KD := Lib.hid (bd0 wr)
      have LD := ls L0r KD.out
      go_region_held3 (fun w' => ∀ b o, b < wr.heap.size → w'.cell? ⟨b, o, none⟩ = wr.cell? ⟨b, o, none⟩)
        (first | with_reducible exact (bcell KD.out).1 | with_reducible exact (bcell K14.out).1 | with_reducible exact (bcell K15.out).1)
        (first
          | (go_at_call 30; (with_reducible refine (end_q (K := Z1) (F := Z2) (LD.out.get (A := A) (c := c) (xs := digs m.natAbs) (by simp)) lx.out HR1.out (t32_live HT.out LD.out) HW.out.1 HW.out.2 HZ.out).mono ?_); rintro e w14 ⟨A14, c14, rfl, hd, hb⟩; (have K14 := bt KD hb); (have L14 := la LD hb hd); clear hb hd)
          | (go_at_call 29; (with_reducible refine (dcmp_any (L14.out.get (A := A1) (c := c1) (xs := digs K.natAbs) (by simp)) (L14.out.get (A := A14) (c := c14) (xs := digs Z1.natAbs) (by simp)) LK.out LZ.out RKK.out HRZ.out.1 HJ.out).mono ?_); rintro e w15 ⟨rfl, hb⟩; (have K15 := bt K14 hb); (have L15 := Lib.hid (L14.out.step hb)); clear hb ))
      rename_i hHeld
      clear hHeld
      clear fnx0 znx0 fnx1 znx1 fnx2 znx2 xnx ft0 zt0 ft1 zt1 ft2 zt2 ft3 zt3 ft4 zt4 ft5 zt5 ft6 zt6 ft7 zt7 ft8 zt8 xt
      have Rt_15 := co HRT K15.out
      have Rnx_15 := co HRN K15.out
      clear KD LD
      go_wp2
      go_ret
      exact ⟨rfl, L15.out.1⟩
end Go.Proofs.YtdmfapgclppmhaaGreatDoor
end

section
namespace Go.Proofs.YtdmfapgclppmhaaGreatDoor
open Go.RowKit
set_option linter.unusedSimpArgs false
set_option linter.unusedVariables false
/-- A slice holds these pieces. -/
def PsL (w : World) (P : Option Addr) (ps : List Pd) : Prop := ps.length ≠ 0 → ∃ b o, P = some ⟨b, o, none⟩ ∧ b < w.heap.size ∧ PsW w b o ps
theorem cright_any {A P : Option Addr} {c k : Nat} {F O W Q D : Int} {a : Nm} {ps : List Pd} {q : Bool} {w : World} (h : Dg w A c a.2.1) (hl : a.2.1.length ≤ 10000) (hT : T32 w) (hps : PsL w P ps) (hsm : SmP ps) (hq : rightT F O a W Q D ps = q) :
    Calls Tryz.prog 15 #[.agg #[.int .i64 F, .int .i64 O, .bool a.1, .slice A a.2.1.length c, .int .i64 a.2.2, .int .i64 W, .int .i64 Q, .int .i64 D, .slice P ps.length k]] w fun e w' => e = .returned (.bool q) ∧ Below w.heap.size w w' := by
  obtain ⟨s, xs, x⟩ := a
  unfold rightT at hq
  dsimp only at *
  cases h0 : (decide (1 ≤ F) && decide (F ≤ 10))
  · obtain rfl : q = false := by rw [← hq, h0]; rfl
    exact right_0 A P c _ k s xs F O x W Q D w h hl h0
  · rw [h0, Bool.true_and] at hq
    cases h1 : (decide (0 ≤ O) && decide (O ≤ 64))
    · obtain rfl : q = false := by rw [← hq, h1]; rfl
      exact right_1 A P c _ k s xs F O x W Q D w h hl h0 h1
    · rw [h1, Bool.true_and] at hq
      cases h2 : plainB s xs x
      · obtain rfl : q = false := by rw [← hq, h2]; rfl
        exact right_2 A P c _ k s xs F O x W Q D w h hl h0 h1 h2
      · rw [h2, Bool.true_and] at hq
        cases h3 : (decide ((-30) ≤ W) && decide (W ≤ 10))
        · obtain rfl : q = false := by rw [← hq, h3]; rfl
          exact right_3 A P c _ k s xs F O x W Q D w h hl h0 h1 h2 h3
        · rw [h3, Bool.true_and] at hq
          cases h4 : (decide (4 ≤ Q) && decide (Q ≤ 48))
          · obtain rfl : q = false := by rw [← hq, h4]; rfl
            exact right_4 A P c _ k s xs F O x W Q D w h hl h0 h1 h2 h3 h4
          · rw [h4, Bool.true_and] at hq
            cases h5 : (decide (1 ≤ D) && decide (D ≤ 16))
            · obtain rfl : q = false := by rw [← hq, h5]; rfl
              exact right_5 A P c _ k s xs F O x W Q D w h hl h0 h1 h2 h3 h4 h5
            · rw [h5, Bool.true_and] at hq
              cases h6 : (decide (1 ≤ (ps.length : Int)) && decide ((ps.length : Int) ≤ 32))
              · obtain rfl : q = false := by rw [← hq, h6]; rfl
                exact right_6 A P c _ k s xs F O x W Q D w h hl h0 h1 h2 h3 h4 h5 h6
              · rw [h6, Bool.true_and] at hq
                have hr : dyR s xs x = true := by unfold plainB at h2; rw [Bool.and_eq_true] at h2; exact h2.1
                obtain ⟨m, rfl, rfl, r1⟩ := num_of h.2.1 hr
                obtain ⟨b, o, rfl, hb, hp⟩ := hps (by simp at h6; omega)
                have hv : nmv (decide (m < 0), digs m.natAbs, x) = m := by unfold nmv; rw [val_digs]; exact sg_dzM m
                rw [hv] at hq
                exact right_go A c b o k m x F O W Q D ps w h hl r1 hT hb hp hsm h0 h1 h2 h3 h4 h5 h6 hq
end Go.Proofs.YtdmfapgclppmhaaGreatDoor
end

section
namespace Go.Proofs.YtdmfapgclppmhaaGreatDoor
open Go.RowKit
set_option linter.unusedSimpArgs false
set_option linter.unusedVariables false
set_option maxHeartbeats 4000000 in
set_option maxRecDepth 100000 in
theorem dbytes_no (A : Option Addr) (c : Nat) (m x : Int) (w : World) (h : Dg w A c (digs m.natAbs)) (hl : (digs m.natAbs).length ≤ 400) (r1 : Rt m x) (hq : inR m x = false):
    Calls Tryz.prog 31 #[.agg #[.bool (decide (m < 0)), .slice A (digs m.natAbs).length c, .int .i64 x]] w fun e w' => e = .returned (.tuple #[.string ⟨#[]⟩, .int .i64 4]) ∧ Below w.heap.size w w' := by
  have HR1 := Lib.hid r1
  have lx := Lib.hid hl
  have HQ := Lib.hid hq
  have x0 := r1.2.1
  have x1 := r1.2.2
  obtain ⟨t1, ht1⟩ : ∃ t : ByteArray, t.data.toList = zb m := ⟨⟨(zb m).toArray⟩, rfl⟩
  obtain ⟨t2, ht2⟩ : ∃ t : ByteArray, t.data.toList = zb x := ⟨⟨(zb x).toArray⟩, rfl⟩
  have ZM := Lib.hid (fun W A c hW => zby_yes (A := A) (c := c) hl ht1 W hW)
  have lx2 : (digs x.natAbs).length ≤ 2 := digs_small (by omega)
  have ZX := Lib.hid (fun W A c hW => zby_yes (A := A) (c := c) (Nat.le_trans lx2 (by omega)) ht2 W hW)
  have FX := Lib.hid (fun W => zfrom_any x W (by omega) (by omega))
  have L0 := Lib.hid ((live_start w).add h)
  clear h hl r1 hq ht1 ht2 lx2 x0 x1
  go_enter Tryz.func31, Tryz.ntmps31
  go_wp2_with fail
  obtain ⟨v1, hW, hb, Rx_1, Rsl_1⟩ := new2 w (.cells #[.bool (decide (m < 0)), .slice A (digs m.natAbs).length c, .int .i64 x] 26) (.cells #[.bool (decide (m < 0)), .slice A (digs m.natAbs).length c, .int .i64 x] 26)
  rw [← hW]
  have L1 := ls L0 hb
  have Gx := gl0 L0.out
  have Gsl := gl1 L0.out
  have Nxsl : w.heap.size < w.heap.size + 1 := by omega
  clear hW hb
  refine (begin_1 Rsl_1.out (L1.out.get (A := A) (c := c) (xs := digs m.natAbs) (by simp)) (dyR_num HR1.out) (Nat.le_trans lx.out (by omega)) (k := 0) rfl).mono ?_
  rintro e w2 ⟨rfl, hb⟩
  have L2 := ls L1 hb
  have Rx_2 := co Rx_1 hb
  have Rsl_2 := co Rsl_1 hb
  clear hb 
  obtain ⟨fx0, zx0, fx1, zx1, fx2, zx2, xx⟩ := ly3 Rx_2.out
  go_wp2_with fail
  obtain ⟨w3, hW, hb, Rk_3⟩ := new1 w2 (.cells #[.int .i64 0] 103)
  rw [← hW]
  have L3 := ls L2 hb
  have Rx_3 := co Rx_2 hb
  have Rsl_3 := co Rsl_2 hb
  have Gk := gl0 L2.out
  have Nxk := nl0 Rx_2.out
  have Nslk := nl0 Rsl_2.out
  clear hW hb
  clear fx0 zx0 fx1 zx1 fx2 zx2 xx
  refine (inRange_any A c (decide (m < 0)) m x _ (L3.out.get (A := A) (c := c) (xs := digs m.natAbs) (by simp)) false HQ.out (Nat.le_trans lx.out (by omega))).mono ?_
  rintro e w4 ⟨rfl, hb⟩
  have L4 := ls L3 hb
  have Rx_4 := co Rx_3 hb
  have Rsl_4 := co Rsl_3 hb
  have Rk_4 := co Rk_3 hb
  clear hb 
  go_wp2_with fail
  refine (tell_yes _ 4 _ (row_c Rk_4.out (i := 0) rfl) (frozen_of_row _ _ 0 _ _ Rk_4.out)).mono ?_
  rintro e w5 ⟨rfl, rfl⟩
  obtain ⟨w6, hW⟩ : ∃ W : World, W = (w4.setCell ⟨w2.heap.size, 0, none⟩ (.int .i64 4)) := ⟨_, rfl⟩
  rw [← hW]
  have hO : Only (w2.heap.size) w4 w6 := by rw [hW]; exact ((Only.refl (w2.heap.size) w4).setCell 0 _)
  have L6 := Lib.hid (live_only L4.out hO Rk_4.out noint_re Gk)
  have Rx_6 := Lib.hid ((hO.block _ (by omega)).trans Rx_4.out)
  have Rsl_6 := Lib.hid ((hO.block _ (by omega)).trans Rsl_4.out)
  have Rk_6 := Lib.hid (show w6.heap[w2.heap.size]? = some (.cells #[.int .i64 4] 103 (0, 0)) by rw [hW]; exact (heap_setCell_same _ _ 0 _ _ _ Rk_4.out))
  clear hW hO
  obtain ⟨fx0, zx0, fx1, zx1, fx2, zx2, xx⟩ := ly3 Rx_6.out
  go_wp2_with fail
  refine (ZM.out _ _ _ (L6.out.get (A := A) (c := c) (xs := digs m.natAbs) (by simp))).mono ?_
  rintro e w7 ⟨rfl, hb⟩
  have L7 := ls L6 hb
  clear fx0 zx0 fx1 zx1 fx2 zx2 xx
  have Rx_7 := co Rx_6 hb
  have Rsl_7 := co Rsl_6 hb
  have Rk_7 := co Rk_6 hb
  clear hb 
  go_wp2_with fail
  refine (tell_no _ 4 0 false _ (row_c Rk_7.out (i := 0) rfl) (.inl rfl)).mono ?_
  rintro e w8 ⟨rfl, rfl⟩
  obtain ⟨fx0, zx0, fx1, zx1, fx2, zx2, xx⟩ := ly3 Rx_7.out
  go_wp2_with fail
  refine (FX.out _).mono ?_
  rintro e w9 ⟨A9, c9, rfl, hd, hb⟩
  have L9 := la L7 hb hd
  clear fx0 zx0 fx1 zx1 fx2 zx2 xx
  have Rx_9 := co Rx_7 hb
  have Rsl_9 := co Rsl_7 hb
  have Rk_9 := co Rk_7 hb
  clear hb hd
  go_wp2_with fail
  refine (ZX.out _ _ _ (L9.out.get (A := A9) (c := c9) (xs := digs x.natAbs) (by simp))).mono ?_
  rintro e w10 ⟨rfl, hb⟩
  have L10 := ls L9 hb
  have Rx_10 := co Rx_9 hb
  have Rsl_10 := co Rsl_9 hb
  have Rk_10 := co Rk_9 hb
  clear hb 
  go_wp2_with fail
  refine (tell_no _ 4 0 false _ (row_c Rk_10.out (i := 0) rfl) (.inl rfl)).mono ?_
  rintro e w11 ⟨rfl, rfl⟩
  go_wp2_with fail
  refine (fails_any _ 4 true _ (row_c Rk_10.out (i := 0) rfl) rfl).mono ?_
  rintro e w12 ⟨rfl, rfl⟩
  obtain ⟨fk0, zk0, xk⟩ := ly1 Rk_10.out
  go_wp2_with fail
  go_region
  go_wp2
  go_ret2
  exact ⟨rfl, below_drew L10.out.1⟩

/-- What a call leaves that may turn box g and rows of bytes from base on, and nothing else. -/
def Gq (base g : Nat) (w w' : World) : Prop :=
  (w'.os = w.os ∧ w'.tape = w.tape ∧ w'.output = w.output ∧ w.heap.size ≤ w'.heap.size) ∧ ∀ k, k < w.heap.size → k ≠ g → (k < base ∨ ∀ cs fr, w.heap[k]? ≠ some (.cells cs 5 fr)) → w'.heap[k]? = w.heap[k]?
theorem Gq.refl (base g : Nat) (w : World) : Gq base g w w := ⟨⟨rfl, rfl, rfl, Nat.le_refl _⟩, fun _ _ _ _ => rfl⟩
theorem Gq.trans {base g : Nat} {a b c : World} (h : Gq base g a b) (k : Gq base g b c) : Gq base g a c := by
  refine ⟨⟨k.1.1.trans h.1.1, k.1.2.1.trans h.1.2.1, k.1.2.2.1.trans h.1.2.2.1, Nat.le_trans h.1.2.2.2 k.1.2.2.2⟩, fun i hi hg hb => ?_⟩
  have e := h.2 i hi hg hb
  exact (k.2 i (Nat.lt_of_lt_of_le hi h.1.2.2.2) hg (hb.imp id (fun f cs fr x => f cs fr (e ▸ x)))).trans e
theorem Gq.below {base g : Nat} {a b : World} (h : Below a.heap.size a b) : Gq base g a b := ⟨⟨h.os, h.tape, h.output, h.size⟩, fun i hi _ _ => h.block i hi⟩
theorem Gq.only {base g : Nat} {a b : World} (h : Only g a b) : Gq base g a b := ⟨⟨h.os, h.tape, h.output, Nat.le_of_eq h.size.symm⟩, fun i _ hg _ => h.block i hg⟩
theorem own_at {w : World} {base n : Nat} {v : Value} {xs : List Value} (h : w.ownsRow base 5 1 v n xs) {k : Nat} (hk : v.ownBlock = some k) : base ≤ k ∧ ∃ cs fr, w.heap[k]? = some (.cells cs 5 fr) := by
  rcases h.2 with ⟨rfl, _⟩ | ⟨g, cap, cur, rfl, hb, hg, _⟩
  · cases hk
  · obtain rfl : g = k := by simpa [Value.ownBlock] using hk
    exact ⟨hb, cur, _, hg⟩
theorem Gq.grown {base g n : Nat} {a b : World} {v : Value} {xs : List Value} (h : a.grownBy b v.ownBlock) (ho : a.ownsRow base 5 1 v n xs) : Gq base g a b :=
  ⟨⟨h.os, h.tape, h.output, h.size⟩, fun i hi _ hb => h.block i hi (fun e => by
    obtain ⟨h1, cs, fr, h2⟩ := own_at ho e.symm
    rcases hb with hb | hb
    · omega
    · exact hb cs fr h2)⟩
theorem Gq.row {base g : Nat} {a b : World} (h : Gq base g a b) {k : Nat} {cs : Array Value} {T : TypeId} {fr : Nat × Nat} (hr : a.heap[k]? = some (.cells cs T fr)) (hk : k ≠ g) (hT : T ≠ 5) : b.heap[k]? = some (.cells cs T fr) :=
  (h.2 k (heap_lt hr) hk (.inr (fun cs' fr' e => by rw [hr] at e; exact hT (by injection e with e; injection e)))).trans hr
theorem Gq.base {base g N : Nat} {W a b : World} (h : Gq base g a b) (hB : Below N W a) (hN : N ≤ a.heap.size) (hg : N ≤ g) (hb : N ≤ base) : Below N W b :=
  ⟨h.1.1.trans hB.os, h.1.2.1.trans hB.tape, h.1.2.2.1.trans hB.output, Nat.le_trans hB.size h.1.2.2.2, fun i hi => (h.2 i (by omega) (by omega) (.inl (by omega))).trans (hB.block i hi)⟩
theorem str_size (l : List UInt8) : (⟨l.toArray⟩ : ByteArray).size = l.length := rfl
theorem str_bytes (l : List UInt8) : Lib.strCells ⟨l.toArray⟩ = Lib.byteCells l := by unfold Lib.strCells Lib.byteCells; simp
theorem byte_cell1 (X : Int) : Lib.byteCells [UInt8.ofNat (X % 256).toNat] = [.int .u8 (X % 256)] := by
  have h0 : 0 ≤ X % 256 := Int.emod_nonneg _ (by decide)
  have h1 : X % 256 < 256 := Int.emod_lt_of_pos _ (by decide)
  unfold Lib.byteCells
  simp
  omega
def by8 (n : Int) : UInt8 := UInt8.ofNat (n % 256).toNat
theorem one_new {w : World} {a : Value} {T : TypeId} {j : Nat} {u : Value} (hj : [a][j]? = some u) : (w.alloc (.cells #[a] T)).cell? ((⟨w.heap.size, 0, none⟩ : Addr).add j) = some u := by
  rw [Addr.add_lit, Nat.zero_add, cell_of_row _ _ _ _ _ _ (heap_alloc_new w _)]
  simpa using hj
/-- What has been written, and the first error, in a box. -/
def PB (w : World) (base g : Nat) (v : Value) (L : List UInt8) (E : Int) : Prop :=
  w.heap[g]? = some (.cells #[v, .int .i64 E] 52 (0, 0)) ∧ w.ownsRow base 5 1 v L.length (Lib.byteCells L) ∧ base ≤ g
theorem own_keep {w w' : World} {base n : Nat} {v : Value} {xs : List Value} (h : w.ownsRow base 5 1 v n xs) (hk : ∀ k, v.ownBlock = some k → w'.heap[k]? = w.heap[k]?) : w'.ownsRow base 5 1 v n xs := by
  refine ⟨h.1, ?_⟩
  rcases h.2 with h1 | ⟨g, cap, cur, rfl, hb, hg, hr⟩
  · exact .inl h1
  · exact .inr ⟨g, cap, cur, rfl, hb, (hk g rfl).trans hg, hr⟩
theorem PB.below {w w' : World} {base g : Nat} {v : Value} {L : List UInt8} {E : Int} (h : PB w base g v L E) (hb : Below w.heap.size w w') : PB w' base g v L E :=
  ⟨cells_of h.1 hb, own_keep h.2.1 (fun k hk => by obtain ⟨_, cs, fr, e⟩ := own_at h.2.1 hk; exact hb.block k (heap_lt e)), h.2.2⟩
theorem PB.ne {w : World} {base g : Nat} {v : Value} {L : List UInt8} {E : Int} (h : PB w base g v L E) : v.ownBlock ≠ some g := fun e => by
  obtain ⟨_, cs, fr, e2⟩ := own_at h.2.1 e
  rw [h.1] at e2
  injection e2 with e2; injection e2 with e3 e4 e5
  exact absurd e4 (by decide)
theorem wpList_append_sq {w : World} {ops : Array Oper} {rest : List Oper} {o : Oper} {a : Act} {Q : Exit → Act → World → Prop} (hgd : o.guard = none) (s x : Operand)
    (ho : o.op = .call { callee := .builtin .append, args := #[s, x], argTypes := #[50, 9] }) (base : Nat) (v : Value) (n : Nat) (zs ys : List UInt8)
    (hs : a.eval s = v) (hown : w.ownsRow base 5 1 v n (Lib.byteCells zs)) (t : ByteArray) (ht : t.data.toList = ys) (hx : a.eval x = .string t) (hb : n + ys.length ≤ 400000000) (hbase : base ≤ w.heap.size)
    (h : ∀ v' w', w'.ownsRow base 5 1 v' (n + ys.length) (Lib.byteCells (zs ++ ys)) → w.grownBy w' v.ownBlock → wpList Tryz.prog ops Q rest (a.put o.dst v') w') : wpList Tryz.prog ops Q (o :: rest) a w := by
  obtain ⟨i0, hi, hz0, hz1, hz2⟩ := info_parts elem8_info
  obtain rfl : t = ⟨ys.toArray⟩ := by apply ByteArray.ext; apply Array.toList_inj.1; rw [ht]
  refine Lib.wpList_append_own_string _ hgd s x _ _ ho base _ i0 Tryz.underlying50 Tryz.underlying9 hi hz0 hz1 hz2 v n _ hs hown ⟨ys.toArray⟩ hx (by rw [str_size]; unfold maxLen; omega) (by rw [str_size]; omega) hbase fun v' w' h1 h2 _ => ?_
  rw [str_size, str_bytes, ← byteCells_add] at h1
  exact h v' w' h1 h2
theorem own_form {w : World} {base n : Nat} {v : Value} {xs : List Value} (h : w.ownsRow base 5 1 v n xs) : ∃ A m c, v = .slice A m c := by
  rcases h.2 with ⟨rfl, _⟩ | ⟨g, cap, cur, rfl, _⟩
  · exact ⟨_, _, _, rfl⟩
  · exact ⟨_, _, _, rfl⟩
theorem PB.put {w w1 w2 : World} {base g : Nat} {v v1 : Value} {L L1 : List UInt8} {E : Int} (h : PB w base g v L E) (hown : w1.ownsRow base 5 1 v1 L1.length (Lib.byteCells L1)) (hg : w.grownBy w1 v.ownBlock) (e : w1.setCell ⟨g, 0, none⟩ v1 = w2) : PB w2 base g v1 L1 E ∧ Gq base g w w2 := by
  subst e
  have hr : w1.heap[g]? = some (.cells #[v, .int .i64 E] 52 (0, 0)) := (hg.block g (heap_lt h.1) (fun e => h.ne e.symm)).trans h.1
  refine ⟨⟨heap_setCell_same _ _ 0 _ _ _ hr, own_keep hown (fun k hk => ?_), h.2.2⟩, (Gq.grown hg h.2.1).trans (Gq.only ((Only.refl g w1).setCell 0 _))⟩
  refine ((Only.refl g w1).setCell 0 v1).block k (fun e => ?_)
  subst e
  obtain ⟨_, cs, fr, e2⟩ := own_at hown hk
  rw [hr] at e2
  injection e2 with e2; injection e2 with e3 e4 e5
  exact absurd e4 (by decide)
set_option maxHeartbeats 4000000 in
set_option maxRecDepth 100000 in
theorem psmall_any (base g b o c : Nat) (v : Value) (L : List UInt8) (E : Int) (ns : List Int) (w : World) (hp : PB w base g v L E) (cs : Array Value) (T : TypeId) (hrow : w.heap[b]? = some (.cells cs T (0, 0))) (hT : T ≠ 5) (hbg : b ≠ g) (hcs : ∀ i x, ns[i]? = some x → w.cell? ⟨b, o + i, none⟩ = some (.int .i64 x)) (hbase : base ≤ w.heap.size) (hl : L.length + ns.length ≤ 100000000) :
    Calls Tryz.prog 16 #[.pointer (some ⟨g, 0, none⟩), .slice (some ⟨b, o, none⟩) ns.length c] w fun e w' => ∃ v', e = .returned (.tuple #[]) ∧ PB w' base g v' (L ++ ns.map by8) E ∧ Gq base g w w' := by
  obtain ⟨i0, hi, hz0, hz1, hz2⟩ := info_parts elem8_info
  have HP := Lib.hid hp
  have HR := Lib.hid hrow
  have HC := Lib.hid hcs
  have HTT := Lib.hid (And.intro hT hbg)
  have hlen : ns.length ≤ 100000000 := by omega
  clear hp hrow hcs hT hbg
  go_enter Tryz.func16, Tryz.ntmps16
  go_wp2
  go_loopw [8] (fun i wr => ∃ (k : Nat) (v1 : Value), k ≤ ns.length ∧ i = .int .i64 k ∧ Hid (PB wr base g v1 (L ++ (ns.take k).map by8) E) ∧ Hid (Gq base g w wr)) (fun i _ => ns.length - (intOf i).toNat)
  case atStart => exact ⟨0, v, Nat.zero_le _, rfl, Lib.hid (by simpa using HP.out), Lib.hid (Gq.refl _ _ _)⟩
  case round =>
    obtain ⟨k, v1, hk, rfl, HP1, HG⟩ := hrel
    by_cases hlt : k < ns.length
    · obtain ⟨x, hx⟩ : ∃ x, ns[k]? = some x := ⟨_, List.getElem?_eq_getElem hlt⟩
      have HX := Lib.hid hx
      have hcell : wr.cell? ⟨b, o + k, none⟩ = some (.int .i64 x) := by
        rw [World.cell?_of_block (a := ⟨b, o + k, none⟩) ((HG.out.row HR.out HTT.out.2 HTT.out.1).trans HR.out.symm)]
        exact HC.out k x hx
      have f0 := row_c (i := 0) HP1.out.1 rfl
      have z0 := frozen_of_row _ _ 0 _ _ HP1.out.1
      have xg := heap_lt HP1.out.1
      have bz : base ≤ wr.heap.size := Nat.le_trans hbase HG.out.1.2.2.2
      have ln : (L ++ (ns.take k).map by8).length = L.length + k := by simp; omega
      have HLN := Lib.hid ln
      obtain ⟨M, hM⟩ : ∃ M, L ++ (ns.take k).map by8 = M := ⟨_, rfl⟩
      have HM := Lib.hid hM
      rw [hM] at HP1 HLN
      clear hx ln hM
      go_wp2_with (at_builtin; refine wpList_append_own _ rfl _ _ 50 rfl base 5 i0 (.int .u8 0) 1 1 Tryz.underlying50 hi hz0 hz1 hz2 rfl (by decide) _ _ _ rfl (HP1.out.2.1.alloc _) ⟨wr.heap.size, 0, none⟩ 1 1 [.int .u8 (x % 256)] rfl rfl (fun j u hj => one_new hj) (by intro u hu; simp at hu; subst hu; rfl) (by rw [HLN.out]; unfold maxLen; omega) (by rw [HLN.out]; omega) (by simp; omega) ?_)
      intro v2 w1 hown1 hgrow hnil
      clear hnil
      have HA := Lib.hid (HP1.out.below (below1 wr (.cells #[.int .u8 (x % 256)] 5)))
      have NO := Lib.hid (show w1.ownsRow base 5 1 v2 (M ++ [by8 x]).length (Lib.byteCells (M ++ [by8 x])) by
        rw [byteCells_add]; unfold by8; rw [byte_cell1, List.length_append]; exact hown1)
      have HGR := Lib.hid hgrow
      have r1 : w1.heap[g]? = some (.cells #[v1, .int .i64 E] 52 (0, 0)) := (hgrow.block g (heap_lt HA.out.1) (fun e => HA.out.ne e.symm)).trans HA.out.1
      have z1 := frozen_of_row _ _ 0 _ _ r1
      have f1 := row_c (i := 0) r1 rfl
      have x1 := heap_lt r1
      clear hown1 hgrow f0 z0 xg hcell r1
      obtain ⟨A2, n2, c2, rfl⟩ := own_form NO.out
      go_wp2_with fail
      obtain ⟨w2, hw2⟩ : ∃ W, W = w1.setCell ⟨g, 0, none⟩ (.slice A2 n2 c2) := ⟨_, rfl⟩
      rw [← hw2]
      have PP := Lib.hid (HA.out.put NO.out HGR.out hw2.symm)
      have HX2 := Lib.hid (show M ++ [by8 x] = L ++ (ns.take (k + 1)).map by8 by rw [← HM.out, List.take_add_one, HX.out]; simp)
      clear hw2 f1 z1 x1
      go_roundw
      case rel =>
        refine ⟨k + 1, .slice A2 n2 c2, hlt, by go_num, Lib.hid ?_, Lib.hid ((HG.out.trans (Gq.below (below1 _ _))).trans PP.out.2)⟩
        rw [← HX2.out]; exact PP.out.1
      case measure => simp [intOf]; omega
    · obtain rfl : k = ns.length := by omega
      go_wp2
      go_end0
      exact ⟨v1, rfl, by have := HP1.out; rwa [List.take_length] at this, HG.out⟩
end Go.Proofs.YtdmfapgclppmhaaGreatDoor
end

section
namespace Go.Proofs.YtdmfapgclppmhaaGreatDoor
open Go.RowKit
set_option linter.unusedSimpArgs false
set_option linter.unusedVariables false
/-- Is a right number in range? Its bytes; its error. -/
def dyIn (v : Nm) : Bool := inR (nmv v) v.2.2
def nbB (v : Nm) : List UInt8 := zb (nmv v) ++ zb v.2.2
def bytT (v : Nm) : List UInt8 := if dyIn v then nbB v else []
def errT (v : Nm) : Int := if dyIn v then 0 else 4
def stp (s : List UInt8 × Int) (v : Nm) : List UInt8 × Int := (s.1 ++ bytT v, if s.2 = 0 then errT v else s.2)
theorem dbytes_any {v : Nm} (hk : ok32 v.2.1) (hl : v.2.1.length ≤ 400) (hr : dyR v.1 v.2.1 v.2.2 = true) : ∃ t : ByteArray, t.data.toList = bytT v ∧ ∀ (A : Option Addr) (c : Nat) (w : World), Dg w A c v.2.1 →
    Calls Tryz.prog 31 #[.agg #[.bool v.1, .slice A v.2.1.length c, .int .i64 v.2.2]] w fun e w' => e = .returned (.tuple #[.string t, .int .i64 (errT v)]) ∧ Below w.heap.size w w' := by
  obtain ⟨s, xs, x⟩ := v
  dsimp only at *
  obtain ⟨m, rfl, rfl, r1⟩ := num_of hk hr
  have hv : nmv (decide (m < 0), digs m.natAbs, x) = m := by unfold nmv; rw [val_digs]; exact sg_dzM m
  unfold bytT errT dyIn nbB
  rw [hv]
  dsimp only
  cases hi : inR m x
  · exact ⟨⟨#[]⟩, rfl, fun A c w h => dbytes_no A c m x w h hl r1 hi⟩
  · exact ⟨⟨(zb m ++ zb x).toArray⟩, rfl, fun A c w h => dbytes_yes A c m x _ w h hl r1 hi rfl⟩
/-- A slice holds these numbers, cell by cell. -/
def RowQ (w : World) (P : Option Addr) (cs : List Nm) : Prop := ∀ (i : Nat) (v : Nm), cs[i]? = some v → ∃ b o A c, P = some ⟨b, o, none⟩ ∧ w.cell? ⟨b, o + i * 3, none⟩ = some (.bool v.1) ∧ w.cell? ⟨b, o + i * 3 + 1, none⟩ = some (.slice A v.2.1.length c) ∧ w.cell? ⟨b, o + i * 3 + 2, none⟩ = some (.int .i64 v.2.2) ∧ Dg w A c v.2.1
theorem PB.err {w w2 : World} {base g : Nat} {v : Value} {L : List UInt8} {E E2 : Int} (h : PB w base g v L E) (e : w.setCell ⟨g, 1, none⟩ (.int .i64 E2) = w2) : PB w2 base g v L E2 ∧ Gq base g w w2 := by
  subst e
  refine ⟨⟨heap_setCell_same _ _ 1 _ _ _ h.1, own_keep h.2.1 (fun k hk => ?_), h.2.2⟩, Gq.only ((Only.refl g w).setCell 1 _)⟩
  exact ((Only.refl g w).setCell 1 (.int .i64 E2)).block k (fun e => by subst e; exact h.ne hk)
theorem stp_len (cs : List Nm) (h : ∀ v, v ∈ cs → ok32 v.2.1 ∧ v.2.1.length ≤ 400 ∧ -131072 ≤ v.2.2 ∧ v.2.2 ≤ 131072) : ∀ s : List UInt8 × Int, (cs.foldl stp s).1.length ≤ s.1.length + 2000 * cs.length := by
  induction cs with
  | nil => intro s; simp
  | cons v cs ih =>
    intro s
    have h1 := ih (fun u hu => h u (List.mem_cons_of_mem _ hu)) (stp s v)
    have h2 : (stp s v).1.length ≤ s.1.length + 2000 := by
      obtain ⟨hk, hl, e0, e1⟩ := h v (List.mem_cons_self ..)
      unfold stp bytT nbB
      dsimp only
      split
      · rw [List.length_append, List.length_append]
        have l1 := zbytes_len (decide (nmv v < 0)) (digs (nmv v).natAbs)
        have l2 := zbytes_len (decide (v.2.2 < 0)) (digs v.2.2.natAbs)
        have l3 : (digs v.2.2.natAbs).length ≤ 2 := digs_small (by omega)
        have l4 : (digs (nmv v).natAbs).length ≤ 400 := by
          have : (nmv v).natAbs = val v.2.1 := by unfold nmv sg; split <;> omega
          rw [this]; exact Nat.le_trans (digs_len_le hk) hl
        unfold zb; omega
      · simp
    rw [List.foldl_cons, List.length_cons]
    omega
set_option maxHeartbeats 4000000 in
set_option maxRecDepth 100000 in
theorem pnumbers_any (g c : Nat) (P : Option Addr) (v : Value) (L : List UInt8) (E : Int) (cs : List Nm) (W0 w : World) (hp : PB w W0.heap.size g v L E) (hB : Below W0.heap.size W0 w) (hcs : ∀ w', Gq W0.heap.size g w w' → RowQ w' P cs) (hR : ∀ v, v ∈ cs → dyR v.1 v.2.1 v.2.2 = true ∧ ok32 v.2.1 ∧ v.2.1.length ≤ 400 ∧ -131072 ≤ v.2.2 ∧ v.2.2 ≤ 131072) (hl : L.length + 2000 * cs.length ≤ 100000000) :
    Calls Tryz.prog 17 #[.pointer (some ⟨g, 0, none⟩), .slice P cs.length c] w fun e w' => ∃ v', e = .returned (.tuple #[]) ∧ PB w' W0.heap.size g v' (cs.foldl stp (L, E)).1 (cs.foldl stp (L, E)).2 ∧ Gq W0.heap.size g w w' := by
  have HP := Lib.hid hp
  have HC := Lib.hid hcs
  have HRR := Lib.hid hR
  have HL := Lib.hid hl
  have hlen : cs.length ≤ 100000000 := by omega
  clear hp hcs hR hl hB
  go_enter Tryz.func17, Tryz.ntmps17
  go_wp2
  go_loopw [10] (fun i wr => ∃ (k : Nat) (v1 : Value) (L1 : List UInt8) (E1 : Int), k ≤ cs.length ∧ i = .int .i64 k ∧ Hid ((cs.take k).foldl stp (L, E) = (L1, E1)) ∧ Hid (PB wr W0.heap.size g v1 L1 E1) ∧ Hid (Gq W0.heap.size g w wr)) (fun i _ => cs.length - (intOf i).toNat)
  case atStart => exact ⟨0, v, L, E, Nat.zero_le _, rfl, Lib.hid rfl, HP, Lib.hid (Gq.refl _ _ _)⟩
  case round =>
    obtain ⟨k, v1, L1, E1, hk, rfl, HF, HP1, HG⟩ := hrel
    by_cases hlt : k < cs.length
    · obtain ⟨x, hx⟩ : ∃ x, cs[k]? = some x := ⟨_, List.getElem?_eq_getElem hlt⟩
      obtain ⟨b, o, A, d, rfl, c0, c1, c2, hd⟩ := HC.out wr HG.out k x hx
      have HX := Lib.hid (show (cs.take (k + 1)).foldl stp (L, E) = stp (L1, E1) x by rw [List.take_add_one, hx, List.foldl_append, HF.out]; rfl)
      have RX := Lib.hid (HRR.out x (List.mem_of_getElem? hx))
      have HDG := Lib.hid hd
      have LL := Lib.hid (show L1.length ≤ 100000000 - 2000 by
        have := stp_len (cs.take k) (fun u hu => (HRR.out u (List.mem_of_mem_take hu)).2) (L, E)
        rw [HF.out, List.length_take] at this
        have := HL.out
        dsimp only at *
        omega)
      obtain ⟨t, ht, hT⟩ := dbytes_any RX.out.2.1 RX.out.2.2.1 RX.out.1
      have HT := Lib.hid hT
      have HTL := Lib.hid ht
      have LT := Lib.hid (show (bytT x).length ≤ 2000 by
        have := stp_len [x] (fun u hu => by rw [List.mem_singleton] at hu; subst hu; exact RX.out.2) ([], 0)
        simpa [stp] using this)
      have xb := cell_lt c0
      clear hx hd hT ht
      obtain ⟨s, xs, y⟩ := x
      obtain ⟨E2, hE2⟩ : ∃ z, errT (s, xs, y) = z := ⟨_, rfl⟩
      have HE2 := Lib.hid hE2
      rw [hE2] at HT
      clear hE2
      dsimp only at *
      go_wp2_with fail
      clear c0 c1 c2
      obtain ⟨wa, hW⟩ : ∃ W : World, W = wr.alloc (.cells #[.bool s, .slice A xs.length d, .int .i64 y] 26) := ⟨_, rfl⟩
      rw [← hW]
      have hb : Below wr.heap.size wr wa := by rw [hW]; exact below1 _ _
      have PA := Lib.hid (HP1.out.below hb)
      have GA := Lib.hid (HG.out.trans (Gq.below hb))
      have DA := Lib.hid (HDG.out.below hb)
      clear hW hb
      refine (HT.out A d wa DA.out).mono ?_
      rintro e w2 ⟨rfl, hb⟩
      have P2 := Lib.hid (PA.out.below hb)
      have G2 := Lib.hid (GA.out.trans (Gq.below hb))
      clear hb
      have f0 := row_c (i := 0) P2.out.1 rfl
      have z0 := frozen_of_row _ _ 0 _ _ P2.out.1
      have f1 := row_c (i := 1) P2.out.1 rfl
      have z1 := frozen_of_row _ _ 1 _ _ P2.out.1
      have xg := heap_lt P2.out.1
      have bz : W0.heap.size ≤ w2.heap.size := Nat.le_trans P2.out.2.2 (Nat.le_of_lt xg)
      by_cases he : E1 = 0
      · subst he
        go_upto_region 6 with fail
        obtain ⟨w3, hw3⟩ : ∃ W, W = w2.setCell ⟨g, 1, none⟩ (.int .i64 E2) := ⟨_, rfl⟩
        rw [← hw3]
        have P3 := Lib.hid (P2.out.err hw3.symm).1
        have G3 := Lib.hid (G2.out.trans (P2.out.err hw3.symm).2)
        clear hw3 f0 z0 f1 z1 xg bz
        have HXS := Lib.hid (show stp (L1, 0) (s, xs, y) = (L1 ++ bytT (s, xs, y), E2) by unfold stp; dsimp only; rw [if_pos rfl, HE2.out])
        have f0 := row_c (i := 0) P3.out.1 rfl
        have z0 := frozen_of_row _ _ 0 _ _ P3.out.1
        have xg := heap_lt P3.out.1
        have bz : W0.heap.size ≤ w3.heap.size := Nat.le_trans P3.out.2.2 (Nat.le_of_lt xg)
        go_wp2_with (at_builtin; refine wpList_append_sq rfl _ _ rfl W0.heap.size _ _ L1 (bytT (s, xs, y)) rfl P3.out.2.1 t HTL.out rfl (by have := LL.out; have := LT.out; omega) bz ?_)
        intro v4 w4 hown1 hgrow
        obtain ⟨A4, n4, c4, rfl⟩ := own_form hown1
        have NO := Lib.hid (show w4.ownsRow W0.heap.size 5 1 (.slice A4 n4 c4) (L1 ++ bytT (s, xs, y)).length (Lib.byteCells (L1 ++ bytT (s, xs, y))) by rw [List.length_append]; exact hown1)
        have HGR := Lib.hid hgrow
        have r4 : w4.heap[g]? = some (.cells #[v1, .int .i64 (E2)] 52 (0, 0)) := (hgrow.block g (heap_lt P3.out.1) (fun e => P3.out.ne e.symm)).trans P3.out.1
        have z4 := frozen_of_row _ _ 0 _ _ r4
        have f4 := row_c (i := 0) r4 rfl
        have x4 := heap_lt r4
        clear hown1 hgrow r4 f0 z0 xg
        go_wp2_with fail
        obtain ⟨w5, hw5⟩ : ∃ W, W = w4.setCell ⟨g, 0, none⟩ (.slice A4 n4 c4) := ⟨_, rfl⟩
        rw [← hw5]
        have PP := Lib.hid (P3.out.put NO.out HGR.out hw5.symm)
        clear hw5 f4 z4 x4
        go_roundw
        case rel => exact ⟨k + 1, .slice A4 n4 c4, L1 ++ bytT (s, xs, y), E2, hlt, by go_num, Lib.hid (by rw [HX.out]; exact HXS.out), Lib.hid PP.out.1, Lib.hid (G3.out.trans PP.out.2)⟩
        case measure => simp [intOf]; omega
      · have hz : (E1 == 0) = false := beq_eq_false_iff_ne.2 he
        have HEE := Lib.hid he
        go_upto_region 6 with fail
        obtain ⟨w3, hw3⟩ : ∃ W, W = w2 := ⟨_, rfl⟩
        clear f0 z0 f1 z1 xg bz hz he
        rw [← hw3] at P2 G2
        rw [← hw3]
        have P3 := P2
        have G3 := G2
        clear hw3
        have HXS := Lib.hid (show stp (L1, E1) (s, xs, y) = (L1 ++ bytT (s, xs, y), E1) by unfold stp; dsimp only; rw [if_neg HEE.out])
        have f0 := row_c (i := 0) P3.out.1 rfl
        have z0 := frozen_of_row _ _ 0 _ _ P3.out.1
        have xg := heap_lt P3.out.1
        have bz : W0.heap.size ≤ w3.heap.size := Nat.le_trans P3.out.2.2 (Nat.le_of_lt xg)
        go_wp2_with (at_builtin; refine wpList_append_sq rfl _ _ rfl W0.heap.size _ _ L1 (bytT (s, xs, y)) rfl P3.out.2.1 t HTL.out rfl (by have := LL.out; have := LT.out; omega) bz ?_)
        intro v4 w4 hown1 hgrow
        obtain ⟨A4, n4, c4, rfl⟩ := own_form hown1
        have NO := Lib.hid (show w4.ownsRow W0.heap.size 5 1 (.slice A4 n4 c4) (L1 ++ bytT (s, xs, y)).length (Lib.byteCells (L1 ++ bytT (s, xs, y))) by rw [List.length_append]; exact hown1)
        have HGR := Lib.hid hgrow
        have r4 : w4.heap[g]? = some (.cells #[v1, .int .i64 (E1)] 52 (0, 0)) := (hgrow.block g (heap_lt P3.out.1) (fun e => P3.out.ne e.symm)).trans P3.out.1
        have z4 := frozen_of_row _ _ 0 _ _ r4
        have f4 := row_c (i := 0) r4 rfl
        have x4 := heap_lt r4
        clear hown1 hgrow r4 f0 z0 xg
        go_wp2_with fail
        obtain ⟨w5, hw5⟩ : ∃ W, W = w4.setCell ⟨g, 0, none⟩ (.slice A4 n4 c4) := ⟨_, rfl⟩
        rw [← hw5]
        have PP := Lib.hid (P3.out.put NO.out HGR.out hw5.symm)
        clear hw5 f4 z4 x4
        go_roundw
        case rel => exact ⟨k + 1, .slice A4 n4 c4, L1 ++ bytT (s, xs, y), E1, hlt, by go_num, Lib.hid (by rw [HX.out]; exact HXS.out), Lib.hid PP.out.1, Lib.hid (G3.out.trans PP.out.2)⟩
        case measure => simp [intOf]; omega
    · obtain rfl : k = cs.length := by omega
      go_wp2
      go_end0
      have e := HF.out
      rw [List.take_length] at e
      exact ⟨v1, rfl, by rw [e]; exact HP1.out, HG.out⟩
end Go.Proofs.YtdmfapgclppmhaaGreatDoor
end

section
namespace Go.Proofs.YtdmfapgclppmhaaGreatDoor
open Go.RowKit
set_option linter.unusedSimpArgs false
set_option linter.unusedVariables false
theorem NsL.rowq {w : World} {P : Option Addr} {k : Nat} {cs : List Nm} (h : NsL w P k cs) : RowQ w P cs := by
  intro i v hv
  obtain ⟨A, C, hc, h⟩ := h
  have hi : i < cs.length := by
    rcases Nat.lt_or_ge i cs.length with h1 | h1
    · exact h1
    · rw [List.getElem?_eq_none_iff.2 h1] at hv; cases hv
  obtain ⟨b, o, rfl, hb, hr⟩ := h (by omega)
  have := hr i hi
  simp only [hv, Option.getD_some] at this
  exact ⟨b, o, A i, C i, rfl, this⟩
theorem rowq_one {w : World} {b : Nat} {s : Bool} {A : Option Addr} {c : Nat} {xs : List Nat} {x : Int} (h : w.heap[b]? = some (.cells #[.bool s, .slice A xs.length c, .int .i64 x] 26 (0, 0))) (hd : Dg w A c xs) : RowQ w (some ⟨b, 0, none⟩) [(s, xs, x)] := by
  intro i v hv
  rcases i with _ | i
  · simp at hv; subst hv
    exact ⟨b, 0, A, c, rfl, row_c (i := 0) h rfl, row_c (i := 1) h rfl, row_c (i := 2) h rfl, hd⟩
  · simp at hv
/-- What stands ahead. -/
def headB (F O W Q D n : Int) : List UInt8 := [84, F, O, Q, D, W + 128, n].map by8
def stpP (s : List UInt8 × Int) (p : Pd) : List UInt8 × Int := p.cs.foldl stp (stp (s.1 ++ [by8 (p.w + 128)], s.2) p.er)
def encS (F O : Int) (a : Nm) (W Q D : Int) (ps : List Pd) : List UInt8 × Int := ps.foldl stpP (stp (headB F O W Q D ps.length, 0) a)
/-- What is told of what was written: its bytes, the error. -/
def outB (s : List UInt8 × Int) : List UInt8 := if s.2 = 0 then s.1 else []
def outE (s : List UInt8 × Int) : Int := if s.2 = 0 then 0 else 1
theorem stp_ge (s : List UInt8 × Int) (v : Nm) : s.1.length ≤ (stp s v).1.length := by unfold stp; simp
theorem stps_ge (cs : List Nm) : ∀ s : List UInt8 × Int, s.1.length ≤ (cs.foldl stp s).1.length := by
  induction cs with
  | nil => intro s; simp
  | cons v cs ih => intro s; rw [List.foldl_cons]; exact Nat.le_trans (stp_ge s v) (ih _)
theorem stpPs_ge (ps : List Pd) : ∀ s : List UInt8 × Int, s.1.length ≤ (ps.foldl stpP s).1.length := by
  induction ps with
  | nil => intro s; simp
  | cons p ps ih =>
    intro s; rw [List.foldl_cons]
    refine Nat.le_trans ?_ (ih _)
    unfold stpP
    refine Nat.le_trans ?_ (stps_ge p.cs _)
    refine Nat.le_trans ?_ (stp_ge _ p.er)
    simp
theorem encS_pos (F O : Int) (a : Nm) (W Q D : Int) (ps : List Pd) : 0 < (encS F O a W Q D ps).1.length := by
  unfold encS
  refine Nat.lt_of_lt_of_le ?_ (stpPs_ge ps _)
  refine Nat.lt_of_lt_of_le ?_ (stp_ge _ a)
  unfold headB; simp
theorem own_conv {w : World} {base : Nat} {x : Value} {n : Nat} {l : List UInt8} (h : w.ownsRow base 5 1 x n (Lib.byteCells l)) (h0 : 0 < l.length) :
    (convert 50 9 x).run Tryz.prog w = .ok (.string ⟨l.toArray⟩) w := by
  have hl : l.length = n := by have := h.1; simpa [Lib.byteCells] using this
  obtain ⟨g, cap, hv, _, _⟩ := World.ownsRow.form h (by omega)
  subst hv
  rw [← hl]
  refine run_convert_bytes_back w 50 9 5 ⟨g, 0, none⟩ cap l Tryz.underlying50 Tryz.underlying5 Tryz.underlying9 (fun j hj => ?_)
  refine h.cells (g := g) rfl j _ ?_
  unfold Lib.byteCells
  rw [List.getElem?_map, List.getElem?_eq_getElem hj]
  rfl
theorem digs_bl (n : Nat) : (digs n).length ≤ blen n / 32 + 1 := Nat.le_trans (digs_len_mono _ _ (Nat.le_of_lt (blen_lt n))) (pow_digs_len _)
theorem rightL_all {D : Int} : ∀ {ps : List Pd} {q r : Int × Int}, rightL D ps q = some r → ∀ p, p ∈ ps → pieceB p D = true
  | [], _, _, _ => fun p hp => by simp at hp
  | a :: ps, q, r, h => fun p hp => by
    simp only [rightL] at h
    split at h
    · rename_i hc
      rw [Bool.and_eq_true] at hc
      rcases List.mem_cons.1 hp with rfl | hp
      · exact hc.1
      · exact rightL_all h p hp
    · cases h
theorem PsL.below {w w' : World} {P : Option Addr} {ps : List Pd} (h : PsL w P ps) (hB : Below w.heap.size w w') : PsL w' P ps := by
  intro h0
  obtain ⟨b, o, e, hb, hr⟩ := h h0
  refine ⟨b, o, e, Nat.lt_of_lt_of_le hb hB.size, fun i p hp => ?_⟩
  obtain ⟨A, c, B, d, P2, k, e0, e1, e2, e3, e4, e5, e6, e7, hd, he, hn⟩ := hr i p hp
  have ce : ∀ j, w'.cell? ⟨b, j, none⟩ = w.cell? ⟨b, j, none⟩ := fun j => hB.cell (p := ⟨b, j, none⟩) hb
  exact ⟨A, c, B, d, P2, k, (ce _).trans e0, (ce _).trans e1, (ce _).trans e2, (ce _).trans e3, (ce _).trans e4, (ce _).trans e5, (ce _).trans e6, (ce _).trans e7, hd.below hB, he.below hB, hn.below hB⟩
theorem rightN {v : Nm} (hk : ok32 v.2.1) (h : nmB v = true) : dyR v.1 v.2.1 v.2.2 = true ∧ ok32 v.2.1 ∧ v.2.1.length ≤ 400 ∧ -131072 ≤ v.2.2 ∧ v.2.2 ≤ 131072 := by
  obtain ⟨s, xs, x⟩ := v
  unfold nmB mayB at h
  rw [Bool.and_eq_true, decide_eq_true_eq] at h
  dsimp only at *
  refine ⟨h.1, hk, ?_, ?_⟩
  · have h1 := h.2
    obtain ⟨m, rfl, rfl, r1⟩ := num_of hk h.1
    have := digs_bl m.natAbs
    rw [val_digs] at h1
    omega
  · obtain ⟨m, rfl, rfl, r1⟩ := num_of hk h.1
    exact r1.2
theorem rightA {s : Bool} {xs : List Nat} {x : Int} (hk : ok32 xs) (h : plainB s xs x = true) : dyR s xs x = true ∧ ok32 xs ∧ xs.length ≤ 400 ∧ -131072 ≤ x ∧ x ≤ 131072 := by
  unfold plainB at h
  rw [Bool.and_eq_true] at h
  refine ⟨h.1, hk, ?_, ?_⟩
  · have h2 := h.2
    obtain ⟨m, rfl, rfl, r1⟩ := num_of hk h.1
    have h3 := digs_bl m.natAbs
    rw [val_digs] at h2
    rw [Bool.or_eq_true, decide_eq_true_eq, Bool.and_eq_true, decide_eq_true_eq, decide_eq_true_eq] at h2
    omega
  · obtain ⟨m, rfl, rfl, r1⟩ := num_of hk h.1
    exact r1.2
theorem psmall_new {base g c : Nat} {v : Value} {L : List UInt8} {E : Int} (ns : List Int) {n : Nat} (hn : n = ns.length) {w w4 : World} {cs : Array Value} (hcs : cs = (ns.map (Value.int .i64)).toArray) (hW : w.alloc (.cells cs 3) = w4) (hp : PB w base g v L E) (hl : L.length + ns.length ≤ 100000000) :
    Calls Tryz.prog 16 #[.pointer (some ⟨g, 0, none⟩), .slice (some ⟨w.heap.size, 0, none⟩) n c] w4 fun e w' => ∃ v', e = .returned (.tuple #[]) ∧ PB w' base g v' (L ++ ns.map by8) E ∧ Gq base g w w' := by
  subst hn
  have hb : Below w.heap.size w w4 := by rw [← hW]; exact below1 _ _
  have hr : w4.heap[w.heap.size]? = some (.cells cs 3 (0, 0)) := by rw [← hW]; exact heap_alloc_new _ _
  have hg := heap_lt hp.1
  refine (psmall_any base g w.heap.size 0 c v L E ns w4 (hp.below hb) cs _ hr (by decide) (by omega) (fun i x hx => ?_) (Nat.le_trans hp.2.2 (by have := hb.size; omega)) hl).mono ?_
  · refine row_c hr ?_
    rw [hcs, Nat.zero_add]
    simp [hx]
  · rintro e w' ⟨v', rfl, h1, h2⟩
    exact ⟨v', rfl, h1, (Gq.below hb).trans h2⟩
theorem pnum_one {g c' : Nat} {v : Value} {L : List UInt8} {E : Int} {A : Option Addr} {c : Nat} {s : Bool} {xs : List Nat} {x : Int} {W0 w w4 : World} (hp : PB w W0.heap.size g v L E) (hB : Below W0.heap.size W0 w) (hW : w.alloc (.cells #[.bool s, .slice A xs.length c, .int .i64 x] 26) = w4) (hd : Dg W0 A c xs) (hR : dyR s xs x = true ∧ ok32 xs ∧ xs.length ≤ 400 ∧ -131072 ≤ x ∧ x ≤ 131072) (hl : L.length + 2000 ≤ 100000000) :
    Calls Tryz.prog 17 #[.pointer (some ⟨g, 0, none⟩), .slice (some ⟨w.heap.size, 0, none⟩) 1 c'] w4 fun e w' => ∃ v', e = .returned (.tuple #[]) ∧ PB w' W0.heap.size g v' (stp (L, E) (s, xs, x)).1 (stp (L, E) (s, xs, x)).2 ∧ Gq W0.heap.size g w w' := by
  have hb : Below w.heap.size w w4 := by rw [← hW]; exact below1 _ _
  have hr : w4.heap[w.heap.size]? = some (.cells #[.bool s, .slice A xs.length c, .int .i64 x] 26 (0, 0)) := by rw [← hW]; exact heap_alloc_new _ _
  have hg := heap_lt hp.1
  have hB4 : Below W0.heap.size W0 w4 := hB.trans (hb.mono hB.size)
  refine (pnumbers_any g c' (some ⟨w.heap.size, 0, none⟩) v L E [(s, xs, x)] W0 w4 (hp.below hb) hB4 (fun w' hw => rowq_one (hw.row hr (by omega) (by decide)) (hd.below (hw.base hB4 (by have := hb.size; have := hB.size; omega) hp.2.2 (Nat.le_refl _)))) (fun u hu => by rw [List.mem_singleton] at hu; subst hu; exact hR) (by simpa using hl)).mono ?_
  rintro e w' ⟨v', rfl, h1, h2⟩
  exact ⟨v', rfl, h1, (Gq.below hb).trans h2⟩
theorem pnum_ns {g k : Nat} {v : Value} {L : List UInt8} {E : Int} {P : Option Addr} {cs : List Nm} {W0 w : World} (hp : PB w W0.heap.size g v L E) (hB : Below W0.heap.size W0 w) (hd : NsL W0 P k cs) (hR : ∀ v, v ∈ cs → dyR v.1 v.2.1 v.2.2 = true ∧ ok32 v.2.1 ∧ v.2.1.length ≤ 400 ∧ -131072 ≤ v.2.2 ∧ v.2.2 ≤ 131072) (hl : L.length + 2000 * cs.length ≤ 100000000) :
    Calls Tryz.prog 17 #[.pointer (some ⟨g, 0, none⟩), .slice P cs.length k] w fun e w' => ∃ v', e = .returned (.tuple #[]) ∧ PB w' W0.heap.size g v' (cs.foldl stp (L, E)).1 (cs.foldl stp (L, E)).2 ∧ Gq W0.heap.size g w w' :=
  pnumbers_any g k P v L E cs W0 w hp hB (fun w' hw => (hd.below (hw.base hB hB.size hp.2.2 (Nat.le_refl _))).rowq) hR hl
theorem NsL.ok {w : World} {P : Option Addr} {k : Nat} {cs : List Nm} (h : NsL w P k cs) : ∀ v, v ∈ cs → ok32 v.2.1 := fun v hv => by
  obtain ⟨i, hi⟩ := List.mem_iff_getElem?.1 hv
  obtain ⟨b, o, A, c, _, _, _, _, hd⟩ := h.rowq i v hi
  exact hd.2.1
theorem stpP_len {D : Int} (hD : D ≤ 16) {p : Pd} (hp : pieceB p D = true) (hk : ok32 p.er.2.1) (hn : ∀ v, v ∈ p.cs → ok32 v.2.1) (s : List UInt8 × Int) : (stpP s p).1.length ≤ s.1.length + 40000 := by
  unfold pieceB at hp
  simp only [Bool.and_eq_true, decide_eq_true_eq, List.all_eq_true] at hp
  obtain ⟨_, hl, ⟨_, he⟩, hc, _⟩ := hp
  have h1 := stp_len p.cs (fun v hv => (rightN (hn v hv) (hc v hv)).2) (stp (s.1 ++ [by8 (p.w + 128)], s.2) p.er)
  have h2 := stp_len [p.er] (fun v hv => by rw [List.mem_singleton] at hv; subst hv; exact (rightN hk he).2) (s.1 ++ [by8 (p.w + 128)], s.2)
  simp only [List.foldl_cons, List.foldl_nil, List.length_append, List.length_singleton] at h2
  have h3 : 2000 * p.cs.length ≤ 2000 * 17 := by omega
  unfold stpP
  omega

set_option maxHeartbeats 4000000 in
set_option maxRecDepth 100000 in
theorem encode_go (A P : Option Addr) (c k : Nat) (F O W Q D : Int) (s : Bool) (xs : List Nat) (x : Int) (ps : List Pd) (w : World) (h : Dg w A c xs) (hl : xs.length ≤ 10000) (hT : T32 w) (hps : PsL w P ps) (hsm : SmP ps) (hq : rightT F O (s, xs, x) W Q D ps = true) :
    Calls Tryz.prog 7 #[.agg #[.int .i64 F, .int .i64 O, .bool s, .slice A xs.length c, .int .i64 x, .int .i64 W, .int .i64 Q, .int .i64 D, .slice P ps.length k]] w fun e w' => (∃ t : ByteArray, e = .returned (.tuple #[.string t, .int .i64 (outE (encS F O (s, xs, x) W Q D ps))]) ∧ t.data.toList = outB (encS F O (s, xs, x) W Q D ps)) ∧ Below w.heap.size w w' := by
  have HR := Lib.hid (fun (W1 : World) (hB : Below w.heap.size w W1) => cright_any (A := A) (c := c) (k := k) (a := (s, xs, x)) (h.below hB) hl (t32_below hT hB) (PsL.below hps hB) hsm hq)
  have HQ := Lib.hid hq
  have HPS := Lib.hid hps
  have HH := Lib.hid h
  have hq2 := hq
  unfold rightT at hq2
  simp only [Bool.and_eq_true, decide_eq_true_eq] at hq2
  obtain ⟨_, _, hpl, ⟨hw0, hw1⟩, _, ⟨hd0, hd1⟩, ⟨hn0, hn1⟩, hrl⟩ := hq2
  have hpp : ∀ p, p ∈ ps → pieceB p D = true := rightL_all (by have := hrl; rw [beq_iff_eq] at this; exact this)
  have RA := Lib.hid (rightA h.2.1 hpl)
  have wW : wrap64 (W + 128) = W + 128 := IntWalk.wrap64_in _ ⟨by omega, by omega⟩
  have hlen : ps.length ≤ 32 := by omega
  have HD := Lib.hid (And.intro hd0 hd1)
  have HPP := Lib.hid hpp
  have HPL := Lib.hid hpl
  clear h hl hT hps hsm hq hpl hw0 hw1 hd0 hd1 hn0 hn1 hrl hpp
  go_enter Tryz.func7, Tryz.ntmps7
  go_wp2_with fail

  obtain ⟨v1, hW⟩ : ∃ V : World, V = w.alloc (.cells #[.int .i64 F, .int .i64 O, .bool s, .slice A xs.length c, .int .i64 x, .int .i64 W, .int .i64 Q, .int .i64 D, .slice P ps.length k] 29) := ⟨_, rfl⟩
  rw [← hW]
  have hb : Below w.heap.size w v1 := by rw [hW]; exact below1 _ _
  have B1 := Lib.hid hb
  have R1 := Lib.hid (show v1.heap[w.heap.size]? = some (.cells #[.int .i64 F, .int .i64 O, .bool s, .slice A xs.length c, .int .i64 x, .int .i64 W, .int .i64 Q, .int .i64 D, .slice P ps.length k] 29 (0, 0)) by rw [hW]; exact heap_alloc_new _ _)
  clear hW hb
  refine (HR.out v1 B1.out).mono ?_
  rintro e w2 ⟨rfl, hb⟩
  have R2 := co R1 hb
  have B2 := Lib.hid (B1.out.trans (hb.mono B1.out.size))
  clear hb
  have ft0 := row_c (i := 0) R2.out rfl
  have ft1 := row_c (i := 1) R2.out rfl
  have ft2 := row_c (i := 2) R2.out rfl
  have ft3 := row_c (i := 3) R2.out rfl
  have ft4 := row_c (i := 4) R2.out rfl
  have ft5 := row_c (i := 5) R2.out rfl
  have ft6 := row_c (i := 6) R2.out rfl
  have ft7 := row_c (i := 7) R2.out rfl
  have ft8 := row_c (i := 8) R2.out rfl
  have xft := heap_lt R2.out
  go_upto_region 4 with fail
  clear ft0 ft1 ft2 ft3 ft4 ft5 ft6 ft7 ft8 xft
  obtain ⟨w3, hW⟩ : ∃ V : World, V = w2.alloc (.cells #[.slice none 0 0, .int .i64 0] 52) := ⟨_, rfl⟩
  rw [← hW]
  have hb : Below w2.heap.size w2 w3 := by rw [hW]; exact below1 _ _
  obtain ⟨g, hg⟩ : ∃ g, g = w2.heap.size := ⟨_, rfl⟩
  have HGE := Lib.hid (show w.heap.size < g by rw [hg]; exact heap_lt R2.out)
  rw [← hg]
  have P3 := Lib.hid (show PB w3 w.heap.size g (.slice none 0 0) [] 0 from ⟨by rw [hW, hg]; exact heap_alloc_new _ _, World.ownsRow_nil _ _ _ _, Nat.le_of_lt HGE.out⟩)
  have R3 := co R2 hb
  have B3 := Lib.hid (B2.out.trans (hb.mono B2.out.size))
  clear hb hW hg
  have ft0 := row_c (i := 0) R3.out rfl
  have ft1 := row_c (i := 1) R3.out rfl
  have ft2 := row_c (i := 2) R3.out rfl
  have ft3 := row_c (i := 3) R3.out rfl
  have ft4 := row_c (i := 4) R3.out rfl
  have ft5 := row_c (i := 5) R3.out rfl
  have ft6 := row_c (i := 6) R3.out rfl
  have ft7 := row_c (i := 7) R3.out rfl
  have ft8 := row_c (i := 8) R3.out rfl
  have xft := heap_lt R3.out
  go_wp2_with fail
  clear ft0 ft1 ft2 ft3 ft4 ft5 ft6 ft7 ft8 xft
  obtain ⟨w4, hW⟩ : ∃ V : World, w3.alloc (.cells #[.int .i64 84, .int .i64 F, .int .i64 O, .int .i64 Q, .int .i64 D, .int .i64 (W + 128), .int .i64 ps.length] 3) = V := ⟨_, rfl⟩
  rw [hW]
  refine (psmall_new [84, F, O, Q, D, W + 128, ps.length] rfl rfl hW P3.out (by simp)).mono ?_
  rintro e w5 ⟨v5, rfl, hp, hg⟩
  have P5 := Lib.hid (show PB w5 w.heap.size g v5 (headB F O W Q D ps.length) 0 from hp)
  have B5 := Lib.hid (hg.base B3.out B3.out.size P3.out.2.2 (Nat.le_refl _))
  have R5 := Lib.hid (hg.row R3.out (Nat.ne_of_lt HGE.out) (by decide))
  clear hp hg hW
  have ft0 := row_c (i := 0) R5.out rfl
  have ft1 := row_c (i := 1) R5.out rfl
  have ft2 := row_c (i := 2) R5.out rfl
  have ft3 := row_c (i := 3) R5.out rfl
  have ft4 := row_c (i := 4) R5.out rfl
  have ft5 := row_c (i := 5) R5.out rfl
  have ft6 := row_c (i := 6) R5.out rfl
  have ft7 := row_c (i := 7) R5.out rfl
  have ft8 := row_c (i := 8) R5.out rfl
  have xft := heap_lt R5.out
  go_wp2_with fail
  clear ft0 ft1 ft2 ft3 ft4 ft5 ft6 ft7 ft8 xft
  obtain ⟨w6, hW⟩ : ∃ V : World, w5.alloc (.cells #[.bool s, .slice A xs.length c, .int .i64 x] 26) = V := ⟨_, rfl⟩
  rw [hW]
  refine (pnum_one P5.out B5.out hW HH.out RA.out (by unfold headB; simp)).mono ?_
  rintro e w7 ⟨v7, rfl, hp, hg⟩
  obtain ⟨L7, E7, hs⟩ : ∃ L E, stp (headB F O W Q D ps.length, 0) (s, xs, x) = (L, E) := ⟨_, _, rfl⟩
  rw [hs] at hp
  have HS := Lib.hid hs
  have LS := Lib.hid (show L7.length ≤ 3000 by
    have := stp_len [(s, xs, x)] (fun u hu => by rw [List.mem_singleton] at hu; subst hu; exact RA.out.2) (headB F O W Q D ps.length, 0)
    simp only [List.foldl_cons, List.foldl_nil, hs, List.length_singleton] at this
    unfold headB at this; simp at this; omega)
  have P7 := Lib.hid hp
  have B7 := Lib.hid (hg.base B5.out B5.out.size P5.out.2.2 (Nat.le_refl _))
  have R7 := Lib.hid (hg.row R5.out (Nat.ne_of_lt HGE.out) (by decide))
  clear hp hg hW hs
  have ft0 := row_c (i := 0) R7.out rfl
  have ft1 := row_c (i := 1) R7.out rfl
  have ft2 := row_c (i := 2) R7.out rfl
  have ft3 := row_c (i := 3) R7.out rfl
  have ft4 := row_c (i := 4) R7.out rfl
  have ft5 := row_c (i := 5) R7.out rfl
  have ft6 := row_c (i := 6) R7.out rfl
  have ft7 := row_c (i := 7) R7.out rfl
  have ft8 := row_c (i := 8) R7.out rfl
  have xft := heap_lt R7.out
  go_wp2
  clear ft0 ft1 ft2 ft3 ft4 ft5 ft6 ft7 ft8 xft
  go_loopw [33] (fun i wr => ∃ (j : Nat) (v1 : Value) (L1 : List UInt8) (E1 : Int), j ≤ ps.length ∧ i = .int .i64 j ∧ Hid ((ps.take j).foldl stpP (L7, E7) = (L1, E1) ∧ L1.length ≤ 3000 + 40000 * j) ∧ Hid (PB wr w.heap.size g v1 L1 E1) ∧ Hid (Below w.heap.size w wr) ∧ Hid (wr.heap[w.heap.size]? = some (.cells #[.int .i64 F, .int .i64 O, .bool s, .slice A xs.length c, .int .i64 x, .int .i64 W, .int .i64 Q, .int .i64 D, .slice P ps.length k] 29 (0, 0)))) (fun i _ => ps.length - (intOf i).toNat)
  case atStart => exact ⟨0, v7, L7, E7, Nat.zero_le _, rfl, Lib.hid ⟨rfl, LS.out⟩, P7, B7, R7⟩
  case round =>
    obtain ⟨j, v1, L1, E1, hj, rfl, HF, HP1, HB, HRT⟩ := hrel
    by_cases hlt : j < ps.length
    · obtain ⟨p, hp⟩ : ∃ p, ps[j]? = some p := ⟨_, List.getElem?_eq_getElem hlt⟩
      obtain ⟨b, o, rfl, hbb, hps⟩ := HPS.out (by omega)
      obtain ⟨A2, c2, B2, d2, P2, k2, e0, e1, e2, e3, e4, e5, e6, e7, hda, hde, hns⟩ := hps j p hp
      have HX := Lib.hid (show (ps.take (j + 1)).foldl stpP (L7, E7) = stpP (L1, E1) p by rw [List.take_add_one, hp, List.foldl_append, HF.out.1]; rfl)
      have hpB := HPP.out p (List.mem_of_getElem? hp)
      have XL := Lib.hid (show (stpP (L1, E1) p).1.length ≤ 3000 + 40000 * (j + 1) by
        have := stpP_len HD.out.2 hpB hde.2.1 hns.ok (L1, E1)
        have := HF.out.2
        dsimp only at *
        omega)
      have hpB2 := hpB
      unfold pieceB at hpB2
      simp only [Bool.and_eq_true, decide_eq_true_eq, List.all_eq_true] at hpB2
      obtain ⟨⟨pw0, pw1⟩, hcl, ⟨_, her⟩, hcs, _⟩ := hpB2
      have HER := Lib.hid (rightN hde.2.1 her)
      have HCS := Lib.hid (fun v hv => rightN (hns.ok v hv) (hcs v hv))
      have HCL := Lib.hid hcl
      have wp : wrap64 (p.w + 128) = p.w + 128 := IntWalk.wrap64_in _ ⟨by omega, by omega⟩
      have HNS := Lib.hid hns
      have HDE := Lib.hid hde
      have g0 := (HB.out.cell (p := ⟨b, o + j * 8, none⟩) hbb).trans e0
      have g1 := (HB.out.cell (p := ⟨b, o + j * 8 + 1, none⟩) hbb).trans e1
      have g2 := (HB.out.cell (p := ⟨b, o + j * 8 + 2, none⟩) hbb).trans e2
      have g3 := (HB.out.cell (p := ⟨b, o + j * 8 + 3, none⟩) hbb).trans e3
      have g4 := (HB.out.cell (p := ⟨b, o + j * 8 + 4, none⟩) hbb).trans e4
      have g5 := (HB.out.cell (p := ⟨b, o + j * 8 + 5, none⟩) hbb).trans e5
      have g6 := (HB.out.cell (p := ⟨b, o + j * 8 + 6, none⟩) hbb).trans e6
      have g7 := (HB.out.cell (p := ⟨b, o + j * 8 + 7, none⟩) hbb).trans e7
      have HLT := Lib.hid hlt
      clear e0 e1 e2 e3 e4 e5 e6 e7 hda hde hns hp hps hpB hcl her hcs pw0 pw1
      go_wp2_with fail
      clear g0 g1 g2 g3 g4 g5 g6 g7
      obtain ⟨wa, hW⟩ : ∃ V : World, wr.alloc (.cells #[.bool p.a.1, .slice A2 p.a.2.1.length c2, .int .i64 p.a.2.2, .int .i64 p.w, .slice P2 p.cs.length k2, .bool p.er.1, .slice B2 p.er.2.1.length d2, .int .i64 p.er.2.2] 49) = V := ⟨_, rfl⟩
      rw [hW]
      have hz : wr.heap.size + 1 = wa.heap.size := by rw [← hW]; simp
      have hb : Below wr.heap.size wr wa := by rw [← hW]; exact below1 _ _
      have hpr : wa.heap[wr.heap.size]? = some (.cells #[.bool p.a.1, .slice A2 p.a.2.1.length c2, .int .i64 p.a.2.2, .int .i64 p.w, .slice P2 p.cs.length k2, .bool p.er.1, .slice B2 p.er.2.1.length d2, .int .i64 p.er.2.2] 49 (0, 0)) := by rw [← hW]; exact heap_alloc_new _ _
      obtain ⟨pb, hpb⟩ : ∃ n, wr.heap.size = n := ⟨_, rfl⟩
      have PA := Lib.hid (HP1.out.below hb)
      have BA := Lib.hid (HB.out.trans (hb.mono HB.out.size))
      have RA2 := co HRT hb
      have NE := Lib.hid (show pb ≠ g from fun e => by have := heap_lt HP1.out.1; omega)
      rw [hz]
      rw [hpb] at hpr ⊢
      have QA := Lib.hid hpr
      clear hW hz hb hpr hpb
      obtain ⟨wb, hW⟩ : ∃ V : World, wa.alloc (.cells #[.int .i64 (p.w + 128)] 3) = V := ⟨_, rfl⟩
      rw [hW]
      refine (psmall_new [p.w + 128] rfl rfl hW PA.out (by have := HF.out.2; simp; omega)).mono ?_
      rintro e w8 ⟨v8, rfl, hp, hg⟩
      have P8 := Lib.hid (show PB w8 w.heap.size g v8 (L1 ++ [by8 (p.w + 128)]) E1 from hp)
      have B8 := Lib.hid (hg.base BA.out BA.out.size PA.out.2.2 (Nat.le_refl _))
      have R8 := Lib.hid (hg.row RA2.out (Nat.ne_of_lt HGE.out) (by decide))
      have Q8 := Lib.hid (hg.row QA.out NE.out (by decide))
      clear hp hg hW
      have fp0 := row_c (i := 0) Q8.out rfl
      have fp1 := row_c (i := 1) Q8.out rfl
      have fp2 := row_c (i := 2) Q8.out rfl
      have fp3 := row_c (i := 3) Q8.out rfl
      have fp4 := row_c (i := 4) Q8.out rfl
      have fp5 := row_c (i := 5) Q8.out rfl
      have fp6 := row_c (i := 6) Q8.out rfl
      have fp7 := row_c (i := 7) Q8.out rfl
      have xfp := heap_lt Q8.out
      go_wp2_with fail
      clear fp0 fp1 fp2 fp3 fp4 fp5 fp6 fp7 xfp
      obtain ⟨wc, hW⟩ : ∃ V : World, w8.alloc (.cells #[.bool p.er.1, .slice B2 p.er.2.1.length d2, .int .i64 p.er.2.2] 26) = V := ⟨_, rfl⟩
      rw [hW]
      refine (pnum_one P8.out B8.out hW HDE.out HER.out (by have := HF.out.2; simp; omega)).mono ?_
      rintro e w9 ⟨v9, rfl, hp, hg⟩
      obtain ⟨L9, E9, hs⟩ : ∃ L E, stp (L1 ++ [by8 (p.w + 128)], E1) p.er = (L, E) := ⟨_, _, rfl⟩
      rw [show (p.er.1, p.er.2.1, p.er.2.2) = p.er from rfl, hs] at hp
      have HS9 := Lib.hid hs
      have LS9 := Lib.hid (show L9.length ≤ 3000 + 40000 * j + 2001 by
        have := stp_len [p.er] (fun u hu => by rw [List.mem_singleton] at hu; subst hu; exact HER.out.2) (L1 ++ [by8 (p.w + 128)], E1)
        simp only [List.foldl_cons, List.foldl_nil, hs, List.length_singleton, List.length_append] at this
        have := HF.out.2; omega)
      have P9 := Lib.hid hp
      have B9 := Lib.hid (hg.base B8.out B8.out.size P8.out.2.2 (Nat.le_refl _))
      have R9 := Lib.hid (hg.row R8.out (Nat.ne_of_lt HGE.out) (by decide))
      have Q9 := Lib.hid (hg.row Q8.out NE.out (by decide))
      clear hp hg hW hs
      have fp0 := row_c (i := 0) Q9.out rfl
      have fp1 := row_c (i := 1) Q9.out rfl
      have fp2 := row_c (i := 2) Q9.out rfl
      have fp3 := row_c (i := 3) Q9.out rfl
      have fp4 := row_c (i := 4) Q9.out rfl
      have fp5 := row_c (i := 5) Q9.out rfl
      have fp6 := row_c (i := 6) Q9.out rfl
      have fp7 := row_c (i := 7) Q9.out rfl
      have xfp := heap_lt Q9.out
      go_wp2_with fail
      clear fp0 fp1 fp2 fp3 fp4 fp5 fp6 fp7 xfp
      refine (pnum_ns P9.out B9.out HNS.out HCS.out (by have := LS9.out; have := HCL.out; have := HD.out; omega)).mono ?_
      rintro e w10 ⟨v10, rfl, hp, hg⟩
      have hst : stpP (L1, E1) p = p.cs.foldl stp (L9, E9) := by unfold stpP; rw [HS9.out]
      rw [← hst] at hp
      have P10 := Lib.hid hp
      have B10 := Lib.hid (hg.base B9.out B9.out.size P9.out.2.2 (Nat.le_refl _))
      have R10 := Lib.hid (hg.row R9.out (Nat.ne_of_lt HGE.out) (by decide))
      clear hp hg hst
      go_wp2
      go_roundw
      case rel => exact ⟨j + 1, v10, (stpP (L1, E1) p).1, (stpP (L1, E1) p).2, HLT.out, by go_num, Lib.hid ⟨HX.out, XL.out⟩, P10, B10, R10⟩
      case measure => have := HLT.out; simp [intOf]; omega
    · obtain rfl : j = ps.length := by omega
      have hf := HF.out.1
      rw [List.take_length] at hf
      have HE := Lib.hid (show encS F O (s, xs, x) W Q D ps = (L1, E1) by unfold encS; rw [HS.out]; exact hf)
      have L0 := Lib.hid (show 0 < L1.length by
        have h1 := encS_pos F O (s, xs, x) W Q D ps
        rw [HE.out] at h1; exact h1)
      clear hf
      have f0 := row_c (i := 0) HP1.out.1 rfl
      have f1 := row_c (i := 1) HP1.out.1 rfl
      by_cases h0 : E1 = 0
      · subst h0
        have c0 := own_conv HP1.out.2.1 L0.out
        go_wp2
        go_ret2
        exact ⟨⟨⟨L1.toArray⟩, by rw [HE.out]; rfl, by rw [HE.out]; rfl⟩, HB.out⟩
      · have hz : (E1 != 0) = true := bne_iff_ne.2 h0
        have HZ := Lib.hid h0
        go_wp2
        go_ret2
        exact ⟨⟨⟨#[]⟩, by rw [HE.out]; unfold outE; dsimp only; rw [if_neg HZ.out]; rfl, by rw [HE.out]; unfold outB; dsimp only; rw [if_neg HZ.out]⟩, HB.out⟩
end Go.Proofs.YtdmfapgclppmhaaGreatDoor
end

section
namespace Go.Proofs.YtdmfapgclppmhaaGreatDoor
open Go.RowKit
set_option linter.unusedSimpArgs false
set_option linter.unusedVariables false
def encO (F O : Int) (a : Nm) (W Q D : Int) (ps : List Pd) : List UInt8 × Int := if rightT F O a W Q D ps then encS F O a W Q D ps else ([], 1)
set_option maxHeartbeats 4000000 in
set_option maxRecDepth 100000 in
theorem encode_no (A P : Option Addr) (c k : Nat) (F O W Q D : Int) (s : Bool) (xs : List Nat) (x : Int) (ps : List Pd) (w : World) (h : Dg w A c xs) (hl : xs.length ≤ 10000) (hT : T32 w) (hps : PsL w P ps) (hsm : SmP ps) (hq : rightT F O (s, xs, x) W Q D ps = false) :
    Calls Tryz.prog 7 #[.agg #[.int .i64 F, .int .i64 O, .bool s, .slice A xs.length c, .int .i64 x, .int .i64 W, .int .i64 Q, .int .i64 D, .slice P ps.length k]] w fun e w' => e = .returned (.tuple #[.string ⟨#[]⟩, .int .i64 1]) ∧ Below w.heap.size w w' := by
  have HR := Lib.hid (fun (W1 : World) (hB : Below w.heap.size w W1) => cright_any (A := A) (c := c) (k := k) (a := (s, xs, x)) (h.below hB) hl (t32_below hT hB) (PsL.below hps hB) hsm hq)
  clear h hl hT hps hsm hq
  go_enter Tryz.func7, Tryz.ntmps7
  go_wp2_with fail
  obtain ⟨v1, hW⟩ : ∃ V : World, V = w.alloc (.cells #[.int .i64 F, .int .i64 O, .bool s, .slice A xs.length c, .int .i64 x, .int .i64 W, .int .i64 Q, .int .i64 D, .slice P ps.length k] 29) := ⟨_, rfl⟩
  rw [← hW]
  have hb : Below w.heap.size w v1 := by rw [hW]; exact below1 _ _
  have B1 := Lib.hid hb
  clear hW hb
  refine (HR.out v1 B1.out).mono ?_
  rintro e w2 ⟨rfl, hb⟩
  have B2 := Lib.hid (B1.out.trans (hb.mono B1.out.size))
  clear hb
  go_wp2
  go_ret2
  exact ⟨rfl, B2.out⟩
theorem encode_any {A P : Option Addr} {c k : Nat} {F O W Q D : Int} {a : Nm} {ps : List Pd} {w : World} (h : Dg w A c a.2.1) (hl : a.2.1.length ≤ 10000) (hT : T32 w) (hps : PsL w P ps) (hsm : SmP ps) :
    Calls Tryz.prog 7 #[.agg #[.int .i64 F, .int .i64 O, .bool a.1, .slice A a.2.1.length c, .int .i64 a.2.2, .int .i64 W, .int .i64 Q, .int .i64 D, .slice P ps.length k]] w fun e w' => (∃ t : ByteArray, e = .returned (.tuple #[.string t, .int .i64 (outE (encO F O a W Q D ps))]) ∧ t.data.toList = outB (encO F O a W Q D ps)) ∧ Below w.heap.size w w' := by
  obtain ⟨s, xs, x⟩ := a
  unfold encO
  cases hq : rightT F O (s, xs, x) W Q D ps
  · refine (encode_no A P c k F O W Q D s xs x ps w h hl hT hps hsm hq).mono ?_
    rintro e w' ⟨rfl, hb⟩
    exact ⟨⟨⟨#[]⟩, rfl, rfl⟩, hb⟩
  · exact encode_go A P c k F O W Q D s xs x ps w h hl hT hps hsm hq
set_option maxHeartbeats 4000000 in
set_option maxRecDepth 100000 in
theorem size_any {A P : Option Addr} {c k : Nat} {F O W Q D : Int} {a : Nm} {ps : List Pd} {w : World} (h : Dg w A c a.2.1) (hl : a.2.1.length ≤ 10000) (hT : T32 w) (hps : PsL w P ps) (hsm : SmP ps) :
    Calls Tryz.prog 9 #[.agg #[.int .i64 F, .int .i64 O, .bool a.1, .slice A a.2.1.length c, .int .i64 a.2.2, .int .i64 W, .int .i64 Q, .int .i64 D, .slice P ps.length k]] w fun e w' => e = .returned (.int .i64 ((outB (encO F O a W Q D ps)).length : Nat)) ∧ Below w.heap.size w w' := by
  have HR := Lib.hid (fun (W1 : World) (hB : Below w.heap.size w W1) => encode_any (A := A) (c := c) (k := k) (F := F) (O := O) (W := W) (Q := Q) (D := D) (h.below hB) hl (t32_below hT hB) (PsL.below hps hB) hsm)
  obtain ⟨E, hE⟩ : ∃ E, outE (encO F O a W Q D ps) = E := ⟨_, rfl⟩
  obtain ⟨L, hL⟩ : ∃ L, outB (encO F O a W Q D ps) = L := ⟨_, rfl⟩
  rw [hE, hL] at HR
  rw [hL]
  clear h hl hT hps hsm hE hL
  obtain ⟨s, xs, x⟩ := a
  go_enter Tryz.func9, Tryz.ntmps9
  go_wp2_with fail
  obtain ⟨v1, hW⟩ : ∃ V : World, V = w.alloc (.cells #[.int .i64 F, .int .i64 O, .bool s, .slice A xs.length c, .int .i64 x, .int .i64 W, .int .i64 Q, .int .i64 D, .slice P ps.length k] 29) := ⟨_, rfl⟩
  rw [← hW]
  have hb : Below w.heap.size w v1 := by rw [hW]; exact below1 _ _
  have B1 := Lib.hid hb
  clear hW hb
  refine (HR.out v1 B1.out).mono ?_
  rintro e w2 ⟨⟨t, rfl, ht⟩, hb⟩
  have B2 := Lib.hid (B1.out.trans (hb.mono B1.out.size))
  have HTS := Lib.hid (show (t.size : Int) = (L.length : Nat) by rw [← ht]; simp)
  clear hb ht
  go_wp2
  go_ret
  exact ⟨by rw [← HTS.out]; rfl, B2.out⟩
end Go.Proofs.YtdmfapgclppmhaaGreatDoor
end

section
namespace Go.Proofs.YtdmfapgclppmhaaGreatDoor
open Go.RowKit
set_option linter.unusedSimpArgs false
set_option linter.unusedVariables false
/-- A block that holds no digits. -/
def NoInt (w : World) (v : Value) : Prop := ∀ g cur T fr, v.ownBlock = some g → w.heap[g]? = some (.cells cur T fr) → ∀ (i : Nat) (n : Int), cur[i]? ≠ some (.int .u32 n)
/-- The cells of some numbers. -/
def CsOf (w : World) (cs : List Value) (L : List (Int × Int)) : Prop := cs.length = L.length * 3 ∧ (∀ u ∈ cs, ∀ n : Int, u ≠ .int .u32 n) ∧
  ∀ (i : Nat) z, L[i]? = some z → ∃ A c, cs[i * 3]? = some (.bool (decide (z.1 < 0))) ∧ cs[i * 3 + 1]? = some (.slice A (digs z.1.natAbs).length c) ∧ cs[i * 3 + 2]? = some (.int .i64 z.2) ∧ Dg w A c (digs z.1.natAbs)
/-- A row of numbers that is the walk's own. -/
def Dw (w : World) (B : Nat) (v : Value) (L : List (Int × Int)) : Prop := NoInt w v ∧ ∃ cs, w.ownsRow B 26 3 v L.length cs ∧ CsOf w cs L
def zdy : Value := .agg #[.bool false, .slice none 0 0, .int .i64 0]
theorem CsOf.kept {w w' : World} {cs : List Value} {L : List (Int × Int)} (h : CsOf w cs L) (hk : Kept w w') : CsOf w' cs L :=
  ⟨h.1, h.2.1, fun i z hz => by obtain ⟨A, c, h0, h1, h2, h3⟩ := h.2.2 i z hz; exact ⟨A, c, h0, h1, h2, h3.kept hk⟩⟩
theorem CsOf.snoc {w : World} {cs : List Value} {L : List (Int × Int)} {m x : Int} {A : Option Addr} {c : Nat} (h : CsOf w cs L) (hd : Dg w A c (digs m.natAbs)) : CsOf w (cs ++ [.bool (decide (m < 0)), .slice A (digs m.natAbs).length c, .int .i64 x]) (L ++ [(m, x)]) := by
  refine ⟨by rw [List.length_append, List.length_append, h.1]; simp; omega, ?_, fun i z hz => ?_⟩
  · intro u hu n
    rcases List.mem_append.1 hu with hu | hu
    · exact h.2.1 u hu n
    · simp at hu; rcases hu with rfl | rfl | rfl <;> simp
  · rcases Nat.lt_trichotomy i L.length with hi | hi | hi
    · rw [List.getElem?_append_left hi] at hz
      obtain ⟨A, c, h0, h1, h2, h3⟩ := h.2.2 i z hz
      have hl := h.1
      exact ⟨A, c, by rw [List.getElem?_append_left (by omega)]; exact h0, by rw [List.getElem?_append_left (by omega)]; exact h1, by rw [List.getElem?_append_left (by omega)]; exact h2, h3⟩
    · subst hi
      rw [List.getElem?_append_right (Nat.le_refl _), Nat.sub_self] at hz
      obtain rfl : (m, x) = z := by simpa using hz
      have hl := h.1
      refine ⟨A, c, ?_, ?_, ?_, hd⟩
      · rw [List.getElem?_append_right (by omega), show L.length * 3 - cs.length = 0 by omega]; rfl
      · rw [List.getElem?_append_right (by omega), show L.length * 3 + 1 - cs.length = 1 by omega]; rfl
      · rw [List.getElem?_append_right (by omega), show L.length * 3 + 2 - cs.length = 2 by omega]; rfl
    · rw [List.getElem?_eq_none (by simp; omega)] at hz; cases hz
theorem zero_no {k : Nat} {u : Value} (h : u ∈ Builtin.zeroCells zdy.cells k) : ∀ n : Int, u ≠ .int .u32 n := by
  unfold Builtin.zeroCells at h
  obtain ⟨i, _, rfl⟩ := Array.mem_map.1 h
  intro n
  have e : zdy.cells = #[.bool false, .slice none 0 0, .int .i64 0] := rfl
  rw [e]
  have h3 : i % 3 = 0 ∨ i % 3 = 1 ∨ i % 3 = 2 := by omega
  rcases h3 with h | h | h <;> simp [h]
theorem at_mem {a : Array Value} {i : Nat} {u : Value} (h : a[i]? = some u) : u ∈ a := Array.mem_of_getElem? h
theorem run_append_no {P : Program} (w : World) (B : Nat) (t ty e : TypeId) (i : TypeInfo) (bytes : Nat) (ht : P.underlying t = some (.slice e)) (hi : P.info? e = some i) (z : Value) (size : Nat) (hz : i.zero = some z) (hsize : i.size = size) (hzz : ∀ k u, u ∈ Builtin.zeroCells z.cells k → ∀ n : Int, u ≠ .int .u32 n) (hby : i.bytes = bytes)
    (v : Value) (n : Nat) (xs : List Value) (hown : w.ownsRow B e size v n xs) (hc : NoInt w v) (hxs : ∀ u ∈ xs, ∀ n : Int, u ≠ .int .u32 n)
    (a : Addr) (c : Nat) (news : List Value) (hl : news.length = size) (hnews : ∀ j u, news[j]? = some u → w.cell? (a.add j) = some u) (h1 : ∀ u ∈ news, u.oneCell' = true) (hnn : ∀ u ∈ news, ∀ n : Int, u ≠ .int .u32 n)
    (h63 : n + 1 ≤ maxLen) (hbytes : (n + 1) * bytes ≤ 140737488355328) (v' : Value) (w' : World) (hr : (Builtin.append_ #[t, t] ty #[v, .slice (some a) 1 c]).run P w = .ok v' w') : NoInt w' v' := by
  subst hby
  have hsmall : n + 1 ≤ 9223372036854775807 := by simp only [maxLen] at h63; omega
  rcases hown.2 with ⟨rfl, rfl⟩ | ⟨g, cap, cur, rfl, hbg, hg, hnc, hcm, hcs, htake⟩
  · rw [run_append_nil (P := P) w t ty e i z ht hi hz a 1 c news (by rw [hsize, hl, Nat.one_mul]) hnews (by omega) (by omega) (by have hb := hbytes; simp only [Nat.zero_add] at hb; omega)] at hr
    injection hr with e1 e2
    subst e1 e2
    intro g cur T fr hg hh j k hj
    have eg : w.heap.size = g := by simpa [Value.ownBlock] using hg
    subst eg
    have h4 := (heap_alloc_new w.drew _).symm.trans hh
    injection h4 with h4
    injection h4 with h4
    subst h4
    rcases Array.mem_append.1 (at_mem hj) with h | h
    · exact hnn _ (by simpa using h) k rfl
    · exact hzz _ _ h k rfl
  · by_cases hroom : n + 1 ≤ cap
    · rw [run_append_room (P := P) w t ty e i ht hi g n cap cur hg a 1 c news (by rw [hsize, hl, Nat.one_mul]) hnews h1 hroom (by rw [hl, hcs, hsize]; have := Nat.mul_le_mul_right size hroom; rw [Nat.add_mul, Nat.one_mul] at this; omega)] at hr
      injection hr with e1 e2
      subst e1 e2
      intro g' cur' T fr hg' hh j k hj
      have eg : g = g' := by simpa [Value.ownBlock] using hg'
      subst eg
      have h4 := (setRow_heap w g cur _ e _ hg).symm.trans hh
      injection h4 with h4
      injection h4 with h4
      subst h4
      have hm := at_mem hj
      simp only [List.mem_toArray, List.mem_append] at hm
      have hcur : ∀ u ∈ cur.toList, ∀ n : Int, u ≠ .int .u32 n := by
        intro u hu n hn
        subst hn
        obtain ⟨q, hq⟩ := List.getElem?_of_mem hu
        exact hc g cur _ _ rfl hg q n (by simpa using hq)
      rcases hm with (h | h) | h
      · exact hcur _ (List.mem_of_mem_take h) k rfl
      · exact hnn _ h k rfl
      · exact hcur _ (List.mem_of_mem_drop h) k rfl
    · have holds : ∀ j u, xs[j]? = some u → w.cell? ((⟨g, 0, none⟩ : Addr).add j) = some u := hown.cells (g := g) rfl
      rw [run_append_grow (P := P) w t ty e i z ht hi hz ⟨g, 0, none⟩ n cap xs (by rw [hsize]; exact hown.1) holds a 1 c news (by rw [hsize, hl, Nat.one_mul]) hnews (by omega) (by omega) (growslice_fits (by omega) hbytes)] at hr
      injection hr with e1 e2
      subst e1 e2
      intro g' cur' T fr hg' hh j k hj
      have eg : w.heap.size = g' := by simpa [Value.ownBlock] using hg'
      subst eg
      have h4 := (heap_alloc_new w.drew _).symm.trans hh
      injection h4 with h4
      injection h4 with h4
      subst h4
      rcases Array.mem_append.1 (at_mem hj) with h | h
      · rcases Array.mem_append.1 h with h | h
        · exact hxs _ (by simpa using h) k rfl
        · exact hnn _ (by simpa using h) k rfl
      · exact hzz _ _ h k rfl
theorem kept_of_grown {w w' : World} {B n size : Nat} {e : TypeId} {v : Value} {xs : List Value} (hown : w.ownsRow B e size v n xs) (hc : NoInt w v) (hg : w.grownBy w' v.ownBlock) : Kept w w' := by
  refine ⟨hg.size, fun b o k hk => ?_⟩
  have hlt := cell_lt hk
  by_cases hb : some b = v.ownBlock
  · exfalso
    rcases hown.2 with ⟨rfl, _⟩ | ⟨g, cap, cur, rfl, _, hh, _⟩
    · simp [Value.ownBlock] at hb
    · have eg : b = g := by simpa [Value.ownBlock] using hb
      subst eg
      rw [cell_of_row _ _ _ _ _ _ hh] at hk
      exact hc b cur _ _ rfl hh _ _ hk
  · rw [← hk]
    exact World.grownBy.cell_far hg _ hlt hb
theorem dy_info : ∃ i : TypeInfo, Tryz.prog.info? 26 = some i ∧ i.zero = some zdy ∧ i.size = 3 ∧ i.bytes = 40 := by
  obtain ⟨i0, hi, hz0, hz1, hz2⟩ := info_parts (show (Tryz.prog.info? 26).map (fun i => (i.zero, i.size, i.bytes)) = some (some zdy, 3, 40) by kernel_rfl)
  exact ⟨i0, hi, hz0, hz1, hz2⟩
theorem wp_append_dy {w : World} {o : Oper} {a : Act} {K : Act → World → Prop} {Q : Exit → Act → World → Prop} (s x : Operand)
    (ho : o.op = .call { callee := .builtin .append, args := #[s, x], argTypes := #[47, 47] }) (B : Nat) (v : Value) (L : List (Int × Int)) (m y : Int) (q : Nat) (T' : TypeId) (c cA : Nat) (A : Option Addr)
    (hs : a.eval s = v) (hD : Dw w B v L) (hrow : w.heap[q]? = some (.cells #[.bool (decide (m < 0)), .slice A (digs m.natAbs).length cA, .int .i64 y] T' (0, 0))) (hd : Dg w A cA (digs m.natAbs)) (hx : a.eval x = .slice (some ⟨q, 0, none⟩) 1 c) (hb : L.length + 1 ≤ 1000000) (hbase : B ≤ w.heap.size)
    (h : ∀ g cap w', Dw w' B (.slice (some ⟨g, 0, none⟩) (L.length + 1) cap) (L ++ [(m, y)]) → w.grownBy w' v.ownBlock → Kept w w' → (v.ownBlock = some g ∨ g = w.heap.size) → K (a.put o.dst (.slice (some ⟨g, 0, none⟩) (L.length + 1) cap)) w') : o.wp Tryz.prog a w K Q := by
  obtain ⟨hn, cs, hown, hcs⟩ := hD
  obtain ⟨i0, hi, hz0, hz1, hz2⟩ := dy_info
  have hnews : ∀ j u, ([.bool (decide (m < 0)), .slice A (digs m.natAbs).length cA, .int .i64 y] : List Value)[j]? = some u → w.cell? ((⟨q, 0, none⟩ : Addr).add j) = some u := fun j u hj => by
    rw [Addr.add_lit]
    exact row_c hrow (by simpa using hj)
  have hone : ∀ u ∈ ([.bool (decide (m < 0)), .slice A (digs m.natAbs).length cA, .int .i64 y] : List Value), u.oneCell' = true := by intro u hu; simp at hu; rcases hu with rfl | rfl | rfl <;> rfl
  have hnn : ∀ u ∈ ([.bool (decide (m < 0)), .slice A (digs m.natAbs).length cA, .int .i64 y] : List Value), ∀ n : Int, u ≠ .int .u32 n := by intro u hu n; simp at hu; rcases hu with rfl | rfl | rfl <;> simp
  obtain ⟨g, cap, w', hr, h2, h3, h4, h5⟩ := run_append_lies (P := Tryz.prog) w 47 o.type B 26 i0 zdy 3 40 Tryz.underlying47 hi hz0 hz1 hz2 rfl (by decide) v L.length cs hown ⟨q, 0, none⟩ 1 c [.bool (decide (m < 0)), .slice A (digs m.natAbs).length cA, .int .i64 y] rfl hnews hone (by decide) (by unfold maxLen; omega) (by omega) hbase w.heap.size rfl
  have hk := kept_of_grown hown hn h3
  have hno := run_append_no (P := Tryz.prog) w B 47 o.type 26 i0 40 Tryz.underlying47 hi zdy 3 hz0 hz1 (fun _ _ => zero_no) hz2 v L.length cs hown hn hcs.2.1 ⟨q, 0, none⟩ c _ rfl hnews hone hnn (by unfold maxLen; omega) (by omega) _ _ hr
  unfold Oper.wp execOp
  simp only [ho, resolve, invoke, builtin, Sem.run_bind, Sem.run_pure, Result.andThen_ok, List.map_toArray, List.map_cons, List.map_nil, hs, hx, hr]
  exact h g cap w' ⟨hno, _, by rw [List.length_append]; exact h2, (hcs.kept hk).snoc (hd.kept hk)⟩ h3 hk h4
theorem own_laterI {w w' : World} {B size n : Nat} {e : TypeId} {v : Value} {xs : List Value} (h : w.ownsRow B e size v n xs) (hb : Below w.heap.size w w') : w'.ownsRow B e size v n xs := by
  refine ⟨h.1, ?_⟩
  rcases h.2 with h1 | ⟨g, cap, cur, hv, hg, hc, rest⟩
  · exact .inl h1
  · exact .inr ⟨g, cap, cur, hv, hg, (hb.block g (heap_lt hc)).trans hc, rest⟩
theorem dw_nil (w : World) (B : Nat) : Dw w B (.slice none 0 0) [] := ⟨fun g _ _ _ h => by simp [Value.ownBlock] at h, [], World.ownsRow_nil _ _ _ _, rfl, fun u hu => by simp at hu, fun i z hz => by simp at hz⟩
theorem Dw.below {w w' : World} {B : Nat} {v : Value} {L : List (Int × Int)} (h : Dw w B v L) (hb : Below w.heap.size w w') : Dw w' B v L := by
  obtain ⟨hn, cs, hown, hcs⟩ := h
  refine ⟨fun g cur T fr hg hh => hn g cur T fr hg ?_, cs, own_laterI hown hb, hcs.kept (Kept.below hb)⟩
  exact (hb.block g (hown.lt g hg).2).symm.trans hh

/-- A small number read: it, and what is left. -/
def rdS (s : List UInt8 × Bool) : Int × List UInt8 × Bool := match s.1 with
  | [] => (0, [], true)
  | x :: r => (x.toNat, r, s.2)
/-- Does a number stand ahead? -/
def okN (l : List UInt8) : Prop := ∃ q : Int × Int × List UInt8, l = zb q.1 ++ zb q.2.1 ++ q.2.2 ∧ (digs q.1.natAbs).length ≤ 400 ∧ Rt q.1 q.2.1 ∧ inR q.1 q.2.1 = true
open Classical in
/-- A number read: it, and what is left. -/
noncomputable def rdN (s : List UInt8 × Bool) : (Int × Int) × List UInt8 × Bool := if h : okN s.1 then ((h.choose.1, h.choose.2.1), h.choose.2.2, s.2) else ((0, 0), [], true)
theorem rdN_is (s : List UInt8 × Bool) : Rt (rdN s).1.1 (rdN s).1.2 ∧ (digs (rdN s).1.1.natAbs).length ≤ 400 ∧ (rdN s).2.1.length ≤ s.1.length := by
  unfold rdN
  by_cases h : okN s.1
  · rw [dif_pos h]
    obtain ⟨h1, h2, h3, h4⟩ := h.choose_spec
    refine ⟨h3, h2, ?_⟩
    have := congrArg List.length h1
    rw [List.length_append, List.length_append] at this
    dsimp only; omega
  · rw [dif_neg h]
    refine ⟨⟨.inl ⟨rfl, rfl⟩, by dsimp only; omega, by dsimp only; omega⟩, ?_, by simp⟩
    show (digs 0).length ≤ 400
    rw [digs_zero]; simp
theorem rdS_is (s : List UInt8 × Bool) : 0 ≤ (rdS s).1 ∧ (rdS s).1 ≤ 255 ∧ (rdS s).2.1.length ≤ s.1.length := by
  obtain ⟨l, m⟩ := s
  unfold rdS
  cases l with
  | nil => simp
  | cons x r => have := x.toNat_lt; simp; omega
theorem grow_set (w : World) (g i : Nat) (v : Value) : w.grownBy (w.setCell ⟨g, i, none⟩ v) (some g) := by
  have h := (Only.refl g w).setCell i v
  exact ⟨h.os, h.tape, h.output, Nat.le_of_eq h.size.symm, fun k _ hk => h.block k (fun e => hk (by rw [e]))⟩
theorem grow_trans {a b c : World} {r : Option Nat} (h : a.grownBy b r) (k : b.grownBy c r) : a.grownBy c r :=
  ⟨k.os.trans h.os, k.tape.trans h.tape, k.output.trans h.output, Nat.le_trans h.size k.size, fun i hi hr => (k.block i (Nat.lt_of_lt_of_le hi h.size) hr).trans (h.block i hi hr)⟩
theorem grow_below {a b : World} {r : Option Nat} (h : Below a.heap.size a b) : a.grownBy b r := ⟨h.os, h.tape, h.output, h.size, fun i hi _ => h.block i hi⟩
theorem grow_row {a b : World} {g k : Nat} {o : Obj} (h : a.grownBy b (some g)) (hr : a.heap[k]? = some o) (hk : k ≠ g) : b.heap[k]? = some o := (h.block k (heap_lt hr) (fun e => hk (by injection e))).trans hr
theorem grow_kept {a b : World} {g : Nat} {cs : Array Value} {T : TypeId} {fr : Nat × Nat} (h : a.grownBy b (some g)) (hr : a.heap[g]? = some (.cells cs T fr)) (hz : ∀ (i : Nat) (n : Int), cs[i]? ≠ some (.int .u32 n)) : Kept a b := by
  refine ⟨h.size, fun k o n hc => ?_⟩
  by_cases e : k = g
  · subst e
    rw [cell_of_row _ _ _ _ _ _ hr] at hc
    exact absurd hc (hz o n)
  · rw [World.cell?_of_block (a := ⟨k, o, none⟩) (h.block k (cell_lt hc) (fun e2 => e (by injection e2)))]
    exact hc
/-- What is left, in a box's first two cells. -/
def LB (w : World) (g : Nat) (s : List UInt8 × Bool) (rs : List Value) : Prop := w.heap[g]? = some (.cells (.string ⟨s.1.toArray⟩ :: .bool s.2 :: rs).toArray 60 (0, 0))
theorem LB.set0 {w : World} {g : Nat} {s : List UInt8 × Bool} {rs : List Value} (h : LB w g s rs) (r : List UInt8) : LB (w.setCell ⟨g, 0, none⟩ (.string ⟨r.toArray⟩)) g (r, s.2) rs := by
  have := heap_setCell_same _ _ 0 _ _ (.string ⟨r.toArray⟩) h
  unfold LB; rw [this]; simp
theorem LB.set1 {w : World} {g : Nat} {s : List UInt8 × Bool} {rs : List Value} (h : LB w g s rs) (m : Bool) : LB (w.setCell ⟨g, 1, none⟩ (.bool m)) g (s.1, m) rs := by
  have := heap_setCell_same _ _ 1 _ _ (.bool m) h
  unfold LB; rw [this]; simp
theorem noint_rs {s : List UInt8 × Bool} {rs : List Value} (h : ∀ u, u ∈ rs → ∀ n : Int, u ≠ .int .u32 n) : ∀ (i : Nat) (n : Int), ((.string ⟨s.1.toArray⟩ :: .bool s.2 :: rs : List Value).toArray)[i]? ≠ some (.int .u32 n) := by
  intro i n e
  rcases i with _ | _ | i
  · simp at e
  · simp at e
  · simp at e
    exact h _ (List.mem_of_getElem? e) n rfl
set_option maxHeartbeats 4000000 in
set_option maxRecDepth 100000 in
theorem lsmall_any (g : Nat) (s : List UInt8 × Bool) (rs : List Value) (w : World) (h : LB w g s rs) (hl : s.1.length ≤ 9223372036854775807) :
    Calls Tryz.prog 40 #[.pointer (some ⟨g, 0, none⟩)] w fun e w' => e = .returned (.int .i64 (rdS s).1) ∧ LB w' g (rdS s).2 rs ∧ w.grownBy w' (some g) := by
  have H := Lib.hid h
  have f0 : w.cell? ⟨g, 0, none⟩ = some (.string ⟨s.1.toArray⟩) := row_c h (i := 0) rfl
  have f1 : w.cell? ⟨g, 1, none⟩ = some (.bool s.2) := row_c h (i := 1) rfl
  have q0 := frozen_of_row _ _ 0 _ _ h
  have q1 := frozen_of_row _ _ 1 _ _ h
  obtain ⟨l, m⟩ := s
  clear h
  cases l with
  | nil =>
    unfold rdS
    dsimp only at *
    go_enter Tryz.func40, Tryz.ntmps40
    go_wp2
    go_ret
    exact ⟨rfl, H.out.set1 true, grow_set _ _ _ _⟩
  | cons x r =>
    unfold rdS
    dsimp only at *
    have HX := Lib.hid (H.out.set0 r)
    have xn := x.toNat_lt
    have hs : (⟨(x :: r).toArray⟩ : ByteArray).size = r.length + 1 := rfl
    have x2 : (⟨(x :: r).toArray⟩ : ByteArray).extract 1 (r.length + 1) = ⟨r.toArray⟩ := by
      apply ByteArray.ext; simp
    have hz0 : (⟨(x :: r).toArray⟩ : ByteArray)[0]? = some x := rfl
    have HZ0 := Lib.hid hz0
    clear hz0
    generalize hd : (⟨(x :: r).toArray⟩ : ByteArray) = d at *
    generalize ht : (⟨r.toArray⟩ : ByteArray) = t at *
    go_enter Tryz.func40, Tryz.ntmps40
    go_wp2
    go_ret
    refine ⟨?_, HX.out, grow_set _ _ _ _⟩
    have hv : d[0]'(by omega) = x := by
      have := HZ0.out
      rw [getElem?_pos d 0 (by omega)] at this
      exact Option.some.inj this
    have hw : wrap64 ((x.toNat : Nat) : Int) = x.toNat := IntWalk.wrap64_in _ ⟨by omega, by omega⟩
    rw [hv]
    exact congrArg (fun z => Ending.returned (Value.int .i64 z)) hw
theorem dtake_rd {l : List UInt8} {m : Bool} (hl : l.length ≤ 9223372036854775807) (w : World) : ∃ er : Int, (rdN (l, m)).2.2 = (m || (er != 0)) ∧
    Calls Tryz.prog 73 #[.string ⟨l.toArray⟩] w fun e w' => ∃ A c, e = .returned (.tuple #[.agg #[.bool (decide ((rdN (l, m)).1.1 < 0)), .slice A (digs (rdN (l, m)).1.1.natAbs).length c, .int .i64 (rdN (l, m)).1.2], .string ⟨(rdN (l, m)).2.1.toArray⟩, .int .i64 er]) ∧ Dg w' A c (digs (rdN (l, m)).1.1.natAbs) ∧ Below w.heap.size w w' := by
  by_cases h : okN l
  · refine ⟨0, ?_, ?_⟩
    · unfold rdN; rw [dif_pos h]; simp
    · obtain ⟨h1, h2, h3, h4⟩ := h.choose_spec
      unfold rdN
      rw [dif_pos h]
      exact dtake_yes (b := ⟨l.toArray⟩) (t := ⟨h.choose.2.2.toArray⟩) (by simpa using h1) h2 h3 h4 (by simpa using hl) w
  · refine ⟨2, ?_, ?_⟩
    · unfold rdN; rw [dif_neg h]; simp
    · unfold rdN
      rw [dif_neg h]
      refine (dtake_no (b := ⟨l.toArray⟩) (fun ⟨a, b, t, h1, h2, h3, h4⟩ => h ⟨(a, b, t), by simpa using h1, h2, h3, h4⟩) (by simpa using hl) w).mono ?_
      rintro e w' ⟨rfl, hb⟩
      have e0 : digs ((0 : Int).natAbs) = [] := digs_zero
      refine ⟨none, 0, ?_, ?_, hb⟩
      · dsimp only; rw [e0]; rfl
      · dsimp only; rw [e0]; exact Dg.nil_ _ _
set_option maxHeartbeats 4000000 in
set_option maxRecDepth 100000 in
theorem lnumber_any (g : Nat) (s : List UInt8 × Bool) (rs : List Value) (w : World) (h : LB w g s rs) (hz : ∀ u, u ∈ rs → ∀ n : Int, u ≠ .int .u32 n) (hl : s.1.length ≤ 9223372036854775807) :
    Calls Tryz.prog 41 #[.pointer (some ⟨g, 0, none⟩)] w fun e w' => ∃ A c, e = .returned (.agg #[.bool (decide ((rdN s).1.1 < 0)), .slice A (digs (rdN s).1.1.natAbs).length c, .int .i64 (rdN s).1.2]) ∧ Dg w' A c (digs (rdN s).1.1.natAbs) ∧ LB w' g (rdN s).2 rs ∧ w.grownBy w' (some g) := by
  obtain ⟨l, m⟩ := s
  have H := Lib.hid h
  have HZ := Lib.hid hz
  obtain ⟨wz, hwz⟩ : ∃ V : World, w.alloc (.cells #[.bool false, .slice none 0 0, .int .i64 0] 26) = V := ⟨_, rfl⟩
  obtain ⟨er, her, hT⟩ := dtake_rd (l := l) (m := m) hl wz
  have HT := Lib.hid hT
  have NZ := Lib.hid (noint_rs (s := (l, m)) hz)
  obtain ⟨K, hK⟩ : ∃ K, (rdN (l, m)).1.1 = K := ⟨_, rfl⟩
  obtain ⟨F, hF⟩ : ∃ K, (rdN (l, m)).1.2 = K := ⟨_, rfl⟩
  obtain ⟨r, hr⟩ : ∃ K, (rdN (l, m)).2.1 = K := ⟨_, rfl⟩
  have h2 : (rdN (l, m)).2 = (r, m || (er != 0)) := by rw [← hr, ← her]
  rw [hK, hF, hr] at HT
  rw [hK, hF, h2]
  clear hK hF hr h2 her hT h hz
  have hb : Below w.heap.size w wz := by rw [← hwz]; exact below1 _ _
  have HR := Lib.hid (show wz.heap[w.heap.size]? = some (.cells #[.bool false, .slice none 0 0, .int .i64 0] 26 (0, 0)) by rw [← hwz]; exact heap_alloc_new _ _)
  have H1 := Lib.hid (show LB wz g (l, m) rs from (hb.block g (heap_lt H.out)).trans H.out)
  have G1 := Lib.hid (grow_below (r := some g) hb)
  have GN := Lib.hid (heap_lt H.out)
  clear hb
  go_enter Tryz.func41, Tryz.ntmps41
  go_upto_region 1 with fail
  try rw [hwz]
  have f0 : wz.cell? ⟨g, 0, none⟩ = some (.string ⟨l.toArray⟩) := row_c H1.out (i := 0) rfl
  clear hwz
  generalize hd : (⟨l.toArray⟩ : ByteArray) = d at *
  generalize ht : (⟨r.toArray⟩ : ByteArray) = t at *
  go_wp2_with fail
  refine HT.out.mono ?_
  rintro e w2 ⟨A, c, rfl, hdg, hb⟩
  clear f0
  have R2 := co HR hb
  have H2 := Lib.hid (show LB w2 g (l, m) rs from (hb.block g (heap_lt H1.out)).trans H1.out)
  have G2 := Lib.hid (grow_trans G1.out (grow_below hb))
  have D2 := Lib.hid hdg
  clear hb hdg HT
  go_upto_region 2 with fail
  obtain ⟨w3, hW⟩ : ∃ V : World, w2.alloc (.cells #[.bool (decide (K < 0)), .slice A (digs K.natAbs).length c, .int .i64 F] 26) = V := ⟨_, rfl⟩
  rw [hW]
  have hb : Below w2.heap.size w2 w3 := by rw [← hW]; exact below1 _ _
  obtain ⟨x, hx⟩ : ∃ n, w2.heap.size = n := ⟨_, rfl⟩
  have X3 := Lib.hid (show w3.heap[x]? = some (.cells #[.bool (decide (K < 0)), .slice A (digs K.natAbs).length c, .int .i64 F] 26 (0, 0)) by rw [← hW, ← hx]; exact heap_alloc_new _ _)
  have R3 := co R2 hb
  have H3 := Lib.hid (show LB w3 g (l, m) rs from (hb.block g (heap_lt H2.out)).trans H2.out)
  have G3 := Lib.hid (grow_trans G2.out (grow_below hb))
  have D3 := Lib.hid (D2.out.below hb)
  have NX := Lib.hid (show w.heap.size < x ∧ g ≠ w.heap.size ∧ g ≠ x from ⟨by rw [← hx]; exact heap_lt R2.out, Nat.ne_of_lt GN.out, by have := heap_lt H2.out; omega⟩)
  rw [hx]
  clear hb hW hx
  have z0 := frozen_of_row _ _ 0 _ _ H3.out
  have xg := heap_lt H3.out
  have f0 : w3.cell? ⟨g, 0, none⟩ = some (.string d) := by rw [← hd]; exact row_c H3.out (i := 0) rfl
  go_upto_region 3 with fail
  obtain ⟨w4, hW⟩ : ∃ V : World, w3.setCell ⟨g, 0, none⟩ (.string t) = V := ⟨_, rfl⟩
  rw [hW]
  have H4 := Lib.hid (show LB w4 g (r, m) rs by rw [← hW, ← ht]; exact H3.out.set0 r)
  have G4 := Lib.hid (grow_trans G3.out (show w3.grownBy w4 (some g) by rw [← hW]; exact grow_set _ _ _ _))
  have hO : Only g w3 w4 := by rw [← hW]; exact (Only.refl g w3).setCell 0 _
  have X4 := Lib.hid ((hO.block x (Ne.symm NX.out.2.2)).trans X3.out)
  have R4 := Lib.hid ((hO.block w.heap.size (Ne.symm NX.out.2.1)).trans R3.out)
  have D4 := Lib.hid (D3.out.kept (hO.kept H3.out (noint_rs HZ.out)))
  clear hW hO f0 z0 xg
  have z1 := frozen_of_row _ _ 1 _ _ H4.out
  have fg1 : w4.cell? ⟨g, 1, none⟩ = some (.bool m) := row_c H4.out (i := 1) rfl
  have xg := heap_lt H4.out
  have nx1 := NX.out.2.1
  have nx2 := NX.out.2.2
  by_cases he : er = 0
  · subst he
    go_upto_region 5 with fail
    obtain ⟨w5, hW⟩ : ∃ V : World, w4 = V := ⟨_, rfl⟩
    have H5 := Lib.hid (show LB w5 g (r, m || ((0 : Int) != 0)) rs by rw [← hW, show (m || ((0 : Int) != 0)) = m by simp]; exact H4.out)
    have G5 := Lib.hid (show w.grownBy w5 (some g) by rw [← hW]; exact G4.out)
    have X5 := Lib.hid (show w5.heap[x]? = some (.cells #[.bool (decide (K < 0)), .slice A (digs K.natAbs).length c, .int .i64 F] 26 (0, 0)) by rw [← hW]; exact X4.out)
    have R5 := Lib.hid (show w5.heap[w.heap.size]? = some (.cells #[.bool false, .slice none 0 0, .int .i64 0] 26 (0, 0)) by rw [← hW]; exact R4.out)
    have D5 := Lib.hid (show Dg w5 A c (digs K.natAbs) by rw [← hW]; exact D4.out)
    rw [hW]
    clear hW z1 xg nx1 nx2 fg1
    have y0 := row_c (i := 0) X5.out rfl
    have y1 := row_c (i := 1) X5.out rfl
    have y2 := row_c (i := 2) X5.out rfl
    have f0 := row_c (i := 0) R5.out rfl
    have f1 := row_c (i := 1) R5.out rfl
    have f2 := row_c (i := 2) R5.out rfl
    have z0 := frozen_of_row _ _ 0 _ _ R5.out
    have z1 := frozen_of_row _ _ 1 _ _ R5.out
    have z2 := frozen_of_row _ _ 2 _ _ R5.out
    have xr := heap_lt R5.out
    go_wp2
    obtain ⟨w6, hW⟩ : ∃ V : World, ((w5.setCell ⟨w.heap.size, 0, none⟩ (.bool (decide (K < 0)))).setCell ⟨w.heap.size, 1, none⟩ (.slice A (digs K.natAbs).length c)).setCell ⟨w.heap.size, 2, none⟩ (.int .i64 F) = V := ⟨_, rfl⟩
    rw [hW]
    have hO : Only w.heap.size w5 w6 := by rw [← hW]; exact (((Only.refl w.heap.size w5).setCell 0 _).setCell 1 _).setCell 2 _
    have hR6 : w6.heap[w.heap.size]? = some (.cells #[.bool (decide (K < 0)), .slice A (digs K.natAbs).length c, .int .i64 F] 26 (0, 0)) := by rw [← hW]; exact heap_setCell_same _ _ 2 _ _ _ (heap_setCell_same _ _ 1 _ _ _ (heap_setCell_same _ _ 0 _ _ _ R5.out))
    have H6 := Lib.hid (show LB w6 g (r, _) rs from (hO.block g NX.out.2.1).trans H5.out)
    have D6 := Lib.hid (D5.out.kept (hO.kept R5.out noint3))
    have G6 := Lib.hid (show w.grownBy w6 (some g) from ⟨hO.os.trans G5.out.os, hO.tape.trans G5.out.tape, hO.output.trans G5.out.output, Nat.le_trans G5.out.size (Nat.le_of_eq hO.size.symm), fun k hk hk2 => (hO.block k (by omega)).trans (G5.out.block k hk hk2)⟩)
    have g0 := row_c (i := 0) hR6 rfl
    have g1 := row_c (i := 1) hR6 rfl
    have g2 := row_c (i := 2) hR6 rfl
    clear hO y0 y1 y2 z0 z1 z2 xr f0 f1 f2
    refine bodyPost_ret (v := .agg #[.bool (decide (K < 0)), .slice A (digs K.natAbs).length c, .int .i64 F]) (by simp [results, Tryz.results41, go_sem, g0, g1, g2]) rfl ?_
    exact ⟨A, c, rfl, D6.out, H6.out, G6.out⟩
  · have hne : (er != 0) = true := bne_iff_ne.2 he
    go_upto_region 5 with fail
    obtain ⟨w5, hW⟩ : ∃ V : World, w4.setCell ⟨g, 1, none⟩ (.bool true) = V := ⟨_, rfl⟩
    rw [hW]
    have hO : Only g w4 w5 := by rw [← hW]; exact (Only.refl g w4).setCell 1 _
    have H5 := Lib.hid (show LB w5 g (r, m || (er != 0)) rs by rw [← hW, hne, Bool.or_true]; exact H4.out.set1 true)
    have G5 := Lib.hid (grow_trans G4.out (show w4.grownBy w5 (some g) by rw [← hW]; exact grow_set _ _ _ _))
    have X5 := Lib.hid ((hO.block x (Ne.symm NX.out.2.2)).trans X4.out)
    have R5 := Lib.hid ((hO.block w.heap.size (Ne.symm NX.out.2.1)).trans R4.out)
    have D5 := Lib.hid (D4.out.kept (hO.kept H4.out (noint_rs HZ.out)))
    clear hW hO z1 xg nx1 nx2 hne he fg1
    have y0 := row_c (i := 0) X5.out rfl
    have y1 := row_c (i := 1) X5.out rfl
    have y2 := row_c (i := 2) X5.out rfl
    have f0 := row_c (i := 0) R5.out rfl
    have f1 := row_c (i := 1) R5.out rfl
    have f2 := row_c (i := 2) R5.out rfl
    have z0 := frozen_of_row _ _ 0 _ _ R5.out
    have z1 := frozen_of_row _ _ 1 _ _ R5.out
    have z2 := frozen_of_row _ _ 2 _ _ R5.out
    have xr := heap_lt R5.out
    go_wp2
    obtain ⟨w6, hW⟩ : ∃ V : World, ((w5.setCell ⟨w.heap.size, 0, none⟩ (.bool (decide (K < 0)))).setCell ⟨w.heap.size, 1, none⟩ (.slice A (digs K.natAbs).length c)).setCell ⟨w.heap.size, 2, none⟩ (.int .i64 F) = V := ⟨_, rfl⟩
    rw [hW]
    have hO : Only w.heap.size w5 w6 := by rw [← hW]; exact (((Only.refl w.heap.size w5).setCell 0 _).setCell 1 _).setCell 2 _
    have hR6 : w6.heap[w.heap.size]? = some (.cells #[.bool (decide (K < 0)), .slice A (digs K.natAbs).length c, .int .i64 F] 26 (0, 0)) := by rw [← hW]; exact heap_setCell_same _ _ 2 _ _ _ (heap_setCell_same _ _ 1 _ _ _ (heap_setCell_same _ _ 0 _ _ _ R5.out))
    have H6 := Lib.hid (show LB w6 g (r, _) rs from (hO.block g NX.out.2.1).trans H5.out)
    have D6 := Lib.hid (D5.out.kept (hO.kept R5.out noint3))
    have G6 := Lib.hid (show w.grownBy w6 (some g) from ⟨hO.os.trans G5.out.os, hO.tape.trans G5.out.tape, hO.output.trans G5.out.output, Nat.le_trans G5.out.size (Nat.le_of_eq hO.size.symm), fun k hk hk2 => (hO.block k (by omega)).trans (G5.out.block k hk hk2)⟩)
    have g0 := row_c (i := 0) hR6 rfl
    have g1 := row_c (i := 1) hR6 rfl
    have g2 := row_c (i := 2) hR6 rfl
    clear hO y0 y1 y2 z0 z1 z2 xr f0 f1 f2
    refine bodyPost_ret (v := .agg #[.bool (decide (K < 0)), .slice A (digs K.natAbs).length c, .int .i64 F]) (by simp [results, Tryz.results41, go_sem, g0, g1, g2]) rfl ?_
    exact ⟨A, c, rfl, D6.out, H6.out, G6.out⟩
end Go.Proofs.YtdmfapgclppmhaaGreatDoor
end

section
namespace Go.Proofs.YtdmfapgclppmhaaGreatDoor
open Go.RowKit
set_option linter.unusedSimpArgs false
set_option linter.unusedVariables false
/-- What is left once a small number has been read. -/
theorem lsmall_v {g : Nat} {s s2 : List UInt8 × Bool} {n : Int} {rs : List Value} {w : World} (e : rdS s = (n, s2)) (h : LB w g s rs) (hl : s.1.length ≤ 9223372036854775807) :
    Calls Tryz.prog 40 #[.pointer (some ⟨g, 0, none⟩)] w fun e w' => e = .returned (.int .i64 n) ∧ LB w' g s2 rs ∧ w.grownBy w' (some g) := by
  have := lsmall_any g s rs w h hl
  rw [e] at this; exact this
theorem lnumber_v {g : Nat} {s s2 : List UInt8 × Bool} {q : Int × Int} {rs : List Value} {w : World} (e : rdN s = (q, s2)) (h : LB w g s rs) (hz : ∀ u, u ∈ rs → ∀ n : Int, u ≠ .int .u32 n) (hl : s.1.length ≤ 9223372036854775807) :
    Calls Tryz.prog 41 #[.pointer (some ⟨g, 0, none⟩)] w fun e w' => ∃ A c, e = .returned (.agg #[.bool (decide (q.1 < 0)), .slice A (digs q.1.natAbs).length c, .int .i64 q.2]) ∧ Dg w' A c (digs q.1.natAbs) ∧ LB w' g s2 rs ∧ w.grownBy w' (some g) := by
  have := lnumber_any g s rs w h hz hl
  rw [e] at this; exact this
theorem rdS_b {s s2 : List UInt8 × Bool} {n : Int} {N : Nat} (e : rdS s = (n, s2)) (hl : s.1.length ≤ N) : s2.1.length ≤ N ∧ 0 ≤ n ∧ n ≤ 255 := by
  have := rdS_is s
  rw [e] at this
  exact ⟨Nat.le_trans this.2.2 hl, this.1, this.2.1⟩
theorem rdN_b {s s2 : List UInt8 × Bool} {q : Int × Int} {N : Nat} (e : rdN s = (q, s2)) (hl : s.1.length ≤ N) : s2.1.length ≤ N ∧ Rt q.1 q.2 ∧ (digs q.1.natAbs).length ≤ 400 := by
  have := rdN_is s
  rw [e] at this
  exact ⟨Nat.le_trans this.2.2 hl, this.1, this.2.1⟩
theorem keep_cell {w : World} {g o i : Nat} {v : Value} {X : Option Value} (h : w.cell? ⟨g, o, none⟩ = X) (hne : o ≠ i) : (w.setCell ⟨g, i, none⟩ v).cell? ⟨g, o, none⟩ = X := by
  rw [World.cell?_setCell_other _ _ _ _ (by intro e; simp only [Addr.mk.injEq] at e; omega)]; exact h
theorem zmake_dz {A : Option Addr} {c : Nat} {K : Int} {w : World} (h : Dg w A c (digs K.natAbs)) (hl : (digs K.natAbs).length ≤ 1000000) :
    Calls Tryz.prog 42 #[.bool (decide (K < 0)), .slice A (digs K.natAbs).length c] w fun e w' => Zr K w e w' := by
  have := zmake_any A c (decide (K < 0)) _ w h hl
  rwa [sg_dz] at this
theorem LB.setr {w : World} {g : Nat} {s : List UInt8 × Bool} {rs : List Value} (h : LB w g s rs) (i : Nat) (v : Value) : LB (w.setCell ⟨g, i + 2, none⟩ v) g s (rs.set i v) := by
  have := heap_setCell_same _ _ (i + 2) _ _ v h
  unfold LB; rw [this]; simp
/-- The table's head as it is read: Fun, Order, Prec, Degree, W, how many pieces, A, what is left. -/
noncomputable def rdH (s : List UInt8 × Bool) : Int × Int × Int × Int × Int × Int × (Int × Int) × List UInt8 × Bool :=
  let t := rdS s
  let s1 := if t.1 = 84 then t.2 else (t.2.1, true)
  let f := rdS s1
  let o := rdS f.2
  let p := rdS o.2
  let d := rdS p.2
  let x := rdS d.2
  let n := rdS x.2
  let a := rdN n.2
  (f.1, o.1, p.1, d.1, x.1 - 128, n.1, a.1, a.2)
set_option maxHeartbeats 4000000 in
set_option maxRecDepth 100000 in
theorem head_any (g : Nat) (s0 s1 s2 s3 s4 s5 s6 s7 s8 : List UInt8 × Bool) (t F O Q D W n : Int) (a : Int × Int) (w : World) (h : LB w g s0 [.int .i64 0, .int .i64 0, .bool false, .slice none 0 0, .int .i64 0, .int .i64 0, .int .i64 0, .int .i64 0, .slice none 0 0, .bool false, .slice none 0 0, .int .i64 0]) (hl : s0.1.length ≤ 9223372036854775807)
    (e0 : rdS s0 = (t, s1)) (e1 : rdS (if t = 84 then s1 else (s1.1, true)) = (F, s2)) (e2 : rdS s2 = (O, s3)) (e3 : rdS s3 = (Q, s4)) (e4 : rdS s4 = (D, s5)) (e5 : rdS s5 = (W, s6)) (e6 : rdS s6 = (n, s7)) (e7 : rdN s7 = (a, s8)) :
    Calls Tryz.prog 20 #[.pointer (some ⟨g, 0, none⟩)] w fun e w' => ∃ A c B d, e = .returned (.int .i64 n) ∧ LB w' g s8 [.int .i64 F, .int .i64 O, .bool (decide (a.1 < 0)), .slice A (digs a.1.natAbs).length c, .int .i64 a.2, .int .i64 (W - 128), .int .i64 Q, .int .i64 D, .slice none 0 0, .bool (decide (a.1 < 0)), .slice B (digs a.1.natAbs).length d, .int .i64 a.2] ∧ Dg w' A c (digs a.1.natAbs) ∧ Dg w' B d (digs a.1.natAbs) ∧ w.grownBy w' (some g) := by
  have H0 := Lib.hid h
  have E0 := Lib.hid e0
  have E1 := Lib.hid e1
  have E2 := Lib.hid e2
  have E3 := Lib.hid e3
  have E4 := Lib.hid e4
  have E5 := Lib.hid e5
  have E6 := Lib.hid e6
  have E7 := Lib.hid e7
  have B0 := Lib.hid hl
  have B1 := Lib.hid (rdS_b e0 hl)
  obtain ⟨sx, hsx⟩ : ∃ z, (if t = 84 then s1 else (s1.1, true)) = z := ⟨_, rfl⟩
  rw [hsx] at E1
  have BX := Lib.hid (show sx.1.length ≤ 9223372036854775807 by rw [← hsx]; split; exact B1.out.1; exact B1.out.1)
  have B2 := Lib.hid (rdS_b E1.out BX.out)
  have B3 := Lib.hid (rdS_b e2 B2.out.1)
  have B4 := Lib.hid (rdS_b e3 B3.out.1)
  have B5 := Lib.hid (rdS_b e4 B4.out.1)
  have B6 := Lib.hid (rdS_b e5 B5.out.1)
  have B7 := Lib.hid (rdS_b e6 B6.out.1)
  have B8 := Lib.hid (rdN_b e7 B7.out.1)
  have wW : wrap64 (W - 128) = W - 128 := IntWalk.wrap64_in _ ⟨by have := B6.out; omega, by have := B6.out; omega⟩
  have HSX := Lib.hid hsx
  clear h e0 e1 e2 e3 e4 e5 e6 e7 hl hsx
  go_enter Tryz.func20, Tryz.ntmps20
  go_wp2_with fail
  refine (lsmall_v E0.out H0.out B0.out).mono ?_
  rintro e w1 ⟨rfl, hlb, hgr⟩
  have H1 := Lib.hid hlb
  have G1 := Lib.hid hgr
  clear hlb hgr
  have z1 := frozen_of_row _ _ 1 _ _ H1.out
  have f1 := row_c H1.out (i := 1) rfl
  by_cases ht : t = 84
  · subst ht
    have HX := Lib.hid (show LB w1 g sx [.int .i64 0, .int .i64 0, .bool false, .slice none 0 0, .int .i64 0, .int .i64 0, .int .i64 0, .int .i64 0, .slice none 0 0, .bool false, .slice none 0 0, .int .i64 0] by rw [← HSX.out, if_pos rfl]; exact H1.out)
    have GX := G1
    clear f1 z1
    go_upto_region 4 with fail
    go_wp2_with fail
    have HD := Lib.hid (show LB w1.drew g sx [.int .i64 0, .int .i64 0, .bool false, .slice none 0 0, .int .i64 0, .int .i64 0, .int .i64 0, .int .i64 0, .slice none 0 0, .bool false, .slice none 0 0, .int .i64 0] from HX.out)
    have GD := Lib.hid (grow_trans GX.out (grow_below (r := some g) (bd0 w1)))
    go_region_held3 (fun w' => True)
      (first | trivial)
      (first
        | (go_at_call 40; (with_reducible refine (lsmall_v E1.out HD.out BX.out).mono ?_); rintro e w2 ⟨rfl, hlb, hgr⟩; (have H2 := Lib.hid hlb); (have G2 := Lib.hid (grow_trans GD.out hgr)); clear hlb hgr)
        | (go_at_call 40; (with_reducible refine (lsmall_v E2.out H2.out B2.out.1).mono ?_); rintro e w3 ⟨rfl, hlb, hgr⟩; (have H3 := Lib.hid hlb); (have G3 := Lib.hid (grow_trans G2.out hgr)); clear hlb hgr)
        | (go_at_call 40; (with_reducible refine (lsmall_v E3.out H3.out B3.out.1).mono ?_); rintro e w4 ⟨rfl, hlb, hgr⟩; (have H4 := Lib.hid hlb); (have G4 := Lib.hid (grow_trans G3.out hgr)); clear hlb hgr)
        | (go_at_call 40; (with_reducible refine (lsmall_v E4.out H4.out B4.out.1).mono ?_); rintro e w5 ⟨rfl, hlb, hgr⟩; (have H5 := Lib.hid hlb); (have G5 := Lib.hid (grow_trans G4.out hgr)); clear hlb hgr; (have q2 := row_c (i := 2) H5.out rfl); (have p2 := frozen_of_row _ _ 2 _ _ H5.out); (have q3 := row_c (i := 3) H5.out rfl); (have p3 := frozen_of_row _ _ 3 _ _ H5.out); (have q8 := row_c (i := 8) H5.out rfl); (have p8 := frozen_of_row _ _ 8 _ _ H5.out); (have q9 := row_c (i := 9) H5.out rfl); (have p9 := frozen_of_row _ _ 9 _ _ H5.out)))
    rename_i hHeld
    clear hHeld
    clear q2 p2 q3 p3 q8 p8 q9 p9
    obtain ⟨w6, hW⟩ : ∃ V : World, (((w5.setCell ⟨g, 2, none⟩ (.int .i64 F)).setCell ⟨g, 3, none⟩ (.int .i64 O)).setCell ⟨g, 8, none⟩ (.int .i64 Q)).setCell ⟨g, 9, none⟩ (.int .i64 D) = V := ⟨_, rfl⟩
    rw [hW]
    have H6 := Lib.hid (show LB w6 g s5 [.int .i64 F, .int .i64 O, .bool false, .slice none 0 0, .int .i64 0, .int .i64 0, .int .i64 Q, .int .i64 D, .slice none 0 0, .bool false, .slice none 0 0, .int .i64 0] by rw [← hW]; exact (((H5.out.setr 0 _).setr 1 _).setr 6 _).setr 7 _)
    have G6 := Lib.hid (grow_trans G5.out (show w5.grownBy w6 (some g) by rw [← hW]; exact grow_trans (grow_trans (grow_trans (grow_set _ _ _ _) (grow_set _ _ _ _)) (grow_set _ _ _ _)) (grow_set _ _ _ _)))
    clear hW
    go_wp2_with fail
    refine (lsmall_v E5.out H6.out B5.out.1).mono ?_
    rintro e w7 ⟨rfl, hlb, hgr⟩
    have H7 := Lib.hid hlb
    have G7 := Lib.hid (grow_trans G6.out hgr)
    clear hlb hgr
    have q7 := row_c (i := 7) H7.out rfl
    have p7 := frozen_of_row _ _ 7 _ _ H7.out
    go_wp2_with fail
    clear q7 p7
    obtain ⟨w8, hW⟩ : ∃ V : World, w7.setCell ⟨g, 7, none⟩ (.int .i64 (W - 128)) = V := ⟨_, rfl⟩
    rw [hW]
    have H8 := Lib.hid (show LB w8 g s6 [.int .i64 F, .int .i64 O, .bool false, .slice none 0 0, .int .i64 0, .int .i64 (W - 128), .int .i64 Q, .int .i64 D, .slice none 0 0, .bool false, .slice none 0 0, .int .i64 0] by rw [← hW]; exact H7.out.setr 5 _)
    have G8 := Lib.hid (grow_trans G7.out (show w7.grownBy w8 (some g) by rw [← hW]; exact grow_set _ _ _ _))
    clear hW
    refine (lsmall_v E6.out H8.out B6.out.1).mono ?_
    rintro e w9 ⟨rfl, hlb, hgr⟩
    have H9 := Lib.hid hlb
    have G9 := Lib.hid (grow_trans G8.out hgr)
    clear hlb hgr
    go_wp2_with fail
    refine (lnumber_v E7.out H9.out (by intro u hu n e; subst e; simp at hu) B7.out.1).mono ?_
    rintro e w10 ⟨A, c, rfl, hdg, hlb, hgr⟩
    have H10 := Lib.hid hlb
    have G10 := Lib.hid (grow_trans G9.out hgr)
    have D10 := Lib.hid hdg
    clear hlb hgr hdg
    have q4 := row_c (i := 4) H10.out rfl
    have p4 := frozen_of_row _ _ 4 _ _ H10.out
    have q5 := row_c (i := 5) H10.out rfl
    have p5 := frozen_of_row _ _ 5 _ _ H10.out
    have q6 := row_c (i := 6) H10.out rfl
    have p6 := frozen_of_row _ _ 6 _ _ H10.out
    go_wp2_with fail
    clear q4 p4 q5 p5 q6 p6
    obtain ⟨w11, hW⟩ : ∃ V : World, ((w10.setCell ⟨g, 4, none⟩ (.bool (decide (a.1 < 0)))).setCell ⟨g, 5, none⟩ (.slice A (digs a.1.natAbs).length c)).setCell ⟨g, 6, none⟩ (.int .i64 a.2) = V := ⟨_, rfl⟩
    rw [hW]
    have H11 := Lib.hid (show LB w11 g s8 [.int .i64 F, .int .i64 O, .bool (decide (a.1 < 0)), .slice A (digs a.1.natAbs).length c, .int .i64 a.2, .int .i64 (W - 128), .int .i64 Q, .int .i64 D, .slice none 0 0, .bool false, .slice none 0 0, .int .i64 0] by rw [← hW]; exact ((H10.out.setr 2 _).setr 3 _).setr 4 _)
    have hg11 : w10.grownBy w11 (some g) := by rw [← hW]; exact grow_trans (grow_trans (grow_set _ _ _ _) (grow_set _ _ _ _)) (grow_set _ _ _ _)
    have G11 := Lib.hid (grow_trans G10.out hg11)
    have D11 := Lib.hid (D10.out.kept (grow_kept hg11 H10.out (noint_rs (s := s8) (by intro u hu n e; subst e; simp at hu))))
    clear hW hg11
    have KD := Lib.hid (bd0 w11)
    have SG := Lib.hid (heap_lt H11.out)
    have xg := SG.out
    have q4 := row_c (i := 4) H11.out rfl
    have q5 := row_c (i := 5) H11.out rfl
    have q6 := row_c (i := 6) H11.out rfl
    go_region_held3 (fun w' => w'.cell? ⟨g, 4, none⟩ = w11.cell? ⟨g, 4, none⟩ ∧ w'.cell? ⟨g, 5, none⟩ = w11.cell? ⟨g, 5, none⟩ ∧ w'.cell? ⟨g, 6, none⟩ = w11.cell? ⟨g, 6, none⟩)
      (first | with_reducible exact ⟨keep_b KD.out xg 4, keep_b KD.out xg 5, keep_b KD.out xg 6⟩ | with_reducible exact ⟨keep_b K12.out xg 4, keep_b K12.out xg 5, keep_b K12.out xg 6⟩ | (refine ⟨?_, ?_, ?_⟩ <;> (repeat (refine keep_cell ?_ (by decide))) <;> exact keep_b K12.out xg _))
      (first
        | (go_at_call 42; (with_reducible refine (zmake_dz (D11.out.below KD.out) (Nat.le_trans B8.out.2.2 (by omega))).mono ?_); rintro e w12 ⟨B, d, rfl, hd, hb⟩; (have K12 := bt KD hb); (have D12 := Lib.hid hd); (have q11 := row_c (i := 11) (co H11 K12.out).out rfl); (have p11 := frozen_of_row _ _ 11 _ _ (cells_of H11.out K12.out)); (have q12 := row_c (i := 12) (co H11 K12.out).out rfl); (have p12 := frozen_of_row _ _ 12 _ _ (cells_of H11.out K12.out)); (have q13 := row_c (i := 13) (co H11 K12.out).out rfl); (have p13 := frozen_of_row _ _ 13 _ _ (cells_of H11.out K12.out)); clear hb hd))
    rename_i hHeld
    clear hHeld
    clear q4 q5 q6 q11 p11 q12 p12 q13 p13 xg
    obtain ⟨w13, hW⟩ : ∃ V : World, ((w12.setCell ⟨g, 11, none⟩ (.bool (decide (a.1 < 0)))).setCell ⟨g, 12, none⟩ (.slice B (digs a.1.natAbs).length d)).setCell ⟨g, 13, none⟩ (.int .i64 a.2) = V := ⟨_, rfl⟩
    rw [hW]
    have H12 := Lib.hid (show LB w12 g s8 [.int .i64 F, .int .i64 O, .bool (decide (a.1 < 0)), .slice A (digs a.1.natAbs).length c, .int .i64 a.2, .int .i64 (W - 128), .int .i64 Q, .int .i64 D, .slice none 0 0, .bool false, .slice none 0 0, .int .i64 0] from cells_of H11.out K12.out)
    have H13 := Lib.hid (show LB w13 g s8 [.int .i64 F, .int .i64 O, .bool (decide (a.1 < 0)), .slice A (digs a.1.natAbs).length c, .int .i64 a.2, .int .i64 (W - 128), .int .i64 Q, .int .i64 D, .slice none 0 0, .bool (decide (a.1 < 0)), .slice B (digs a.1.natAbs).length d, .int .i64 a.2] by rw [← hW]; exact ((H12.out.setr 9 _).setr 10 _).setr 11 _)
    have hg13 : w12.grownBy w13 (some g) := by rw [← hW]; exact grow_trans (grow_trans (grow_set _ _ _ _) (grow_set _ _ _ _)) (grow_set _ _ _ _)
    have hk13 := grow_kept hg13 H12.out (noint_rs (s := s8) (by intro u hu n e; subst e; simp at hu))
    have G13 := Lib.hid (grow_trans (grow_trans G11.out (grow_below K12.out)) hg13)
    have DA := Lib.hid ((D11.out.below K12.out).kept hk13)
    have DB := Lib.hid (D12.out.kept hk13)
    clear hW hg13 hk13
    go_wp2
    go_ret
    exact ⟨A, c, B, d, rfl, H13.out, DA.out, DB.out, G13.out⟩
  · have hne : (t != 84) = true := bne_iff_ne.2 ht
    have HTT := Lib.hid ht
    go_upto_region 3 with fail
    obtain ⟨wx, hW⟩ : ∃ V : World, w1.setCell ⟨g, 1, none⟩ (.bool true) = V := ⟨_, rfl⟩
    rw [hW]
    have HX := Lib.hid (show LB wx g sx [.int .i64 0, .int .i64 0, .bool false, .slice none 0 0, .int .i64 0, .int .i64 0, .int .i64 0, .int .i64 0, .slice none 0 0, .bool false, .slice none 0 0, .int .i64 0] by rw [← HSX.out, if_neg HTT.out, ← hW]; exact H1.out.set1 true)
    have GX := Lib.hid (grow_trans G1.out (show w1.grownBy wx (some g) by rw [← hW]; exact grow_set _ _ _ _))
    clear hW f1 z1 hne ht
    go_upto_region 4 with fail
    go_wp2_with fail
    have HD := Lib.hid (show LB wx.drew g sx [.int .i64 0, .int .i64 0, .bool false, .slice none 0 0, .int .i64 0, .int .i64 0, .int .i64 0, .int .i64 0, .slice none 0 0, .bool false, .slice none 0 0, .int .i64 0] from HX.out)
    have GD := Lib.hid (grow_trans GX.out (grow_below (r := some g) (bd0 wx)))
    go_region_held3 (fun w' => True)
      (first | trivial)
      (first
        | (go_at_call 40; (with_reducible refine (lsmall_v E1.out HD.out BX.out).mono ?_); rintro e w2 ⟨rfl, hlb, hgr⟩; (have H2 := Lib.hid hlb); (have G2 := Lib.hid (grow_trans GD.out hgr)); clear hlb hgr)
        | (go_at_call 40; (with_reducible refine (lsmall_v E2.out H2.out B2.out.1).mono ?_); rintro e w3 ⟨rfl, hlb, hgr⟩; (have H3 := Lib.hid hlb); (have G3 := Lib.hid (grow_trans G2.out hgr)); clear hlb hgr)
        | (go_at_call 40; (with_reducible refine (lsmall_v E3.out H3.out B3.out.1).mono ?_); rintro e w4 ⟨rfl, hlb, hgr⟩; (have H4 := Lib.hid hlb); (have G4 := Lib.hid (grow_trans G3.out hgr)); clear hlb hgr)
        | (go_at_call 40; (with_reducible refine (lsmall_v E4.out H4.out B4.out.1).mono ?_); rintro e w5 ⟨rfl, hlb, hgr⟩; (have H5 := Lib.hid hlb); (have G5 := Lib.hid (grow_trans G4.out hgr)); clear hlb hgr; (have q2 := row_c (i := 2) H5.out rfl); (have p2 := frozen_of_row _ _ 2 _ _ H5.out); (have q3 := row_c (i := 3) H5.out rfl); (have p3 := frozen_of_row _ _ 3 _ _ H5.out); (have q8 := row_c (i := 8) H5.out rfl); (have p8 := frozen_of_row _ _ 8 _ _ H5.out); (have q9 := row_c (i := 9) H5.out rfl); (have p9 := frozen_of_row _ _ 9 _ _ H5.out)))
    rename_i hHeld
    clear hHeld
    clear q2 p2 q3 p3 q8 p8 q9 p9
    obtain ⟨w6, hW⟩ : ∃ V : World, (((w5.setCell ⟨g, 2, none⟩ (.int .i64 F)).setCell ⟨g, 3, none⟩ (.int .i64 O)).setCell ⟨g, 8, none⟩ (.int .i64 Q)).setCell ⟨g, 9, none⟩ (.int .i64 D) = V := ⟨_, rfl⟩
    rw [hW]
    have H6 := Lib.hid (show LB w6 g s5 [.int .i64 F, .int .i64 O, .bool false, .slice none 0 0, .int .i64 0, .int .i64 0, .int .i64 Q, .int .i64 D, .slice none 0 0, .bool false, .slice none 0 0, .int .i64 0] by rw [← hW]; exact (((H5.out.setr 0 _).setr 1 _).setr 6 _).setr 7 _)
    have G6 := Lib.hid (grow_trans G5.out (show w5.grownBy w6 (some g) by rw [← hW]; exact grow_trans (grow_trans (grow_trans (grow_set _ _ _ _) (grow_set _ _ _ _)) (grow_set _ _ _ _)) (grow_set _ _ _ _)))
    clear hW
    go_wp2_with fail
    refine (lsmall_v E5.out H6.out B5.out.1).mono ?_
    rintro e w7 ⟨rfl, hlb, hgr⟩
    have H7 := Lib.hid hlb
    have G7 := Lib.hid (grow_trans G6.out hgr)
    clear hlb hgr
    have q7 := row_c (i := 7) H7.out rfl
    have p7 := frozen_of_row _ _ 7 _ _ H7.out
    go_wp2_with fail
    clear q7 p7
    obtain ⟨w8, hW⟩ : ∃ V : World, w7.setCell ⟨g, 7, none⟩ (.int .i64 (W - 128)) = V := ⟨_, rfl⟩
    rw [hW]
    have H8 := Lib.hid (show LB w8 g s6 [.int .i64 F, .int .i64 O, .bool false, .slice none 0 0, .int .i64 0, .int .i64 (W - 128), .int .i64 Q, .int .i64 D, .slice none 0 0, .bool false, .slice none 0 0, .int .i64 0] by rw [← hW]; exact H7.out.setr 5 _)
    have G8 := Lib.hid (grow_trans G7.out (show w7.grownBy w8 (some g) by rw [← hW]; exact grow_set _ _ _ _))
    clear hW
    refine (lsmall_v E6.out H8.out B6.out.1).mono ?_
    rintro e w9 ⟨rfl, hlb, hgr⟩
    have H9 := Lib.hid hlb
    have G9 := Lib.hid (grow_trans G8.out hgr)
    clear hlb hgr
    go_wp2_with fail
    refine (lnumber_v E7.out H9.out (by intro u hu n e; subst e; simp at hu) B7.out.1).mono ?_
    rintro e w10 ⟨A, c, rfl, hdg, hlb, hgr⟩
    have H10 := Lib.hid hlb
    have G10 := Lib.hid (grow_trans G9.out hgr)
    have D10 := Lib.hid hdg
    clear hlb hgr hdg
    have q4 := row_c (i := 4) H10.out rfl
    have p4 := frozen_of_row _ _ 4 _ _ H10.out
    have q5 := row_c (i := 5) H10.out rfl
    have p5 := frozen_of_row _ _ 5 _ _ H10.out
    have q6 := row_c (i := 6) H10.out rfl
    have p6 := frozen_of_row _ _ 6 _ _ H10.out
    go_wp2_with fail
    clear q4 p4 q5 p5 q6 p6
    obtain ⟨w11, hW⟩ : ∃ V : World, ((w10.setCell ⟨g, 4, none⟩ (.bool (decide (a.1 < 0)))).setCell ⟨g, 5, none⟩ (.slice A (digs a.1.natAbs).length c)).setCell ⟨g, 6, none⟩ (.int .i64 a.2) = V := ⟨_, rfl⟩
    rw [hW]
    have H11 := Lib.hid (show LB w11 g s8 [.int .i64 F, .int .i64 O, .bool (decide (a.1 < 0)), .slice A (digs a.1.natAbs).length c, .int .i64 a.2, .int .i64 (W - 128), .int .i64 Q, .int .i64 D, .slice none 0 0, .bool false, .slice none 0 0, .int .i64 0] by rw [← hW]; exact ((H10.out.setr 2 _).setr 3 _).setr 4 _)
    have hg11 : w10.grownBy w11 (some g) := by rw [← hW]; exact grow_trans (grow_trans (grow_set _ _ _ _) (grow_set _ _ _ _)) (grow_set _ _ _ _)
    have G11 := Lib.hid (grow_trans G10.out hg11)
    have D11 := Lib.hid (D10.out.kept (grow_kept hg11 H10.out (noint_rs (s := s8) (by intro u hu n e; subst e; simp at hu))))
    clear hW hg11
    have KD := Lib.hid (bd0 w11)
    have SG := Lib.hid (heap_lt H11.out)
    have xg := SG.out
    have q4 := row_c (i := 4) H11.out rfl
    have q5 := row_c (i := 5) H11.out rfl
    have q6 := row_c (i := 6) H11.out rfl
    go_region_held3 (fun w' => w'.cell? ⟨g, 4, none⟩ = w11.cell? ⟨g, 4, none⟩ ∧ w'.cell? ⟨g, 5, none⟩ = w11.cell? ⟨g, 5, none⟩ ∧ w'.cell? ⟨g, 6, none⟩ = w11.cell? ⟨g, 6, none⟩)
      (first | with_reducible exact ⟨keep_b KD.out xg 4, keep_b KD.out xg 5, keep_b KD.out xg 6⟩ | with_reducible exact ⟨keep_b K12.out xg 4, keep_b K12.out xg 5, keep_b K12.out xg 6⟩ | (refine ⟨?_, ?_, ?_⟩ <;> (repeat (refine keep_cell ?_ (by decide))) <;> exact keep_b K12.out xg _))
      (first
        | (go_at_call 42; (with_reducible refine (zmake_dz (D11.out.below KD.out) (Nat.le_trans B8.out.2.2 (by omega))).mono ?_); rintro e w12 ⟨B, d, rfl, hd, hb⟩; (have K12 := bt KD hb); (have D12 := Lib.hid hd); (have q11 := row_c (i := 11) (co H11 K12.out).out rfl); (have p11 := frozen_of_row _ _ 11 _ _ (cells_of H11.out K12.out)); (have q12 := row_c (i := 12) (co H11 K12.out).out rfl); (have p12 := frozen_of_row _ _ 12 _ _ (cells_of H11.out K12.out)); (have q13 := row_c (i := 13) (co H11 K12.out).out rfl); (have p13 := frozen_of_row _ _ 13 _ _ (cells_of H11.out K12.out)); clear hb hd))
    rename_i hHeld
    clear hHeld
    clear q4 q5 q6 q11 p11 q12 p12 q13 p13 xg
    obtain ⟨w13, hW⟩ : ∃ V : World, ((w12.setCell ⟨g, 11, none⟩ (.bool (decide (a.1 < 0)))).setCell ⟨g, 12, none⟩ (.slice B (digs a.1.natAbs).length d)).setCell ⟨g, 13, none⟩ (.int .i64 a.2) = V := ⟨_, rfl⟩
    rw [hW]
    have H12 := Lib.hid (show LB w12 g s8 [.int .i64 F, .int .i64 O, .bool (decide (a.1 < 0)), .slice A (digs a.1.natAbs).length c, .int .i64 a.2, .int .i64 (W - 128), .int .i64 Q, .int .i64 D, .slice none 0 0, .bool false, .slice none 0 0, .int .i64 0] from cells_of H11.out K12.out)
    have H13 := Lib.hid (show LB w13 g s8 [.int .i64 F, .int .i64 O, .bool (decide (a.1 < 0)), .slice A (digs a.1.natAbs).length c, .int .i64 a.2, .int .i64 (W - 128), .int .i64 Q, .int .i64 D, .slice none 0 0, .bool (decide (a.1 < 0)), .slice B (digs a.1.natAbs).length d, .int .i64 a.2] by rw [← hW]; exact ((H12.out.setr 9 _).setr 10 _).setr 11 _)
    have hg13 : w12.grownBy w13 (some g) := by rw [← hW]; exact grow_trans (grow_trans (grow_set _ _ _ _) (grow_set _ _ _ _)) (grow_set _ _ _ _)
    have hk13 := grow_kept hg13 H12.out (noint_rs (s := s8) (by intro u hu n e; subst e; simp at hu))
    have G13 := Lib.hid (grow_trans (grow_trans G11.out (grow_below K12.out)) hg13)
    have DA := Lib.hid ((D11.out.below K12.out).kept hk13)
    have DB := Lib.hid (D12.out.kept hk13)
    clear hW hg13 hk13
    go_wp2
    go_ret
    exact ⟨A, c, B, d, rfl, H13.out, DA.out, DB.out, G13.out⟩
end Go.Proofs.YtdmfapgclppmhaaGreatDoor
end

section
namespace Go.Proofs.YtdmfapgclppmhaaGreatDoor
open Go.RowKit
set_option linter.unusedSimpArgs false
set_option linter.unusedVariables false
/-- A piece that has been read: numbers with their values. -/
structure PdZ where
  a : Int × Int
  w : Int
  cs : List (Int × Int)
  er : Int × Int
def nmOf (q : Int × Int) : Nm := (decide (q.1 < 0), digs q.1.natAbs, q.2)
def PdZ.to (p : PdZ) : Pd := ⟨nmOf p.a, p.w, p.cs.map nmOf, nmOf p.er⟩
/-- Numbers in a row of their own. -/
def NrL (w : World) (P : Option Addr) (k : Nat) (L : List (Int × Int)) : Prop := L.length ≤ k ∧ (L.length ≠ 0 → ∃ b cur fr, P = some ⟨b, 0, none⟩ ∧ w.heap[b]? = some (.cells cur 26 fr) ∧
  ∀ (i : Nat) z, L[i]? = some z → ∃ A c, w.cell? ⟨b, i * 3, none⟩ = some (.bool (decide (z.1 < 0))) ∧ w.cell? ⟨b, i * 3 + 1, none⟩ = some (.slice A (digs z.1.natAbs).length c) ∧ w.cell? ⟨b, i * 3 + 2, none⟩ = some (.int .i64 z.2) ∧ Dg w A c (digs z.1.natAbs))
theorem Dw.nrl {w : World} {B : Nat} {A : Option Addr} {m k : Nat} {L : List (Int × Int)} (h : Dw w B (.slice A m k) L) : m = L.length ∧ NrL w A k L := by
  obtain ⟨hn, cs, hown, hcs⟩ := h
  rcases hown.2 with ⟨h1, h2⟩ | ⟨g, cap, cur, h1, hB, hh, hc, _, _, _⟩
  · injection h1 with e1 e2 e3
    exact ⟨by omega, by omega, fun h0 => absurd h2 h0⟩
  · have h1c := h1
    injection h1 with e1 e2 e3
    refine ⟨e2, by omega, fun _ => ⟨g, cur, _, e1, hh, fun i z hz => ?_⟩⟩
    obtain ⟨A, c, c0, c1, c2, hd⟩ := hcs.2.2 i z hz
    have a0 := hown.cells (g := g) (by rw [h1c]; rfl) _ _ c0
    have a1 := hown.cells (g := g) (by rw [h1c]; rfl) _ _ c1
    have a2 := hown.cells (g := g) (by rw [h1c]; rfl) _ _ c2
    rw [Addr.add_lit] at a0 a1 a2
    simp only [Nat.zero_add] at a0 a1 a2
    exact ⟨A, c, a0, a1, a2, hd⟩
/-- What turns box g and rows of pieces from N on, and leaves all else. -/
def Gz (N g : Nat) (w w' : World) : Prop := Kept w w' ∧ (w'.os = w.os ∧ w'.tape = w.tape ∧ w'.output = w.output) ∧ ∀ k, k < w.heap.size → k ≠ g → (k < N ∨ ∀ cs fr, w.heap[k]? ≠ some (.cells cs 49 fr)) → w'.heap[k]? = w.heap[k]?
theorem Gz.refl (N g : Nat) (w : World) : Gz N g w w := ⟨Kept.refl _, ⟨rfl, rfl, rfl⟩, fun _ _ _ _ => rfl⟩
theorem Gz.trans {N g : Nat} {a b c : World} (h : Gz N g a b) (k : Gz N g b c) : Gz N g a c := by
  refine ⟨h.1.trans k.1, ⟨k.2.1.1.trans h.2.1.1, k.2.1.2.1.trans h.2.1.2.1, k.2.1.2.2.trans h.2.1.2.2⟩, fun i hi hg hb => ?_⟩
  have e := h.2.2 i hi hg hb
  exact (k.2.2 i (Nat.lt_of_lt_of_le hi h.1.1) hg (hb.imp id (fun f cs fr x => f cs fr (e ▸ x)))).trans e
theorem Gz.below {N g : Nat} {a b : World} (h : Below a.heap.size a b) : Gz N g a b := ⟨Kept.below h, ⟨h.os, h.tape, h.output⟩, fun i hi _ _ => h.block i hi⟩
theorem Gz.grown {N g : Nat} {a b : World} (h : a.grownBy b (some g)) (k : Kept a b) : Gz N g a b := ⟨k, ⟨h.os, h.tape, h.output⟩, fun i hi hg _ => h.block i hi (fun e => hg (by injection e))⟩
theorem Gz.row {N g : Nat} {a b : World} (h : Gz N g a b) {k : Nat} {cs : Array Value} {T : TypeId} {fr : Nat × Nat} (hr : a.heap[k]? = some (.cells cs T fr)) (hk : k ≠ g) (hT : T ≠ 49) : b.heap[k]? = some (.cells cs T fr) :=
  (h.2.2 k (heap_lt hr) hk (.inr (fun cs' fr' e => by rw [hr] at e; exact hT (by injection e with e; injection e)))).trans hr
theorem Gz.base {N g : Nat} {W a b : World} (h : Gz N g a b) (hB : Below N W a) (hN : N ≤ a.heap.size) (hg : N ≤ g) : Below N W b :=
  ⟨h.2.1.1.trans hB.os, h.2.1.2.1.trans hB.tape, h.2.1.2.2.trans hB.output, Nat.le_trans hB.size h.1.1, fun i hi => (h.2.2 i (by omega) (by omega) (.inl hi)).trans (hB.block i hi)⟩
theorem NrL.gz {N g : Nat} {w w' : World} {P : Option Addr} {k : Nat} {L : List (Int × Int)} (h : NrL w P k L) (hg : Gz N g w w') {cs : Array Value} {T : TypeId} {fr : Nat × Nat} (hT : w.heap[g]? = some (.cells cs T fr)) (hne : T ≠ 26) : NrL w' P k L := by
  refine ⟨h.1, fun h0 => ?_⟩
  obtain ⟨b, cur, fr2, rfl, hr, hc⟩ := h.2 h0
  have hb : b ≠ g := fun e => by subst e; rw [hT] at hr; exact hne (by injection hr with hr; injection hr)
  have hr' := hg.row hr hb (by decide)
  have ce : ∀ o, w'.cell? ⟨b, o, none⟩ = w.cell? ⟨b, o, none⟩ := fun o => World.cell?_of_block (a := ⟨b, o, none⟩) (hr'.trans hr.symm)
  refine ⟨b, cur, fr2, rfl, hr', fun i z hz => ?_⟩
  obtain ⟨A, c, c0, c1, c2, hd⟩ := hc i z hz
  exact ⟨A, c, (ce _).trans c0, (ce _).trans c1, (ce _).trans c2, hd.kept hg.1⟩
theorem NrL.ns {w : World} {P : Option Addr} {k : Nat} {L : List (Int × Int)} (h : NrL w P k L) : NsL w P k (L.map nmOf) := by
  by_cases h0 : L.length = 0
  · have : L = [] := List.length_eq_zero_iff.1 h0
    subst this
    exact ⟨fun _ => none, fun _ => 0, Nat.zero_le _, fun h => absurd rfl h⟩
  · obtain ⟨b, cur, fr, rfl, hr, hc⟩ := h.2 h0
    have key : ∀ i, ∃ Ac : Option Addr × Nat, i < L.length → w.cell? ⟨b, 0 + i * 3, none⟩ = some (.bool (((L.map nmOf)[i]?.getD (false, [], 0)).1)) ∧ w.cell? ⟨b, 0 + i * 3 + 1, none⟩ = some (.slice Ac.1 (((L.map nmOf)[i]?.getD (false, [], 0)).2.1).length Ac.2) ∧ w.cell? ⟨b, 0 + i * 3 + 2, none⟩ = some (.int .i64 ((L.map nmOf)[i]?.getD (false, [], 0)).2.2) ∧ Dg w Ac.1 Ac.2 ((L.map nmOf)[i]?.getD (false, [], 0)).2.1 := by
      intro i
      by_cases hi : i < L.length
      · obtain ⟨A, c, c0, c1, c2, hd⟩ := hc i L[i] (List.getElem?_eq_getElem hi)
        refine ⟨(A, c), fun _ => ?_⟩
        have e : (L.map nmOf)[i]?.getD (false, [], 0) = nmOf L[i] := by rw [List.getElem?_map, List.getElem?_eq_getElem hi]; rfl
        rw [e, Nat.zero_add]
        exact ⟨c0, c1, c2, hd⟩
      · exact ⟨(none, 0), fun h => absurd h hi⟩
    refine ⟨fun i => (Classical.choose (key i)).1, fun i => (Classical.choose (key i)).2, ?_, fun _ => ⟨b, 0, rfl, heap_lt hr, fun i hi => ?_⟩⟩
    · rw [List.length_map]; exact h.1
    · rw [List.length_map] at hi
      exact Classical.choose_spec (key i) hi
/-- The cells of some pieces. -/
def PcOf (w : World) (cs : List Value) (ps : List PdZ) : Prop := cs.length = ps.length * 8 ∧ (∀ u ∈ cs, ∀ n : Int, u ≠ .int .u32 n) ∧
  ∀ (i : Nat) p, ps[i]? = some p → ∃ A c P k B d, cs[i * 8]? = some (.bool (decide (p.a.1 < 0))) ∧ cs[i * 8 + 1]? = some (.slice A (digs p.a.1.natAbs).length c) ∧ cs[i * 8 + 2]? = some (.int .i64 p.a.2) ∧ cs[i * 8 + 3]? = some (.int .i64 p.w) ∧ cs[i * 8 + 4]? = some (.slice P p.cs.length k) ∧ cs[i * 8 + 5]? = some (.bool (decide (p.er.1 < 0))) ∧ cs[i * 8 + 6]? = some (.slice B (digs p.er.1.natAbs).length d) ∧ cs[i * 8 + 7]? = some (.int .i64 p.er.2) ∧ Dg w A c (digs p.a.1.natAbs) ∧ NrL w P k p.cs ∧ Dg w B d (digs p.er.1.natAbs)
/-- A row of pieces that is the walk's own. -/
def Pw (w : World) (N : Nat) (v : Value) (ps : List PdZ) : Prop := NoInt w v ∧ ∃ cs, w.ownsRow N 49 8 v ps.length cs ∧ PcOf w cs ps
theorem PcOf.gz {N g : Nat} {w w' : World} {cs : List Value} {ps : List PdZ} (h : PcOf w cs ps) (hg : Gz N g w w') {xs : Array Value} {T : TypeId} {fr : Nat × Nat} (hT : w.heap[g]? = some (.cells xs T fr)) (hne : T ≠ 26) : PcOf w' cs ps :=
  ⟨h.1, h.2.1, fun i p hp => by obtain ⟨A, c, P, k, B, d, h0, h1, h2, h3, h4, h5, h6, h7, ha, hn, hb⟩ := h.2.2 i p hp; exact ⟨A, c, P, k, B, d, h0, h1, h2, h3, h4, h5, h6, h7, ha.kept hg.1, hn.gz hg hT hne, hb.kept hg.1⟩⟩
theorem PcOf.snoc {w : World} {cs : List Value} {ps : List PdZ} {p : PdZ} {A P B : Option Addr} {c k d : Nat} (h : PcOf w cs ps) (ha : Dg w A c (digs p.a.1.natAbs)) (hn : NrL w P k p.cs) (hb : Dg w B d (digs p.er.1.natAbs)) : PcOf w (cs ++ [.bool (decide (p.a.1 < 0)), .slice A (digs p.a.1.natAbs).length c, .int .i64 p.a.2, .int .i64 p.w, .slice P p.cs.length k, .bool (decide (p.er.1 < 0)), .slice B (digs p.er.1.natAbs).length d, .int .i64 p.er.2]) (ps ++ [p]) := by
  refine ⟨by rw [List.length_append, List.length_append, h.1]; simp; omega, ?_, fun i z hz => ?_⟩
  · intro u hu n
    rcases List.mem_append.1 hu with hu | hu
    · exact h.2.1 u hu n
    · intro e; subst e; simp at hu
  · have hl := h.1
    rcases Nat.lt_trichotomy i ps.length with hi | hi | hi
    · rw [List.getElem?_append_left hi] at hz
      have ap : ∀ j, j < 8 → (cs ++ [.bool (decide (p.a.1 < 0)), .slice A (digs p.a.1.natAbs).length c, .int .i64 p.a.2, .int .i64 p.w, .slice P p.cs.length k, .bool (decide (p.er.1 < 0)), .slice B (digs p.er.1.natAbs).length d, .int .i64 p.er.2])[i * 8 + j]? = cs[i * 8 + j]? := fun j hj => List.getElem?_append_left (by omega)
      obtain ⟨A2, c2, P2, k2, B2, d2, h0, h1, h2, h3, h4, h5, h6, h7, ha, hn, hb⟩ := h.2.2 i z hz
      exact ⟨A2, c2, P2, k2, B2, d2, (ap 0 (by omega)).trans h0, (ap 1 (by omega)).trans h1, (ap 2 (by omega)).trans h2, (ap 3 (by omega)).trans h3, (ap 4 (by omega)).trans h4, (ap 5 (by omega)).trans h5, (ap 6 (by omega)).trans h6, (ap 7 (by omega)).trans h7, ha, hn, hb⟩
    · subst hi
      rw [List.getElem?_append_right (Nat.le_refl _), Nat.sub_self] at hz
      obtain rfl : p = z := by simpa using hz
      have ap : ∀ j, (cs ++ [.bool (decide (p.a.1 < 0)), .slice A (digs p.a.1.natAbs).length c, .int .i64 p.a.2, .int .i64 p.w, .slice P p.cs.length k, .bool (decide (p.er.1 < 0)), .slice B (digs p.er.1.natAbs).length d, .int .i64 p.er.2])[ps.length * 8 + j]? = ([.bool (decide (p.a.1 < 0)), .slice A (digs p.a.1.natAbs).length c, .int .i64 p.a.2, .int .i64 p.w, .slice P p.cs.length k, .bool (decide (p.er.1 < 0)), .slice B (digs p.er.1.natAbs).length d, .int .i64 p.er.2] : List Value)[j]? := fun j => by rw [List.getElem?_append_right (by omega), show ps.length * 8 + j - cs.length = j by omega]
      exact ⟨A, c, P, k, B, d, ap 0, ap 1, ap 2, ap 3, ap 4, ap 5, ap 6, ap 7, ha, hn, hb⟩
    · rw [List.getElem?_eq_none (by simp; omega)] at hz; cases hz
theorem Pw.gz {N g : Nat} {w w' : World} {v : Value} {ps : List PdZ} (h : Pw w N v ps) (hg : Gz N g w w') {xs : Array Value} {T : TypeId} {fr : Nat × Nat} (hT : w.heap[g]? = some (.cells xs T fr)) (hne : T ≠ 26) (hv : ∀ k, v.ownBlock = some k → w'.heap[k]? = w.heap[k]?) : Pw w' N v ps := by
  obtain ⟨hn, cs, hown, hcs⟩ := h
  refine ⟨fun q cur T2 fr2 hq hh => hn q cur T2 fr2 hq ((hv q hq).symm.trans hh), cs, ⟨hown.1, ?_⟩, hcs.gz hg hT hne⟩
  rcases hown.2 with h1 | ⟨q, cap, cur, rfl, hb, hq, hr⟩
  · exact .inl h1
  · exact .inr ⟨q, cap, cur, rfl, hb, (hv q rfl).trans hq, hr⟩
theorem pw_nil (w : World) (N : Nat) : Pw w N (.slice none 0 0) [] := ⟨fun g _ _ _ h => by simp [Value.ownBlock] at h, [], World.ownsRow_nil _ _ _ _, rfl, fun u hu => by simp at hu, fun i z hz => by simp at hz⟩
def zpc : Value := .agg #[.bool false, .slice none 0 0, .int .i64 0, .int .i64 0, .slice none 0 0, .bool false, .slice none 0 0, .int .i64 0]
theorem zero_no8 {k : Nat} {u : Value} (h : u ∈ Builtin.zeroCells zpc.cells k) : ∀ n : Int, u ≠ .int .u32 n := by
  unfold Builtin.zeroCells at h
  obtain ⟨i, _, rfl⟩ := Array.mem_map.1 h
  intro n
  have e : zpc.cells = #[.bool false, .slice none 0 0, .int .i64 0, .int .i64 0, .slice none 0 0, .bool false, .slice none 0 0, .int .i64 0] := rfl
  rw [e]
  have h3 : i % 8 = 0 ∨ i % 8 = 1 ∨ i % 8 = 2 ∨ i % 8 = 3 ∨ i % 8 = 4 ∨ i % 8 = 5 ∨ i % 8 = 6 ∨ i % 8 = 7 := by omega
  rcases h3 with h | h | h | h | h | h | h | h <;> simp [h]
theorem pc_info : ∃ i : TypeInfo, Tryz.prog.info? 49 = some i ∧ i.zero = some zpc ∧ i.size = 8 ∧ i.bytes = 112 := by
  obtain ⟨i0, hi, hz0, hz1, hz2⟩ := info_parts (show (Tryz.prog.info? 49).map (fun i => (i.zero, i.size, i.bytes)) = some (some zpc, 8, 112) by kernel_rfl)
  exact ⟨i0, hi, hz0, hz1, hz2⟩
theorem wp_append_pc {w : World} {o : Oper} {a : Act} {K : Act → World → Prop} {Q : Exit → Act → World → Prop} (s x : Operand)
    (ho : o.op = .call { callee := .builtin .append, args := #[s, x], argTypes := #[27, 27] }) (N g0 : Nat) (v : Value) (ps : List PdZ) (p : PdZ) (q : Nat) (T' : TypeId) (n cA k d : Nat) (A P B : Option Addr)
    (hs : a.eval s = v) (hD : Pw w N v ps) (hrow : w.heap[q]? = some (.cells #[.bool (decide (p.a.1 < 0)), .slice A (digs p.a.1.natAbs).length cA, .int .i64 p.a.2, .int .i64 p.w, .slice P p.cs.length k, .bool (decide (p.er.1 < 0)), .slice B (digs p.er.1.natAbs).length d, .int .i64 p.er.2] T' (0, 0))) (ha : Dg w A cA (digs p.a.1.natAbs)) (hn : NrL w P k p.cs) (hb : Dg w B d (digs p.er.1.natAbs)) (hx : a.eval x = .slice (some ⟨q, 0, none⟩) 1 n) (hbd : ps.length + 1 ≤ 1000000) (hbase : N ≤ w.heap.size) {xs : Array Value} {T : TypeId} {fr : Nat × Nat} (hT : w.heap[g0]? = some (.cells xs T fr)) (hne : T ≠ 26)
    (h : ∀ g cap w', Pw w' N (.slice (some ⟨g, 0, none⟩) (ps.length + 1) cap) (ps ++ [p]) → w.grownBy w' v.ownBlock → Gz N g0 w w' → K (a.put o.dst (.slice (some ⟨g, 0, none⟩) (ps.length + 1) cap)) w') : o.wp Tryz.prog a w K Q := by
  obtain ⟨hno, cs, hown, hcs⟩ := hD
  obtain ⟨i0, hi, hz0, hz1, hz2⟩ := pc_info
  have hnews : ∀ j u, ([.bool (decide (p.a.1 < 0)), .slice A (digs p.a.1.natAbs).length cA, .int .i64 p.a.2, .int .i64 p.w, .slice P p.cs.length k, .bool (decide (p.er.1 < 0)), .slice B (digs p.er.1.natAbs).length d, .int .i64 p.er.2] : List Value)[j]? = some u → w.cell? ((⟨q, 0, none⟩ : Addr).add j) = some u := fun j u hj => by
    rw [Addr.add_lit, Nat.zero_add]
    exact row_c hrow (by simpa using hj)
  have hone : ∀ u ∈ ([.bool (decide (p.a.1 < 0)), .slice A (digs p.a.1.natAbs).length cA, .int .i64 p.a.2, .int .i64 p.w, .slice P p.cs.length k, .bool (decide (p.er.1 < 0)), .slice B (digs p.er.1.natAbs).length d, .int .i64 p.er.2] : List Value), u.oneCell' = true := by intro u hu; simp at hu; rcases hu with rfl | rfl | rfl | rfl | rfl | rfl | rfl | rfl <;> rfl
  have hnn : ∀ u ∈ ([.bool (decide (p.a.1 < 0)), .slice A (digs p.a.1.natAbs).length cA, .int .i64 p.a.2, .int .i64 p.w, .slice P p.cs.length k, .bool (decide (p.er.1 < 0)), .slice B (digs p.er.1.natAbs).length d, .int .i64 p.er.2] : List Value), ∀ n : Int, u ≠ .int .u32 n := by intro u hu n e; subst e; simp at hu
  obtain ⟨g, cap, w', hr, h2, h3, h4, h5⟩ := run_append_lies (P := Tryz.prog) w 27 o.type N 49 i0 zpc 8 112 Tryz.underlying27 hi hz0 hz1 hz2 rfl (by decide) v ps.length cs hown ⟨q, 0, none⟩ 1 n [.bool (decide (p.a.1 < 0)), .slice A (digs p.a.1.natAbs).length cA, .int .i64 p.a.2, .int .i64 p.w, .slice P p.cs.length k, .bool (decide (p.er.1 < 0)), .slice B (digs p.er.1.natAbs).length d, .int .i64 p.er.2] rfl hnews hone (by decide) (by unfold maxLen; omega) (by omega) hbase w.heap.size rfl
  have hk := kept_of_grown hown hno h3
  have hno2 := run_append_no (P := Tryz.prog) w N 27 o.type 49 i0 112 Tryz.underlying27 hi zpc 8 hz0 hz1 (fun _ _ => zero_no8) hz2 v ps.length cs hown hno hcs.2.1 ⟨q, 0, none⟩ n _ rfl hnews hone hnn (by unfold maxLen; omega) (by omega) _ _ hr
  have hgz : Gz N g0 w w' := ⟨hk, ⟨h3.os, h3.tape, h3.output⟩, fun i hi2 _ hb => h3.block i hi2 (fun e => by
    have h6 := hown.lt i e.symm
    rcases hown.2 with ⟨rfl, _⟩ | ⟨q2, cap2, cur2, rfl, _, hh, _⟩
    · cases e
    · have e2 : i = q2 := by simpa [Value.ownBlock] using e
      subst e2
      rcases hb with hb | hb
      · omega
      · exact hb _ _ hh)⟩
  unfold Oper.wp execOp
  simp only [ho, resolve, invoke, builtin, Sem.run_bind, Sem.run_pure, Result.andThen_ok, List.map_toArray, List.map_cons, List.map_nil, hs, hx, hr]
  exact h g cap w' ⟨hno2, _, by rw [List.length_append]; exact h2, (hcs.gz hgz hT hne).snoc (ha.kept hk) (hn.gz hgz hT hne) (hb.kept hk)⟩ h3 hgz
end Go.Proofs.YtdmfapgclppmhaaGreatDoor
end

section
namespace Go.Proofs.YtdmfapgclppmhaaGreatDoor
open Go.RowKit
theorem wp_operandsZ {P : Program} {ops : Array Oper} {Q : Exit → Act → World → Prop} {id : Nat} {a0 : Act} {W : World} (hm : P.follows .mixedOrders = true) (n0 : Nat) (D : List Tmp) (R : Nat → Value → World → Prop) (Ch : World → World → Prop) (Z : (Nat → Bool) → World → Prop)
    (hn : n0 ≤ ops.size) (hD : D.length = n0) (hb : backB .any ops = true) (ht : tailB .any ops n0 = true) (hnd : D.Nodup) (hin : (D.all fun t => decide (t < a0.tmps.size)) = true)
    (htr : ∀ a b c, Ch a b → Ch b c → Ch a c)
    (st : ∀ i u w w', i < n0 → R i u w → Ch w w' → R i u w')
    (h0 : Ch W W.drew) (z0 : Z (fun _ => false) W.drew)
    (step : ∀ i a w l K, i < n0 → Fr6 D a0 a → Ch W w → l i = false → (∀ k, waitsB .any ops i k = true → l k = true ∧ R k (a.tmps.getD (D.getD k 0) undef) w) → Z l w →
      (∀ u w', R i u w' → Ch w w' → Z (fun j => if i = j then true else l j) w' → K (a.put (some (D.getD i 0)) u) w') → wpOp P ops Q i K a w)
    (fin : ∀ a w l, Fr6 D a0 a → Ch W w → (∀ i, i < n0 → R i (a.tmps.getD (D.getD i 0) undef) w) → (∀ i, i < n0 → l i = true) → Z l w →
      wpOps P ops Q (tails n0 (ops.size - n0)) a w) : (Code.region id ops true).wp P Q a0 W := by
  have hmem : ∀ i, i < n0 → D.getD i 0 ∈ D := fun i hi => by rw [List.getD_eq_getElem?_getD, List.getElem?_eq_getElem (by omega)]; exact List.getElem_mem _
  have hlt : ∀ i, i < n0 → D.getD i 0 < a0.tmps.size := fun i hi => by
    rw [List.all_eq_true] at hin
    simpa using hin _ (hmem i hi)
  have hne : ∀ i j, i < n0 → j < n0 → i ≠ j → D.getD i 0 ≠ D.getD j 0 := fun i j hi hj h e => by
    rw [List.getD_eq_getElem?_getD, List.getD_eq_getElem?_getD, List.getElem?_eq_getElem (by omega), List.getElem?_eq_getElem (by omega)] at e
    exact h ((List.getElem_inj hnd).1 (by simpa using e))
  have hwk : ∀ l : Array Bool, l.size = ops.size → ∀ i k, i ∈ Region.ready .any ops l → waitsB .any ops i k = true → i < n0 → k < n0 := by
    intro l hl i k hi hk hi0
    have hlt : i < ops.size := by omega
    simp only [backB, List.all_eq_true, List.mem_range] at hb
    have h1 := hb i hlt
    simp only [Array.getElem?_eq_getElem hlt, Option.map_some, Option.getD_some, Array.all_eq_true_iff_forall_mem] at h1
    simp only [waitsB, Array.getElem?_eq_getElem hlt, Option.map_some, Option.getD_some, Array.any_eq_true'] at hk
    obtain ⟨e, he, h2⟩ := hk
    simp only [Bool.and_eq_true, beq_iff_eq] at h2
    have h3 := h1 e he
    simp only [h2.1, Bool.not_true, Bool.false_or, decide_eq_true_eq] at h3
    omega
  have z : ∀ j, (Array.replicate ops.size false).getD j false = false := by intro j; simp [Array.getElem?_replicate]; split <;> rfl
  refine wp_region_any hm (wpAny_phase (fun l a w => Fr6 D a0 a ∧ Ch W w ∧ (∀ i, i < n0 → l.getD i false = true → R i (a.tmps.getD (D.getD i 0) undef) w) ∧
    Z (fun j => l.getD j false) w) hn hb ht ?_ ?_ ⟨⟨rfl, rfl, fun _ _ => rfl⟩, h0, fun i _ hi => absurd hi (by rw [z]; simp), by rw [show (fun j => (Array.replicate ops.size false).getD j false) = fun _ => false from funext z]; exact z0⟩)
  · rintro l a w i ⟨hF, hbw, hR, hZ⟩ hl hi0 hi
    have sz : ∀ j, (l.setIfInBounds i true).getD j false = (if i = j then true else l.getD j false) := fun j => getD_set l i j (by omega)
    have ps : a.tmps.size = a0.tmps.size := hF.2.1
    have hiu := (mem_ready.1 hi).1
    have hif : l.getD i false = false := by
      have : i < l.size := by omega
      simp [this] at hiu ⊢; exact hiu
    refine step i a w (fun j => l.getD j false) _ hi0 hF hbw hif (fun k hk => ⟨waits_spec hk hi, hR k (hwk l hl i k hi hk hi0) (waits_spec hk hi)⟩) hZ (fun u w' hu hbb hz => ⟨hF.put (hmem i hi0) _, htr _ _ _ hbw hbb, fun j hj hjl => ?_, by rw [show (fun j => (l.setIfInBounds i true).getD j false) = fun j => if i = j then true else l.getD j false from funext sz]; exact hz⟩)
    by_cases hij : i = j
    · subst hij; rw [put_same _ _ _ (by rw [ps]; exact hlt i hi0)]; exact hu
    · rw [sz, if_neg hij] at hjl
      rw [put_other _ _ _ _ (hne i j hi0 hj hij)]
      exact st j _ _ _ hj (hR j hj hjl) hbb
  · rintro l a w ⟨hF, hbw, hR, hZ⟩ _ hall
    exact fin a w _ hF hbw (fun i hi => hR i hi (hall i hi)) hall hZ
end Go.Proofs.YtdmfapgclppmhaaGreatDoor
end

section
namespace Go.Proofs.YtdmfapgclppmhaaGreatDoor
open Go.RowKit
section
variable {P : Program} {ops : Array Oper} {Q : Exit → Act → World → Prop} {md : Region.Mode}
theorem wpAny_go {l : Array Bool} {a : Act} {w : World} {fuel : Nat} {is : List Nat} (hr : Region.ready md ops l = is) (hn : is.isEmpty = false) (h : ∀ i, i ∈ is → wpOp P ops Q i (wpAny P md ops Q fuel (l.setIfInBounds i true)) a w) : wpAny P md ops Q (fuel + 1) l a w :=
  ⟨fun e => (by rw [hr] at e; subst e; exact absurd hn (by simp)), fun i hi => h i (by rw [hr] at hi; exact hi)⟩
theorem wpAny_go1 {l : Array Bool} {a : Act} {w : World} {fuel i : Nat} (hr : Region.ready md ops l = [i]) (h : wpOp P ops Q i (wpAny P md ops Q fuel (l.setIfInBounds i true)) a w) : wpAny P md ops Q (fuel + 1) l a w :=
  wpAny_go hr rfl fun j hj => by rw [List.mem_singleton] at hj; subst hj; exact h
theorem wpAny_go2 {l : Array Bool} {a : Act} {w : World} {fuel i j : Nat} (hr : Region.ready md ops l = [i, j]) (h : wpOp P ops Q i (wpAny P md ops Q fuel (l.setIfInBounds i true)) a w) (h2 : wpOp P ops Q j (wpAny P md ops Q fuel (l.setIfInBounds j true)) a w) : wpAny P md ops Q (fuel + 1) l a w :=
  wpAny_go hr rfl fun k hk => by
    simp only [List.mem_cons, List.not_mem_nil, or_false] at hk
    rcases hk with rfl | rfl
    · exact h
    · exact h2
theorem wpAny_end {l : Array Bool} {a : Act} {w : World} {fuel : Nat} (hr : Region.ready md ops l = []) (h : Q .normal a w) : wpAny P md ops Q fuel l a w := by
  cases fuel with
  | zero => exact ⟨hr, h⟩
  | succ f => exact ⟨fun _ => h, fun i hi => by rw [hr] at hi; cases hi⟩
/-- Operands in whatever order; one (x) that may also come among what stands behind them; the rest is walked order by order. -/
theorem wp_operands_x {id : Nat} {a0 : Act} {W : World} (hm : P.follows .mixedOrders = true) (x y n1 n2 : Nat) (S : List Nat) (D : List Tmp) (R : Nat → Value → World → Prop)
    (hb : backB .any ops = true) (hx : x < ops.size ∧ y < ops.size) (hyO : (x :: S).contains y = false) (hxS : S.contains x = false)
    (hS : (S.all fun i => decide (i < ops.size)) = true)
    (ht : ((List.range ops.size).all fun i => (x :: S).contains i || S.all fun k => waitsT .any ops ops.size i k) = true) (hw : ((x :: S).all fun i => (List.range ops.size).all fun k => !waitsB .any ops i k || S.contains k) = true)
    (hnd : ((x :: S).map (D.getD · 0)).Nodup) (hin : ((x :: S).all fun i => decide (D.getD i 0 < a0.tmps.size)) = true)
    (hn1 : still ((List.range ops.size).map (S.contains ·)).toArray = n1) (hn2 : still (((List.range ops.size).map (S.contains ·)).toArray.setIfInBounds x true) = n2)
    (st : ∀ i u w w', i ∈ x :: S → R i u w → Below w.heap.size w w' → R i u w')
    (step : ∀ i a w K, i ∈ x :: S → Fr6 ((x :: S).map (D.getD · 0)) a0 a → Below W.heap.size W w → (∀ k, waitsB .any ops i k = true → R k (a.tmps.getD (D.getD k 0) undef) w) →
      (∀ u w', R i u w' → Below w.heap.size w w' → K (a.put (some (D.getD i 0)) u) w') → wpOp P ops Q i K a w)
    (fin : ∀ a w, Fr6 ((x :: S).map (D.getD · 0)) a0 a → Below W.heap.size W w → (∀ i, i ∈ S → R i (a.tmps.getD (D.getD i 0) undef) w) →
      (∀ f, wpAny P .any ops Q (f + n1) ((List.range ops.size).map (S.contains ·)).toArray a w) ∧ (R x (a.tmps.getD (D.getD x 0) undef) w → ∀ f, wpAny P .any ops Q (f + n2) (((List.range ops.size).map (S.contains ·)).toArray.setIfInBounds x true) a w)) :
    (Code.region id ops true).wp P Q a0 W := by
  have memS : ∀ i, i ∈ S → i < ops.size := fun i hi => by
    rw [List.all_eq_true] at hS
    simpa using hS i hi
  have memO : ∀ i, i ∈ x :: S → i < ops.size := fun i hi => by
    rcases List.mem_cons.1 hi with rfl | h
    · exact hx.1
    · exact memS i h
  have hlt : ∀ i, i ∈ x :: S → D.getD i 0 < a0.tmps.size := fun i hi => by
    rw [List.all_eq_true] at hin
    simpa using hin i hi
  have hne : ∀ i j, i ∈ x :: S → j ∈ x :: S → i ≠ j → D.getD i 0 ≠ D.getD j 0 := fun i j hi hj h e => by
    obtain ⟨p, hp, hpe⟩ := List.getElem_of_mem hi
    obtain ⟨q, hq, hqe⟩ := List.getElem_of_mem hj
    have h1 : ((x :: S).map (D.getD · 0))[p]'(by simpa using hp) = ((x :: S).map (D.getD · 0))[q]'(by simpa using hq) := by
      rw [List.getElem_map, List.getElem_map, hpe, hqe]; exact e
    have h2 := (List.getElem_inj hnd).1 h1
    subst h2
    exact h (hpe.symm.trans hqe)
  have hmem : ∀ i, i ∈ x :: S → D.getD i 0 ∈ (x :: S).map (D.getD · 0) := fun i hi => List.mem_map.2 ⟨i, hi, rfl⟩
  have xS : S.contains x = false := hxS
  have zz : ∀ j, (Array.replicate ops.size false).getD j false = false := by intro j; simp [Array.getElem?_replicate]; split <;> rfl
  refine wp_region_any hm (wpAny_phaseP (Pb := fun i => S.contains i) (Ob := fun i => (x :: S).contains i) (fun l a w => Fr6 ((x :: S).map (D.getD · 0)) a0 a ∧ Below W.heap.size W w ∧ (∀ i, i ∈ x :: S → l.getD i false = true → R i (a.tmps.getD (D.getD i 0) undef) w)) hb
    ⟨y, hx.2, hyO⟩ ?_ ?_ ?_ _ _ _ _ ?_ (by simp) ?_ ?_ ?_)
  · intro i hi hc k hk hkp
    simp only [List.all_eq_true, List.mem_range, Bool.or_eq_true] at ht
    rcases ht i hi with h | h
    · have hc' : (x :: S).contains i = false := hc
      rw [hc'] at h; cases h
    · exact h k (List.contains_iff_mem.1 hkp)
  · rintro l a w i ⟨hF, hbw, hR⟩ hl hi hip hir
    have hiS := List.contains_iff_mem.1 hip
    have ps : a.tmps.size = a0.tmps.size := hF.2.1
    refine step i a w _ hiS hF hbw (fun k hk => hR k ?_ (waits_spec hk hir)) (fun u w' hu hbb => ⟨hF.put (hmem i hiS) _, hbw.trans (hbb.mono hbw.size), fun j hj hjl => ?_⟩)
    · rw [List.all_eq_true] at hw
      have h1 := hw i hiS
      rw [List.all_eq_true] at h1
      have hks : k < ops.size := by
        rcases Nat.lt_or_ge k ops.size with h | h
        · exact h
        · exfalso
          have := waits_spec hk hir
          have h2 : l.size ≤ k := by omega
          simp [Array.getElem?_eq_none h2] at this
      have h2 := h1 k (List.mem_range.2 hks)
      rw [hk] at h2
      exact List.mem_cons_of_mem _ (List.contains_iff_mem.1 (by simpa using h2))
    · by_cases hij : i = j
      · subst hij; rw [put_same _ _ _ (by rw [ps]; exact hlt i hiS)]; exact hu
      · rw [getD_set_ne false hij] at hjl
        rw [put_other _ _ _ _ (hne i j hiS hj hij)]
        exact st j _ _ _ hj (hR j hj hjl) hbb
  · rintro l a w ⟨hF, hbw, hR⟩ hl hall hno fuel hfu
    have hf := fin a w hF hbw (fun i hi => hR i (List.mem_cons_of_mem _ hi) (hall i (memS i hi) (List.contains_iff_mem.2 hi)))
    have hval : ∀ i, i < ops.size → i ≠ x → l.getD i false = S.contains i := by
      intro i hi hix
      cases hc : S.contains i
      · refine hno i hi ?_
        cases hc2 : (x :: S).contains i
        · rfl
        · rcases List.mem_cons.1 (List.contains_iff_mem.1 hc2) with h | h
          · exact absurd h hix
          · rw [List.contains_iff_mem.2 h] at hc; cases hc
      · exact hall i hi hc
    cases hlx : l.getD x false
    · have hlL : l = ((List.range ops.size).map (S.contains ·)).toArray := by
        apply Array.ext
        · simp [hl]
        · intro i h1 h2
          have : l.getD i false = S.contains i := by
            by_cases hix : i = x
            · rw [hix, hlx, xS]
            · exact hval i (by omega) hix
          simp only [Array.getD_eq_getD_getElem?, Array.getElem?_eq_getElem h1, Option.getD_some] at this
          rw [this]; simp
      rw [hlL] at hfu
      rw [hn1] at hfu
      obtain ⟨f, rfl⟩ : ∃ f, fuel = f + n1 := ⟨fuel - n1, by omega⟩
      rw [hlL]
      exact hf.1 f
    · have hlL : l = (((List.range ops.size).map (S.contains ·)).toArray.setIfInBounds x true) := by
        apply Array.ext
        · simp [hl]
        · intro i h1 h2
          by_cases hix : i = x
          · subst hix
            simp only [Array.getD_eq_getD_getElem?, Array.getElem?_eq_getElem h1, Option.getD_some] at hlx
            rw [hlx]; simp
          · have := hval i (by omega) hix
            simp only [Array.getD_eq_getD_getElem?, Array.getElem?_eq_getElem h1, Option.getD_some] at this
            rw [this, Array.getElem_setIfInBounds]
            rw [if_neg (fun e => hix e.symm)]; simp
            exact (by simp; omega)
      rw [hlL] at hfu
      rw [hn2] at hfu
      obtain ⟨f, rfl⟩ : ∃ f, fuel = f + n2 := ⟨fuel - n2, by omega⟩
      rw [hlL]
      exact hf.2 (hR x (List.mem_cons_self ..) hlx) f
  · unfold still; exact Nat.le_trans (List.count_le_length) (by simp)
  · exact fun j hj => absurd hj (by rw [zz]; simp)
  · exact fun k _ _ => zz k
  · exact ⟨⟨rfl, rfl, fun _ _ => rfl⟩, ⟨rfl, rfl, rfl, Nat.le_refl _, fun _ _ => rfl⟩, fun i _ hi => absurd hi (by rw [zz]; simp)⟩
end
end Go.Proofs.YtdmfapgclppmhaaGreatDoor
end

