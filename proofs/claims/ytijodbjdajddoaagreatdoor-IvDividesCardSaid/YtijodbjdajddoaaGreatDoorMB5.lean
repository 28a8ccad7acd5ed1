import Derived.Test.YtijodbjdajddoaaGreatDoorMB3
import Derived.Test.YtijodbjdajddoaaGreatDoorMB4
import Derived.Test.YtijodbjdajddoaaGreatDoorMB1
import Derived.Test.YtijodbjdajddoaaGreatDoorMB2
import Derived.Test.YtijodbjdajddoaaGreatDoorMB0
section
/-
  iv: Int, Out.
-/
namespace Go.Proofs.YtijodbjdajddoaaGreatDoor
open Go.RowKit
set_option linter.unusedSimpArgs false
set_option linter.unusedVariables false
set_option maxHeartbeats 4000000 in
set_option maxRecDepth 100000 in
theorem iint_ok (n M E P : Int) (g : Nat) (w : World) (hT : T32 w) (hk : w.heap[g]? = some (.cells #[.int .i64 0, .int .i64 P] 45 (0, 0))) (h0 : -9223372036854775808 ≤ n) (h1 : n ≤ 9223372036854775807) (hM : nm n = M) (hE : nx n 0 = E):
    Calls Tryz.prog 33 #[.pointer (some ⟨g, 0, none⟩), .int .i64 n] w fun e w' => Yi M E M E w e w' := by
  have HT := Lib.hid hT
  clear hT
  have L0 := Lib.hid (live_start w)
  have Rk_0 := Lib.hid hk
  clear hk
  go_enter Tryz.func33, Tryz.ntmps33
  go_upto_region 1 with fail
  obtain ⟨v1, hW, hb, Rr_1⟩ := new1 w (.cells #[.bool false, .slice none 0 0, .int .i64 0, .bool false, .slice none 0 0, .int .i64 0] 34)
  rw [← hW]
  have L1 := ls L0 hb
  have Rk_1 := co Rk_0 hb
  have Gr := gl0 L0.out
  have Nkr := nl0 Rk_0.out
  clear hW hb
  go_wp2_with fail
  refine (from_yes n M E _ (t32_live HT.out L1.out) h0 h1 hM hE).mono ?_
  rintro e w2 ⟨A2, c2, rfl, hd, hb⟩
  have L2 := la L1 hb hd
  have Rk_2 := co Rk_1 hb
  have Rr_2 := co Rr_1 hb
  clear hb hd
  go_wp2_with fail
  refine (from_yes n M E _ (t32_live HT.out L2.out) h0 h1 hM hE).mono ?_
  rintro e w3 ⟨A3, c3, rfl, hd, hb⟩
  have L3 := la L2 hb hd
  have Rk_3 := co Rk_2 hb
  have Rr_3 := co Rr_2 hb
  clear hb hd
  go_wp2_with fail
  refine (answer_iv A2 A3 c2 c3 M E M E P g _ (L3.out.get (A := A2) (c := c2) (xs := digs M.natAbs) (by simp)) (L3.out.get (A := A3) (c := c3) (xs := digs M.natAbs) (by simp)) Rk_3.out).mono ?_
  rintro e w4 ⟨A4, c4, B4, d4, rfl, hd, he, hb⟩
  have L4 := la2 L3 hb hd he
  have Rk_4 := co Rk_3 hb
  have Rr_4 := co Rr_3 hb
  clear hb hd he
  obtain ⟨fr0, zr0, fr1, zr1, fr2, zr2, fr3, zr3, fr4, zr4, fr5, zr5, xr⟩ := ly6 Rr_4.out
  go_wp2
  refine bodyPost_ret (v := .agg #[.bool (decide (M < 0)), .slice A4 (digs M.natAbs).length c4, .int .i64 E, .bool (decide (M < 0)), .slice B4 (digs M.natAbs).length d4, .int .i64 E]) (by simp [results, Tryz.results33, go_sem, fr0, fr1, fr2, fr3, fr4, fr5]) rfl ?_
  
  refine ⟨A4, c4, B4, d4, rfl, ?_, ?_, ?_⟩
  · exact (fin6 L4.out Rr_4.out noint_iv Gr).get (A := A4) (c := c4) (xs := digs M.natAbs) (by simp)
  · exact (fin6 L4.out Rr_4.out noint_iv Gr).get (A := B4) (c := d4) (xs := digs M.natAbs) (by simp)
  · exact (fin6 L4.out Rr_4.out noint_iv Gr).1

set_option maxHeartbeats 4000000 in
set_option maxRecDepth 100000 in
theorem iout_ok (A B : Option Addr) (c d : Nat) (m x n y P : Int) (g : Nat) (M E N F : Int) (w : World) (h : Dg w A c (digs m.natAbs)) (h' : Dg w B d (digs n.natAbs)) (hl : (digs m.natAbs).length ≤ 10000) (hl' : (digs n.natAbs).length ≤ 10000) (r1 : Rt m x) (r2 : Rt n y) (ho : dv m x ≤ dv n y) {p : Nat} (hP : (p : Int) = P) (p2 : 2 ≤ p) (p4 : p ≤ 400) (hT : T32 w) (hk : w.heap[g]? = some (.cells #[.int .i64 0, .int .i64 P] 45 (0, 0))) (hs1 : RdOf (dv m x) p false M E) (hq1 : inR M E = true) (hs2 : RdOf (dv n y) p true N F) (hq2 : inR N F = true):
    Calls Tryz.prog 29 #[.pointer (some ⟨g, 0, none⟩), .agg #[.bool (decide (m < 0)), .slice A (digs m.natAbs).length c, .int .i64 x, .bool (decide (n < 0)), .slice B (digs n.natAbs).length d, .int .i64 y]] w fun e w' => Yi M E N F w e w' := by
  have HR1 := Lib.hid r1
  have HR2 := Lib.hid r2
  have lx := Lib.hid hl
  have ly := Lib.hid hl'
  have HO := Lib.hid ho
  have D1 := Lib.hid hs1
  have D2 := Lib.hid hs2
  have J1 := Lib.hid hq1
  have J2 := Lib.hid hq2
  have HP := Lib.hid hP
  have HT := Lib.hid hT
  clear hT
  have L0 := Lib.hid (((live_start w).add h).add h')
  have Rk_0 := Lib.hid hk
  clear hk
  clear h h' hl hl' r1 r2 ho hs1 hs2 hq1 hq2 hP
  go_enter Tryz.func29, Tryz.ntmps29
  go_upto_region 1 with fail
  obtain ⟨v1, hW, hb, Ri_1, Rr_1⟩ := new2 w (.cells #[.bool (decide (m < 0)), .slice A (digs m.natAbs).length c, .int .i64 x, .bool (decide (n < 0)), .slice B (digs n.natAbs).length d, .int .i64 y] 34) (.cells #[.bool false, .slice none 0 0, .int .i64 0, .bool false, .slice none 0 0, .int .i64 0] 34)
  rw [← hW]
  have L1 := ls L0 hb
  have Rk_1 := co Rk_0 hb
  have Gi := gl0 L0.out
  have Nki := nl0 Rk_0.out
  have Gr := gl1 L0.out
  have Nkr := nl1 Rk_0.out
  have Nir : w.heap.size < w.heap.size + 1 := by omega
  clear hW hb
  obtain ⟨fi0, zi0, fi1, zi1, fi2, zi2, fi3, zi3, fi4, zi4, fi5, zi5, xi⟩ := ly6 Ri_1.out
  go_wp2_with fail
  obtain ⟨w2, hW, hb, Rsl_2⟩ := new1 v1 (.cells #[.bool (decide (m < 0)), .slice A (digs m.natAbs).length c, .int .i64 x, .bool (decide (n < 0)), .slice B (digs n.natAbs).length d, .int .i64 y] 34)
  rw [← hW]
  have L2 := ls L1 hb
  have Rk_2 := co Rk_1 hb
  have Ri_2 := co Ri_1 hb
  have Rr_2 := co Rr_1 hb
  have Gsl := gl0 L1.out
  have Nksl := nl0 Rk_1.out
  have Nisl := nl0 Ri_1.out
  have Nrsl := nl0 Rr_1.out
  clear hW hb
  clear fi0 zi0 fi1 zi1 fi2 zi2 fi3 zi3 fi4 zi4 fi5 zi5 xi
  refine (takes_1 Rk_2.out Rsl_2.out (L2.out.get (A := A) (c := c) (xs := digs m.natAbs) (by simp)) (L2.out.get (A := B) (c := d) (xs := digs n.natAbs) (by simp)) lx.out ly.out HR1.out HR2.out HO.out rfl).mono ?_
  rintro e w3 ⟨rfl, hb⟩
  have L3 := ls L2 hb
  have Rk_3 := co Rk_2 hb
  have Ri_3 := co Ri_2 hb
  have Rr_3 := co Rr_2 hb
  have Rsl_3 := co Rsl_2 hb
  clear hb 
  go_upto_region 3 with fail
  obtain ⟨fi0, zi0, fi1, zi1, fi2, zi2, fi3, zi3, fi4, zi4, fi5, zi5, xi⟩ := ly6 Ri_3.out
  go_wp2_with fail
  refine (outward_ok A B c d m x n y P M E N F g _ (L3.out.get (A := A) (c := c) (xs := digs m.natAbs) (by simp)) (L3.out.get (A := B) (c := d) (xs := digs n.natAbs) (by simp)) lx.out ly.out HR1.out HR2.out HP.out p2 p4 (t32_live HT.out L3.out) Rk_3.out D1.out J1.out D2.out J2.out).mono ?_
  rintro e w4 ⟨A4, c4, B4, d4, rfl, hd, he, hb⟩
  have L4 := la2 L3 hb hd he
  clear fi0 zi0 fi1 zi1 fi2 zi2 fi3 zi3 fi4 zi4 fi5 zi5 xi
  have Rk_4 := co Rk_3 hb
  have Ri_4 := co Ri_3 hb
  have Rr_4 := co Rr_3 hb
  have Rsl_4 := co Rsl_3 hb
  clear hb hd he
  obtain ⟨fr0, zr0, fr1, zr1, fr2, zr2, fr3, zr3, fr4, zr4, fr5, zr5, xr⟩ := ly6 Rr_4.out
  go_wp2
  refine bodyPost_ret (v := .agg #[.bool (decide (M < 0)), .slice A4 (digs M.natAbs).length c4, .int .i64 E, .bool (decide (N < 0)), .slice B4 (digs N.natAbs).length d4, .int .i64 F]) (by simp [results, Tryz.results29, go_sem, fr0, fr1, fr2, fr3, fr4, fr5]) rfl ?_
  
  refine ⟨A4, c4, B4, d4, rfl, ?_, ?_, ?_⟩
  · exact (fin6 L4.out Rr_4.out noint_iv Gr).get (A := A4) (c := c4) (xs := digs M.natAbs) (by simp)
  · exact (fin6 L4.out Rr_4.out noint_iv Gr).get (A := B4) (c := d4) (xs := digs N.natAbs) (by simp)
  · exact (fin6 L4.out Rr_4.out noint_iv Gr).1
end Go.Proofs.YtijodbjdajddoaaGreatDoor
end

section
/-
  iv: Sqrt.
-/
namespace Go.Proofs.YtijodbjdajddoaaGreatDoor
open Go.RowKit
set_option linter.unusedSimpArgs false
set_option linter.unusedVariables false
set_option maxHeartbeats 4000000 in
set_option maxRecDepth 100000 in
theorem isqrt_ok (A B : Option Addr) (c d : Nat) (m x n y P : Int) (g : Nat) (M E N F : Int) (w : World) (h : Dg w A c (digs m.natAbs)) (h' : Dg w B d (digs n.natAbs)) (hl : (digs m.natAbs).length ≤ 10000) (hl' : (digs n.natAbs).length ≤ 10000) (r1 : Rt m x) (r2 : Rt n y) (ho : dv m x ≤ dv n y) {p : Nat} (hP : (p : Int) = P) (p2 : 2 ≤ p) (p4 : p ≤ 400) (hT : T32 w) (m0 : 0 ≤ m) (n0 : 0 ≤ n) (hs1 : RsOf (dv m x) p false M E) (hq1 : inR M E = true) (hs2 : RsOf (dv n y) p true N F) (hq2 : inR N F = true) (hk : w.heap[g]? = some (.cells #[.int .i64 0, .int .i64 P] 45 (0, 0))):
    Calls Tryz.prog 22 #[.pointer (some ⟨g, 0, none⟩), .agg #[.bool (decide (m < 0)), .slice A (digs m.natAbs).length c, .int .i64 x, .bool (decide (n < 0)), .slice B (digs n.natAbs).length d, .int .i64 y]] w fun e w' => Yi M E N F w e w' := by
  have HR1 := Lib.hid r1
  have HR2 := Lib.hid r2
  have lx := Lib.hid hl
  have ly := Lib.hid hl'
  have HO := Lib.hid ho
  have D1 := Lib.hid hs1
  have D2 := Lib.hid hs2
  have J1 := Lib.hid hq1
  have J2 := Lib.hid hq2
  have M0 := Lib.hid m0
  have N0 := Lib.hid n0
  have HP := Lib.hid hP
  have HT := Lib.hid hT
  clear hT
  have L0 := Lib.hid (((live_start w).add h).add h')
  have Rk_0 := Lib.hid hk
  clear hk
  clear h h' hl hl' r1 r2 ho hs1 hs2 hq1 hq2 hP m0 n0
  go_enter Tryz.func22, Tryz.ntmps22
  go_upto_region 1 with fail
  obtain ⟨v1, hW, hb, Ri_1, Rr_1⟩ := new2 w (.cells #[.bool (decide (m < 0)), .slice A (digs m.natAbs).length c, .int .i64 x, .bool (decide (n < 0)), .slice B (digs n.natAbs).length d, .int .i64 y] 34) (.cells #[.bool false, .slice none 0 0, .int .i64 0, .bool false, .slice none 0 0, .int .i64 0] 34)
  rw [← hW]
  have L1 := ls L0 hb
  have Rk_1 := co Rk_0 hb
  have Gi := gl0 L0.out
  have Nki := nl0 Rk_0.out
  have Gr := gl1 L0.out
  have Nkr := nl1 Rk_0.out
  have Nir : w.heap.size < w.heap.size + 1 := by omega
  clear hW hb
  obtain ⟨fi0, zi0, fi1, zi1, fi2, zi2, fi3, zi3, fi4, zi4, fi5, zi5, xi⟩ := ly6 Ri_1.out
  go_wp2_with fail
  obtain ⟨w2, hW, hb, Rsl_2⟩ := new1 v1 (.cells #[.bool (decide (m < 0)), .slice A (digs m.natAbs).length c, .int .i64 x, .bool (decide (n < 0)), .slice B (digs n.natAbs).length d, .int .i64 y] 34)
  rw [← hW]
  have L2 := ls L1 hb
  have Rk_2 := co Rk_1 hb
  have Ri_2 := co Ri_1 hb
  have Rr_2 := co Rr_1 hb
  have Gsl := gl0 L1.out
  have Nksl := nl0 Rk_1.out
  have Nisl := nl0 Ri_1.out
  have Nrsl := nl0 Rr_1.out
  clear hW hb
  clear fi0 zi0 fi1 zi1 fi2 zi2 fi3 zi3 fi4 zi4 fi5 zi5 xi
  refine (takes_1 Rk_2.out Rsl_2.out (L2.out.get (A := A) (c := c) (xs := digs m.natAbs) (by simp)) (L2.out.get (A := B) (c := d) (xs := digs n.natAbs) (by simp)) lx.out ly.out HR1.out HR2.out HO.out rfl).mono ?_
  rintro e w3 ⟨rfl, hb⟩
  have L3 := ls L2 hb
  have Rk_3 := co Rk_2 hb
  have Ri_3 := co Ri_2 hb
  have Rr_3 := co Rr_2 hb
  have Rsl_3 := co Rsl_2 hb
  clear hb 
  go_upto_region 3 with fail
  obtain ⟨fi0, zi0, fi1, zi1, fi2, zi2, fi3, zi3, fi4, zi4, fi5, zi5, xi⟩ := ly6 Ri_3.out
  obtain ⟨fk0, zk0, fk1, zk1, xk⟩ := ly2 Rk_3.out
  have KD := Lib.hid (bd0 w3)
  have LD := ls L3 KD.out
  have Mi : w.heap.size ≠ w.heap.size + 1 := by omega
  have Mk : g ≠ w.heap.size + 1 := by omega
  go_region_held3 (fun w' => (∀ o, w'.cell? ⟨w.heap.size, o, none⟩ = w3.cell? ⟨w.heap.size, o, none⟩) ∧ (∀ o, w'.cell? ⟨g, o, none⟩ = w3.cell? ⟨g, o, none⟩))
    (first | with_reducible exact ⟨keep_b KD.out xi, keep_b KD.out xk⟩ | with_reducible exact ⟨keep_b K5.out xi, keep_b K5.out xk⟩ | with_reducible exact ⟨keep_b K6.out xi, keep_b K6.out xk⟩ | with_reducible exact ⟨keep_b K7.out xi, keep_b K7.out xk⟩ | with_reducible exact ⟨keep_b K8.out xi, keep_b K8.out xk⟩ | with_reducible exact ⟨keep_b K9.out xi, keep_b K9.out xk⟩ | exact ⟨(keep_set (keep_b K9.out xi) Mi), (keep_set (keep_b K9.out xk) Mk)⟩ | exact ⟨(keep_set (keep_set (keep_b K9.out xi) Mi) Mi), (keep_set (keep_set (keep_b K9.out xk) Mk) Mk)⟩ | exact ⟨(keep_set (keep_set (keep_set (keep_b K9.out xi) Mi) Mi) Mi), (keep_set (keep_set (keep_set (keep_b K9.out xk) Mk) Mk) Mk)⟩ | exact ⟨(keep_set (keep_set (keep_set (keep_set (keep_b K9.out xi) Mi) Mi) Mi) Mi), (keep_set (keep_set (keep_set (keep_set (keep_b K9.out xk) Mk) Mk) Mk) Mk)⟩ | exact ⟨(keep_set (keep_set (keep_set (keep_set (keep_set (keep_b K9.out xi) Mi) Mi) Mi) Mi) Mi), (keep_set (keep_set (keep_set (keep_set (keep_set (keep_b K9.out xk) Mk) Mk) Mk) Mk) Mk)⟩ | exact ⟨(keep_set (keep_set (keep_set (keep_set (keep_set (keep_set (keep_b K9.out xi) Mi) Mi) Mi) Mi) Mi) Mi), (keep_set (keep_set (keep_set (keep_set (keep_set (keep_set (keep_b K9.out xk) Mk) Mk) Mk) Mk) Mk) Mk)⟩)
    (first
      | (go_at_call 59; (with_reducible refine (dsqrt_yes (LD.out.get (A := A) (c := c) (xs := digs m.natAbs) (by simp)) lx.out HR1.out (t32_live HT.out LD.out) HP.out p2 p4 D1.out J1.out M0.out).mono ?_); rintro e w5 ⟨A5, c5, rfl, hd, hb⟩; (have K5 := bt KD hb); (have L5 := la LD hb hd); clear hb hd)
      | (go_at_call 54; (with_reducible refine (got_ok A5 c5 M E g _ (L5.out.get (A := A5) (c := c5) (xs := digs M.natAbs) (by simp))).mono ?_); rintro e w6 ⟨A6, c6, rfl, hd, hb⟩; (have K6 := bt K5 hb); (have L6 := la L5 hb hd); clear hb hd)
      | (go_at_call 59; (with_reducible refine (dsqrt_yes (L6.out.get (A := B) (c := d) (xs := digs n.natAbs) (by simp)) ly.out HR2.out (t32_live HT.out L6.out) HP.out p2 p4 D2.out J2.out N0.out).mono ?_); rintro e w7 ⟨A7, c7, rfl, hd, hb⟩; (have K7 := bt K6 hb); (have L7 := la L6 hb hd); clear hb hd)
      | (go_at_call 54; (with_reducible refine (got_ok A7 c7 N F g _ (L7.out.get (A := A7) (c := c7) (xs := digs N.natAbs) (by simp))).mono ?_); rintro e w8 ⟨A8, c8, rfl, hd, hb⟩; (have K8 := bt K7 hb); (have L8 := la L7 hb hd); clear hb hd)
      | (go_at_call 58; (with_reducible refine (answer_iv A6 A8 c6 c8 M E N F P g _ (L8.out.get (A := A6) (c := c6) (xs := digs M.natAbs) (by simp)) (L8.out.get (A := A8) (c := c8) (xs := digs N.natAbs) (by simp)) (cells_of Rk_3.out K8.out)).mono ?_); rintro e w9 ⟨A9, c9, B9, d9, rfl, hd, he, hb⟩; (have K9 := bt K8 hb); (have L9 := la2 L8 hb hd he); (have qr0_K9 := row_c (i := 0) (co Rr_3 K9.out).out rfl); (have pr0_K9 := frozen_of_row _ _ 0 _ _ (cells_of Rr_3.out K9.out)); (have qr1_K9 := row_c (i := 1) (co Rr_3 K9.out).out rfl); (have pr1_K9 := frozen_of_row _ _ 1 _ _ (cells_of Rr_3.out K9.out)); (have qr2_K9 := row_c (i := 2) (co Rr_3 K9.out).out rfl); (have pr2_K9 := frozen_of_row _ _ 2 _ _ (cells_of Rr_3.out K9.out)); (have qr3_K9 := row_c (i := 3) (co Rr_3 K9.out).out rfl); (have pr3_K9 := frozen_of_row _ _ 3 _ _ (cells_of Rr_3.out K9.out)); (have qr4_K9 := row_c (i := 4) (co Rr_3 K9.out).out rfl); (have pr4_K9 := frozen_of_row _ _ 4 _ _ (cells_of Rr_3.out K9.out)); (have qr5_K9 := row_c (i := 5) (co Rr_3 K9.out).out rfl); (have pr5_K9 := frozen_of_row _ _ 5 _ _ (cells_of Rr_3.out K9.out)); clear hb hd he))
  rename_i hHeld
  clear hHeld
  clear fi0 zi0 fi1 zi1 fi2 zi2 fi3 zi3 fi4 zi4 fi5 zi5 xi fk0 zk0 fk1 zk1 xk
  have Rk_9 := co Rk_3 K9.out
  have Ri_9 := co Ri_3 K9.out
  have Rr_9 := co Rr_3 K9.out
  have Rsl_9 := co Rsl_3 K9.out
  obtain ⟨fr0, zr0, fr1, zr1, fr2, zr2, fr3, zr3, fr4, zr4, fr5, zr5, xr⟩ := ly6 Rr_9.out
  go_wp2
  refine bodyPost_ret (v := .agg #[.bool (decide (M < 0)), .slice A9 (digs M.natAbs).length c9, .int .i64 E, .bool (decide (N < 0)), .slice B9 (digs N.natAbs).length d9, .int .i64 F]) (by simp [results, Tryz.results22, go_sem, fr0, fr1, fr2, fr3, fr4, fr5]) rfl ?_
  
  refine ⟨A9, c9, B9, d9, rfl, ?_, ?_, ?_⟩
  · exact (fin6 L9.out Rr_9.out noint_iv Gr).get (A := A9) (c := c9) (xs := digs M.natAbs) (by simp)
  · exact (fin6 L9.out Rr_9.out noint_iv Gr).get (A := B9) (c := d9) (xs := digs N.natAbs) (by simp)
  · exact (fin6 L9.out Rr_9.out noint_iv Gr).1
end Go.Proofs.YtijodbjdajddoaaGreatDoor
end

section
/-
  iv: Scale.
-/
namespace Go.Proofs.YtijodbjdajddoaaGreatDoor
open Go.RowKit
set_option linter.unusedSimpArgs false
set_option linter.unusedVariables false
set_option maxHeartbeats 4000000 in
set_option maxRecDepth 100000 in
theorem iscale_ok (A B : Option Addr) (c d : Nat) (m x n y P : Int) (g : Nat) (j M E N F : Int) (w : World) (h : Dg w A c (digs m.natAbs)) (h' : Dg w B d (digs n.natAbs)) (hl : (digs m.natAbs).length ≤ 10000) (hl' : (digs n.natAbs).length ≤ 10000) (r1 : Rt m x) (r2 : Rt n y) (ho : dv m x ≤ dv n y) (hT : T32 w) (j0 : -100000 ≤ j) (j1 : j ≤ 100000) (hs1 : IsD (dv m (x + j)) M E) (hq1 : inR M E = true) (hs2 : IsD (dv n (y + j)) N F) (hq2 : inR N F = true) (hk : w.heap[g]? = some (.cells #[.int .i64 0, .int .i64 P] 45 (0, 0))):
    Calls Tryz.prog 35 #[.pointer (some ⟨g, 0, none⟩), .agg #[.bool (decide (m < 0)), .slice A (digs m.natAbs).length c, .int .i64 x, .bool (decide (n < 0)), .slice B (digs n.natAbs).length d, .int .i64 y], .int .i64 j] w fun e w' => Yi M E N F w e w' := by
  have HR1 := Lib.hid r1
  have HR2 := Lib.hid r2
  have lx := Lib.hid hl
  have ly := Lib.hid hl'
  have HO := Lib.hid ho
  have D1 := Lib.hid hs1
  have D2 := Lib.hid hs2
  have J1 := Lib.hid hq1
  have J2 := Lib.hid hq2
  have HT := Lib.hid hT
  clear hT
  have L0 := Lib.hid (((live_start w).add h).add h')
  have Rk_0 := Lib.hid hk
  clear hk
  clear h h' hl hl' r1 r2 ho hs1 hs2 hq1 hq2
  go_enter Tryz.func35, Tryz.ntmps35
  go_upto_region 1 with fail
  obtain ⟨v1, hW, hb, Ri_1, Rr_1⟩ := new2 w (.cells #[.bool (decide (m < 0)), .slice A (digs m.natAbs).length c, .int .i64 x, .bool (decide (n < 0)), .slice B (digs n.natAbs).length d, .int .i64 y] 34) (.cells #[.bool false, .slice none 0 0, .int .i64 0, .bool false, .slice none 0 0, .int .i64 0] 34)
  rw [← hW]
  have L1 := ls L0 hb
  have Rk_1 := co Rk_0 hb
  have Gi := gl0 L0.out
  have Nki := nl0 Rk_0.out
  have Gr := gl1 L0.out
  have Nkr := nl1 Rk_0.out
  have Nir : w.heap.size < w.heap.size + 1 := by omega
  clear hW hb
  obtain ⟨fi0, zi0, fi1, zi1, fi2, zi2, fi3, zi3, fi4, zi4, fi5, zi5, xi⟩ := ly6 Ri_1.out
  go_wp2_with fail
  obtain ⟨w2, hW, hb, Rsl_2⟩ := new1 v1 (.cells #[.bool (decide (m < 0)), .slice A (digs m.natAbs).length c, .int .i64 x, .bool (decide (n < 0)), .slice B (digs n.natAbs).length d, .int .i64 y] 34)
  rw [← hW]
  have L2 := ls L1 hb
  have Rk_2 := co Rk_1 hb
  have Ri_2 := co Ri_1 hb
  have Rr_2 := co Rr_1 hb
  have Gsl := gl0 L1.out
  have Nksl := nl0 Rk_1.out
  have Nisl := nl0 Ri_1.out
  have Nrsl := nl0 Rr_1.out
  clear hW hb
  clear fi0 zi0 fi1 zi1 fi2 zi2 fi3 zi3 fi4 zi4 fi5 zi5 xi
  refine (takes_1 Rk_2.out Rsl_2.out (L2.out.get (A := A) (c := c) (xs := digs m.natAbs) (by simp)) (L2.out.get (A := B) (c := d) (xs := digs n.natAbs) (by simp)) lx.out ly.out HR1.out HR2.out HO.out rfl).mono ?_
  rintro e w3 ⟨rfl, hb⟩
  have L3 := ls L2 hb
  have Rk_3 := co Rk_2 hb
  have Ri_3 := co Ri_2 hb
  have Rr_3 := co Rr_2 hb
  have Rsl_3 := co Rsl_2 hb
  clear hb 
  go_upto_region 3 with fail
  obtain ⟨fi0, zi0, fi1, zi1, fi2, zi2, fi3, zi3, fi4, zi4, fi5, zi5, xi⟩ := ly6 Ri_3.out
  have KD := Lib.hid (bd0 w3)
  have LD := ls L3 KD.out
  have Mi : w.heap.size ≠ w.heap.size + 1 := by omega
  go_region_held3 (fun w' => (∀ o, w'.cell? ⟨w.heap.size, o, none⟩ = w3.cell? ⟨w.heap.size, o, none⟩))
    (first | with_reducible exact keep_b KD.out xi | with_reducible exact keep_b K5.out xi | with_reducible exact keep_b K6.out xi | with_reducible exact keep_b K7.out xi | with_reducible exact keep_b K8.out xi | with_reducible exact keep_b K9.out xi | exact (keep_set (keep_b K9.out xi) Mi) | exact (keep_set (keep_set (keep_b K9.out xi) Mi) Mi) | exact (keep_set (keep_set (keep_set (keep_b K9.out xi) Mi) Mi) Mi) | exact (keep_set (keep_set (keep_set (keep_set (keep_b K9.out xi) Mi) Mi) Mi) Mi) | exact (keep_set (keep_set (keep_set (keep_set (keep_set (keep_b K9.out xi) Mi) Mi) Mi) Mi) Mi) | exact (keep_set (keep_set (keep_set (keep_set (keep_set (keep_set (keep_b K9.out xi) Mi) Mi) Mi) Mi) Mi) Mi))
    (first
      | (go_at_call 39; (with_reducible refine (scale_yes_ A c m x j M E _ (LD.out.get (A := A) (c := c) (xs := digs m.natAbs) (by simp)) lx.out HR1.out (t32_live HT.out LD.out) j0 j1 D1.out J1.out).mono ?_); rintro e w5 ⟨A5, c5, rfl, hd, hb⟩; (have K5 := bt KD hb); (have L5 := la LD hb hd); clear hb hd)
      | (go_at_call 54; (with_reducible refine (got_ok A5 c5 M E g _ (L5.out.get (A := A5) (c := c5) (xs := digs M.natAbs) (by simp))).mono ?_); rintro e w6 ⟨A6, c6, rfl, hd, hb⟩; (have K6 := bt K5 hb); (have L6 := la L5 hb hd); clear hb hd)
      | (go_at_call 39; (with_reducible refine (scale_yes_ B d n y j N F _ (L6.out.get (A := B) (c := d) (xs := digs n.natAbs) (by simp)) ly.out HR2.out (t32_live HT.out L6.out) j0 j1 D2.out J2.out).mono ?_); rintro e w7 ⟨A7, c7, rfl, hd, hb⟩; (have K7 := bt K6 hb); (have L7 := la L6 hb hd); clear hb hd)
      | (go_at_call 54; (with_reducible refine (got_ok A7 c7 N F g _ (L7.out.get (A := A7) (c := c7) (xs := digs N.natAbs) (by simp))).mono ?_); rintro e w8 ⟨A8, c8, rfl, hd, hb⟩; (have K8 := bt K7 hb); (have L8 := la L7 hb hd); clear hb hd)
      | (go_at_call 58; (with_reducible refine (answer_iv A6 A8 c6 c8 M E N F P g _ (L8.out.get (A := A6) (c := c6) (xs := digs M.natAbs) (by simp)) (L8.out.get (A := A8) (c := c8) (xs := digs N.natAbs) (by simp)) (cells_of Rk_3.out K8.out)).mono ?_); rintro e w9 ⟨A9, c9, B9, d9, rfl, hd, he, hb⟩; (have K9 := bt K8 hb); (have L9 := la2 L8 hb hd he); (have qr0_K9 := row_c (i := 0) (co Rr_3 K9.out).out rfl); (have pr0_K9 := frozen_of_row _ _ 0 _ _ (cells_of Rr_3.out K9.out)); (have qr1_K9 := row_c (i := 1) (co Rr_3 K9.out).out rfl); (have pr1_K9 := frozen_of_row _ _ 1 _ _ (cells_of Rr_3.out K9.out)); (have qr2_K9 := row_c (i := 2) (co Rr_3 K9.out).out rfl); (have pr2_K9 := frozen_of_row _ _ 2 _ _ (cells_of Rr_3.out K9.out)); (have qr3_K9 := row_c (i := 3) (co Rr_3 K9.out).out rfl); (have pr3_K9 := frozen_of_row _ _ 3 _ _ (cells_of Rr_3.out K9.out)); (have qr4_K9 := row_c (i := 4) (co Rr_3 K9.out).out rfl); (have pr4_K9 := frozen_of_row _ _ 4 _ _ (cells_of Rr_3.out K9.out)); (have qr5_K9 := row_c (i := 5) (co Rr_3 K9.out).out rfl); (have pr5_K9 := frozen_of_row _ _ 5 _ _ (cells_of Rr_3.out K9.out)); clear hb hd he))
  rename_i hHeld
  clear hHeld
  clear fi0 zi0 fi1 zi1 fi2 zi2 fi3 zi3 fi4 zi4 fi5 zi5 xi
  have Rk_9 := co Rk_3 K9.out
  have Ri_9 := co Ri_3 K9.out
  have Rr_9 := co Rr_3 K9.out
  have Rsl_9 := co Rsl_3 K9.out
  obtain ⟨fr0, zr0, fr1, zr1, fr2, zr2, fr3, zr3, fr4, zr4, fr5, zr5, xr⟩ := ly6 Rr_9.out
  go_wp2
  refine bodyPost_ret (v := .agg #[.bool (decide (M < 0)), .slice A9 (digs M.natAbs).length c9, .int .i64 E, .bool (decide (N < 0)), .slice B9 (digs N.natAbs).length d9, .int .i64 F]) (by simp [results, Tryz.results35, go_sem, fr0, fr1, fr2, fr3, fr4, fr5]) rfl ?_
  
  refine ⟨A9, c9, B9, d9, rfl, ?_, ?_, ?_⟩
  · exact (fin6 L9.out Rr_9.out noint_iv Gr).get (A := A9) (c := c9) (xs := digs M.natAbs) (by simp)
  · exact (fin6 L9.out Rr_9.out noint_iv Gr).get (A := B9) (c := d9) (xs := digs N.natAbs) (by simp)
  · exact (fin6 L9.out Rr_9.out noint_iv Gr).1
end Go.Proofs.YtijodbjdajddoaaGreatDoor
end

section
/-
  iv: Point.
-/
namespace Go.Proofs.YtijodbjdajddoaaGreatDoor
open Go.RowKit
set_option linter.unusedSimpArgs false
set_option linter.unusedVariables false
set_option maxHeartbeats 4000000 in
set_option maxRecDepth 100000 in
theorem ipoint_ok (A : Option Addr) (c : Nat) (m x P : Int) (g : Nat) (w : World) (h : Dg w A c (digs m.natAbs)) (hl : (digs m.natAbs).length ≤ 10000) (r1 : Rt m x) (hk : w.heap[g]? = some (.cells #[.int .i64 0, .int .i64 P] 45 (0, 0))):
    Calls Tryz.prog 25 #[.pointer (some ⟨g, 0, none⟩), .agg #[.bool (decide (m < 0)), .slice A (digs m.natAbs).length c, .int .i64 x]] w fun e w' => Yi m x m x w e w' := by
  have HR1 := Lib.hid r1
  have lx := Lib.hid hl
  have L0 := Lib.hid ((live_start w).add h)
  have Rk_0 := Lib.hid hk
  clear hk
  clear h hl r1
  go_enter Tryz.func25, Tryz.ntmps25
  go_upto_region 1 with fail
  obtain ⟨v1, hW, hb, Rx_1, Rr_1⟩ := new2 w (.cells #[.bool (decide (m < 0)), .slice A (digs m.natAbs).length c, .int .i64 x] 26) (.cells #[.bool false, .slice none 0 0, .int .i64 0, .bool false, .slice none 0 0, .int .i64 0] 34)
  rw [← hW]
  have L1 := ls L0 hb
  have Rk_1 := co Rk_0 hb
  have Gx := gl0 L0.out
  have Nkx := nl0 Rk_0.out
  have Gr := gl1 L0.out
  have Nkr := nl1 Rk_0.out
  have Nxr : w.heap.size < w.heap.size + 1 := by omega
  clear hW hb
  obtain ⟨fx0, zx0, fx1, zx1, fx2, zx2, xx⟩ := ly3 Rx_1.out
  have KD := Lib.hid (bd0 v1)
  have LD := ls L1 KD.out
  go_region_held3 (fun w' => ∀ b o, b < v1.heap.size → w'.cell? ⟨b, o, none⟩ = v1.cell? ⟨b, o, none⟩)
    (first | with_reducible exact (bcell KD.out).1 | with_reducible exact (bcell K3.out).1)
    (first
      | (go_at_call 51; (with_reducible refine (dright_any A c (decide (m < 0)) (digs m.natAbs) x _ (LD.out.get (A := A) (c := c) (xs := digs m.natAbs) (by simp)) true (dyR_num HR1.out) (Nat.le_trans lx.out (by omega))).mono ?_); rintro e w3 ⟨rfl, hb⟩; (have K3 := bt KD hb); (have L3 := Lib.hid (LD.out.step hb)); clear hb )
      | (go_at_call 61; (with_reducible refine (note_no g 1 _).mono ?_); rintro e w4 ⟨rfl, rfl⟩))
  rename_i hHeld
  clear hHeld
  clear fx0 zx0 fx1 zx1 fx2 zx2 xx
  have Rk_4 := co Rk_1 K3.out
  have Rx_4 := co Rx_1 K3.out
  have Rr_4 := co Rr_1 K3.out
  clear KD LD
  obtain ⟨fx0, zx0, fx1, zx1, fx2, zx2, xx⟩ := ly3 Rx_4.out
  go_wp2_with fail
  refine (answer_iv A A c c m x m x P g _ (L3.out.get (A := A) (c := c) (xs := digs m.natAbs) (by simp)) (L3.out.get (A := A) (c := c) (xs := digs m.natAbs) (by simp)) Rk_4.out).mono ?_
  rintro e w5 ⟨A5, c5, B5, d5, rfl, hd, he, hb⟩
  have L5 := la2 L3 hb hd he
  clear fx0 zx0 fx1 zx1 fx2 zx2 xx
  have Rk_5 := co Rk_4 hb
  have Rx_5 := co Rx_4 hb
  have Rr_5 := co Rr_4 hb
  clear hb hd he
  obtain ⟨fr0, zr0, fr1, zr1, fr2, zr2, fr3, zr3, fr4, zr4, fr5, zr5, xr⟩ := ly6 Rr_5.out
  go_wp2
  refine bodyPost_ret (v := .agg #[.bool (decide (m < 0)), .slice A5 (digs m.natAbs).length c5, .int .i64 x, .bool (decide (m < 0)), .slice B5 (digs m.natAbs).length d5, .int .i64 x]) (by simp [results, Tryz.results25, go_sem, fr0, fr1, fr2, fr3, fr4, fr5]) rfl ?_
  
  refine ⟨A5, c5, B5, d5, rfl, ?_, ?_, ?_⟩
  · exact (fin6 L5.out Rr_5.out noint_iv Gr).get (A := A5) (c := c5) (xs := digs m.natAbs) (by simp)
  · exact (fin6 L5.out Rr_5.out noint_iv Gr).get (A := B5) (c := d5) (xs := digs m.natAbs) (by simp)
  · exact (fin6 L5.out Rr_5.out noint_iv Gr).1
end Go.Proofs.YtijodbjdajddoaaGreatDoor
end

section
/-
  iv: Mid.
-/
namespace Go.Proofs.YtijodbjdajddoaaGreatDoor
open Go.RowKit
set_option linter.unusedSimpArgs false
set_option linter.unusedVariables false
theorem answer_lo {A : Option Addr} {c g : Nat} {m x P : Int} {w : World} (h : Dg w A c (digs m.natAbs)) (hk : w.heap[g]? = some (.cells #[.int .i64 0, .int .i64 P] 45 (0, 0))) :
    Calls Tryz.prog 58 #[.pointer (some ⟨g, 0, none⟩), .agg #[.bool (decide (m < 0)), .slice A (digs m.natAbs).length c, .int .i64 x], .agg #[.bool false, .slice none 0 0, .int .i64 0]] w fun e w' => ∃ A c B d, e = .returned (.agg #[.bool (decide (m < 0)), .slice A (digs m.natAbs).length c, .int .i64 x, .bool false, .slice B 0 d, .int .i64 0]) ∧ Dg w' A c (digs m.natAbs) ∧ Below w.heap.size w w' := by
  have e : digs (0 : Int).natAbs = [] := digs_zero
  have := answer_iv A none c 0 m x 0 0 P g w h (by rw [e]; exact Dg.nil_ _ _) hk
  rw [e] at this
  refine this.mono ?_
  rintro e w' ⟨A, c, B, d, rfl, hd, _, hb⟩
  exact ⟨A, c, B, d, by rw [show digs (0 : Int).natAbs = [] from digs_zero]; rfl, hd, hb⟩

set_option maxHeartbeats 4000000 in
set_option maxRecDepth 100000 in
theorem imid_ok (A B : Option Addr) (c d : Nat) (m s n t P : Int) (g : Nat) (a1 b1 a2 b2 M E : Int) (w : World) (h : Dg w A c (digs m.natAbs)) (h' : Dg w B d (digs n.natAbs)) (hl : (digs m.natAbs).length ≤ 10000) (hl' : (digs n.natAbs).length ≤ 10000) (r1 : Rt m s) (r2 : Rt n t) (ho : dv m s ≤ dv n t) {p : Nat} (hP : (p : Int) = P) (p2 : 2 ≤ p) (p4 : p ≤ 400) (hT : T32 w) (hk : w.heap[g]? = some (.cells #[.int .i64 0, .int .i64 P] 45 (0, 0))) (hs1 : IsD (dv m s + dv n t) a1 b1) (q1 : inR a1 b1 = true) (hs2 : IsD (dv a1 (b1 + -1)) a2 b2) (q2 : inR a2 b2 = true) (ht1 : RdOf (dv a2 b2) p false M E) (u1 : inR M E = true):
    Calls Tryz.prog 34 #[.pointer (some ⟨g, 0, none⟩), .agg #[.bool (decide (m < 0)), .slice A (digs m.natAbs).length c, .int .i64 s, .bool (decide (n < 0)), .slice B (digs n.natAbs).length d, .int .i64 t]] w fun e w' => Yr M E w e w' := by
  have HR1 := Lib.hid r1
  have HR2 := Lib.hid r2
  have lx := Lib.hid hl
  have ly := Lib.hid hl'
  have HO := Lib.hid ho
  have D1 := Lib.hid hs1
  have D2 := Lib.hid hs2
  have J1 := Lib.hid q1
  have J2 := Lib.hid q2
  have E1 := Lib.hid ht1
  have V1 := Lib.hid u1
  have HP := Lib.hid hP
  have HT := Lib.hid hT
  clear hT
  have L0 := Lib.hid (((live_start w).add h).add h')
  have Rk_0 := Lib.hid hk
  clear hk
  clear h h' hl hl' r1 r2 ho hs1 hs2 q1 q2 ht1 u1 hP
  go_enter Tryz.func34, Tryz.ntmps34
  go_upto_region 1 with fail
  obtain ⟨v1, hW, hb, Ri_1, Rr_1⟩ := new2 w (.cells #[.bool (decide (m < 0)), .slice A (digs m.natAbs).length c, .int .i64 s, .bool (decide (n < 0)), .slice B (digs n.natAbs).length d, .int .i64 t] 34) (.cells #[.bool false, .slice none 0 0, .int .i64 0] 26)
  rw [← hW]
  have L1 := ls L0 hb
  have Rk_1 := co Rk_0 hb
  have Gi := gl0 L0.out
  have Nki := nl0 Rk_0.out
  have Gr := gl1 L0.out
  have Nkr := nl1 Rk_0.out
  have Nir : w.heap.size < w.heap.size + 1 := by omega
  clear hW hb
  obtain ⟨fi0, zi0, fi1, zi1, fi2, zi2, fi3, zi3, fi4, zi4, fi5, zi5, xi⟩ := ly6 Ri_1.out
  go_wp2_with fail
  obtain ⟨w2, hW, hb, Rsl_2⟩ := new1 v1 (.cells #[.bool (decide (m < 0)), .slice A (digs m.natAbs).length c, .int .i64 s, .bool (decide (n < 0)), .slice B (digs n.natAbs).length d, .int .i64 t] 34)
  rw [← hW]
  have L2 := ls L1 hb
  have Rk_2 := co Rk_1 hb
  have Ri_2 := co Ri_1 hb
  have Rr_2 := co Rr_1 hb
  have Gsl := gl0 L1.out
  have Nksl := nl0 Rk_1.out
  have Nisl := nl0 Ri_1.out
  have Nrsl := nl0 Rr_1.out
  clear hW hb
  clear fi0 zi0 fi1 zi1 fi2 zi2 fi3 zi3 fi4 zi4 fi5 zi5 xi
  refine (takes_1 Rk_2.out Rsl_2.out (L2.out.get (A := A) (c := c) (xs := digs m.natAbs) (by simp)) (L2.out.get (A := B) (c := d) (xs := digs n.natAbs) (by simp)) lx.out ly.out HR1.out HR2.out HO.out rfl).mono ?_
  rintro e w3 ⟨rfl, hb⟩
  have L3 := ls L2 hb
  have Rk_3 := co Rk_2 hb
  have Ri_3 := co Ri_2 hb
  have Rr_3 := co Rr_2 hb
  have Rsl_3 := co Rsl_2 hb
  clear hb 
  go_upto_region 3 with fail
  refine wp_operands (W := w3) rfl 19 [12, 13, 14, 15, 16, 17, 18, 19, 20, 21, 22, 23, 24, 25, 26, 27, 28, 29, 5] (fun i u ww => match i with | 0 => u = .pointer (some ⟨g, 0, none⟩) | 1 => u = .pointer (some ⟨g, 0, none⟩) | 2 => u = .pointer (some ⟨g, 0, none⟩) | 3 => u = .pointer (some ⟨g, 0, none⟩) | 4 => u = .pointer (some ⟨g, 0, none⟩) | 5 => u = .pointer (some ⟨g, 0, none⟩) | 6 => u = .pointer (some ⟨w.heap.size, 0, none⟩) | 7 => u = .agg #[.bool (decide (m < 0)), .slice A (digs m.natAbs).length c, .int .i64 s] | 8 => u = .pointer (some ⟨w.heap.size, 3, none⟩) | 9 => u = .agg #[.bool (decide (n < 0)), .slice B (digs n.natAbs).length d, .int .i64 t] | 10 => ∃ A c, u = .tuple #[.agg #[.bool (decide (a1 < 0)), .slice A (digs a1.natAbs).length c, .int .i64 b1], .int .i64 0] ∧ Dg ww A c (digs a1.natAbs) | 11 => ∃ A c, u = .agg #[.bool (decide (a1 < 0)), .slice A (digs a1.natAbs).length c, .int .i64 b1] ∧ Dg ww A c (digs a1.natAbs) | 12 => u = .int .i64 0 | 13 => ∃ A c, u = .agg #[.bool (decide (a1 < 0)), .slice A (digs a1.natAbs).length c, .int .i64 b1] ∧ Dg ww A c (digs a1.natAbs) | 14 => ∃ A c, u = .tuple #[.agg #[.bool (decide (a2 < 0)), .slice A (digs a2.natAbs).length c, .int .i64 b2], .int .i64 0] ∧ Dg ww A c (digs a2.natAbs) | 15 => ∃ A c, u = .agg #[.bool (decide (a2 < 0)), .slice A (digs a2.natAbs).length c, .int .i64 b2] ∧ Dg ww A c (digs a2.natAbs) | 16 => u = .int .i64 0 | 17 => ∃ A c, u = .agg #[.bool (decide (a2 < 0)), .slice A (digs a2.natAbs).length c, .int .i64 b2] ∧ Dg ww A c (digs a2.natAbs) | 18 => ∃ g, u = .pointer (some ⟨g, 0, none⟩) ∧ ww.heap[g]? = some (.cells #[.bool false, .slice none 0 0, .int .i64 0] 26 (0, 0)) ∧ w3.heap.size ≤ g | _ => True) (fun i => decide (i ∈ ([18] : List Nat)))
    (by decide) rfl (by kernel_rfl) (by kernel_rfl) (by decide) (by kernel_rfl) ?_ ?_ ?_ ?_
  · intro i u x y hi h hb
    have hi' : i = 0 ∨ i = 1 ∨ i = 2 ∨ i = 3 ∨ i = 4 ∨ i = 5 ∨ i = 6 ∨ i = 7 ∨ i = 8 ∨ i = 9 ∨ i = 10 ∨ i = 11 ∨ i = 12 ∨ i = 13 ∨ i = 14 ∨ i = 15 ∨ i = 16 ∨ i = 17 ∨ i = 18 := by omega
    rcases hi' with rfl | rfl | rfl | rfl | rfl | rfl | rfl | rfl | rfl | rfl | rfl | rfl | rfl | rfl | rfl | rfl | rfl | rfl | rfl
    · exact h
    · exact h
    · exact h
    · exact h
    · exact h
    · exact h
    · exact h
    · exact h
    · exact h
    · exact h
    · obtain ⟨A, c, e, hd⟩ := h
      exact ⟨A, c, e, hd.below hb⟩
    · obtain ⟨A, c, e, hd⟩ := h
      exact ⟨A, c, e, hd.below hb⟩
    · exact h
    · obtain ⟨A, c, e, hd⟩ := h
      exact ⟨A, c, e, hd.below hb⟩
    · obtain ⟨A, c, e, hd⟩ := h
      exact ⟨A, c, e, hd.below hb⟩
    · obtain ⟨A, c, e, hd⟩ := h
      exact ⟨A, c, e, hd.below hb⟩
    · exact h
    · obtain ⟨A, c, e, hd⟩ := h
      exact ⟨A, c, e, hd.below hb⟩
    · obtain ⟨g, e, hg, hge⟩ := h
      exact ⟨g, e, cells_of hg hb, hge⟩
  · intro i u x hi h
    have hi' : i = 18 := by simpa using hi
    subst hi'
    all_goals
      obtain ⟨g, e, hg, _⟩ := h
      exact ⟨g, e, heap_lt hg⟩
  · intro i a x KK hi hF hb hw hK
    have hi' : i = 0 ∨ i = 1 ∨ i = 2 ∨ i = 3 ∨ i = 4 ∨ i = 5 ∨ i = 6 ∨ i = 7 ∨ i = 8 ∨ i = 9 ∨ i = 10 ∨ i = 11 ∨ i = 12 ∨ i = 13 ∨ i = 14 ∨ i = 15 ∨ i = 16 ∨ i = 17 ∨ i = 18 := by omega
    rcases hi' with rfl | rfl | rfl | rfl | rfl | rfl | rfl | rfl | rfl | rfl | rfl | rfl | rfl | rfl | rfl | rfl | rfl | rfl | rfl
    · simp only [wpOp, List.getElem?_toArray, List.getElem?_cons_zero, Region.wanted, if_true]
      refine Or.inl ?_
      have e0 : a.eval (.tmp 0) = .pointer (some ⟨g, 0, none⟩) := hF.2.2 0 (by decide)
      clear hw hF
      simp only [Oper.wp, execOp]
      rw [e0]
      go_simp
      exact hK _ x (by first | rfl | simp) (Below.refl _ _) (fun h => by simp at h)
    · simp only [wpOp, List.getElem?_toArray, List.getElem?_cons_succ, List.getElem?_cons_zero, Region.wanted, if_true]
      refine Or.inl ?_
      have e0 : a.eval (.tmp 12) = .pointer (some ⟨g, 0, none⟩) := hw 0 (by kernel_rfl)
      clear hw hF
      simp only [Oper.wp, execOp]
      rw [e0]
      go_simp
      exact hK _ x (by first | rfl | simp) (Below.refl _ _) (fun h => by simp at h)
    · simp only [wpOp, List.getElem?_toArray, List.getElem?_cons_succ, List.getElem?_cons_zero, Region.wanted, if_true]
      refine Or.inl ?_
      have e0 : a.eval (.tmp 13) = .pointer (some ⟨g, 0, none⟩) := hw 1 (by kernel_rfl)
      clear hw hF
      simp only [Oper.wp, execOp]
      rw [e0]
      go_simp
      exact hK _ x (by first | rfl | simp) (Below.refl _ _) (fun h => by simp at h)
    · simp only [wpOp, List.getElem?_toArray, List.getElem?_cons_succ, List.getElem?_cons_zero, Region.wanted, if_true]
      refine Or.inl ?_
      have e0 : a.eval (.tmp 0) = .pointer (some ⟨g, 0, none⟩) := hF.2.2 0 (by decide)
      clear hw hF
      simp only [Oper.wp, execOp]
      rw [e0]
      go_simp
      exact hK _ x (by first | rfl | simp) (Below.refl _ _) (fun h => by simp at h)
    · simp only [wpOp, List.getElem?_toArray, List.getElem?_cons_succ, List.getElem?_cons_zero, Region.wanted, if_true]
      refine Or.inl ?_
      have e0 : a.eval (.tmp 15) = .pointer (some ⟨g, 0, none⟩) := hw 3 (by kernel_rfl)
      clear hw hF
      simp only [Oper.wp, execOp]
      rw [e0]
      go_simp
      exact hK _ x (by first | rfl | simp) (Below.refl _ _) (fun h => by simp at h)
    · simp only [wpOp, List.getElem?_toArray, List.getElem?_cons_succ, List.getElem?_cons_zero, Region.wanted, if_true]
      refine Or.inl ?_
      have e0 : a.eval (.tmp 16) = .pointer (some ⟨g, 0, none⟩) := hw 4 (by kernel_rfl)
      clear hw hF
      simp only [Oper.wp, execOp]
      rw [e0]
      go_simp
      exact hK _ x (by first | rfl | simp) (Below.refl _ _) (fun h => by simp at h)
    · simp only [wpOp, List.getElem?_toArray, List.getElem?_cons_succ, List.getElem?_cons_zero, Region.wanted, if_true]
      refine Or.inl ?_
      have e0 : a.eval (.tmp 3) = .pointer (some ⟨w.heap.size, 0, none⟩) := hF.2.2 3 (by decide)
      clear hw hF
      simp only [Oper.wp, execOp]
      rw [e0]
      go_simp
      exact hK _ x (by first | rfl | simp) (Below.refl _ _) (fun h => by simp at h)
    · simp only [wpOp, List.getElem?_toArray, List.getElem?_cons_succ, List.getElem?_cons_zero, Region.wanted, if_true]
      refine Or.inl ?_
      have e0 : a.eval (.tmp 18) = .pointer (some ⟨w.heap.size, 0, none⟩) := hw 6 (by kernel_rfl)
      have f0 := row_cell Ri_3.out hb 0
      have f1 := row_cell Ri_3.out hb 1
      have f2 := row_cell Ri_3.out hb 2
      have f3 := row_cell Ri_3.out hb 3
      have f4 := row_cell Ri_3.out hb 4
      have f5 := row_cell Ri_3.out hb 5
      simp only [List.getElem?_toArray, List.getElem?_cons_succ, List.getElem?_cons_zero] at f0 f1 f2 f3 f4 f5
      clear hw hF
      simp only [Oper.wp, execOp]
      rw [e0]
      go_simp
      exact hK _ x (by first | rfl | simp) (Below.refl _ _) (fun h => by simp at h)
    · simp only [wpOp, List.getElem?_toArray, List.getElem?_cons_succ, List.getElem?_cons_zero, Region.wanted, if_true]
      refine Or.inl ?_
      have e0 : a.eval (.tmp 3) = .pointer (some ⟨w.heap.size, 0, none⟩) := hF.2.2 3 (by decide)
      clear hw hF
      simp only [Oper.wp, execOp]
      rw [e0]
      go_simp
      exact hK _ x (by first | rfl | simp) (Below.refl _ _) (fun h => by simp at h)
    · simp only [wpOp, List.getElem?_toArray, List.getElem?_cons_succ, List.getElem?_cons_zero, Region.wanted, if_true]
      refine Or.inl ?_
      have e0 : a.eval (.tmp 20) = .pointer (some ⟨w.heap.size, 3, none⟩) := hw 8 (by kernel_rfl)
      have f0 := row_cell Ri_3.out hb 0
      have f1 := row_cell Ri_3.out hb 1
      have f2 := row_cell Ri_3.out hb 2
      have f3 := row_cell Ri_3.out hb 3
      have f4 := row_cell Ri_3.out hb 4
      have f5 := row_cell Ri_3.out hb 5
      simp only [List.getElem?_toArray, List.getElem?_cons_succ, List.getElem?_cons_zero] at f0 f1 f2 f3 f4 f5
      clear hw hF
      simp only [Oper.wp, execOp]
      rw [e0]
      go_simp
      exact hK _ x (by first | rfl | simp) (Below.refl _ _) (fun h => by simp at h)
    · simp only [wpOp, List.getElem?_toArray, List.getElem?_cons_succ, List.getElem?_cons_zero, Region.wanted, if_true]
      refine Or.inl ?_
      have e0 : a.tmps.getD 19 undef = .agg #[.bool (decide (m < 0)), .slice A (digs m.natAbs).length c, .int .i64 s] := hw 7 (by kernel_rfl)
      have e1 : a.tmps.getD 21 undef = .agg #[.bool (decide (n < 0)), .slice B (digs n.natAbs).length d, .int .i64 t] := hw 9 (by kernel_rfl)
      clear hw hF
      simp only [Oper.wp, execOp]
      go_simp
      refine (dadd_yes ((L3.out.step hb).get (A := A) (c := c) (xs := digs m.natAbs) (by simp)) ((L3.out.step hb).get (A := B) (c := d) (xs := digs n.natAbs) (by simp)) lx.out ly.out HR1.out HR2.out (t32_live HT.out (L3.out.step hb)) D1.out J1.out).mono ?_
      rintro e y ⟨A2, c2, rfl, hd2, hbb⟩
      exact hK _ y ⟨A2, c2, rfl, hd2⟩ hbb (fun h => by simp at h)
    · simp only [wpOp, List.getElem?_toArray, List.getElem?_cons_succ, List.getElem?_cons_zero, Region.wanted, if_true]
      refine Or.inl ?_
      obtain ⟨A', c', e0, hd⟩ := hw 10 (by kernel_rfl)
      have e0 : a.eval (.tmp 22) = _ := e0
      clear hw hF
      simp only [Oper.wp, execOp]
      rw [e0]
      go_simp
      exact hK _ x ⟨A', c', rfl, hd⟩ (Below.refl _ _) (fun h => by simp at h)
    · simp only [wpOp, List.getElem?_toArray, List.getElem?_cons_succ, List.getElem?_cons_zero, Region.wanted, if_true]
      refine Or.inl ?_
      obtain ⟨A', c', e0, hd⟩ := hw 10 (by kernel_rfl)
      have e0 : a.eval (.tmp 22) = _ := e0
      clear hw hF
      simp only [Oper.wp, execOp]
      rw [e0]
      go_simp
      exact hK _ x (by first | rfl | simp) (Below.refl _ _) (fun h => by simp at h)
    · simp only [wpOp, List.getElem?_toArray, List.getElem?_cons_succ, List.getElem?_cons_zero, Region.wanted, if_true]
      refine Or.inl ?_
      have e0 : a.tmps.getD 17 undef = .pointer (some ⟨g, 0, none⟩) := hw 5 (by kernel_rfl)
      obtain ⟨A', c', e1, hd⟩ := hw 11 (by kernel_rfl)
      have e1 : a.tmps.getD 23 undef = _ := e1
      have e2 : a.tmps.getD 24 undef = .int .i64 0 := hw 12 (by kernel_rfl)
      clear hw hF
      simp only [Oper.wp, execOp]
      go_simp
      refine (got_ok A' c' a1 b1 g _ hd).mono ?_
      rintro e y ⟨A2, c2, rfl, hd2, hbb⟩
      exact hK _ y ⟨A2, c2, rfl, hd2⟩ hbb (fun h => by simp at h)
    · simp only [wpOp, List.getElem?_toArray, List.getElem?_cons_succ, List.getElem?_cons_zero, Region.wanted, if_true]
      refine Or.inl ?_
      obtain ⟨A', c', e0, hd⟩ := hw 13 (by kernel_rfl)
      have e0 : a.tmps.getD 25 undef = _ := e0
      clear hw hF
      simp only [Oper.wp, execOp]
      go_simp
      refine (scale_yes_ A' c' a1 b1 (-1) a2 b2 _ hd (inr_len J1.out) (rt_in (nf_isD D1.out) J1.out) (t32_live HT.out (L3.out.step hb)) (by omega) (by omega) D2.out J2.out).mono ?_
      rintro e y ⟨A2, c2, rfl, hd2, hbb⟩
      exact hK _ y ⟨A2, c2, rfl, hd2⟩ hbb (fun h => by simp at h)
    · simp only [wpOp, List.getElem?_toArray, List.getElem?_cons_succ, List.getElem?_cons_zero, Region.wanted, if_true]
      refine Or.inl ?_
      obtain ⟨A', c', e0, hd⟩ := hw 14 (by kernel_rfl)
      have e0 : a.eval (.tmp 26) = _ := e0
      clear hw hF
      simp only [Oper.wp, execOp]
      rw [e0]
      go_simp
      exact hK _ x ⟨A', c', rfl, hd⟩ (Below.refl _ _) (fun h => by simp at h)
    · simp only [wpOp, List.getElem?_toArray, List.getElem?_cons_succ, List.getElem?_cons_zero, Region.wanted, if_true]
      refine Or.inl ?_
      obtain ⟨A', c', e0, hd⟩ := hw 14 (by kernel_rfl)
      have e0 : a.eval (.tmp 26) = _ := e0
      clear hw hF
      simp only [Oper.wp, execOp]
      rw [e0]
      go_simp
      exact hK _ x (by first | rfl | simp) (Below.refl _ _) (fun h => by simp at h)
    · simp only [wpOp, List.getElem?_toArray, List.getElem?_cons_succ, List.getElem?_cons_zero, Region.wanted, if_true]
      refine Or.inl ?_
      have e0 : a.tmps.getD 14 undef = .pointer (some ⟨g, 0, none⟩) := hw 2 (by kernel_rfl)
      obtain ⟨A', c', e1, hd⟩ := hw 15 (by kernel_rfl)
      have e1 : a.tmps.getD 27 undef = _ := e1
      have e2 : a.tmps.getD 28 undef = .int .i64 0 := hw 16 (by kernel_rfl)
      clear hw hF
      simp only [Oper.wp, execOp]
      go_simp
      refine (got_ok A' c' a2 b2 g _ hd).mono ?_
      rintro e y ⟨A2, c2, rfl, hd2, hbb⟩
      exact hK _ y ⟨A2, c2, rfl, hd2⟩ hbb (fun h => by simp at h)
    · simp only [wpOp, List.getElem?_toArray, List.getElem?_cons_succ, List.getElem?_cons_zero, Region.wanted, if_true]
      refine Or.inl ?_
      clear hw hF
      simp only [Oper.wp, execOp]
      go_simp
      exact hK _ _ ⟨_, rfl, heap_alloc_new _ _, hb.size⟩ (below1 _ _) (fun _ => rfl)
  · intro a x hF0 hb hR _
    have hF : Fr6 [12, 13, 14, 15, 16, 17, 18, 19, 20, 21, 22, 23, 24, 25, 26, 27, 28, 29, 5] _ a := hF0
    have e0 : a.tmps.getD 12 undef = .pointer (some ⟨g, 0, none⟩) := hR 0 (by decide)
    have e1 : a.tmps.getD 13 undef = .pointer (some ⟨g, 0, none⟩) := hR 1 (by decide)
    have e2 : a.tmps.getD 14 undef = .pointer (some ⟨g, 0, none⟩) := hR 2 (by decide)
    have e3 : a.tmps.getD 15 undef = .pointer (some ⟨g, 0, none⟩) := hR 3 (by decide)
    have e4 : a.tmps.getD 16 undef = .pointer (some ⟨g, 0, none⟩) := hR 4 (by decide)
    have e5 : a.tmps.getD 17 undef = .pointer (some ⟨g, 0, none⟩) := hR 5 (by decide)
    have e6 : a.tmps.getD 18 undef = .pointer (some ⟨w.heap.size, 0, none⟩) := hR 6 (by decide)
    have e7 : a.tmps.getD 19 undef = .agg #[.bool (decide (m < 0)), .slice A (digs m.natAbs).length c, .int .i64 s] := hR 7 (by decide)
    have e8 : a.tmps.getD 20 undef = .pointer (some ⟨w.heap.size, 3, none⟩) := hR 8 (by decide)
    have e9 : a.tmps.getD 21 undef = .agg #[.bool (decide (n < 0)), .slice B (digs n.natAbs).length d, .int .i64 t] := hR 9 (by decide)
    obtain ⟨B10, d10, h10, hd10⟩ := hR 10 (by decide)
    have e10 : a.tmps.getD 22 undef = _ := h10
    obtain ⟨B11, d11, h11, hd11⟩ := hR 11 (by decide)
    have e11 : a.tmps.getD 23 undef = _ := h11
    have e12 : a.tmps.getD 24 undef = .int .i64 0 := hR 12 (by decide)
    obtain ⟨B13, d13, h13, hd13⟩ := hR 13 (by decide)
    have e13 : a.tmps.getD 25 undef = _ := h13
    obtain ⟨B14, d14, h14, hd14⟩ := hR 14 (by decide)
    have e14 : a.tmps.getD 26 undef = _ := h14
    obtain ⟨B15, d15, h15, hd15⟩ := hR 15 (by decide)
    have e15 : a.tmps.getD 27 undef = _ := h15
    have e16 : a.tmps.getD 28 undef = .int .i64 0 := hR 16 (by decide)
    obtain ⟨B17, d17, h17, hd17⟩ := hR 17 (by decide)
    have e17 : a.tmps.getD 29 undef = _ := h17
    obtain ⟨g18, h18, hg18, hge18⟩ := hR 18 (by decide)
    have e18 : a.tmps.getD 5 undef = _ := h18
    rw [hF.fold (by kernel_rfl)]
    simp only [List.foldl_cons, List.foldl_nil, e0, e1, e2, e3, e4, e5, e6, e7, e8, e9, e10, e11, e12, e13, e14, e15, e16, e17, e18]
    simp only [Act.put, List.setIfInBounds_toArray, List.set_cons_zero, List.set_cons_succ]
    clear e0 e1 e2 e3 e4 e5 e6 e7 e8 e9 e10 e11 e12 e13 e14 e15 e16 e17 e18 hR hF hF0 h10 h11 h13 h14 h15 h17 h18
    obtain ⟨w4, hW⟩ : ∃ W : World, W = x := ⟨_, rfl⟩
    rw [← hW]
    rw [← hW] at hb hd10 hd11 hd13 hd14 hd15 hd17 hg18
    have L4 := Lib.hid (((((((L3.out.step hb).add hd10).add hd11).add hd13).add hd14).add hd15).add hd17)
    have Rk_4 := co Rk_3 hb
    have Ri_4 := co Ri_3 hb
    have Rr_4 := co Rr_3 hb
    have Rsl_4 := co Rsl_3 hb
    have Rq18_4 := Lib.hid hg18
    have Gq18 : w.heap.size ≤ g18 := Nat.le_trans L3.out.1.size hge18
    have Nkq18 : g < g18 := by have := heap_lt Rk_3.out; omega
    have Niq18 : w.heap.size < g18 := by have := heap_lt Ri_3.out; omega
    have Nrq18 : w.heap.size + 1 < g18 := by have := heap_lt Rr_3.out; omega
    have Nslq18 : v1.heap.size < g18 := by have := heap_lt Rsl_3.out; omega
    clear hW hb hd10 hd11 hd13 hd14 hd15 hd17 hg18 hge18
    obtain ⟨fq180, zq180, fq181, zq181, fq182, zq182, xq18⟩ := ly3 Rq18_4.out
    change wpOps _ _ _ [19] _ _
    simp only [wpOps_cons]
    simp only [wpOp, List.getElem?_toArray, List.getElem?_cons_succ, List.getElem?_cons_zero, Region.wanted, if_true]
    refine Or.inl ?_
    simp only [Oper.wp, execOp]
    go_simp
    try simp only [wpOps]
    clear fq180 zq180 fq181 zq181 fq182 zq182 xq18
    obtain ⟨w5, hW⟩ : ∃ W : World, W = (((w4.setCell ⟨g18, 0, none⟩ (.bool (decide (a2 < 0)))).setCell ⟨g18, 1, none⟩ (.slice B17 (digs a2.natAbs).length d17)).setCell ⟨g18, 2, none⟩ (.int .i64 b2)) := ⟨_, rfl⟩
    rw [← hW]
    have hO : Only (g18) w4 w5 := by rw [hW]; exact ((((Only.refl (g18) w4).setCell 0 _).setCell 1 _).setCell 2 _)
    have L5 := Lib.hid (live_only L4.out hO Rq18_4.out noint_dy Gq18)
    have Rk_5 := Lib.hid ((hO.block _ (by omega)).trans Rk_4.out)
    have Ri_5 := Lib.hid ((hO.block _ (by omega)).trans Ri_4.out)
    have Rr_5 := Lib.hid ((hO.block _ (by omega)).trans Rr_4.out)
    have Rsl_5 := Lib.hid ((hO.block _ (by omega)).trans Rsl_4.out)
    have Rq18_5 := Lib.hid (show w5.heap[g18]? = some (.cells #[.bool (decide (a2 < 0)), .slice B17 (digs a2.natAbs).length d17, .int .i64 b2] 26 (0, 0)) by rw [hW]; exact (heap_setCell_same _ _ 2 _ _ _ (heap_setCell_same _ _ 1 _ _ _ (heap_setCell_same _ _ 0 _ _ _ Rq18_4.out))))
    clear hW hO
    go_upto_region 4 with fail
    refine wp_operands (W := w5) rfl 16 [30, 31, 32, 33, 34, 35, 36, 37, 38, 39, 40, 41, 42, 43, 44, 45] (fun i u ww => match i with | 0 => u = .pointer (some ⟨g, 0, none⟩) | 1 => u = .pointer (some ⟨g, 0, none⟩) | 2 => u = .pointer (some ⟨g, 0, none⟩) | 3 => u = .pointer (some ⟨g, 0, none⟩) | 4 => u = .agg #[.bool (decide (a2 < 0)), .slice B17 (digs a2.natAbs).length d17, .int .i64 b2] | 5 => u = .pointer (some ⟨g, 0, none⟩) | 6 => u = .pointer (some ⟨g, 0, none⟩) | 7 => u = .pointer (some ⟨g, 1, none⟩) | 8 => u = .int .i64 P | 9 => ∃ A c, u = .tuple #[.agg #[.bool (decide (M < 0)), .slice A (digs M.natAbs).length c, .int .i64 E], .int .i64 0] ∧ Dg ww A c (digs M.natAbs) | 10 => ∃ A c, u = .agg #[.bool (decide (M < 0)), .slice A (digs M.natAbs).length c, .int .i64 E] ∧ Dg ww A c (digs M.natAbs) | 11 => u = .int .i64 0 | 12 => ∃ A c, u = .agg #[.bool (decide (M < 0)), .slice A (digs M.natAbs).length c, .int .i64 E] ∧ Dg ww A c (digs M.natAbs) | 13 => u = .agg #[.bool false, .slice none 0 0, .int .i64 0] | 14 => ∃ A c B d, u = .agg #[.bool (decide (M < 0)), .slice A (digs M.natAbs).length c, .int .i64 E, .bool false, .slice B 0 d, .int .i64 0] ∧ Dg ww A c (digs M.natAbs) | 15 => ∃ A c, u = .agg #[.bool (decide (M < 0)), .slice A (digs M.natAbs).length c, .int .i64 E] ∧ Dg ww A c (digs M.natAbs) | _ => True) (fun i => decide (i ∈ ([] : List Nat)))
      (by decide) rfl (by kernel_rfl) (by kernel_rfl) (by decide) (by kernel_rfl) ?_ ?_ ?_ ?_
    · intro i u x y hi h hb
      have hi' : i = 0 ∨ i = 1 ∨ i = 2 ∨ i = 3 ∨ i = 4 ∨ i = 5 ∨ i = 6 ∨ i = 7 ∨ i = 8 ∨ i = 9 ∨ i = 10 ∨ i = 11 ∨ i = 12 ∨ i = 13 ∨ i = 14 ∨ i = 15 := by omega
      rcases hi' with rfl | rfl | rfl | rfl | rfl | rfl | rfl | rfl | rfl | rfl | rfl | rfl | rfl | rfl | rfl | rfl
      · exact h
      · exact h
      · exact h
      · exact h
      · exact h
      · exact h
      · exact h
      · exact h
      · exact h
      · obtain ⟨A, c, e, hd⟩ := h
        exact ⟨A, c, e, hd.below hb⟩
      · obtain ⟨A, c, e, hd⟩ := h
        exact ⟨A, c, e, hd.below hb⟩
      · exact h
      · obtain ⟨A, c, e, hd⟩ := h
        exact ⟨A, c, e, hd.below hb⟩
      · exact h
      · obtain ⟨A, c, B, d, e, hd⟩ := h
        exact ⟨A, c, B, d, e, hd.below hb⟩
      · obtain ⟨A, c, e, hd⟩ := h
        exact ⟨A, c, e, hd.below hb⟩
    · intro i u x hi; simp at hi
    · intro i a x KK hi hF hb hw hK
      have hi' : i = 0 ∨ i = 1 ∨ i = 2 ∨ i = 3 ∨ i = 4 ∨ i = 5 ∨ i = 6 ∨ i = 7 ∨ i = 8 ∨ i = 9 ∨ i = 10 ∨ i = 11 ∨ i = 12 ∨ i = 13 ∨ i = 14 ∨ i = 15 := by omega
      rcases hi' with rfl | rfl | rfl | rfl | rfl | rfl | rfl | rfl | rfl | rfl | rfl | rfl | rfl | rfl | rfl | rfl
      · simp only [wpOp, List.getElem?_toArray, List.getElem?_cons_zero, Region.wanted, if_true]
        refine Or.inl ?_
        have e0 : a.eval (.tmp 0) = .pointer (some ⟨g, 0, none⟩) := hF.2.2 0 (by decide)
        clear hw hF
        simp only [Oper.wp, execOp]
        rw [e0]
        go_simp
        exact hK _ x (by first | rfl | simp) (Below.refl _ _) (fun h => by simp at h)
      · simp only [wpOp, List.getElem?_toArray, List.getElem?_cons_succ, List.getElem?_cons_zero, Region.wanted, if_true]
        refine Or.inl ?_
        have e0 : a.eval (.tmp 0) = .pointer (some ⟨g, 0, none⟩) := hF.2.2 0 (by decide)
        clear hw hF
        simp only [Oper.wp, execOp]
        rw [e0]
        go_simp
        exact hK _ x (by first | rfl | simp) (Below.refl _ _) (fun h => by simp at h)
      · simp only [wpOp, List.getElem?_toArray, List.getElem?_cons_succ, List.getElem?_cons_zero, Region.wanted, if_true]
        refine Or.inl ?_
        have e0 : a.eval (.tmp 31) = .pointer (some ⟨g, 0, none⟩) := hw 1 (by kernel_rfl)
        clear hw hF
        simp only [Oper.wp, execOp]
        rw [e0]
        go_simp
        exact hK _ x (by first | rfl | simp) (Below.refl _ _) (fun h => by simp at h)
      · simp only [wpOp, List.getElem?_toArray, List.getElem?_cons_succ, List.getElem?_cons_zero, Region.wanted, if_true]
        refine Or.inl ?_
        have e0 : a.eval (.tmp 32) = .pointer (some ⟨g, 0, none⟩) := hw 2 (by kernel_rfl)
        clear hw hF
        simp only [Oper.wp, execOp]
        rw [e0]
        go_simp
        exact hK _ x (by first | rfl | simp) (Below.refl _ _) (fun h => by simp at h)
      · simp only [wpOp, List.getElem?_toArray, List.getElem?_cons_succ, List.getElem?_cons_zero, Region.wanted, if_true]
        refine Or.inl ?_
        have e0 : a.eval (.tmp 5) = .pointer (some ⟨g18, 0, none⟩) := hF.2.2 5 (by decide)
        have f0 := row_cell Rq18_5.out hb 0
        have f1 := row_cell Rq18_5.out hb 1
        have f2 := row_cell Rq18_5.out hb 2
        simp only [List.getElem?_toArray, List.getElem?_cons_succ, List.getElem?_cons_zero] at f0 f1 f2
        clear hw hF
        simp only [Oper.wp, execOp]
        rw [e0]
        go_simp
        exact hK _ x (by first | rfl | simp) (Below.refl _ _) (fun h => by simp at h)
      · simp only [wpOp, List.getElem?_toArray, List.getElem?_cons_succ, List.getElem?_cons_zero, Region.wanted, if_true]
        refine Or.inl ?_
        have e0 : a.eval (.tmp 0) = .pointer (some ⟨g, 0, none⟩) := hF.2.2 0 (by decide)
        clear hw hF
        simp only [Oper.wp, execOp]
        rw [e0]
        go_simp
        exact hK _ x (by first | rfl | simp) (Below.refl _ _) (fun h => by simp at h)
      · simp only [wpOp, List.getElem?_toArray, List.getElem?_cons_succ, List.getElem?_cons_zero, Region.wanted, if_true]
        refine Or.inl ?_
        have e0 : a.eval (.tmp 35) = .pointer (some ⟨g, 0, none⟩) := hw 5 (by kernel_rfl)
        clear hw hF
        simp only [Oper.wp, execOp]
        rw [e0]
        go_simp
        exact hK _ x (by first | rfl | simp) (Below.refl _ _) (fun h => by simp at h)
      · simp only [wpOp, List.getElem?_toArray, List.getElem?_cons_succ, List.getElem?_cons_zero, Region.wanted, if_true]
        refine Or.inl ?_
        have e0 : a.eval (.tmp 36) = .pointer (some ⟨g, 0, none⟩) := hw 6 (by kernel_rfl)
        clear hw hF
        simp only [Oper.wp, execOp]
        rw [e0]
        go_simp
        exact hK _ x (by first | rfl | simp) (Below.refl _ _) (fun h => by simp at h)
      · simp only [wpOp, List.getElem?_toArray, List.getElem?_cons_succ, List.getElem?_cons_zero, Region.wanted, if_true]
        refine Or.inl ?_
        have e0 : a.eval (.tmp 37) = .pointer (some ⟨g, 1, none⟩) := hw 7 (by kernel_rfl)
        have f0 := row_cell Rk_5.out hb 0
        have f1 := row_cell Rk_5.out hb 1
        simp only [List.getElem?_toArray, List.getElem?_cons_succ, List.getElem?_cons_zero] at f0 f1
        clear hw hF
        simp only [Oper.wp, execOp]
        rw [e0]
        go_simp
        exact hK _ x (by first | rfl | simp) (Below.refl _ _) (fun h => by simp at h)
      · simp only [wpOp, List.getElem?_toArray, List.getElem?_cons_succ, List.getElem?_cons_zero, Region.wanted, if_true]
        refine Or.inl ?_
        have e0 : a.tmps.getD 34 undef = .agg #[.bool (decide (a2 < 0)), .slice B17 (digs a2.natAbs).length d17, .int .i64 b2] := hw 4 (by kernel_rfl)
        have e1 : a.tmps.getD 38 undef = .int .i64 P := hw 8 (by kernel_rfl)
        clear hw hF
        simp only [Oper.wp, execOp]
        go_simp
        refine (round_yes ((L5.out.step hb).get (A := B17) (c := d17) (xs := digs a2.natAbs) (by simp)) (inr_len J2.out) (rt_in (nf_isD D2.out) J2.out) (t32_live HT.out (L5.out.step hb)) HP.out p2 p4 E1.out V1.out).mono ?_
        rintro e y ⟨A2, c2, rfl, hd2, hbb⟩
        exact hK _ y ⟨A2, c2, rfl, hd2⟩ hbb (fun h => by simp at h)
      · simp only [wpOp, List.getElem?_toArray, List.getElem?_cons_succ, List.getElem?_cons_zero, Region.wanted, if_true]
        refine Or.inl ?_
        obtain ⟨A', c', e0, hd⟩ := hw 9 (by kernel_rfl)
        have e0 : a.eval (.tmp 39) = _ := e0
        clear hw hF
        simp only [Oper.wp, execOp]
        rw [e0]
        go_simp
        exact hK _ x ⟨A', c', rfl, hd⟩ (Below.refl _ _) (fun h => by simp at h)
      · simp only [wpOp, List.getElem?_toArray, List.getElem?_cons_succ, List.getElem?_cons_zero, Region.wanted, if_true]
        refine Or.inl ?_
        obtain ⟨A', c', e0, hd⟩ := hw 9 (by kernel_rfl)
        have e0 : a.eval (.tmp 39) = _ := e0
        clear hw hF
        simp only [Oper.wp, execOp]
        rw [e0]
        go_simp
        exact hK _ x (by first | rfl | simp) (Below.refl _ _) (fun h => by simp at h)
      · simp only [wpOp, List.getElem?_toArray, List.getElem?_cons_succ, List.getElem?_cons_zero, Region.wanted, if_true]
        refine Or.inl ?_
        have e0 : a.tmps.getD 33 undef = .pointer (some ⟨g, 0, none⟩) := hw 3 (by kernel_rfl)
        obtain ⟨A', c', e1, hd⟩ := hw 10 (by kernel_rfl)
        have e1 : a.tmps.getD 40 undef = _ := e1
        have e2 : a.tmps.getD 41 undef = .int .i64 0 := hw 11 (by kernel_rfl)
        clear hw hF
        simp only [Oper.wp, execOp]
        go_simp
        refine (got_ok A' c' M E g _ hd).mono ?_
        rintro e y ⟨A2, c2, rfl, hd2, hbb⟩
        exact hK _ y ⟨A2, c2, rfl, hd2⟩ hbb (fun h => by simp at h)
      · simp only [wpOp, List.getElem?_toArray, List.getElem?_cons_succ, List.getElem?_cons_zero, Region.wanted, if_true]
        refine Or.inl ?_
        clear hw hF
        simp only [Oper.wp, execOp]
        go_simp
        exact hK _ x (by first | rfl | simp) (Below.refl _ _) (fun h => by simp at h)
      · simp only [wpOp, List.getElem?_toArray, List.getElem?_cons_succ, List.getElem?_cons_zero, Region.wanted, if_true]
        refine Or.inl ?_
        have e0 : a.tmps.getD 30 undef = .pointer (some ⟨g, 0, none⟩) := hw 0 (by kernel_rfl)
        obtain ⟨A', c', e1, hd⟩ := hw 12 (by kernel_rfl)
        have e1 : a.tmps.getD 42 undef = _ := e1
        have e2 : a.tmps.getD 43 undef = .agg #[.bool false, .slice none 0 0, .int .i64 0] := hw 13 (by kernel_rfl)
        clear hw hF
        simp only [Oper.wp, execOp]
        go_simp
        refine (answer_lo hd (cells_of Rk_5.out hb)).mono ?_
        rintro e y ⟨A2, c2, B2, d2, rfl, hd2, hbb⟩
        exact hK _ y ⟨A2, c2, B2, d2, rfl, hd2⟩ hbb (fun h => by simp at h)
      · simp only [wpOp, List.getElem?_toArray, List.getElem?_cons_succ, List.getElem?_cons_zero, Region.wanted, if_true]
        refine Or.inl ?_
        obtain ⟨A', c', B', d', e0, hd⟩ := hw 14 (by kernel_rfl)
        have e0 : a.eval (.tmp 44) = _ := e0
        clear hw hF
        simp only [Oper.wp, execOp]
        rw [e0]
        go_simp
        exact hK _ x ⟨A', c', rfl, hd⟩ (Below.refl _ _) (fun h => by simp at h)
    · intro a x hF0 hb hR _
      have hF : Fr6 [30, 31, 32, 33, 34, 35, 36, 37, 38, 39, 40, 41, 42, 43, 44, 45] _ a := hF0
      have e0 : a.tmps.getD 30 undef = .pointer (some ⟨g, 0, none⟩) := hR 0 (by decide)
      have e1 : a.tmps.getD 31 undef = .pointer (some ⟨g, 0, none⟩) := hR 1 (by decide)
      have e2 : a.tmps.getD 32 undef = .pointer (some ⟨g, 0, none⟩) := hR 2 (by decide)
      have e3 : a.tmps.getD 33 undef = .pointer (some ⟨g, 0, none⟩) := hR 3 (by decide)
      have e4 : a.tmps.getD 34 undef = .agg #[.bool (decide (a2 < 0)), .slice B17 (digs a2.natAbs).length d17, .int .i64 b2] := hR 4 (by decide)
      have e5 : a.tmps.getD 35 undef = .pointer (some ⟨g, 0, none⟩) := hR 5 (by decide)
      have e6 : a.tmps.getD 36 undef = .pointer (some ⟨g, 0, none⟩) := hR 6 (by decide)
      have e7 : a.tmps.getD 37 undef = .pointer (some ⟨g, 1, none⟩) := hR 7 (by decide)
      have e8 : a.tmps.getD 38 undef = .int .i64 P := hR 8 (by decide)
      obtain ⟨B9, d9, h9, hd9⟩ := hR 9 (by decide)
      have e9 : a.tmps.getD 39 undef = _ := h9
      obtain ⟨B10, d10, h10, hd10⟩ := hR 10 (by decide)
      have e10 : a.tmps.getD 40 undef = _ := h10
      have e11 : a.tmps.getD 41 undef = .int .i64 0 := hR 11 (by decide)
      obtain ⟨B12, d12, h12, hd12⟩ := hR 12 (by decide)
      have e12 : a.tmps.getD 42 undef = _ := h12
      have e13 : a.tmps.getD 43 undef = .agg #[.bool false, .slice none 0 0, .int .i64 0] := hR 13 (by decide)
      obtain ⟨B14, d14, X14, y14, h14, hd14⟩ := hR 14 (by decide)
      have e14 : a.tmps.getD 44 undef = _ := h14
      obtain ⟨B15, d15, h15, hd15⟩ := hR 15 (by decide)
      have e15 : a.tmps.getD 45 undef = _ := h15
      rw [hF.fold (by kernel_rfl)]
      simp only [List.foldl_cons, List.foldl_nil, e0, e1, e2, e3, e4, e5, e6, e7, e8, e9, e10, e11, e12, e13, e14, e15]
      simp only [Act.put, List.setIfInBounds_toArray, List.set_cons_zero, List.set_cons_succ]
      clear e0 e1 e2 e3 e4 e5 e6 e7 e8 e9 e10 e11 e12 e13 e14 e15 hR hF hF0 h9 h10 h12 h14 h15
      obtain ⟨w6, hW⟩ : ∃ W : World, W = x := ⟨_, rfl⟩
      rw [← hW]
      rw [← hW] at hb hd9 hd10 hd12 hd14 hd15
      have L6 := Lib.hid ((((((L5.out.step hb).add hd9).add hd10).add hd12).add hd14).add hd15)
      have Rk_6 := co Rk_5 hb
      have Ri_6 := co Ri_5 hb
      have Rr_6 := co Rr_5 hb
      have Rsl_6 := co Rsl_5 hb
      have Rq18_6 := co Rq18_5 hb
      clear hW hb hd9 hd10 hd12 hd14 hd15
      change wpOps _ _ _ [16] _ _
      simp only [wpOps_cons]
      obtain ⟨fr0, zr0, fr1, zr1, fr2, zr2, xr⟩ := ly3 Rr_6.out
      simp only [wpOp, List.getElem?_toArray, List.getElem?_cons_succ, List.getElem?_cons_zero, Region.wanted, if_true]
      refine Or.inl ?_
      simp only [Oper.wp, execOp]
      go_simp
      try simp only [wpOps]
      clear fr0 zr0 fr1 zr1 fr2 zr2 xr
      obtain ⟨fr0, zr0, fr1, zr1, fr2, zr2, xr⟩ := ly3 Rr_6.out
      go_wp2
      refine bodyPost_ret (v := .agg #[.bool (decide (M < 0)), .slice B15 (digs M.natAbs).length d15, .int .i64 E]) (by simp [results, Tryz.results34, go_sem, fr0, fr1, fr2]) rfl ?_
      
      refine ⟨B15, d15, rfl, ?_, ?_⟩
      · exact (fin3 L6.out Rr_6.out noint3 Gr).get (A := B15) (c := d15) (xs := digs M.natAbs) (by simp)
      · exact (fin3 L6.out Rr_6.out noint3 Gr).1
end Go.Proofs.YtijodbjdajddoaaGreatDoor
end

section
/-
  The reference's Same, of numbers that are not the same too; the law's own 'same'.
-/
namespace Go.Proofs.YtijodbjdajddoaaGreatDoor
open Go.RowKit
set_option linter.unusedSimpArgs false
set_option linter.unusedVariables false
theorem first_diff : ∀ (xs ys : List Nat), xs.length = ys.length → xs ≠ ys → ∃ i, i < xs.length ∧ xs[i]?.getD 0 ≠ ys[i]?.getD 0 ∧ ∀ j, j < i → xs[j]?.getD 0 = ys[j]?.getD 0 := by
  intro xs
  induction xs with
  | nil => intro ys h hne; cases ys; exact absurd rfl hne; simp at h
  | cons x r ih =>
    intro ys h hne
    rcases ys with _ | ⟨y, s⟩
    · simp at h
    · by_cases hx : x = y
      · subst hx
        obtain ⟨i, h1, h2, h3⟩ := ih s (by simpa using h) (fun e => hne (by rw [e]))
        refine ⟨i + 1, by simp; omega, by simpa using h2, fun j hj => ?_⟩
        rcases j with _ | j
        · rfl
        · simpa using h3 j (by omega)
      · exact ⟨0, by simp, by simpa using hx, fun j hj => by omega⟩
set_option maxHeartbeats 2000000 in
set_option maxRecDepth 100000 in
theorem Same_diff (A B : Option Addr) (c d : Nat) (s : Bool) (xs ys : List Nat) (w : World) (h : Dg w A c xs) (h' : Dg w B d ys) (hl : xs.length ≤ 16777216) (hlen : xs.length = ys.length) (hne : xs ≠ ys) :
    Calls Tryz.prog 114 #[.agg #[.bool s, .slice A xs.length c], .agg #[.bool s, .slice B xs.length d]] w fun e w' => e = .returned (.bool false) ∧ Below w.heap.size w w' := by
  obtain ⟨i, hi, hd, hs⟩ := first_diff xs ys hlen hne
  have hne : ((xs.length : Int) != (xs.length : Int)) = false := by simp
  have hns : (s != s) = false := by simp
  have H1 := Lib.hid (h.below (below2 w (.cells #[.bool s, .slice A xs.length c] 24) (.cells #[.bool s, .slice B xs.length d] 24)))
  have H2 := Lib.hid (h'.below (below2 w (.cells #[.bool s, .slice A xs.length c] 24) (.cells #[.bool s, .slice B xs.length d] 24)))
  have HS := Lib.hid hs
  have HD := Lib.hid hd
  have HLEN := Lib.hid hlen
  have hc1 := h.1
  have hc2 : xs.length ≤ d := by have := h'.1; omega
  clear h h' hs hd hlen
  go_enter Tryz.func114, Tryz.ntmps114
  go_wp2
  go_loopw [5] (fun v wr => (∃ k : Nat, k ≤ i ∧ v = .int .i64 k) ∧ ∃ m, wr = ((w.alloc (.cells #[.bool s, .slice A xs.length c] 24)).alloc (.cells #[.bool s, .slice B xs.length d] 24)).drewN m) (fun v _ => xs.length - (intOf v).toNat)
  case atStart => exact ⟨⟨0, Nat.zero_le _, rfl⟩, 0, rfl⟩
  case round =>
    obtain ⟨⟨k, hk, rfl⟩, m, rfl⟩ := hrel
    have hkl : k < xs.length := by omega
    obtain ⟨b, off, hA, hb, hcx⟩ := H1.out.2.2 (by omega)
    obtain ⟨b', off', hB, hb', hcy⟩ := H2.out.2.2 (by have := HLEN.out; omega)
    have hx := hcx k hkl
    have hy := hcy k (by have := HLEN.out; omega)
    by_cases hlt : k < i
    · rw [← HS.out k hlt] at hy
      generalize xs[k]?.getD 0 = x at *
      have t1 : ((x : Int) != (x : Int)) = false := by simp
      clear hcx hcy H1 H2
      subst hA hB
      go_wp2_with fail
      go_quiet (fail)
      go_wp2_with fail
      go_roundw
      case rel => exact ⟨⟨k + 1, by omega, by go_num⟩, _, rfl⟩
      case measure => simp [intOf]; omega
    · obtain rfl : k = i := by omega
      have hdd := HD.out
      generalize xs[k]?.getD 0 = x at *
      generalize ys[k]?.getD 0 = y at *
      have t1 : ((x : Int) != (y : Int)) = true := by simp; omega
      clear hcx hcy H1 H2 hdd
      subst hA hB
      go_wp2_with fail
      go_quiet (fail)
      go_wp2
      go_ret
      exact ⟨rfl, below_drewN (below_drewN (below2 _ _ _) _) _⟩
set_option maxHeartbeats 2000000 in
set_option maxRecDepth 100000 in
theorem Same_len (A B : Option Addr) (c d n k : Nat) (s r : Bool) (w : World) (hne : s ≠ r ∨ n ≠ k) :
    Calls Tryz.prog 114 #[.agg #[.bool s, .slice A n c], .agg #[.bool r, .slice B k d]] w fun e w' => e = .returned (.bool false) ∧ Below w.heap.size w w' := by
  by_cases hs : s = r
  · have hn : ((n : Int) != (k : Int)) = true := by
      have : n ≠ k := hne.resolve_left (fun h => h hs)
      simp; omega
    have hns : (s != s) = false := by simp
    subst hs
    clear hne
    go_enter Tryz.func114, Tryz.ntmps114
    go_wp2
    go_ret
    exact ⟨rfl, below2 _ _ _⟩
  · clear hne
    cases s <;> cases r
    · exact absurd rfl hs
    · clear hs
      go_enter Tryz.func114, Tryz.ntmps114
      go_wp2
      go_ret
      exact ⟨rfl, below2 _ _ _⟩
    · clear hs
      go_enter Tryz.func114, Tryz.ntmps114
      go_wp2
      go_ret
      exact ⟨rfl, below2 _ _ _⟩
    · exact absurd rfl hs
theorem Same_q {A B : Option Addr} {c d : Nat} {m n : Int} {q : Bool} {w : World} (h : Dg w A c (digs m.natAbs)) (h' : Dg w B d (digs n.natAbs)) (hl : (digs m.natAbs).length ≤ 16777216) (hq : decide (m = n) = q) :
    Calls Tryz.prog 114 #[.agg #[.bool (decide (m < 0)), .slice A (digs m.natAbs).length c], .agg #[.bool (decide (n < 0)), .slice B (digs n.natAbs).length d]] w fun e w' => e = .returned (.bool q) ∧ Below w.heap.size w w' := by
  by_cases hmn : m = n
  · subst hmn
    rw [decide_eq_true rfl] at hq; subst hq
    exact Same_any A B c d _ _ w h h' hl
  · rw [decide_eq_false hmn] at hq; subst hq
    by_cases hs : decide (m < 0) = decide (n < 0)
    · by_cases hlen : (digs m.natAbs).length = (digs n.natAbs).length
      · have := Same_diff A B c d (decide (m < 0)) _ _ w h h' hl hlen (fun e => hmn (by have := digs_inj e; rw [decide_eq_decide] at hs; omega))
        rw [← hs, ← hlen]; exact this
      · exact Same_len A B c d _ _ _ _ w (.inr hlen)
    · exact Same_len A B c d _ _ _ _ w (.inl hs)
set_option maxHeartbeats 2000000 in
set_option maxRecDepth 100000 in
theorem dSame_q {A B : Option Addr} {c d : Nat} {m n x y : Int} {q : Bool} {w : World} (h : Dg w A c (digs m.natAbs)) (h' : Dg w B d (digs n.natAbs)) (hl : (digs m.natAbs).length ≤ 10000) (hq : decide (m = n ∧ x = y) = q) :
    Calls Tryz.prog 89 #[.agg #[.bool (decide (m < 0)), .slice A (digs m.natAbs).length c, .int .i64 x], .agg #[.bool (decide (n < 0)), .slice B (digs n.natAbs).length d, .int .i64 y]] w fun e w' => e = .returned (.bool q) ∧ Below w.heap.size w w' := by
  by_cases hxy : x = y
  · subst hxy
    have HS := Lib.hid (fun W (h : Dg W A c (digs m.natAbs)) (h' : Dg W B d (digs n.natAbs)) => Same_q (q := q) h h' (by omega) (by rw [← hq]; simp))
    have H := Lib.hid h
    have H' := Lib.hid h'
    have t0 : (x == x) = true := by simp
    clear h h' hq
    go_enter Tryz.func89, Tryz.ntmps89
    go_wp2_with fail
    refine (HS.out _ (H.out.below (below2 _ _ _)) (H'.out.below (below2 _ _ _))).mono ?_
    rintro e w1 ⟨rfl, hb⟩
    have HB := Lib.hid ((below2 w _ _).trans (hb.mono (by simp; omega)))
    clear hb
    go_wp2
    go_ret
    exact ⟨rfl, HB.out⟩
  · have t0 : (x == y) = false := by simpa using hxy
    rw [decide_eq_false (fun e => hxy e.2)] at hq
    subst hq
    clear hxy h h'
    go_enter Tryz.func89, Tryz.ntmps89
    go_wp2
    go_ret
    exact ⟨rfl, below2 _ _ _⟩
set_option maxHeartbeats 2000000 in
set_option maxRecDepth 100000 in
theorem Same6_q {A B A' B' : Option Addr} {c d c' d' : Nat} {m x n y m' x' n' y' : Int} {q : Bool} {w : World} (h : Dg w A c (digs m.natAbs)) (h' : Dg w B d (digs n.natAbs)) (k : Dg w A' c' (digs m'.natAbs)) (k' : Dg w B' d' (digs n'.natAbs)) (hl : (digs m.natAbs).length ≤ 10000) (hl' : (digs n.natAbs).length ≤ 10000) (hq : decide ((m = m' ∧ x = x') ∧ n = n' ∧ y = y') = q) :
    Calls Tryz.prog 60 #[.agg #[.bool (decide (m < 0)), .slice A (digs m.natAbs).length c, .int .i64 x, .bool (decide (n < 0)), .slice B (digs n.natAbs).length d, .int .i64 y], .agg #[.bool (decide (m' < 0)), .slice A' (digs m'.natAbs).length c', .int .i64 x', .bool (decide (n' < 0)), .slice B' (digs n'.natAbs).length d', .int .i64 y']] w fun e w' => e = .returned (.bool q) ∧ Below w.heap.size w w' := by
  have H := Lib.hid h
  have H' := Lib.hid h'
  have K := Lib.hid k
  have K' := Lib.hid k'
  have LX := Lib.hid hl
  have LY := Lib.hid hl'
  by_cases h1 : m = m' ∧ x = x'
  · have D1 := Lib.hid (show decide (m = m' ∧ x = x') = true from decide_eq_true h1)
    have D2 := Lib.hid (show decide (n = n' ∧ y = y') = q by rw [← hq, decide_eq_decide]; exact ⟨fun e => ⟨h1, e⟩, fun e => e.2⟩)
    clear h h' k k' hl hl' hq h1
    go_enter Tryz.func60, Tryz.ntmps60
    go_wp2_with fail
    refine (dSame_q (H.out.below (below2 _ _ _)) (K.out.below (below2 _ _ _)) LX.out D1.out).mono ?_
    rintro e w1 ⟨rfl, hb⟩
    have HB := Lib.hid ((below2 w _ _).trans (hb.mono (by simp; omega)))
    have RI := Lib.hid (cells_of (heap_alloc2_old w (.cells #[.bool (decide (m < 0)), .slice A (digs m.natAbs).length c, .int .i64 x, .bool (decide (n < 0)), .slice B (digs n.natAbs).length d, .int .i64 y] 34) (.cells #[.bool (decide (m' < 0)), .slice A' (digs m'.natAbs).length c', .int .i64 x', .bool (decide (n' < 0)), .slice B' (digs n'.natAbs).length d', .int .i64 y'] 34)) hb)
    have RJ := Lib.hid (cells_of (heap_alloc2_new w (.cells #[.bool (decide (m < 0)), .slice A (digs m.natAbs).length c, .int .i64 x, .bool (decide (n < 0)), .slice B (digs n.natAbs).length d, .int .i64 y] 34) (.cells #[.bool (decide (m' < 0)), .slice A' (digs m'.natAbs).length c', .int .i64 x', .bool (decide (n' < 0)), .slice B' (digs n'.natAbs).length d', .int .i64 y'] 34)) hb)
    clear hb
    have a0 := row_c (i := 0) RI.out rfl
    have a1 := row_c (i := 1) RI.out rfl
    have a2 := row_c (i := 2) RI.out rfl
    have a3 := row_c (i := 3) RI.out rfl
    have a4 := row_c (i := 4) RI.out rfl
    have a5 := row_c (i := 5) RI.out rfl
    have b0 := row_c (i := 0) RJ.out rfl
    have b1 := row_c (i := 1) RJ.out rfl
    have b2 := row_c (i := 2) RJ.out rfl
    have b3 := row_c (i := 3) RJ.out rfl
    have b4 := row_c (i := 4) RJ.out rfl
    have b5 := row_c (i := 5) RJ.out rfl
    go_wp2_with fail
    refine (dSame_q (H'.out.below HB.out) (K'.out.below HB.out) LY.out D2.out).mono ?_
    rintro e w2 ⟨rfl, hb⟩
    have HB2 := Lib.hid (HB.out.trans (hb.mono HB.out.size))
    clear hb a0 a1 a2 a3 a4 a5 b0 b1 b2 b3 b4 b5
    go_wp2
    go_ret
    exact ⟨rfl, HB2.out⟩
  · have D1 := Lib.hid (show decide (m = m' ∧ x = x') = false from decide_eq_false h1)
    have hqf : q = false := by rw [← hq]; exact decide_eq_false (fun e => h1 e.1)
    subst hqf
    clear h h' k k' hl hl' hq h1
    go_enter Tryz.func60, Tryz.ntmps60
    go_wp2_with fail
    refine (dSame_q (H.out.below (below2 _ _ _)) (K.out.below (below2 _ _ _)) LX.out D1.out).mono ?_
    rintro e w1 ⟨rfl, hb⟩
    have HB := Lib.hid ((below2 w _ _).trans (hb.mono (by simp; omega)))
    clear hb
    go_wp2
    go_ret
    exact ⟨rfl, HB.out⟩
set_option maxHeartbeats 2000000 in
set_option maxRecDepth 100000 in
theorem lsame_q {A B A' B' : Option Addr} {c d c' d' : Nat} {m x n y m' x' n' y' : Int} {q : Bool} {w : World} (h : Dg w A c (digs m.natAbs)) (h' : Dg w B d (digs n.natAbs)) (k : Dg w A' c' (digs m'.natAbs)) (k' : Dg w B' d' (digs n'.natAbs)) (hl : (digs m.natAbs).length ≤ 10000) (hl' : (digs n.natAbs).length ≤ 10000) (hq : decide ((m = m' ∧ x = x') ∧ n = n' ∧ y = y') = q) :
    Calls Tryz.prog 23 #[.agg #[.bool (decide (m < 0)), .slice A (digs m.natAbs).length c, .int .i64 x, .bool (decide (n < 0)), .slice B (digs n.natAbs).length d, .int .i64 y], .agg #[.bool (decide (m' < 0)), .slice A' (digs m'.natAbs).length c', .int .i64 x', .bool (decide (n' < 0)), .slice B' (digs n'.natAbs).length d', .int .i64 y']] w fun e w' => e = .returned (.bool q) ∧ Below w.heap.size w w' := by
  have H := Lib.hid h
  have H' := Lib.hid h'
  have K := Lib.hid k
  have K' := Lib.hid k'
  have LX := Lib.hid hl
  have LY := Lib.hid hl'
  have HQ := Lib.hid hq
  clear h h' k k' hl hl' hq
  go_enter Tryz.func23, Tryz.ntmps23
  go_wp2_with fail
  refine (Same6_q (H.out.below (below2 _ _ _)) (H'.out.below (below2 _ _ _)) (K.out.below (below2 _ _ _)) (K'.out.below (below2 _ _ _)) LX.out LY.out HQ.out).mono ?_
  rintro e w1 ⟨rfl, hb⟩
  have HB := Lib.hid ((below2 w _ _).trans (hb.mono (by simp; omega)))
  clear hb
  go_wp2
  go_ret
  exact ⟨rfl, HB.out⟩
end Go.Proofs.YtijodbjdajddoaaGreatDoor
end

section
/-
  iv: the contracts over stretches.
-/
namespace Go.Proofs.YtijodbjdajddoaaGreatDoor
open Go.RowKit
set_option linter.unusedSimpArgs false
set_option linter.unusedVariables false
/-- An answer that is a stretch. -/
def Ys (r : St) (w : World) (e : Ending) (w' : World) : Prop := Yi r.lo.1 r.lo.2 r.hi.1 r.hi.2 w e w'
def Yq (a : Qn) (w : World) (e : Ending) (w' : World) : Prop := Yr a.1 a.2 w e w'
/-- A calculator's precision. -/
def Pc (p : Nat) (P : Int) : Prop := (p : Int) = P ∧ 2 ≤ p ∧ p ≤ 400
theorem Qo.rt {a : Qn} (h : Qo a) : Rt a.1 a.2 := rt_in h.1 h.2
theorem Qo.len {a : Qn} (h : Qo a) : (digs a.1.natAbs).length ≤ 10000 := inr_len h.2
theorem cneg {A B : Option Addr} {c d g : Nat} {s : St} {w : World} {P : Int} (h : Dg w A c (digs s.lo.1.natAbs)) (h' : Dg w B d (digs s.hi.1.natAbs)) (os : So s) (hk : w.heap[g]? = some (.cells #[.int .i64 0, .int .i64 P] 45 (0, 0))) :
    Calls Tryz.prog 28 #[.pointer (some ⟨g, 0, none⟩), .agg #[.bool (decide (s.lo.1 < 0)), .slice A (digs s.lo.1.natAbs).length c, .int .i64 s.lo.2, .bool (decide (s.hi.1 < 0)), .slice B (digs s.hi.1.natAbs).length d, .int .i64 s.hi.2]] w fun e w' => Ys (NegS s) w e w' :=
  ineg_ok A B c d s.lo.1 s.lo.2 s.hi.1 s.hi.2 P g _ _ w h h' (inr_len os.1.2) (inr_len os.2.1.2) os.1.rt os.2.1.rt os.2.2 hk rfl rfl
theorem cadd {A B A' B' : Option Addr} {c d c' d' g : Nat} {s t : St} {w : World} {r : St} {P : Int} {p : Nat} (h : Dg w A c (digs s.lo.1.natAbs)) (h' : Dg w B d (digs s.hi.1.natAbs)) (os : So s) (k : Dg w A' c' (digs t.lo.1.natAbs)) (k' : Dg w B' d' (digs t.hi.1.natAbs)) (ot : So t) (hp : Pc p P) (hT : T32 w) (hk : w.heap[g]? = some (.cells #[.int .i64 0, .int .i64 P] 45 (0, 0))) (hr : AddR p s t r) :
    Calls Tryz.prog 18 #[.pointer (some ⟨g, 0, none⟩), .agg #[.bool (decide (s.lo.1 < 0)), .slice A (digs s.lo.1.natAbs).length c, .int .i64 s.lo.2, .bool (decide (s.hi.1 < 0)), .slice B (digs s.hi.1.natAbs).length d, .int .i64 s.hi.2], .agg #[.bool (decide (t.lo.1 < 0)), .slice A' (digs t.lo.1.natAbs).length c', .int .i64 t.lo.2, .bool (decide (t.hi.1 < 0)), .slice B' (digs t.hi.1.natAbs).length d', .int .i64 t.hi.2]] w fun e w' => Ys r w e w' := by
  obtain ⟨a, b, h1, h2, h3, h4, h5, h6, h7, h8⟩ := hr
  exact iadd_ok A B A' B' c d c' d' s.lo.1 s.lo.2 s.hi.1 s.hi.2 t.lo.1 t.lo.2 t.hi.1 t.hi.2 P g a.1 a.2 b.1 b.2 r.lo.1 r.lo.2 r.hi.1 r.hi.2 w h h' (inr_len os.1.2) (inr_len os.2.1.2) os.1.rt os.2.1.rt os.2.2 k k' (inr_len ot.1.2) (inr_len ot.2.1.2) ot.1.rt ot.2.1.rt ot.2.2 hp.1 hp.2.1 hp.2.2 hT hk h1 h2.2 h3 h4.2 h5 h6.2 h7 h8.2
theorem csub {A B A' B' : Option Addr} {c d c' d' g : Nat} {s t : St} {w : World} {r : St} {P : Int} {p : Nat} (h : Dg w A c (digs s.lo.1.natAbs)) (h' : Dg w B d (digs s.hi.1.natAbs)) (os : So s) (k : Dg w A' c' (digs t.lo.1.natAbs)) (k' : Dg w B' d' (digs t.hi.1.natAbs)) (ot : So t) (hp : Pc p P) (hT : T32 w) (hk : w.heap[g]? = some (.cells #[.int .i64 0, .int .i64 P] 45 (0, 0))) (hr : AddR p s (NegS t) r) :
    Calls Tryz.prog 19 #[.pointer (some ⟨g, 0, none⟩), .agg #[.bool (decide (s.lo.1 < 0)), .slice A (digs s.lo.1.natAbs).length c, .int .i64 s.lo.2, .bool (decide (s.hi.1 < 0)), .slice B (digs s.hi.1.natAbs).length d, .int .i64 s.hi.2], .agg #[.bool (decide (t.lo.1 < 0)), .slice A' (digs t.lo.1.natAbs).length c', .int .i64 t.lo.2, .bool (decide (t.hi.1 < 0)), .slice B' (digs t.hi.1.natAbs).length d', .int .i64 t.hi.2]] w fun e w' => Ys r w e w' := by
  obtain ⟨a, b, h1, h2, h3, h4, h5, h6, h7, h8⟩ := hr
  exact isub_ok A B A' B' c d c' d' s.lo.1 s.lo.2 s.hi.1 s.hi.2 t.lo.1 t.lo.2 t.hi.1 t.hi.2 P g _ _ a.1 a.2 b.1 b.2 r.lo.1 r.lo.2 r.hi.1 r.hi.2 w h h' (inr_len os.1.2) (inr_len os.2.1.2) os.1.rt os.2.1.rt os.2.2 k k' (inr_len ot.1.2) (inr_len ot.2.1.2) ot.1.rt ot.2.1.rt ot.2.2 hp.1 hp.2.1 hp.2.2 hT hk rfl rfl h1 h2.2 h3 h4.2 h5 h6.2 h7 h8.2
theorem cmul {A B A' B' : Option Addr} {c d c' d' g : Nat} {s t : St} {w : World} {r : St} {P : Int} {p : Nat} (h : Dg w A c (digs s.lo.1.natAbs)) (h' : Dg w B d (digs s.hi.1.natAbs)) (os : So s) (k : Dg w A' c' (digs t.lo.1.natAbs)) (k' : Dg w B' d' (digs t.hi.1.natAbs)) (ot : So t) (hp : Pc p P) (hT : T32 w) (hk : w.heap[g]? = some (.cells #[.int .i64 0, .int .i64 P] 45 (0, 0))) (hr : MulR p s t r) :
    Calls Tryz.prog 20 #[.pointer (some ⟨g, 0, none⟩), .agg #[.bool (decide (s.lo.1 < 0)), .slice A (digs s.lo.1.natAbs).length c, .int .i64 s.lo.2, .bool (decide (s.hi.1 < 0)), .slice B (digs s.hi.1.natAbs).length d, .int .i64 s.hi.2], .agg #[.bool (decide (t.lo.1 < 0)), .slice A' (digs t.lo.1.natAbs).length c', .int .i64 t.lo.2, .bool (decide (t.hi.1 < 0)), .slice B' (digs t.hi.1.natAbs).length d', .int .i64 t.hi.2]] w fun e w' => Ys r w e w' :=
  imul_ok A B A' B' c d c' d' s.lo.1 s.lo.2 s.hi.1 s.hi.2 t.lo.1 t.lo.2 t.hi.1 t.hi.2 P g mulF (ends s) (ends t) _ (mulF s.lo t.lo) _ _ r.lo.1 r.lo.2 r.hi.1 r.hi.2 w h h' (inr_len os.1.2) (inr_len os.2.1.2) os.1.rt os.2.1.rt os.2.2 k k' (inr_len ot.1.2) (inr_len ot.2.1.2) ot.1.rt ot.2.1.rt ot.2.2 hp.1 hp.2.1 hp.2.2 hT hk rfl rfl rfl (pz_head mulF s t) (fun x hx y hy => ⟨mulF_is x y, (hr.1 x hx y hy).2⟩) rfl rfl hr.2.1 hr.2.2.1.2 hr.2.2.2.1 hr.2.2.2.2.2
theorem cdiv {A B A' B' : Option Addr} {c d c' d' g : Nat} {s t : St} {w : World} {r : St} {P : Int} {p : Nat} (h : Dg w A c (digs s.lo.1.natAbs)) (h' : Dg w B d (digs s.hi.1.natAbs)) (os : So s) (k : Dg w A' c' (digs t.lo.1.natAbs)) (k' : Dg w B' d' (digs t.hi.1.natAbs)) (ot : So t) (hp : Pc p P) (hT : T32 w) (hk : w.heap[g]? = some (.cells #[.int .i64 0, .int .i64 P] 45 (0, 0))) (hr : DivR p s t r) :
    Calls Tryz.prog 24 #[.pointer (some ⟨g, 0, none⟩), .agg #[.bool (decide (s.lo.1 < 0)), .slice A (digs s.lo.1.natAbs).length c, .int .i64 s.lo.2, .bool (decide (s.hi.1 < 0)), .slice B (digs s.hi.1.natAbs).length d, .int .i64 s.hi.2], .agg #[.bool (decide (t.lo.1 < 0)), .slice A' (digs t.lo.1.natAbs).length c', .int .i64 t.lo.2, .bool (decide (t.hi.1 < 0)), .slice B' (digs t.hi.1.natAbs).length d', .int .i64 t.hi.2]] w fun e w' => Ys r w e w' := by
  have hn : ∀ y ∈ ends t, y.1 ≠ 0 := fun y hy e => nz_ends hr.1 hy ot.2.2 (by unfold qr; rw [e, dv_zero])
  have := idiv_ok A B A' B' c d c' d' s.lo.1 s.lo.2 s.hi.1 s.hi.2 t.lo.1 t.lo.2 t.hi.1 t.hi.2 P g (divF p false) (divF p true) (ends s) (ends t) _ _ (divF p false s.lo t.lo) (divF p true s.lo t.lo) r.lo r.hi w h h' (inr_len os.1.2) (inr_len os.2.1.2) os.1.rt os.2.1.rt os.2.2 k k' (inr_len ot.1.2) (inr_len ot.2.1.2) ot.1.rt ot.2.1.rt ot.2.2 hp.1 hp.2.1 hp.2.2 hT hk (decide_eq_false hr.1) rfl rfl hn rfl rfl (pz_head (divF p false) s t) (pz_head (divF p true) s t) (fun x hx y hy => ⟨divF_rd (by have := hp.2.1; omega) false x y (hn y hy), (hr.2.1 x hx y hy).1.2⟩) (fun x hx y hy => ⟨divF_rd (by have := hp.2.1; omega) true x y (hn y hy), (hr.2.1 x hx y hy).2.2⟩) hr.2.2.1.symm hr.2.2.2.symm
  exact this
theorem csqrt {A B : Option Addr} {c d g : Nat} {s : St} {w : World} {r : St} {P : Int} {p : Nat} (h : Dg w A c (digs s.lo.1.natAbs)) (h' : Dg w B d (digs s.hi.1.natAbs)) (os : So s) (hp : Pc p P) (hT : T32 w) (hk : w.heap[g]? = some (.cells #[.int .i64 0, .int .i64 P] 45 (0, 0))) (hr : SqrtR p s r) :
    Calls Tryz.prog 22 #[.pointer (some ⟨g, 0, none⟩), .agg #[.bool (decide (s.lo.1 < 0)), .slice A (digs s.lo.1.natAbs).length c, .int .i64 s.lo.2, .bool (decide (s.hi.1 < 0)), .slice B (digs s.hi.1.natAbs).length d, .int .i64 s.hi.2]] w fun e w' => Ys r w e w' :=
  isqrt_ok A B c d s.lo.1 s.lo.2 s.hi.1 s.hi.2 P g r.lo.1 r.lo.2 r.hi.1 r.hi.2 w h h' (inr_len os.1.2) (inr_len os.2.1.2) os.1.rt os.2.1.rt os.2.2 hp.1 hp.2.1 hp.2.2 hT hr.1 hr.2.1 hr.2.2.1 hr.2.2.2.1.2 hr.2.2.2.2.1 hr.2.2.2.2.2.2 hk
theorem cscale {A B : Option Addr} {c d g : Nat} {s : St} {w : World} {r : St} {P j : Int} (h : Dg w A c (digs s.lo.1.natAbs)) (h' : Dg w B d (digs s.hi.1.natAbs)) (os : So s) (hT : T32 w) (hk : w.heap[g]? = some (.cells #[.int .i64 0, .int .i64 P] 45 (0, 0))) (j0 : -100000 ≤ j) (j1 : j ≤ 100000) (hr : ScaleR j s r) :
    Calls Tryz.prog 35 #[.pointer (some ⟨g, 0, none⟩), .agg #[.bool (decide (s.lo.1 < 0)), .slice A (digs s.lo.1.natAbs).length c, .int .i64 s.lo.2, .bool (decide (s.hi.1 < 0)), .slice B (digs s.hi.1.natAbs).length d, .int .i64 s.hi.2], .int .i64 j] w fun e w' => Ys r w e w' :=
  iscale_ok A B c d s.lo.1 s.lo.2 s.hi.1 s.hi.2 P g j r.lo.1 r.lo.2 r.hi.1 r.hi.2 w h h' (inr_len os.1.2) (inr_len os.2.1.2) os.1.rt os.2.1.rt os.2.2 hT j0 j1 (by rw [dv_scale]; exact hr.1) hr.2.1.2 (by rw [dv_scale]; exact hr.2.2.1) hr.2.2.2.2 hk
theorem cout {A B : Option Addr} {c d g : Nat} {s : St} {w : World} {r : St} {P : Int} {p : Nat} (h : Dg w A c (digs s.lo.1.natAbs)) (h' : Dg w B d (digs s.hi.1.natAbs)) (os : So s) (hp : Pc p P) (hT : T32 w) (hk : w.heap[g]? = some (.cells #[.int .i64 0, .int .i64 P] 45 (0, 0))) (hr : OutR p s r) :
    Calls Tryz.prog 29 #[.pointer (some ⟨g, 0, none⟩), .agg #[.bool (decide (s.lo.1 < 0)), .slice A (digs s.lo.1.natAbs).length c, .int .i64 s.lo.2, .bool (decide (s.hi.1 < 0)), .slice B (digs s.hi.1.natAbs).length d, .int .i64 s.hi.2]] w fun e w' => Ys r w e w' :=
  iout_ok A B c d s.lo.1 s.lo.2 s.hi.1 s.hi.2 P g r.lo.1 r.lo.2 r.hi.1 r.hi.2 w h h' (inr_len os.1.2) (inr_len os.2.1.2) os.1.rt os.2.1.rt os.2.2 hp.1 hp.2.1 hp.2.2 hT hk hr.1 hr.2.1.2 hr.2.2.1 hr.2.2.2.2
theorem cwide {A B : Option Addr} {c d g : Nat} {s : St} {w : World} {r : St} {P : Int} {p : Nat} {A' : Option Addr} {c' : Nat} {a : Qn} (h : Dg w A c (digs s.lo.1.natAbs)) (h' : Dg w B d (digs s.hi.1.natAbs)) (os : So s) (k : Dg w A' c' (digs a.1.natAbs)) (oa : Qo a) (hp : Pc p P) (hT : T32 w) (hk : w.heap[g]? = some (.cells #[.int .i64 0, .int .i64 P] 45 (0, 0))) (hr : WideR p s a r) :
    Calls Tryz.prog 30 #[.pointer (some ⟨g, 0, none⟩), .agg #[.bool (decide (s.lo.1 < 0)), .slice A (digs s.lo.1.natAbs).length c, .int .i64 s.lo.2, .bool (decide (s.hi.1 < 0)), .slice B (digs s.hi.1.natAbs).length d, .int .i64 s.hi.2], .agg #[.bool (decide (a.1 < 0)), .slice A' (digs a.1.natAbs).length c', .int .i64 a.2]] w fun e w' => Ys r w e w' := by
  obtain ⟨h0, x, y, h1, h2, h3, h4, h5, h6, h7, h8⟩ := hr
  exact iwide_ok A B A' c d c' s.lo.1 s.lo.2 s.hi.1 s.hi.2 a.1 a.2 P g x.1 x.2 y.1 y.2 r.lo.1 r.lo.2 r.hi.1 r.hi.2 w h h' (inr_len os.1.2) (inr_len os.2.1.2) os.1.rt os.2.1.rt os.2.2 hp.1 hp.2.1 hp.2.2 k oa.len oa.rt h0 hT hk h1 h2.2 h3 h4.2 h5 h6.2 h7 h8.2
theorem cmid {A B : Option Addr} {c d g : Nat} {s : St} {w : World} {a : Qn} {P : Int} {p : Nat} (h : Dg w A c (digs s.lo.1.natAbs)) (h' : Dg w B d (digs s.hi.1.natAbs)) (os : So s) (hp : Pc p P) (hT : T32 w) (hk : w.heap[g]? = some (.cells #[.int .i64 0, .int .i64 P] 45 (0, 0))) (hr : MidR p s a) :
    Calls Tryz.prog 34 #[.pointer (some ⟨g, 0, none⟩), .agg #[.bool (decide (s.lo.1 < 0)), .slice A (digs s.lo.1.natAbs).length c, .int .i64 s.lo.2, .bool (decide (s.hi.1 < 0)), .slice B (digs s.hi.1.natAbs).length d, .int .i64 s.hi.2]] w fun e w' => Yq a w e w' := by
  obtain ⟨x, y, h1, h2, h3, h4, h5, h6⟩ := hr
  exact imid_ok A B c d s.lo.1 s.lo.2 s.hi.1 s.hi.2 P g x.1 x.2 y.1 y.2 a.1 a.2 w h h' (inr_len os.1.2) (inr_len os.2.1.2) os.1.rt os.2.1.rt os.2.2 hp.1 hp.2.1 hp.2.2 hT hk h1 h2.2 (by rw [dv_scale]; exact h3) h4.2 h5 h6.2
theorem cpoint {A : Option Addr} {c g : Nat} {a : Qn} {P : Int} {w : World} (h : Dg w A c (digs a.1.natAbs)) (oa : Qo a) (hk : w.heap[g]? = some (.cells #[.int .i64 0, .int .i64 P] 45 (0, 0))) :
    Calls Tryz.prog 25 #[.pointer (some ⟨g, 0, none⟩), .agg #[.bool (decide (a.1 < 0)), .slice A (digs a.1.natAbs).length c, .int .i64 a.2]] w fun e w' => Ys ⟨a, a⟩ w e w' :=
  ipoint_ok A c a.1 a.2 P g w h oa.len oa.rt hk
theorem cint {g : Nat} {n P : Int} {a : Qn} {w : World} (hT : T32 w) (hk : w.heap[g]? = some (.cells #[.int .i64 0, .int .i64 P] 45 (0, 0))) (h0 : -9223372036854775808 ≤ n) (h1 : n ≤ 9223372036854775807) (ha : intQ n = a) :
    Calls Tryz.prog 33 #[.pointer (some ⟨g, 0, none⟩), .int .i64 n] w fun e w' => Ys ⟨a, a⟩ w e w' := by
  subst ha
  exact iint_ok n _ _ P g w hT hk h0 h1 rfl rfl
theorem chas {A B Z : Option Addr} {c d z : Nat} {s : St} {a : Qn} {q : Bool} {w : World} (h : Dg w A c (digs s.lo.1.natAbs)) (h' : Dg w B d (digs s.hi.1.natAbs)) (os : So s) (k : Dg w Z z (digs a.1.natAbs)) (oa : Qo a) (hq : decide (Ins (qr a) s) = q) :
    Calls Tryz.prog 17 #[.agg #[.bool (decide (s.lo.1 < 0)), .slice A (digs s.lo.1.natAbs).length c, .int .i64 s.lo.2, .bool (decide (s.hi.1 < 0)), .slice B (digs s.hi.1.natAbs).length d, .int .i64 s.hi.2], .agg #[.bool (decide (a.1 < 0)), .slice Z (digs a.1.natAbs).length z, .int .i64 a.2]] w fun e w' => e = .returned (.bool q) ∧ Below w.heap.size w w' :=
  ihas_any h h' (inr_len os.1.2) (inr_len os.2.1.2) os.1.rt os.2.1.rt k oa.len oa.rt os.2.2 hq
theorem chas0 {A B : Option Addr} {c d : Nat} {s : St} {q : Bool} {w : World} (h : Dg w A c (digs s.lo.1.natAbs)) (h' : Dg w B d (digs s.hi.1.natAbs)) (os : So s) (hq : decide (Ins 0 s) = q) :
    Calls Tryz.prog 17 #[.agg #[.bool (decide (s.lo.1 < 0)), .slice A (digs s.lo.1.natAbs).length c, .int .i64 s.lo.2, .bool (decide (s.hi.1 < 0)), .slice B (digs s.hi.1.natAbs).length d, .int .i64 s.hi.2], .agg #[.bool false, .slice none 0 0, .int .i64 0]] w fun e w' => e = .returned (.bool q) ∧ Below w.heap.size w w' :=
  has_zero h h' (inr_len os.1.2) (inr_len os.2.1.2) os.1.rt os.2.1.rt os.2.2 hq
theorem cin {A B A' B' : Option Addr} {c d c' d' : Nat} {s t : St} {q : Bool} {w : World} (h : Dg w A c (digs s.lo.1.natAbs)) (h' : Dg w B d (digs s.hi.1.natAbs)) (os : So s) (k : Dg w A' c' (digs t.lo.1.natAbs)) (k' : Dg w B' d' (digs t.hi.1.natAbs)) (ot : So t) (hq : decide (Ins (qr s.lo) t ∧ Ins (qr s.hi) t) = q) :
    Calls Tryz.prog 27 #[.agg #[.bool (decide (s.lo.1 < 0)), .slice A (digs s.lo.1.natAbs).length c, .int .i64 s.lo.2, .bool (decide (s.hi.1 < 0)), .slice B (digs s.hi.1.natAbs).length d, .int .i64 s.hi.2], .agg #[.bool (decide (t.lo.1 < 0)), .slice A' (digs t.lo.1.natAbs).length c', .int .i64 t.lo.2, .bool (decide (t.hi.1 < 0)), .slice B' (digs t.hi.1.natAbs).length d', .int .i64 t.hi.2]] w fun e w' => e = .returned (.bool q) ∧ Below w.heap.size w w' :=
  iin_any h h' (inr_len os.1.2) (inr_len os.2.1.2) os.1.rt os.2.1.rt os.2.2 k k' (inr_len ot.1.2) (inr_len ot.2.1.2) ot.1.rt ot.2.1.rt ot.2.2 hq
theorem csame {A B A' B' : Option Addr} {c d c' d' : Nat} {s t : St} {q : Bool} {w : World} (h : Dg w A c (digs s.lo.1.natAbs)) (h' : Dg w B d (digs s.hi.1.natAbs)) (os : So s) (k : Dg w A' c' (digs t.lo.1.natAbs)) (k' : Dg w B' d' (digs t.hi.1.natAbs)) (ot : So t) (hq : decide ((s.lo.1 = t.lo.1 ∧ s.lo.2 = t.lo.2) ∧ s.hi.1 = t.hi.1 ∧ s.hi.2 = t.hi.2) = q) :
    Calls Tryz.prog 23 #[.agg #[.bool (decide (s.lo.1 < 0)), .slice A (digs s.lo.1.natAbs).length c, .int .i64 s.lo.2, .bool (decide (s.hi.1 < 0)), .slice B (digs s.hi.1.natAbs).length d, .int .i64 s.hi.2], .agg #[.bool (decide (t.lo.1 < 0)), .slice A' (digs t.lo.1.natAbs).length c', .int .i64 t.lo.2, .bool (decide (t.hi.1 < 0)), .slice B' (digs t.hi.1.natAbs).length d', .int .i64 t.hi.2]] w fun e w' => e = .returned (.bool q) ∧ Below w.heap.size w w' :=
  lsame_q h h' k k' (inr_len os.1.2) (inr_len os.2.1.2) hq
theorem csame1 {A B A' B' : Option Addr} {c d c' d' : Nat} {s : St} {w : World} (h : Dg w A c (digs s.lo.1.natAbs)) (h' : Dg w B d (digs s.hi.1.natAbs)) (os : So s) (k : Dg w A' c' (digs s.lo.1.natAbs)) (k' : Dg w B' d' (digs s.hi.1.natAbs)) :
    Calls Tryz.prog 23 #[.agg #[.bool (decide (s.lo.1 < 0)), .slice A (digs s.lo.1.natAbs).length c, .int .i64 s.lo.2, .bool (decide (s.hi.1 < 0)), .slice B (digs s.hi.1.natAbs).length d, .int .i64 s.hi.2], .agg #[.bool (decide (s.lo.1 < 0)), .slice A' (digs s.lo.1.natAbs).length c', .int .i64 s.lo.2, .bool (decide (s.hi.1 < 0)), .slice B' (digs s.hi.1.natAbs).length d', .int .i64 s.hi.2]] w fun e w' => e = .returned (.bool true) ∧ Below w.heap.size w w' :=
  csame h h' os k k' os (by simp)
theorem cneg1 {A B : Option Addr} {c d g : Nat} {s : St} {w : World} {r : St} {P : Int} (h : Dg w A c (digs s.lo.1.natAbs)) (h' : Dg w B d (digs s.hi.1.natAbs)) (os : So s) (hk : w.heap[g]? = some (.cells #[.int .i64 0, .int .i64 P] 45 (0, 0))) (hr : NegS s = r) :
    Calls Tryz.prog 28 #[.pointer (some ⟨g, 0, none⟩), .agg #[.bool (decide (s.lo.1 < 0)), .slice A (digs s.lo.1.natAbs).length c, .int .i64 s.lo.2, .bool (decide (s.hi.1 < 0)), .slice B (digs s.hi.1.natAbs).length d, .int .i64 s.hi.2]] w fun e w' => Ys r w e w' := by subst hr; exact cneg h h' os hk
theorem qadd {A B : Option Addr} {c d : Nat} {a b r : Qn} {w : World} (h : Dg w A c (digs a.1.natAbs)) (h' : Dg w B d (digs b.1.natAbs)) (oa : Qo a) (ob : Qo b) (hT : T32 w) (hr : IsQ (qr a + qr b) r) (or : Qo r) :
    Calls Tryz.prog 14 #[.agg #[.bool (decide (a.1 < 0)), .slice A (digs a.1.natAbs).length c, .int .i64 a.2], .agg #[.bool (decide (b.1 < 0)), .slice B (digs b.1.natAbs).length d, .int .i64 b.2]] w fun e w' => Ye r.1 r.2 0 w e w' :=
  dadd_yes h h' oa.len ob.len oa.rt ob.rt hT hr or.2
theorem qsub {A B : Option Addr} {c d : Nat} {a b r : Qn} {w : World} (h : Dg w A c (digs a.1.natAbs)) (h' : Dg w B d (digs b.1.natAbs)) (oa : Qo a) (ob : Qo b) (hT : T32 w) (hr : IsQ (qr a - qr b) r) (or : Qo r) :
    Calls Tryz.prog 15 #[.agg #[.bool (decide (a.1 < 0)), .slice A (digs a.1.natAbs).length c, .int .i64 a.2], .agg #[.bool (decide (b.1 < 0)), .slice B (digs b.1.natAbs).length d, .int .i64 b.2]] w fun e w' => Ye r.1 r.2 0 w e w' :=
  dsub_yes h h' oa.len ob.len oa.rt ob.rt hT hr or.2
theorem qmul {A B : Option Addr} {c d : Nat} {a b r : Qn} {w : World} (h : Dg w A c (digs a.1.natAbs)) (h' : Dg w B d (digs b.1.natAbs)) (oa : Qo a) (ob : Qo b) (hT : T32 w) (hr : IsQ (qr a * qr b) r) (or : Qo r) :
    Calls Tryz.prog 16 #[.agg #[.bool (decide (a.1 < 0)), .slice A (digs a.1.natAbs).length c, .int .i64 a.2], .agg #[.bool (decide (b.1 < 0)), .slice B (digs b.1.natAbs).length d, .int .i64 b.2]] w fun e w' => Ye r.1 r.2 0 w e w' :=
  dmul_yes h h' oa.len ob.len oa.rt ob.rt hT hr or.2
theorem qscale {A : Option Addr} {c : Nat} {a r : Qn} {j : Int} {w : World} (h : Dg w A c (digs a.1.natAbs)) (oa : Qo a) (hT : T32 w) (j0 : -100000 ≤ j) (j1 : j ≤ 100000) (hr : IsQ (qr a * 2 ^ j) r) (or : Qo r) :
    Calls Tryz.prog 39 #[.agg #[.bool (decide (a.1 < 0)), .slice A (digs a.1.natAbs).length c, .int .i64 a.2], .int .i64 j] w fun e w' => Ye r.1 r.2 0 w e w' :=
  scale_yes_ _ _ a.1 a.2 j r.1 r.2 _ h oa.len oa.rt hT j0 j1 (by rw [dv_scale]; exact hr) or.2
theorem qcmp {A B : Option Addr} {c d : Nat} {a b : Qn} {q : Int} {w : World} (h : Dg w A c (digs a.1.natAbs)) (h' : Dg w B d (digs b.1.natAbs)) (oa : Qo a) (ob : Qo b) (hq : cmpd (qr a) (qr b) = q) :
    Calls Tryz.prog 32 #[.agg #[.bool (decide (a.1 < 0)), .slice A (digs a.1.natAbs).length c, .int .i64 a.2], .agg #[.bool (decide (b.1 < 0)), .slice B (digs b.1.natAbs).length d, .int .i64 b.2]] w fun e w' => e = .returned (.int .i64 q) ∧ Below w.heap.size w w' :=
  dcmp_any h h' (Nat.le_trans oa.len (by omega)) (Nat.le_trans ob.len (by omega)) oa.rt ob.rt hq
end Go.Proofs.YtijodbjdajddoaaGreatDoor
end

section
/-
  The law's same; astrolaberef04's Make, Neg, Add, Sub, Mul.
-/
namespace Go.Proofs.YtijodbjdajddoaaGreatDoor
open Go.RowKit
set_option maxHeartbeats 2000000 in
set_option maxRecDepth 100000 in
theorem rmake_any (A : Option Addr) (c : Nat) (s : Bool) (xs : List Nat) (w : World) (h : Dg w A c xs) (hl : xs.length ≤ 1000000) :
    Calls Tryz.prog 68 #[.bool s, .slice A xs.length c] w fun e w' => Zr (sg s (val xs)) w e w' := by
  have l1 := digs_len_le h.2.1
  obtain ⟨q, hq⟩ : ∃ q, decide (0 < (digs (val xs)).length) = q := ⟨_, rfl⟩
  have hq' : decide ((0 : Int) < ((digs (val xs)).length : Int)) = q := by rw [← hq, decide_eq_decide]; omega
  have HS := Lib.hid (show (s && q) = decide (sg s (val xs) < 0) by
    rw [← sg_neg, ← hq]
    congr 1
    rw [decide_eq_decide]
    constructor
    · intro h0 e; rw [e, digs_zero] at h0; simp at h0
    · intro h0; have : (digs (val xs)).length ≠ 0 := fun e => h0 (digs_nil.1 e); omega)
  have HA := Lib.hid (sg_abs s (val xs))
  generalize sg s (val xs) = z at *
  go_enter Tryz.func68, Tryz.ntmps68
  go_wp2_with fail
  refine (rtrim_any A c xs _ (h.below (below1 _ _)) (by omega)).mono ?_
  rintro e w1 ⟨A1, c1, rfl, hd, hb⟩
  have K1 := Lib.hid hb
  have G1 := Lib.hid hd
  have HO1 := Lib.hid (off_box (g := w.heap.size) hd hb rfl noint2')
  obtain ⟨hc1, hf1⟩ := bcell hb
  clear hb hd h
  cases s
  · go_wp2
    refine bodyPost_ret (v := .agg #[.bool false, .slice A1 (digs (val xs)).length c1]) (by simp [results, Tryz.results68, go_sem, hc1]) rfl ?_
    refine ⟨A1, c1, by rw [← HS.out, HA.out]; rfl, ?_, ?_⟩
    · rw [HA.out]; exact (G1.out.set_off HO1.out _ _).set_off HO1.out _ _
    · exact ((below1 w _).trans (K1.out.mono (by simp))).setCell (by simp) _ |>.setCell (by simp) _
  · go_wp2
    refine bodyPost_ret (v := .agg #[.bool q, .slice A1 (digs (val xs)).length c1]) (by simp [results, Tryz.results68, go_sem, hc1]) rfl ?_
    refine ⟨A1, c1, by rw [← HS.out, HA.out]; rfl, ?_, ?_⟩
    · rw [HA.out]; exact (G1.out.set_off HO1.out _ _).set_off HO1.out _ _
    · exact ((below1 w _).trans (K1.out.mono (by simp))).setCell (by simp) _ |>.setCell (by simp) _
end Go.Proofs.YtijodbjdajddoaaGreatDoor
end

section
/-
  iv: the reference's norm.
-/
namespace Go.Proofs.YtijodbjdajddoaaGreatDoor
open Go.RowKit
set_option linter.unusedSimpArgs false
set_option linter.unusedVariables false
theorem rmake_z {A : Option Addr} {c : Nat} {s : Bool} {xs : List Nat} {z : Int} {w : World} (h : Dg w A c xs) (hl : xs.length ≤ 1000000) (hz : sg s (val xs) = z) :
    Calls Tryz.prog 68 #[.bool s, .slice A xs.length c] w fun e w' => Zr z w e w' := by
  subst hz; exact rmake_any A c s xs w h hl
theorem rbit_z {A : Option Addr} {c v j : Nat} {q : Bool} {w : World} (h : Dg w A c (digs v)) (hl : (digs v).length ≤ 10000) (hj : j ≤ 1000000) (hq : bitAt v (j : Int) = q) :
    Calls Tryz.prog 119 #[.slice A (digs v).length c, .int .i64 j] w fun e w' => e = .returned (.bool q) ∧ w = w' := by
  have := rbit_any A c (digs v) (j : Int) w h (by omega) (by omega) (by omega)
  rwa [val_digs, hq] at this
theorem rshr_z {A : Option Addr} {c v n : Nat} {w : World} (h : Dg w A c (digs v)) (hl : (digs v).length ≤ 1048576) (hn : n ≤ 9223372036854775807) :
    Calls Tryz.prog 120 #[.slice A (digs v).length c, .int .i64 n] w fun e w' => ∃ A' c', e = .returned (.slice A' (digs (v / 2 ^ n)).length c') ∧ Dg w' A' c' (digs (v / 2 ^ n)) ∧ Below w.heap.size w w' := by
  have := rshr_any A c (digs v) n w h hl hn
  rwa [val_digs] at this
theorem len_shr {v j : Nat} (h : (digs v).length ≤ 10000) : (digs (v / 2 ^ j)).length ≤ 1000000 := Nat.le_trans (digs_shr_len _ _) (by omega)

set_option maxHeartbeats 4000000 in
set_option maxRecDepth 100000 in
theorem rnorm_any (A : Option Addr) (c : Nat) (s : Bool) (xs : List Nat) (y z m : Int) (k : Nat) (w : World) (h : Dg w A c xs) (hl : xs.length ≤ 10000) (hz : sg s (val xs) = z) (h0 : (digs z.natAbs).length ≠ 0) (hlz : (digs z.natAbs).length ≤ 10000) (hb : ∀ j, j < k → bitAt z.natAbs (j : Int) = false) (hk1 : bitAt z.natAbs (k : Int) = true) (hk : k ≤ 1000000) (hm : sg (decide (z < 0)) (z.natAbs / 2 ^ k) = m) (y0 : -1000000 ≤ y) (y1 : y ≤ 1000000):
    Calls Tryz.prog 93 #[.agg #[.bool s, .slice A xs.length c], .int .i64 y] w fun e w' => Yr m (y + k) w e w' := by
  have HZ := Lib.hid hz
  have HL := Lib.hid hl
  have HLZ := Lib.hid hlz
  have HB := Lib.hid hb
  have HK1 := Lib.hid hk1
  have HM := Lib.hid hm
  have n0 := Lib.hid (show ((((digs z.natAbs).length : Nat) : Int) == 0) = false by simp; exact fun e => h0 (by rw [e]; rfl))
  have L0 := Lib.hid ((live_start w).add h)
  clear h hl hz hlz hb hk1 hm h0
  go_enter Tryz.func93, Tryz.ntmps93
  go_wp2_with fail
  obtain ⟨v1, hW, hb, Ri_1, Rr_1⟩ := new2 w (.cells #[.bool s, .slice A xs.length c] 24) (.cells #[.bool false, .slice none 0 0, .int .i64 0] 26)
  rw [← hW]
  have L1 := ls L0 hb
  have Gi := gl0 L0.out
  have Gr := gl1 L0.out
  have Nir : w.heap.size < w.heap.size + 1 := by omega
  clear hW hb
  obtain ⟨fi0, zi0, fi1, zi1, xi⟩ := ly2 Ri_1.out
  go_wp2_with fail
  refine (rmake_z (L1.out.get (A := A) (c := c) (xs := xs) (by simp)) (Nat.le_trans HL.out (by omega)) HZ.out).mono ?_
  rintro e w2 ⟨A2, c2, rfl, hd, hb⟩
  have L2 := la L1 hb hd
  clear fi0 zi0 fi1 zi1 xi
  have Ri_2 := co Ri_1 hb
  have Rr_2 := co Rr_1 hb
  clear hb hd
  go_upto_region 2 with fail
  obtain ⟨w3, hW, hb, Rx_3⟩ := new1 w2 (.cells #[.bool (decide (z < 0)), .slice A2 (digs z.natAbs).length c2] 24)
  rw [← hW]
  have L3 := ls L2 hb
  have Ri_3 := co Ri_2 hb
  have Rr_3 := co Rr_2 hb
  have Gx := gl0 L2.out
  have Nix := nl0 Ri_2.out
  have Nrx := nl0 Rr_2.out
  clear hW hb
  have e0 := n0.out
  obtain ⟨fx0, zx0, fx1, zx1, xx⟩ := ly2 Rx_3.out
  go_wp2_with fail
  clear fx0 zx0 fx1 zx1 xx
  clear e0
  go_loopw [6] (fun iv wr => ∃ j : Nat, j ≤ k ∧ iv = .int .i64 j ∧ wr = w3) (fun iv _ => k - (intOf iv).toNat)
  case atStart => exact ⟨0, Nat.zero_le _, rfl, rfl⟩
  case round =>
    obtain ⟨j, hj, rfl, hwr⟩ := hrel
    subst hwr
    by_cases hlt : j < k
    · have bj := HB.out j hlt
      have BJ := Lib.hid bj
      clear bj
      obtain ⟨fx0, zx0, fx1, zx1, xx⟩ := ly2 Rx_3.out
      go_wp2_with fail
      refine (rbit_z (L3.out.get (A := A2) (c := c2) (xs := digs z.natAbs) (by simp)) HLZ.out (by omega) BJ.out).mono ?_
      rintro e w4 ⟨rfl, rfl⟩
      go_wp2
      go_roundw
      case rel => exact ⟨j + 1, by omega, by go_num, by first | trivial | rfl⟩
      case measure => simp [intOf]; omega
    · obtain rfl : j = k := by omega
      obtain ⟨fx0, zx0, fx1, zx1, xx⟩ := ly2 Rx_3.out
      go_wp2_with fail
      refine (rbit_z (L3.out.get (A := A2) (c := c2) (xs := digs z.natAbs) (by simp)) HLZ.out (by omega) HK1.out).mono ?_
      rintro e w5 ⟨rfl, rfl⟩
      clear fx0 zx0 fx1 zx1 xx
      have wj : IntKind.i64.wrap (y + (j : Int)) = y + (j : Int) := IntWalk.i64_in _ (by omega)
      go_upto_region 7 with fail
      obtain ⟨fx0, zx0, fx1, zx1, xx⟩ := ly2 Rx_3.out
      have KD := Lib.hid (bd0 wr)
      have LD := ls L3 KD.out
      have Mx : w2.heap.size ≠ w.heap.size + 1 := by omega
      go_region_held3 (fun w' => (∀ o, w'.cell? ⟨w2.heap.size, o, none⟩ = wr.cell? ⟨w2.heap.size, o, none⟩))
        (first | with_reducible exact keep_b KD.out xx | with_reducible exact keep_b K7.out xx | with_reducible exact keep_b K8.out xx | exact (keep_set (keep_b K8.out xx) Mx) | exact (keep_set (keep_set (keep_b K8.out xx) Mx) Mx) | exact (keep_set (keep_set (keep_set (keep_b K8.out xx) Mx) Mx) Mx))
        (first
          | (go_at_call 120; (with_reducible refine (rshr_z (LD.out.get (A := A2) (c := c2) (xs := digs z.natAbs) (by simp)) (Nat.le_trans HLZ.out (by omega)) (by omega)).mono ?_); rintro e w7 ⟨A7, c7, rfl, hd, hb⟩; (have K7 := bt KD hb); (have L7 := la LD hb hd); clear hb hd)
          | (go_at_call 68; (with_reducible refine (rmake_z (z := m) (L7.out.get (A := A7) (c := c7) (xs := digs (z.natAbs / 2 ^ j)) (by simp)) (len_shr HLZ.out) (by rw [val_digs]; exact HM.out)).mono ?_); rintro e w8 ⟨A8, c8, rfl, hd, hb⟩; (have K8 := bt K7 hb); (have L8 := la L7 hb hd); (have qr0_K8 := row_c (i := 0) (co Rr_3 K8.out).out rfl); (have pr0_K8 := frozen_of_row _ _ 0 _ _ (cells_of Rr_3.out K8.out)); (have qr1_K8 := row_c (i := 1) (co Rr_3 K8.out).out rfl); (have pr1_K8 := frozen_of_row _ _ 1 _ _ (cells_of Rr_3.out K8.out)); (have qr2_K8 := row_c (i := 2) (co Rr_3 K8.out).out rfl); (have pr2_K8 := frozen_of_row _ _ 2 _ _ (cells_of Rr_3.out K8.out)); clear hb hd))
      rename_i hHeld
      clear hHeld
      clear fx0 zx0 fx1 zx1 xx
      have Ri_8 := co Ri_3 K8.out
      have Rr_8 := co Rr_3 K8.out
      have Rx_8 := co Rx_3 K8.out
      obtain ⟨fr0, zr0, fr1, zr1, fr2, zr2, xr⟩ := ly3 Rr_8.out
      go_wp2
      refine bodyPost_ret (v := .agg #[.bool (decide (m < 0)), .slice A8 (digs m.natAbs).length c8, .int .i64 ((y + j))]) (by simp [results, Tryz.results93, go_sem, fr0, fr1, fr2, wj]) rfl ?_
      
      refine ⟨A8, c8, rfl, ?_, ?_⟩
      · exact (fin3 L8.out Rr_8.out noint3 Gr).get (A := A8) (c := c8) (xs := digs m.natAbs) (by simp)
      · exact (fin3 L8.out Rr_8.out noint3 Gr).1
end Go.Proofs.YtijodbjdajddoaaGreatDoor
end

section
/-
  astrolaberef04's Right, From.
-/
namespace Go.Proofs.YtijodbjdajddoaaGreatDoor
open Go.RowKit
set_option maxHeartbeats 1000000 in
set_option maxRecDepth 100000 in
theorem rright_any (A : Option Addr) (c : Nat) (s : Bool) (xs : List Nat) (w : World) (h : Dg w A c xs) (q : Bool) (hq : rightB s xs = q) (hl : xs.length ≤ 9223372036854775807) :
    Calls Tryz.prog 96 #[.agg #[.bool s, .slice A xs.length c]] w fun e w' => e = .returned (.bool q) ∧ Below w.heap.size w w' := by
  by_cases h0 : xs.length = 0
  · have t0 : ((xs.length : Int) == 0) = true := by rw [h0]; rfl
    have t1 : decide (0 < xs.length) = false := by rw [h0]; rfl
    have HQ := Lib.hid (show (!s) = q by rw [← hq]; unfold rightB; rw [if_pos h0])
    clear h h0 hq
    cases s
    all_goals
      go_enter Tryz.func96, Tryz.ntmps96
      go_wp2
      go_ret
      exact ⟨by rw [← HQ.out]; rfl, below1 _ _⟩
  · have t0 : ((xs.length : Int) == 0) = false := beq_eq_false_iff_ne.2 (by omega)
    have t1 : decide (0 < xs.length) = true := by simp; omega
    obtain ⟨b, off, hA, hb, hc⟩ := h.2.2 (by omega)
    have hx := hc (xs.length - 1) (by omega)
    have hp : 0 < xs.length := by omega
    have hq' : decide (xs[xs.length - 1]?.getD 0 ≠ 0) = q := by rw [← hq]; unfold rightB; rw [if_neg h0]
    generalize xs[xs.length - 1]?.getD 0 = x at *
    have hxq : ((x : Int) != 0) = q := by
      rw [← hq', Bool.eq_iff_iff]; simp
    have HX := Lib.hid hxq
    clear h h0 hq hc hq' hxq
    subst hA
    go_enter Tryz.func96, Tryz.ntmps96
    go_wp2
    go_ret
    refine ⟨?_, below1 _ _⟩
    rw [← HX.out]
    rfl
end Go.Proofs.YtijodbjdajddoaaGreatDoor
end

section
/-
  ref05: Right, size, inRange, norm, Make.
-/
namespace Go.Proofs.YtijodbjdajddoaaGreatDoor
open Go.RowKit
set_option linter.unusedSimpArgs false
set_option linter.unusedVariables false
theorem sg_dz' (m : Int) : sg (decide (m < 0)) m.natAbs = m := by
  unfold sg; split <;> rename_i h <;> simp at h <;> omega

theorem tz_bit {z : Nat} (h : z ≠ 0) : bitAt z (tz z : Int) = true := by
  have ⟨a, b⟩ := tz_spec z h
  unfold bitAt
  simp only [Int.toNat_natCast, Bool.and_eq_true, decide_eq_true_eq]
  refine ⟨by omega, ?_⟩
  rw [Nat.testBit_eq_decide_div_mod_eq, decide_eq_true_eq]; exact a
theorem tz_lowb {z j : Nat} (h : z ≠ 0) (hj : j < tz z) : bitAt z (j : Int) = false := by
  have ⟨a, b⟩ := tz_spec z h
  unfold bitAt
  simp only [Int.toNat_natCast]
  rw [Bool.and_eq_false_iff]
  right
  rw [Nat.testBit_eq_decide_div_mod_eq, decide_eq_false_iff_not]
  have e : z = z / 2 ^ tz z * 2 ^ (tz z - j - 1) * 2 * 2 ^ j := by
    rw [Nat.mul_assoc _ 2, ← Nat.pow_succ', Nat.mul_assoc, ← Nat.pow_add]
    rw [show tz z - j - 1 + (j + 1) = tz z by omega]; exact b
  rw [e, Nat.mul_div_cancel _ (Nat.pow_pos (by omega))]
  omega
theorem nm_sgz {z : Int} (h : z ≠ 0) : sg (decide (z < 0)) (z.natAbs / 2 ^ tz z.natAbs) = nm z := by
  have ⟨a, b⟩ := tz_spec z.natAbs (by omega)
  have ⟨c, d, e⟩ := nm_back h
  rw [← e]
  have := nm_neg_iff z
  rw [← this]
  exact sg_dz' _

set_option maxHeartbeats 4000000 in
set_option maxRecDepth 100000 in
theorem r5right_z (A : Option Addr) (c : Nat) (m x : Int) (w : World) (h : Dg w A c (digs m.natAbs)) (hl : (digs m.natAbs).length ≤ 10000) (r : Rt m x) (m0 : m = 0):
    Calls Tryz.prog 69 #[.agg #[.bool (decide (m < 0)), .slice A (digs m.natAbs).length c, .int .i64 x]] w fun e w' => e = .returned (.bool true) ∧ Below w.heap.size w w' := by
  have hx0 := nf_zero r.1 m0
  have t0 : ((((digs m.natAbs).length : Nat) : Int) == 0) = true := by rw [m0, show digs (0 : Int).natAbs = [] from digs_zero]; rfl
  have x0 : (x == 0) = true := by simp [hx0]
  have HR := Lib.hid (show rightB (decide (m < 0)) (digs m.natAbs) = true by rw [m0, show digs (0 : Int).natAbs = [] from digs_zero]; rfl)
  have HL := Lib.hid hl
  have L0 := Lib.hid ((live_start w).add h)
  clear h hl r m0 hx0
  go_enter Tryz.func69, Tryz.ntmps69
  go_wp2_with fail
  obtain ⟨v1, hW, hb, Rx_1⟩ := new1 w (.cells #[.bool (decide (m < 0)), .slice A (digs m.natAbs).length c, .int .i64 x] 26)
  rw [← hW]
  have L1 := ls L0 hb
  have Gx := gl0 L0.out
  clear hW hb
  refine (rright_any A c _ _ _ (L1.out.get (A := A) (c := c) (xs := digs m.natAbs) (by simp)) true HR.out (Nat.le_trans HL.out (by omega))).mono ?_
  rintro e w2 ⟨rfl, hb⟩
  have L2 := ls L1 hb
  have Rx_2 := co Rx_1 hb
  clear hb 
  obtain ⟨fx0, zx0, fx1, zx1, fx2, zx2, xx⟩ := ly3 Rx_2.out
  go_wp2
  go_ret
  exact ⟨rfl, L2.out.1⟩
set_option maxHeartbeats 4000000 in
set_option maxRecDepth 100000 in
theorem r5right_p (A : Option Addr) (c : Nat) (m x : Int) (w : World) (h : Dg w A c (digs m.natAbs)) (hl : (digs m.natAbs).length ≤ 10000) (r : Rt m x) (m0 : m ≠ 0):
    Calls Tryz.prog 69 #[.agg #[.bool (decide (m < 0)), .slice A (digs m.natAbs).length c, .int .i64 x]] w fun e w' => e = .returned (.bool true) ∧ Below w.heap.size w w' := by
  have dr := dyR_num r
  unfold dyR at dr
  have n0 : (digs m.natAbs).length ≠ 0 := fun e => m0 (by have := digs_nil.1 e; omega)
  rw [if_neg n0] at dr
  simp only [Bool.and_eq_true, decide_eq_true_eq] at dr
  obtain ⟨⟨⟨dr, od⟩, x0⟩, x1⟩ := dr
  have HR := Lib.hid dr
  have HL := Lib.hid hl
  have t0 : ((((digs m.natAbs).length : Nat) : Int) == 0) = false := beq_eq_false_iff_ne.2 (by omega)
  have hp : 0 < (digs m.natAbs).length := by omega
  have hc1 : 0 < c := by have := h.1; omega
  obtain ⟨b, off, hA, hb, hc⟩ := h.2.2 hp
  have hx := hc 0 hp
  rw [Nat.add_zero] at hx
  have H := Lib.hid h
  generalize (digs m.natAbs)[0]?.getD 0 = d at *
  have hd : (((d : Nat) : Int).tmod 2 == 1) = true := by
    rw [Int.tmod_eq_emod_of_nonneg (by omega), beq_iff_eq]; omega
  have hd2 : (((d : Nat) : Int) % 2 == 1) = true := by rw [beq_iff_eq]; omega
  have d1 : decide (-131072 ≤ x) = true := decide_eq_true x0
  have d2 : decide (x ≤ 131072) = true := decide_eq_true x1
  have HB := Lib.hid hb
  have HX := Lib.hid hx
  clear hc hx hb
  subst hA
  have L0 := Lib.hid ((live_start w).add h)
  clear h hl r dr od x0 x1 m0 n0
  go_enter Tryz.func69, Tryz.ntmps69
  go_wp2_with fail
  obtain ⟨v1, hW, hb, Rx_1⟩ := new1 w (.cells #[.bool (decide (m < 0)), .slice (some ⟨b, off, none⟩) (digs m.natAbs).length c, .int .i64 x] 26)
  rw [← hW]
  have L1 := ls L0 hb
  have Gx := gl0 L0.out
  clear hW hb
  refine (rright_any (some ⟨b, off, none⟩) c _ _ _ (L1.out.get (A := (some ⟨b, off, none⟩)) (c := c) (xs := digs m.natAbs) (by simp)) true HR.out (Nat.le_trans HL.out (by omega))).mono ?_
  rintro e w2 ⟨rfl, hb⟩
  have L2 := ls L1 hb
  have Rx_2 := co Rx_1 hb
  clear hb 
  have hx := (L2.out.1.cell (p := ⟨b, off, none⟩) HB.out).trans HX.out
  obtain ⟨fx0, zx0, fx1, zx1, fx2, zx2, xx⟩ := ly3 Rx_2.out
  go_wp2
  go_ret
  exact ⟨rfl, L2.out.1⟩
theorem r5right_t {A : Option Addr} {c : Nat} {m x : Int} {w : World} (h : Dg w A c (digs m.natAbs)) (hl : (digs m.natAbs).length ≤ 10000) (r : Rt m x) :
    Calls Tryz.prog 69 #[.agg #[.bool (decide (m < 0)), .slice A (digs m.natAbs).length c, .int .i64 x]] w fun e w' => e = .returned (.bool true) ∧ Below w.heap.size w w' := by
  by_cases m0 : m = 0
  · exact r5right_z A c m x w h hl r m0
  · exact r5right_p A c m x w h hl r m0

theorem rbits_z {A : Option Addr} {c x : Nat} {z : Int} {w : World} (h : Dg w A c (digs x)) (hl : (digs x).length ≤ 1000000) (hz : (blen x : Int) = z) :
    Calls Tryz.prog 98 #[.slice A (digs x).length c] w fun e w' => e = .returned (.int .i64 z) ∧ Below w.heap.size w w' := by
  have := rbits_any A c (digs x) w h (by omega)
  rw [val_digs, hz] at this; exact this

set_option maxHeartbeats 4000000 in
set_option maxRecDepth 100000 in
theorem r5size_any (A : Option Addr) (c : Nat) (m x s : Int) (w : World) (h : Dg w A c (digs m.natAbs)) (hl : (digs m.natAbs).length ≤ 100000) (x0 : -10000000 ≤ x) (x1 : x ≤ 10000000) (hs : x + bl m = s):
    Calls Tryz.prog 71 #[.agg #[.bool (decide (m < 0)), .slice A (digs m.natAbs).length c, .int .i64 x]] w fun e w' => e = .returned (.int .i64 s) ∧ Below w.heap.size w w' := by
  have b1 := bl_bd hl
  unfold bl at hs
  obtain ⟨z, hz⟩ : ∃ z : Int, (blen m.natAbs : Int) = z := ⟨_, rfl⟩
  rw [hz] at hs
  have z0 : 0 ≤ z ∧ z ≤ 13000000 := by omega
  obtain ⟨z0, z1⟩ := z0
  have ws : IntKind.i64.wrap (x + z) = s := by rw [IntWalk.i64_in _ (by omega)]; exact hs
  have HZ := Lib.hid hz
  have HL := Lib.hid hl
  have L0 := Lib.hid ((live_start w).add h)
  clear h hl hz hs b1
  go_enter Tryz.func71, Tryz.ntmps71
  go_wp2_with fail
  obtain ⟨v1, hW, hb, Rx_1⟩ := new1 w (.cells #[.bool (decide (m < 0)), .slice A (digs m.natAbs).length c, .int .i64 x] 26)
  rw [← hW]
  have L1 := ls L0 hb
  have Gx := gl0 L0.out
  clear hW hb
  obtain ⟨fx0, zx0, fx1, zx1, fx2, zx2, xx⟩ := ly3 Rx_1.out
  have KD := Lib.hid (bd0 v1)
  have LD := ls L1 KD.out
  go_region_held3 (fun w' => ∀ b o, b < v1.heap.size → w'.cell? ⟨b, o, none⟩ = v1.cell? ⟨b, o, none⟩)
    (first | with_reducible exact (bcell KD.out).1 | with_reducible exact (bcell K3.out).1)
    (first
      | (go_at_call 98; (with_reducible refine (rbits_z (LD.out.get (A := A) (c := c) (xs := digs m.natAbs) (by simp)) (Nat.le_trans HL.out (by omega)) HZ.out).mono ?_); rintro e w3 ⟨rfl, hb⟩; (have K3 := bt KD hb); (have L3 := Lib.hid (LD.out.step hb)); clear hb ))
  rename_i hHeld
  clear hHeld
  clear fx0 zx0 fx1 zx1 fx2 zx2 xx
  have Rx_3 := co Rx_1 K3.out
  clear KD LD
  clear ws
  go_wp2
  go_ret
  exact ⟨rfl, L3.out.1⟩

set_option maxHeartbeats 1000000 in
set_option maxRecDepth 100000 in
theorem r5inr_z (A : Option Addr) (c : Nat) (m x : Int) (w : World) (m0 : m = 0) :
    Calls Tryz.prog 94 #[.agg #[.bool (decide (m < 0)), .slice A (digs m.natAbs).length c, .int .i64 x]] w fun e w' => e = .returned (.bool true) ∧ Below w.heap.size w w' := by
  have t0 : ((((digs m.natAbs).length : Nat) : Int) == 0) = true := by rw [m0, show digs (0 : Int).natAbs = [] from digs_zero]; rfl
  clear m0
  go_enter Tryz.func94, Tryz.ntmps94
  go_wp2
  go_ret
  exact ⟨rfl, below1 _ _⟩
set_option maxHeartbeats 4000000 in
set_option maxRecDepth 100000 in
theorem r5inr_p (A : Option Addr) (c : Nat) (m x : Int) (w : World) (h : Dg w A c (digs m.natAbs)) (hl : (digs m.natAbs).length ≤ 10000) (hq : inR m x = true) (m0 : m ≠ 0):
    Calls Tryz.prog 94 #[.agg #[.bool (decide (m < 0)), .slice A (digs m.natAbs).length c, .int .i64 x]] w fun e w' => e = .returned (.bool true) ∧ Below w.heap.size w w' := by
  unfold inR at hq
  rw [decide_eq_true_eq] at hq
  rcases hq with hq | ⟨x0, x1, hb, s0, s1⟩
  · exact absurd hq m0
  have t0 : ((((digs m.natAbs).length : Nat) : Int) == 0) = false := beq_eq_false_iff_ne.2 (fun e => m0 (by have := digs_nil.1 (show (digs m.natAbs).length = 0 by omega); omega))
  obtain ⟨s, hs⟩ : ∃ s : Int, x + bl m = s := ⟨_, rfl⟩
  rw [hs] at s0 s1
  obtain ⟨z, hz⟩ : ∃ z : Int, (blen m.natAbs : Int) = z := ⟨_, rfl⟩
  unfold bl at hb
  have zb : z ≤ 262144 := by omega
  have HZ := Lib.hid hz
  have HS := Lib.hid hs
  have HL := Lib.hid hl
  have SC := Lib.hid (show -10000000 ≤ x ∧ x ≤ 10000000 by omega)
  have d1 : decide (-65536 ≤ s) = true := decide_eq_true s0
  have d2 : decide (s ≤ 65536) = true := decide_eq_true s1
  have d3 : decide (-131072 ≤ x) = true := decide_eq_true x0
  have d4 : decide (x ≤ 131072) = true := decide_eq_true x1
  have d5 : decide (z ≤ 262144) = true := decide_eq_true zb
  have L0 := Lib.hid ((live_start w).add h)
  clear h hl hs hz hb zb s0 s1 x0 x1 m0
  go_enter Tryz.func94, Tryz.ntmps94
  go_wp2_with fail
  obtain ⟨v1, hW, hb, Rx_1⟩ := new1 w (.cells #[.bool (decide (m < 0)), .slice A (digs m.natAbs).length c, .int .i64 x] 26)
  rw [← hW]
  have L1 := ls L0 hb
  have Gx := gl0 L0.out
  clear hW hb
  obtain ⟨fx0, zx0, fx1, zx1, fx2, zx2, xx⟩ := ly3 Rx_1.out
  clear fx0 zx0 fx1 zx1 fx2 zx2 xx
  obtain ⟨fx0, zx0, fx1, zx1, fx2, zx2, xx⟩ := ly3 Rx_1.out
  go_wp2_with fail
  refine (r5size_any A c m x s _ (L1.out.get (A := A) (c := c) (xs := digs m.natAbs) (by simp)) (Nat.le_trans HL.out (by omega)) SC.out.1 SC.out.2 HS.out).mono ?_
  rintro e w2 ⟨rfl, hb⟩
  have L2 := ls L1 hb
  clear fx0 zx0 fx1 zx1 fx2 zx2 xx
  have Rx_2 := co Rx_1 hb
  clear hb 
  obtain ⟨fx0, zx0, fx1, zx1, fx2, zx2, xx⟩ := ly3 Rx_2.out
  go_wp2_with fail
  refine (rbits_z (L2.out.get (A := A) (c := c) (xs := digs m.natAbs) (by simp)) (Nat.le_trans HL.out (by omega)) HZ.out).mono ?_
  rintro e w3 ⟨rfl, hb⟩
  have L3 := ls L2 hb
  clear fx0 zx0 fx1 zx1 fx2 zx2 xx
  have Rx_3 := co Rx_2 hb
  clear hb 
  go_wp2
  go_ret
  exact ⟨rfl, L3.out.1⟩
theorem r5inr_t {A : Option Addr} {c : Nat} {m x : Int} {w : World} (h : Dg w A c (digs m.natAbs)) (hl : (digs m.natAbs).length ≤ 10000) (hq : inR m x = true) :
    Calls Tryz.prog 94 #[.agg #[.bool (decide (m < 0)), .slice A (digs m.natAbs).length c, .int .i64 x]] w fun e w' => e = .returned (.bool true) ∧ Below w.heap.size w w' := by
  by_cases m0 : m = 0
  · exact r5inr_z A c m x w m0
  · exact r5inr_p A c m x w h hl hq m0

set_option maxHeartbeats 4000000 in
set_option maxRecDepth 100000 in
theorem rnorm_0 (A : Option Addr) (c : Nat) (s : Bool) (xs : List Nat) (y z : Int) (w : World) (h : Dg w A c xs) (hl : xs.length ≤ 10000) (hz : sg s (val xs) = z) (z0 : z = 0):
    Calls Tryz.prog 93 #[.agg #[.bool s, .slice A xs.length c], .int .i64 y] w fun e w' => Yr 0 0 w e w' := by
  have HZ := Lib.hid hz
  have HL := Lib.hid hl
  have t0 : ((((digs z.natAbs).length : Nat) : Int) == 0) = true := by rw [z0, show digs (0 : Int).natAbs = [] from digs_zero]; rfl
  have L0 := Lib.hid ((live_start w).add h)
  clear h hl hz z0
  go_enter Tryz.func93, Tryz.ntmps93
  go_wp2_with fail
  obtain ⟨v1, hW, hb, Ri_1, Rr_1⟩ := new2 w (.cells #[.bool s, .slice A xs.length c] 24) (.cells #[.bool false, .slice none 0 0, .int .i64 0] 26)
  rw [← hW]
  have L1 := ls L0 hb
  have Gi := gl0 L0.out
  have Gr := gl1 L0.out
  have Nir : w.heap.size < w.heap.size + 1 := by omega
  clear hW hb
  refine (rmake_z (L1.out.get (A := A) (c := c) (xs := xs) (by simp)) (Nat.le_trans HL.out (by omega)) HZ.out).mono ?_
  rintro e w2 ⟨A2, c2, rfl, hd, hb⟩
  have L2 := la L1 hb hd
  have Ri_2 := co Ri_1 hb
  have Rr_2 := co Rr_1 hb
  clear hb hd
  go_upto_region 2 with fail
  obtain ⟨w3, hW, hb, Rx_3⟩ := new1 w2 (.cells #[.bool (decide (z < 0)), .slice A2 (digs z.natAbs).length c2] 24)
  rw [← hW]
  have L3 := ls L2 hb
  have Ri_3 := co Ri_2 hb
  have Rr_3 := co Rr_2 hb
  have Gx := gl0 L2.out
  have Nix := nl0 Ri_2.out
  have Nrx := nl0 Rr_2.out
  clear hW hb
  obtain ⟨fx0, zx0, fx1, zx1, xx⟩ := ly2 Rx_3.out
  obtain ⟨fr0, zr0, fr1, zr1, fr2, zr2, xr⟩ := ly3 Rr_3.out
  go_wp2
  refine bodyPost_ret (v := .agg #[.bool false, .slice none 0 0, .int .i64 0]) (by simp [results, Tryz.results93, go_sem, fx0, fx1, fr0, fr1, fr2]) rfl ?_
  exact zero_yr (fin3 L3.out Rr_3.out noint3 Gr).1
theorem rnorm_z {A : Option Addr} {c : Nat} {s : Bool} {xs : List Nat} {y z M E : Int} {w : World} (h : Dg w A c xs) (hl : xs.length ≤ 10000) (hz : sg s (val xs) = z) (hlz : (digs z.natAbs).length ≤ 10000) (y0 : -1000000 ≤ y) (y1 : y ≤ 1000000) (hM : nm z = M) (hE : nx z y = E) :
    Calls Tryz.prog 93 #[.agg #[.bool s, .slice A xs.length c], .int .i64 y] w fun e w' => Yr M E w e w' := by
  by_cases h0 : z = 0
  · subst hM hE; have := rnorm_0 A c s xs y z w h hl hz h0; rw [h0]; exact this
  · have hb := bl_bd hlz
    have hlt : tz z.natAbs < 2 * 320000 := by
      have := (blen_bd z.natAbs (by omega)).2.1
      have := tz_lt (by omega) this
      omega
    have e2 : nx z y = y + tz z.natAbs := by unfold nx; rw [if_neg h0]
    rw [← hM, ← hE, e2]
    exact rnorm_any A c s xs y z _ (tz z.natAbs) w h hl hz (fun e => h0 (by have := digs_nil.1 e; omega)) hlz (fun j hj => tz_lowb (by omega) hj) (tz_bit (by omega)) (by omega) (nm_sgz h0) y0 y1

set_option maxHeartbeats 4000000 in
set_option maxRecDepth 100000 in
theorem r5make_yes (A : Option Addr) (c : Nat) (s : Bool) (xs : List Nat) (y M E : Int) (w : World) (h : Dg w A c xs) (hl : xs.length ≤ 9000) (y0 : -100000 ≤ y) (y1 : y ≤ 100000) (hM : nm (sg s (val xs)) = M) (hE : nx (sg s (val xs)) y = E) (hq : inR M E = true):
    Calls Tryz.prog 67 #[.agg #[.bool s, .slice A xs.length c], .int .i64 y] w fun e w' => Yb M E true w e w' := by
  have HL := Lib.hid hl
  have HM := Lib.hid hM
  have HE := Lib.hid hE
  have HQ := Lib.hid hq
  have LM := Lib.hid (inr_len hq)
  have LZ := Lib.hid (show (digs (sg s (val xs)).natAbs).length ≤ 10000 by rw [sg_abs]; exact Nat.le_trans (digs_len_le h.2.1) (by omega))
  have d1 : decide (y < -100000) = false := decide_eq_false (by omega)
  have d2 : decide (100000 < y) = false := decide_eq_false (by omega)
  have Y := Lib.hid (show -1000000 ≤ y ∧ y ≤ 1000000 by omega)
  have L0 := Lib.hid ((live_start w).add h)
  clear h hl hM hE hq y0 y1
  go_enter Tryz.func67, Tryz.ntmps67
  go_wp2_with fail
  obtain ⟨v1, hW, hb, Ri_1, Rr_1⟩ := new2 w (.cells #[.bool s, .slice A xs.length c] 24) (.cells #[.bool false, .slice none 0 0, .int .i64 0] 26)
  rw [← hW]
  have L1 := ls L0 hb
  have Gi := gl0 L0.out
  have Gr := gl1 L0.out
  have Nir : w.heap.size < w.heap.size + 1 := by omega
  clear hW hb
  refine (rnorm_z (z := sg s (val xs)) (L1.out.get (A := A) (c := c) (xs := xs) (by simp)) (Nat.le_trans HL.out (by omega)) rfl LZ.out Y.out.1 Y.out.2 HM.out HE.out).mono ?_
  rintro e w2 ⟨A2, c2, rfl, hd, hb⟩
  have L2 := la L1 hb hd
  have Ri_2 := co Ri_1 hb
  have Rr_2 := co Rr_1 hb
  clear hb hd
  go_wp2_with fail
  obtain ⟨w3, hW, hb, Rx_3⟩ := new1 w2 (.cells #[.bool (decide (M < 0)), .slice A2 (digs M.natAbs).length c2, .int .i64 E] 26)
  rw [← hW]
  have L3 := ls L2 hb
  have Ri_3 := co Ri_2 hb
  have Rr_3 := co Rr_2 hb
  have Gx := gl0 L2.out
  have Nix := nl0 Ri_2.out
  have Nrx := nl0 Rr_2.out
  clear hW hb
  refine (r5inr_t (L3.out.get (A := A2) (c := c2) (xs := digs M.natAbs) (by simp)) LM.out HQ.out).mono ?_
  rintro e w4 ⟨rfl, hb⟩
  have L4 := ls L3 hb
  have Ri_4 := co Ri_3 hb
  have Rr_4 := co Rr_3 hb
  have Rx_4 := co Rx_3 hb
  clear hb 
  obtain ⟨fx0, zx0, fx1, zx1, fx2, zx2, xx⟩ := ly3 Rx_4.out
  obtain ⟨fr0, zr0, fr1, zr1, fr2, zr2, xr⟩ := ly3 Rr_4.out
  go_wp2
  refine bodyPost_ret (v := .tuple #[.agg #[.bool (decide (M < 0)), .slice A2 (digs M.natAbs).length c2, .int .i64 E], .bool true]) (by simp [results, Tryz.results67, go_sem, fx0, fx1, fx2, fr0, fr1, fr2]) rfl ?_
  
  refine ⟨A2, c2, rfl, ?_, ?_⟩
  · exact (fin3 L4.out Rr_4.out noint3 Gr).get (A := A2) (c := c2) (xs := digs M.natAbs) (by simp)
  · exact (fin3 L4.out Rr_4.out noint3 Gr).1
end Go.Proofs.YtijodbjdajddoaaGreatDoor
end

section
/-
  ref05: up.
-/
namespace Go.Proofs.YtijodbjdajddoaaGreatDoor
open Go.RowKit
set_option linter.unusedSimpArgs false
set_option linter.unusedVariables false
theorem rshl_z {A : Option Addr} {c v n : Nat} {w : World} (h : Dg w A c (digs v)) (hl : (digs v).length ≤ 1048576) (hn : n ≤ 100000) :
    Calls Tryz.prog 122 #[.slice A (digs v).length c, .int .i64 n] w fun e w' => ∃ A' c', e = .returned (.tuple #[.slice A' (digs (v * 2 ^ n)).length c', .bool true]) ∧ Dg w' A' c' (digs (v * 2 ^ n)) ∧ Below w.heap.size w w' := by
  have := rshl_any A c (digs v) n w h hl hn
  rwa [val_digs] at this
theorem len_pow {v n k : Nat} (h : (digs v).length ≤ k) : (digs (v * 2 ^ n)).length ≤ k + n / 32 + 2 := by
  have h1 : blen v ≤ 32 * k := by
    refine blen_le ?_
    have := val_lt (ok_digs v)
    rw [val_digs] at this
    refine Nat.lt_of_lt_of_le this ?_
    rw [show (4294967296 : Nat) = 2 ^ 32 from rfl, ← Nat.pow_mul]
    exact Nat.pow_le_pow_right (by omega) (by omega)
  have h2 := len_bl ((v * 2 ^ n : Nat) : Int)
  simp only [Int.natAbs_natCast] at h2
  have h3 : bl ((v * 2 ^ n : Nat) : Int) ≤ 32 * k + n := by
    unfold bl
    simp only [Int.natAbs_natCast]
    by_cases h0 : v = 0
    · rw [h0, Nat.zero_mul, blen_zero]; omega
    · rw [blen_up h0]; omega
  omega
theorem pow_step (v d k : Nat) : v * 2 ^ d * 2 ^ k = v * 2 ^ (d + k) := by rw [Nat.mul_assoc, ← Nat.pow_add]

set_option maxHeartbeats 4000000 in
set_option maxRecDepth 100000 in
theorem r5up_any (A : Option Addr) (c : Nat) (s : Bool) (v n : Nat) (z : Int) (w : World) (h : Dg w A c (digs v)) (hl : (digs v).length ≤ 100000) (hn : n ≤ 300000) (hz : sg s (v * 2 ^ n) = z):
    Calls Tryz.prog 99 #[.agg #[.bool s, .slice A (digs v).length c], .int .i64 n] w fun e w' => Zr z w e w' := by
  have HL := Lib.hid hl
  have HZ := Lib.hid hz
  have L0 := Lib.hid ((live_start w).add h)
  clear h hl hz
  go_enter Tryz.func99, Tryz.ntmps99
  go_wp2_with fail
  obtain ⟨v1, hW, hb, Ri_1, Rr_1⟩ := new2 w (.cells #[.bool s, .slice A (digs v).length c] 24) (.cells #[.bool false, .slice none 0 0] 24)
  rw [← hW]
  have L1 := ls L0 hb
  have Gi := gl0 L0.out
  have Gr := gl1 L0.out
  have Nir : w.heap.size < w.heap.size + 1 := by omega
  clear hW hb
  obtain ⟨fi0, zi0, fi1, zi1, xi⟩ := ly2 Ri_1.out
  have D0 := Lib.hid (show Dg v1 A c (digs (v * 2 ^ 0)) by rw [Nat.pow_zero, Nat.mul_one]; exact L1.out.get (A := A) (c := c) (xs := digs v) (by simp))
  have EL := Lib.hid (show (digs v).length = (digs (v * 2 ^ 0)).length by rw [Nat.pow_zero, Nat.mul_one])
  go_loopw [1, 5, 6] (fun nv mv kv wr => ∃ (d : Nat) (A1 : Option Addr) (c1 : Nat), d ≤ n ∧ nv = .int .i64 ((n : Int) - (d : Int)) ∧ mv = .slice A1 (digs (v * 2 ^ d)).length c1 ∧ Dg wr A1 c1 (digs (v * 2 ^ d)) ∧ Below v1.heap.size v1 wr) (fun nv _ _ _ => (intOf nv).toNat)
  case atStart => exact ⟨0, A, c, Nat.zero_le _, by simp, by rw [← EL.out], D0.out, Below.refl _ _⟩
  case round =>
    obtain ⟨d, A1, c1, hd, rfl, rfl, hD, hb⟩ := hrel
    have HD := Lib.hid hD
    have HB := Lib.hid hb
    clear hD hb
    obtain ⟨q, hq⟩ : ∃ q : Int, (n : Int) - (d : Int) = q := ⟨_, rfl⟩
    rw [hq]
    by_cases hlt : d < n
    · obtain ⟨k, hk⟩ : ∃ k : Nat, min (n - d) 100000 = k := ⟨_, rfl⟩
      have mk : min q 100000 = (k : Int) := by omega
      have mk2 : (if q < 100000 then q else 100000) = (k : Int) := by split <;> omega
      have mk3 : (if 100000 < q then 100000 else q) = (k : Int) := by split <;> omega
      have d1 : decide (0 < q) = true := decide_eq_true (by omega)
      have hk1 : k ≤ 100000 := by omega
      have LL := Lib.hid (show (digs (v * 2 ^ d)).length ≤ 1048576 by have := len_pow (n := d) HL.out; omega)
      have hq0 : 0 ≤ q ∧ q ≤ 300000 := by omega
      have wk : IntKind.i64.wrap (q - (k : Int)) = q - (k : Int) := IntWalk.i64_in _ (by omega)
      have HK := Lib.hid (show q = (n : Int) - (d : Int) ∧ d + k ≤ n ∧ 0 < k by omega)
      obtain ⟨q0, q1⟩ := hq0
      clear hk hq hlt hd hn
      go_wp2_with fail
      refine (rshl_z HD.out LL.out hk1).mono ?_
      rintro e w2 ⟨A2, c2, rfl, hd2, hb2⟩
      rw [pow_step] at hd2 ⊢
      have HD2 := Lib.hid hd2
      have HB2 := Lib.hid (HB.out.trans (hb2.mono HB.out.size))
      clear hd2 hb2
      go_wp2
      go_roundw
      case rel => exact ⟨d + k, A2, c2, HK.out.2.1, by rw [HK.out.1]; congr 1; all_goals omega, rfl, HD2.out, HB2.out⟩
      case measure => have := HK.out; simp [intOf]; omega
    · obtain rfl : d = n := by omega
      have d1 : decide (0 < q) = false := decide_eq_false (by omega)
      clear hq hlt hd
      have L9 := ls L1 HB.out
      have Rwi := co Ri_1 HB.out
      have Rwr := co Rr_1 HB.out
      have LL := Lib.hid (show (digs (v * 2 ^ d)).length ≤ 1000000 by have := len_pow (n := d) HL.out; omega)
      clear fi0 zi0 fi1 zi1 xi
      obtain ⟨fi0, zi0, fi1, zi1, xi⟩ := ly2 Rwi.out
      go_wp2_with fail
      refine (rmake_z (z := z) HD.out LL.out (by rw [val_digs]; exact HZ.out)).mono ?_
      rintro e w22 ⟨A22, c22, rfl, hd, hb⟩
      have L22 := la L9 hb hd
      clear fi0 zi0 fi1 zi1 xi
      have Ri_22 := co Rwi hb
      have Rr_22 := co Rwr hb
      clear hb hd
      obtain ⟨fr0, zr0, fr1, zr1, xr⟩ := ly2 Rr_22.out
      go_wp2
      refine bodyPost_ret (v := .agg #[.bool (decide (z < 0)), .slice A22 (digs z.natAbs).length c22]) (by simp [results, Tryz.results99, go_sem, fr0, fr1]) rfl ?_
      
      refine ⟨A22, c22, rfl, ?_, ?_⟩
      · exact (fin2 L22.out Rr_22.out noint_int Gr).get (A := A22) (c := c22) (xs := digs z.natAbs) (by simp)
      · exact (fin2 L22.out Rr_22.out noint_int Gr).1

theorem r5up_z {A : Option Addr} {c : Nat} {m q x e0 k : Int} {w : World} (h : Dg w A c (digs m.natAbs)) (hl : (digs m.natAbs).length ≤ 100000) (h0 : e0 ≤ x) (h1 : x - e0 ≤ 300000) (hk : x - e0 = k) (hq : upto m x e0 = q) :
    Calls Tryz.prog 99 #[.agg #[.bool (decide (m < 0)), .slice A (digs m.natAbs).length c], .int .i64 k] w fun e w' => Zr q w e w' := by
  have := r5up_any A c (decide (m < 0)) m.natAbs (x - e0).toNat q w h hl (by omega) (by
    rw [← hq]
    have h2 := upto_abs m x e0
    have h3 := upto_neg m x e0
    rw [← h2, ← h3]
    exact sg_dz' _)
  rw [show (((x - e0).toNat : Nat) : Int) = k by omega] at this
  exact this
end Go.Proofs.YtijodbjdajddoaaGreatDoor
end

section
/-
  ref05: lift.
-/
namespace Go.Proofs.YtijodbjdajddoaaGreatDoor
open Go.RowKit
set_option linter.unusedSimpArgs false
set_option linter.unusedVariables false
set_option maxHeartbeats 4000000 in
set_option maxRecDepth 100000 in
theorem r5lift_gt (A B : Option Addr) (c d : Nat) (m n x y : Int) (w : World) (h : Dg w A c (digs m.natAbs)) (h' : Dg w B d (digs n.natAbs)) (hl : (digs m.natAbs).length ≤ 10000) (hl' : (digs n.natAbs).length ≤ 10000) (x0 : -131072 ≤ x) (x1 : x ≤ 131072) (y0 : -131072 ≤ y) (y1 : y ≤ 131072) (m0 : m ≠ 0) (n0 : n ≠ 0) {p q e0 : Int} (he : min x y = e0) (hp : upto m x e0 = p) (hq : upto n y e0 = q) (hc : y < x):
    Calls Tryz.prog 72 #[.agg #[.bool (decide (m < 0)), .slice A (digs m.natAbs).length c, .int .i64 x], .agg #[.bool (decide (n < 0)), .slice B (digs n.natAbs).length d, .int .i64 y]] w fun e w' => Ybs p q e0 w e w' := by
  have t1 : ((((digs m.natAbs).length : Nat) : Int) == 0) = false := beq_eq_false_iff_ne.2 (fun e => m0 (by have := digs_nil.1 (show (digs m.natAbs).length = 0 by omega); omega))
  have t2 : ((((digs n.natAbs).length : Nat) : Int) == 0) = false := beq_eq_false_iff_ne.2 (fun e => n0 (by have := digs_nil.1 (show (digs n.natAbs).length = 0 by omega); omega))
  have d1 : decide (y < x) = true := by simp; omega
  obtain rfl : y = e0 := by omega
  obtain ⟨k, hk⟩ : ∃ k : Int, x - y = k := ⟨_, rfl⟩
  have wk : IntKind.i64.wrap (x - y) = k := by rw [IntWalk.i64_in _ (by omega)]; exact hk
  obtain rfl : n = q := by rw [← hq, upto_self]
  have HK := Lib.hid hk
  have HU := Lib.hid hp
  have lx := Lib.hid hl
  have ly := Lib.hid hl'
  have HC := Lib.hid (show y ≤ x ∧ x - y ≤ 300000 by omega)
  have L0 := Lib.hid (((live_start w).add h).add h')
  clear h h' hl hl' m0 n0 he hp hq hc hk
  go_enter Tryz.func72, Tryz.ntmps72
  go_wp2_with fail
  obtain ⟨v1, hW, hb, Rx_1, Ry_1, Ra_1, Rb_1⟩ := new4 w (.cells #[.bool (decide (m < 0)), .slice A (digs m.natAbs).length c, .int .i64 x] 26) (.cells #[.bool (decide (n < 0)), .slice B (digs n.natAbs).length d, .int .i64 y] 26) (.cells #[.bool false, .slice none 0 0] 24) (.cells #[.bool false, .slice none 0 0] 24)
  rw [← hW]
  have L1 := ls L0 hb
  have Gx := gl0 L0.out
  have Gy := gl1 L0.out
  have Nxy : w.heap.size < w.heap.size + 1 := by omega
  have Ga := gl2 L0.out
  have Nxa : w.heap.size < w.heap.size + 1 + 1 := by omega
  have Nya : w.heap.size + 1 < w.heap.size + 1 + 1 := by omega
  have Gb := gl3 L0.out
  have Nxb : w.heap.size < w.heap.size + 1 + 1 + 1 := by omega
  have Nyb : w.heap.size + 1 < w.heap.size + 1 + 1 + 1 := by omega
  have Nab : w.heap.size + 1 + 1 < w.heap.size + 1 + 1 + 1 := by omega
  clear hW hb
  obtain ⟨fx0, zx0, fx1, zx1, fx2, zx2, xx⟩ := ly3 Rx_1.out
  obtain ⟨fy0, zy0, fy1, zy1, fy2, zy2, xy⟩ := ly3 Ry_1.out
  go_upto_region 6 with fail
  clear fx0 zx0 fx1 zx1 fx2 zx2 xx fy0 zy0 fy1 zy1 fy2 zy2 xy
  obtain ⟨fx0, zx0, fx1, zx1, fx2, zx2, xx⟩ := ly3 Rx_1.out
  obtain ⟨fy0, zy0, fy1, zy1, fy2, zy2, xy⟩ := ly3 Ry_1.out
  have KD := Lib.hid (bd0 v1)
  have LD := ls L1 KD.out
  have Mxa : w.heap.size ≠ w.heap.size + 1 + 1 := by omega
  have Mxb : w.heap.size ≠ w.heap.size + 1 + 1 + 1 := by omega
  have Mya : w.heap.size + 1 ≠ w.heap.size + 1 + 1 := by omega
  have Myb : w.heap.size + 1 ≠ w.heap.size + 1 + 1 + 1 := by omega
  go_region_held3 (fun w' => (∀ o, w'.cell? ⟨w.heap.size, o, none⟩ = v1.cell? ⟨w.heap.size, o, none⟩) ∧ (∀ o, w'.cell? ⟨w.heap.size + 1, o, none⟩ = v1.cell? ⟨w.heap.size + 1, o, none⟩))
    (first | with_reducible exact ⟨keep_b KD.out xx, keep_b KD.out xy⟩ | with_reducible exact ⟨keep_b K3.out xx, keep_b K3.out xy⟩ | exact ⟨(keep_set (keep_b K3.out xx) Mxa), (keep_set (keep_b K3.out xy) Mya)⟩ | exact ⟨(keep_set (keep_set (keep_b K3.out xx) Mxa) Mxa), (keep_set (keep_set (keep_b K3.out xy) Mya) Mya)⟩ | exact ⟨(keep_set (keep_set (keep_set (keep_b K3.out xx) Mxa) Mxa) Mxb), (keep_set (keep_set (keep_set (keep_b K3.out xy) Mya) Mya) Myb)⟩ | exact ⟨(keep_set (keep_set (keep_set (keep_set (keep_b K3.out xx) Mxa) Mxa) Mxb) Mxb), (keep_set (keep_set (keep_set (keep_set (keep_b K3.out xy) Mya) Mya) Myb) Myb)⟩)
    (first
      | (go_at_call 99; (with_reducible refine (r5up_z (LD.out.get (A := A) (c := c) (xs := digs m.natAbs) (by simp)) (Nat.le_trans lx.out (by omega)) HC.out.1 HC.out.2 HK.out HU.out).mono ?_); rintro e w3 ⟨A3, c3, rfl, hd, hb⟩; (have K3 := bt KD hb); (have L3 := la LD hb hd); (have qa0_K3 := row_c (i := 0) (co Ra_1 K3.out).out rfl); (have pa0_K3 := frozen_of_row _ _ 0 _ _ (cells_of Ra_1.out K3.out)); (have qa1_K3 := row_c (i := 1) (co Ra_1 K3.out).out rfl); (have pa1_K3 := frozen_of_row _ _ 1 _ _ (cells_of Ra_1.out K3.out)); (have qb0_K3 := row_c (i := 0) (co Rb_1 K3.out).out rfl); (have pb0_K3 := frozen_of_row _ _ 0 _ _ (cells_of Rb_1.out K3.out)); (have qb1_K3 := row_c (i := 1) (co Rb_1 K3.out).out rfl); (have pb1_K3 := frozen_of_row _ _ 1 _ _ (cells_of Rb_1.out K3.out)); clear hb hd))
  rename_i hHeld
  clear hHeld
  clear fx0 zx0 fx1 zx1 fx2 zx2 xx fy0 zy0 fy1 zy1 fy2 zy2 xy
  have Rx_3 := co Rx_1 K3.out
  have Ry_3 := co Ry_1 K3.out
  have Ra_3 := co Ra_1 K3.out
  have Rb_3 := co Rb_1 K3.out
  clear wk
  -- the end
  obtain ⟨w4, hW⟩ : ∃ W : World, W = ((w3.setCell ⟨w.heap.size + 1 + 1, 0, none⟩ (.bool (decide (p < 0)))).setCell ⟨w.heap.size + 1 + 1, 1, none⟩ (.slice A3 (digs p.natAbs).length c3)) := ⟨_, rfl⟩
  rw [← hW]
  have hO : Only (w.heap.size + 1 + 1) w3 w4 := by rw [hW]; exact (((Only.refl (w.heap.size + 1 + 1) w3).setCell 0 _).setCell 1 _)
  have L4 := Lib.hid (live_only L3.out hO Ra_3.out noint_int Ga)
  have Rx_4 := Lib.hid ((hO.block _ (by omega)).trans Rx_3.out)
  have Ry_4 := Lib.hid ((hO.block _ (by omega)).trans Ry_3.out)
  have Rb_4 := Lib.hid ((hO.block _ (by omega)).trans Rb_3.out)
  have Ra_4 := Lib.hid (show w4.heap[w.heap.size + 1 + 1]? = some (.cells #[.bool (decide (p < 0)), .slice A3 (digs p.natAbs).length c3] 24 (0, 0)) by rw [hW]; exact (heap_setCell_same _ _ 1 _ _ _ (heap_setCell_same _ _ 0 _ _ _ Ra_3.out)))
  clear hW hO
  obtain ⟨w5, hW⟩ : ∃ W : World, W = ((w4.setCell ⟨w.heap.size + 1 + 1 + 1, 0, none⟩ (.bool (decide (n < 0)))).setCell ⟨w.heap.size + 1 + 1 + 1, 1, none⟩ (.slice B (digs n.natAbs).length d)) := ⟨_, rfl⟩
  rw [← hW]
  have hO : Only (w.heap.size + 1 + 1 + 1) w4 w5 := by rw [hW]; exact (((Only.refl (w.heap.size + 1 + 1 + 1) w4).setCell 0 _).setCell 1 _)
  have L5 := Lib.hid (live_only L4.out hO Rb_4.out noint_int Gb)
  have Rx_5 := Lib.hid ((hO.block _ (by omega)).trans Rx_4.out)
  have Ry_5 := Lib.hid ((hO.block _ (by omega)).trans Ry_4.out)
  have Ra_5 := Lib.hid ((hO.block _ (by omega)).trans Ra_4.out)
  have Rb_5 := Lib.hid (show w5.heap[w.heap.size + 1 + 1 + 1]? = some (.cells #[.bool (decide (n < 0)), .slice B (digs n.natAbs).length d] 24 (0, 0)) by rw [hW]; exact (heap_setCell_same _ _ 1 _ _ _ (heap_setCell_same _ _ 0 _ _ _ Rb_4.out)))
  clear hW hO
  obtain ⟨fa0, za0, fa1, za1, xa⟩ := ly2 Ra_5.out
  obtain ⟨fb0, zb0, fb1, zb1, xb⟩ := ly2 Rb_5.out
  go_wp2
  refine bodyPost_ret (v := .tuple #[.agg #[.bool (decide (p < 0)), .slice A3 (digs p.natAbs).length c3], .agg #[.bool (decide (n < 0)), .slice B (digs n.natAbs).length d], .int .i64 y]) (by simp [results, Tryz.results72, go_sem, fa0, fa1, fb0, fb1]) rfl ?_
  refine ⟨A3, c3, B, d, rfl, L5.out.get (A := A3) (c := c3) (xs := digs p.natAbs) (by simp), L5.out.get (A := B) (c := d) (xs := digs n.natAbs) (by simp), L5.out.1⟩

set_option maxHeartbeats 4000000 in
set_option maxRecDepth 100000 in
theorem r5lift_le (A B : Option Addr) (c d : Nat) (m n x y : Int) (w : World) (h : Dg w A c (digs m.natAbs)) (h' : Dg w B d (digs n.natAbs)) (hl : (digs m.natAbs).length ≤ 10000) (hl' : (digs n.natAbs).length ≤ 10000) (x0 : -131072 ≤ x) (x1 : x ≤ 131072) (y0 : -131072 ≤ y) (y1 : y ≤ 131072) (m0 : m ≠ 0) (n0 : n ≠ 0) {p q e0 : Int} (he : min x y = e0) (hp : upto m x e0 = p) (hq : upto n y e0 = q) (hc : x ≤ y):
    Calls Tryz.prog 72 #[.agg #[.bool (decide (m < 0)), .slice A (digs m.natAbs).length c, .int .i64 x], .agg #[.bool (decide (n < 0)), .slice B (digs n.natAbs).length d, .int .i64 y]] w fun e w' => Ybs p q e0 w e w' := by
  have t1 : ((((digs m.natAbs).length : Nat) : Int) == 0) = false := beq_eq_false_iff_ne.2 (fun e => m0 (by have := digs_nil.1 (show (digs m.natAbs).length = 0 by omega); omega))
  have t2 : ((((digs n.natAbs).length : Nat) : Int) == 0) = false := beq_eq_false_iff_ne.2 (fun e => n0 (by have := digs_nil.1 (show (digs n.natAbs).length = 0 by omega); omega))
  have d1 : decide (y < x) = false := by simp; omega
  obtain rfl : x = e0 := by omega
  obtain ⟨k, hk⟩ : ∃ k : Int, y - x = k := ⟨_, rfl⟩
  have wk : IntKind.i64.wrap (y - x) = k := by rw [IntWalk.i64_in _ (by omega)]; exact hk
  obtain rfl : m = p := by rw [← hp, upto_self]
  have HK := Lib.hid hk
  have HU := Lib.hid hq
  have lx := Lib.hid hl
  have ly := Lib.hid hl'
  have HC := Lib.hid (show x ≤ y ∧ y - x ≤ 300000 by omega)
  have L0 := Lib.hid (((live_start w).add h).add h')
  clear h h' hl hl' m0 n0 he hp hq hc hk
  go_enter Tryz.func72, Tryz.ntmps72
  go_wp2_with fail
  obtain ⟨v1, hW, hb, Rx_1, Ry_1, Ra_1, Rb_1⟩ := new4 w (.cells #[.bool (decide (m < 0)), .slice A (digs m.natAbs).length c, .int .i64 x] 26) (.cells #[.bool (decide (n < 0)), .slice B (digs n.natAbs).length d, .int .i64 y] 26) (.cells #[.bool false, .slice none 0 0] 24) (.cells #[.bool false, .slice none 0 0] 24)
  rw [← hW]
  have L1 := ls L0 hb
  have Gx := gl0 L0.out
  have Gy := gl1 L0.out
  have Nxy : w.heap.size < w.heap.size + 1 := by omega
  have Ga := gl2 L0.out
  have Nxa : w.heap.size < w.heap.size + 1 + 1 := by omega
  have Nya : w.heap.size + 1 < w.heap.size + 1 + 1 := by omega
  have Gb := gl3 L0.out
  have Nxb : w.heap.size < w.heap.size + 1 + 1 + 1 := by omega
  have Nyb : w.heap.size + 1 < w.heap.size + 1 + 1 + 1 := by omega
  have Nab : w.heap.size + 1 + 1 < w.heap.size + 1 + 1 + 1 := by omega
  clear hW hb
  obtain ⟨fx0, zx0, fx1, zx1, fx2, zx2, xx⟩ := ly3 Rx_1.out
  obtain ⟨fy0, zy0, fy1, zy1, fy2, zy2, xy⟩ := ly3 Ry_1.out
  go_upto_region 7 with fail
  clear fx0 zx0 fx1 zx1 fx2 zx2 xx fy0 zy0 fy1 zy1 fy2 zy2 xy
  obtain ⟨fx0, zx0, fx1, zx1, fx2, zx2, xx⟩ := ly3 Rx_1.out
  obtain ⟨fy0, zy0, fy1, zy1, fy2, zy2, xy⟩ := ly3 Ry_1.out
  have KD := Lib.hid (bd0 v1)
  have LD := ls L1 KD.out
  have Mxa : w.heap.size ≠ w.heap.size + 1 + 1 := by omega
  have Mxb : w.heap.size ≠ w.heap.size + 1 + 1 + 1 := by omega
  have Mya : w.heap.size + 1 ≠ w.heap.size + 1 + 1 := by omega
  have Myb : w.heap.size + 1 ≠ w.heap.size + 1 + 1 + 1 := by omega
  go_region_held3 (fun w' => (∀ o, w'.cell? ⟨w.heap.size, o, none⟩ = v1.cell? ⟨w.heap.size, o, none⟩) ∧ (∀ o, w'.cell? ⟨w.heap.size + 1, o, none⟩ = v1.cell? ⟨w.heap.size + 1, o, none⟩))
    (first | with_reducible exact ⟨keep_b KD.out xx, keep_b KD.out xy⟩ | with_reducible exact ⟨keep_b K3.out xx, keep_b K3.out xy⟩ | exact ⟨(keep_set (keep_b K3.out xx) Mxa), (keep_set (keep_b K3.out xy) Mya)⟩ | exact ⟨(keep_set (keep_set (keep_b K3.out xx) Mxa) Mxa), (keep_set (keep_set (keep_b K3.out xy) Mya) Mya)⟩ | exact ⟨(keep_set (keep_set (keep_set (keep_b K3.out xx) Mxa) Mxa) Mxb), (keep_set (keep_set (keep_set (keep_b K3.out xy) Mya) Mya) Myb)⟩ | exact ⟨(keep_set (keep_set (keep_set (keep_set (keep_b K3.out xx) Mxa) Mxa) Mxb) Mxb), (keep_set (keep_set (keep_set (keep_set (keep_b K3.out xy) Mya) Mya) Myb) Myb)⟩)
    (first
      | (go_at_call 99; (with_reducible refine (r5up_z (LD.out.get (A := B) (c := d) (xs := digs n.natAbs) (by simp)) (Nat.le_trans ly.out (by omega)) HC.out.1 HC.out.2 HK.out HU.out).mono ?_); rintro e w3 ⟨A3, c3, rfl, hd, hb⟩; (have K3 := bt KD hb); (have L3 := la LD hb hd); (have qa0_K3 := row_c (i := 0) (co Ra_1 K3.out).out rfl); (have pa0_K3 := frozen_of_row _ _ 0 _ _ (cells_of Ra_1.out K3.out)); (have qa1_K3 := row_c (i := 1) (co Ra_1 K3.out).out rfl); (have pa1_K3 := frozen_of_row _ _ 1 _ _ (cells_of Ra_1.out K3.out)); (have qb0_K3 := row_c (i := 0) (co Rb_1 K3.out).out rfl); (have pb0_K3 := frozen_of_row _ _ 0 _ _ (cells_of Rb_1.out K3.out)); (have qb1_K3 := row_c (i := 1) (co Rb_1 K3.out).out rfl); (have pb1_K3 := frozen_of_row _ _ 1 _ _ (cells_of Rb_1.out K3.out)); clear hb hd))
  rename_i hHeld
  clear hHeld
  clear fx0 zx0 fx1 zx1 fx2 zx2 xx fy0 zy0 fy1 zy1 fy2 zy2 xy
  have Rx_3 := co Rx_1 K3.out
  have Ry_3 := co Ry_1 K3.out
  have Ra_3 := co Ra_1 K3.out
  have Rb_3 := co Rb_1 K3.out
  clear wk
  -- the end
  obtain ⟨w4, hW⟩ : ∃ W : World, W = ((w3.setCell ⟨w.heap.size + 1 + 1, 0, none⟩ (.bool (decide (m < 0)))).setCell ⟨w.heap.size + 1 + 1, 1, none⟩ (.slice A (digs m.natAbs).length c)) := ⟨_, rfl⟩
  rw [← hW]
  have hO : Only (w.heap.size + 1 + 1) w3 w4 := by rw [hW]; exact (((Only.refl (w.heap.size + 1 + 1) w3).setCell 0 _).setCell 1 _)
  have L4 := Lib.hid (live_only L3.out hO Ra_3.out noint_int Ga)
  have Rx_4 := Lib.hid ((hO.block _ (by omega)).trans Rx_3.out)
  have Ry_4 := Lib.hid ((hO.block _ (by omega)).trans Ry_3.out)
  have Rb_4 := Lib.hid ((hO.block _ (by omega)).trans Rb_3.out)
  have Ra_4 := Lib.hid (show w4.heap[w.heap.size + 1 + 1]? = some (.cells #[.bool (decide (m < 0)), .slice A (digs m.natAbs).length c] 24 (0, 0)) by rw [hW]; exact (heap_setCell_same _ _ 1 _ _ _ (heap_setCell_same _ _ 0 _ _ _ Ra_3.out)))
  clear hW hO
  obtain ⟨w5, hW⟩ : ∃ W : World, W = ((w4.setCell ⟨w.heap.size + 1 + 1 + 1, 0, none⟩ (.bool (decide (q < 0)))).setCell ⟨w.heap.size + 1 + 1 + 1, 1, none⟩ (.slice A3 (digs q.natAbs).length c3)) := ⟨_, rfl⟩
  rw [← hW]
  have hO : Only (w.heap.size + 1 + 1 + 1) w4 w5 := by rw [hW]; exact (((Only.refl (w.heap.size + 1 + 1 + 1) w4).setCell 0 _).setCell 1 _)
  have L5 := Lib.hid (live_only L4.out hO Rb_4.out noint_int Gb)
  have Rx_5 := Lib.hid ((hO.block _ (by omega)).trans Rx_4.out)
  have Ry_5 := Lib.hid ((hO.block _ (by omega)).trans Ry_4.out)
  have Ra_5 := Lib.hid ((hO.block _ (by omega)).trans Ra_4.out)
  have Rb_5 := Lib.hid (show w5.heap[w.heap.size + 1 + 1 + 1]? = some (.cells #[.bool (decide (q < 0)), .slice A3 (digs q.natAbs).length c3] 24 (0, 0)) by rw [hW]; exact (heap_setCell_same _ _ 1 _ _ _ (heap_setCell_same _ _ 0 _ _ _ Rb_4.out)))
  clear hW hO
  obtain ⟨fa0, za0, fa1, za1, xa⟩ := ly2 Ra_5.out
  obtain ⟨fb0, zb0, fb1, zb1, xb⟩ := ly2 Rb_5.out
  go_wp2
  refine bodyPost_ret (v := .tuple #[.agg #[.bool (decide (m < 0)), .slice A (digs m.natAbs).length c], .agg #[.bool (decide (q < 0)), .slice A3 (digs q.natAbs).length c3], .int .i64 x]) (by simp [results, Tryz.results72, go_sem, fa0, fa1, fb0, fb1]) rfl ?_
  refine ⟨A, c, A3, c3, rfl, L5.out.get (A := A) (c := c) (xs := digs m.natAbs) (by simp), L5.out.get (A := A3) (c := c3) (xs := digs q.natAbs) (by simp), L5.out.1⟩
end Go.Proofs.YtijodbjdajddoaaGreatDoor
end

section
/-
  astrolaberef04's Small, Cmp.
-/
namespace Go.Proofs.YtijodbjdajddoaaGreatDoor
open Go.RowKit
theorem cmp_mag {x y : Int} (h : decide (x < 0) = decide (y < 0)) : cmpi x.natAbs y.natAbs = (if x < 0 then -Int.sign (x - y) else Int.sign (x - y)) := by
  have h1 := sign_three (x - y)
  have h2 := cmpi_three x.natAbs y.natAbs
  rw [decide_eq_decide] at h
  split <;> omega
set_option maxHeartbeats 2000000 in
set_option maxRecDepth 100000 in
theorem rzcmp_any (A B : Option Addr) (c d : Nat) (s r : Bool) (xs ys : List Nat) (w : World) (h : Dg w A c xs) (h' : Dg w B d ys) (hl : xs.length ≤ 1000000) (hl' : ys.length ≤ 1000000) :
    Calls Tryz.prog 70 #[.agg #[.bool s, .slice A xs.length c], .agg #[.bool r, .slice B ys.length d]] w fun e w' => e = .returned (.int .i64 (Int.sign (sg s (val xs) - sg r (val ys)))) ∧ Below w.heap.size w w' := by
  have l1 := digs_len_le h.2.1
  have l2 := digs_len_le h'.2.1
  have MA := Lib.hid (fun W h => rmake_any A c s xs W h hl)
  have MB := Lib.hid (fun W h => rmake_any B d r ys W h hl')
  have a1 := sg_abs s (val xs)
  have a2 := sg_abs r (val ys)
  generalize sg s (val xs) = x at *
  generalize sg r (val ys) = y at *
  rw [← a1] at l1
  rw [← a2] at l2
  clear a1 a2
  simp only [Zr] at MA MB
  obtain ⟨p, hp⟩ : ∃ p, decide (x < 0) = p := ⟨_, rfl⟩
  obtain ⟨q, hq⟩ : ∃ q, decide (y < 0) = q := ⟨_, rfl⟩
  rw [hp] at MA
  rw [hq] at MB
  have key : (p = true ∧ q = false ∧ (-1 : Int) = Int.sign (x - y)) ∨ (p = false ∧ q = true ∧ (1 : Int) = Int.sign (x - y)) ∨ (p = true ∧ q = true ∧ cmpi y.natAbs x.natAbs = Int.sign (x - y)) ∨ (p = false ∧ q = false ∧ cmpi x.natAbs y.natAbs = Int.sign (x - y)) := by
    have h1 := sign_three (x - y)
    have h2 := cmpi_three x.natAbs y.natAbs
    have h3 := cmpi_three y.natAbs x.natAbs
    cases p <;> cases q <;> simp only [decide_eq_true_eq, decide_eq_false_iff_not] at hp hq <;> simp <;> omega
  have KEY := Lib.hid key
  clear hp hq key
  have KEY2 := KEY.out
  rcases KEY2 with ⟨rfl, rfl, e0⟩ | ⟨rfl, rfl, e0⟩ | ⟨rfl, rfl, e0⟩ | ⟨rfl, rfl, e0⟩
  · have E0 := Lib.hid e0
    clear e0
    go_enter Tryz.func70, Tryz.ntmps70
    go_wp2_with fail
    refine (MA.out _ (h.below (below2 _ _ _))).mono ?_
    rintro e w1 ⟨A1, c1, rfl, hd, hb⟩
    have K1 := Lib.hid hb
    have G1 := Lib.hid hd
    have H2 := Lib.hid ((h'.below (below2 w (.cells #[.bool s, .slice A xs.length c] 24) (.cells #[.bool r, .slice B ys.length d] 24))).below hb)
    obtain ⟨hc1, hf1⟩ := bcell hb
    have z1 : w.heap.size + 1 < w1.heap.size := by have := hb.size; simp at this; omega
    clear hb hd h h'
    go_wp2_with fail
    refine (MB.out _ (H2.out.below (below1 _ _))).mono ?_
    rintro e w2 ⟨A2, c2, rfl, hd, hb⟩
    have K2 := Lib.hid (K1.out.trans (((below1 _ _).trans (hb.mono (by simp))).mono K1.out.size))
    have G2 := Lib.hid hd
    have G3 := Lib.hid ((G1.out.below (below1 w1 (.cells #[.bool true, .slice A1 (digs x.natAbs).length c1] 24))).below hb)
    obtain ⟨hc2, hf2⟩ := bcell hb
    have z2 : w1.heap.size < w2.heap.size := by have := hb.size; simp at this; omega
    clear hb hd
    go_wp2
    go_ret
    exact ⟨ret_i E0.out, ((below2 w _ _).trans (K2.out.mono (by simp; omega))).alloc (by have := K2.out.size; simp at this; omega) _⟩
  · have E0 := Lib.hid e0
    clear e0
    go_enter Tryz.func70, Tryz.ntmps70
    go_wp2_with fail
    refine (MA.out _ (h.below (below2 _ _ _))).mono ?_
    rintro e w1 ⟨A1, c1, rfl, hd, hb⟩
    have K1 := Lib.hid hb
    have G1 := Lib.hid hd
    have H2 := Lib.hid ((h'.below (below2 w (.cells #[.bool s, .slice A xs.length c] 24) (.cells #[.bool r, .slice B ys.length d] 24))).below hb)
    obtain ⟨hc1, hf1⟩ := bcell hb
    have z1 : w.heap.size + 1 < w1.heap.size := by have := hb.size; simp at this; omega
    clear hb hd h h'
    go_wp2_with fail
    refine (MB.out _ (H2.out.below (below1 _ _))).mono ?_
    rintro e w2 ⟨A2, c2, rfl, hd, hb⟩
    have K2 := Lib.hid (K1.out.trans (((below1 _ _).trans (hb.mono (by simp))).mono K1.out.size))
    have G2 := Lib.hid hd
    have G3 := Lib.hid ((G1.out.below (below1 w1 (.cells #[.bool false, .slice A1 (digs x.natAbs).length c1] 24))).below hb)
    obtain ⟨hc2, hf2⟩ := bcell hb
    have z2 : w1.heap.size < w2.heap.size := by have := hb.size; simp at this; omega
    clear hb hd
    go_wp2
    go_ret
    exact ⟨ret_i E0.out, ((below2 w _ _).trans (K2.out.mono (by simp; omega))).alloc (by have := K2.out.size; simp at this; omega) _⟩
  · have E0 := Lib.hid e0
    clear e0
    go_enter Tryz.func70, Tryz.ntmps70
    go_wp2_with fail
    refine (MA.out _ (h.below (below2 _ _ _))).mono ?_
    rintro e w1 ⟨A1, c1, rfl, hd, hb⟩
    have K1 := Lib.hid hb
    have G1 := Lib.hid hd
    have H2 := Lib.hid ((h'.below (below2 w (.cells #[.bool s, .slice A xs.length c] 24) (.cells #[.bool r, .slice B ys.length d] 24))).below hb)
    obtain ⟨hc1, hf1⟩ := bcell hb
    have z1 : w.heap.size + 1 < w1.heap.size := by have := hb.size; simp at this; omega
    clear hb hd h h'
    go_wp2_with fail
    refine (MB.out _ (H2.out.below (below1 _ _))).mono ?_
    rintro e w2 ⟨A2, c2, rfl, hd, hb⟩
    have K2 := Lib.hid (K1.out.trans (((below1 _ _).trans (hb.mono (by simp))).mono K1.out.size))
    have G2 := Lib.hid hd
    have G3 := Lib.hid ((G1.out.below (below1 w1 (.cells #[.bool true, .slice A1 (digs x.natAbs).length c1] 24))).below hb)
    obtain ⟨hc2, hf2⟩ := bcell hb
    have z2 : w1.heap.size < w2.heap.size := by have := hb.size; simp at this; omega
    clear hb hd
    go_wp2_with fail
    refine (rcmp_any A2 A1 c2 c1 (digs y.natAbs) (digs x.natAbs) _ (G2.out.below (below1 _ _)) (G3.out.below (below1 _ _)) (by omega) (by omega)).mono ?_
    rintro e w3 ⟨rfl, rfl⟩
    go_wp2
    go_ret
    exact ⟨ret_i (by rw [val_digs, val_digs]; exact E0.out), ((below2 w _ _).trans (K2.out.mono (by simp; omega))).alloc (by have := K2.out.size; simp at this; omega) _⟩
  · have E0 := Lib.hid e0
    clear e0
    go_enter Tryz.func70, Tryz.ntmps70
    go_wp2_with fail
    refine (MA.out _ (h.below (below2 _ _ _))).mono ?_
    rintro e w1 ⟨A1, c1, rfl, hd, hb⟩
    have K1 := Lib.hid hb
    have G1 := Lib.hid hd
    have H2 := Lib.hid ((h'.below (below2 w (.cells #[.bool s, .slice A xs.length c] 24) (.cells #[.bool r, .slice B ys.length d] 24))).below hb)
    obtain ⟨hc1, hf1⟩ := bcell hb
    have z1 : w.heap.size + 1 < w1.heap.size := by have := hb.size; simp at this; omega
    clear hb hd h h'
    go_wp2_with fail
    refine (MB.out _ (H2.out.below (below1 _ _))).mono ?_
    rintro e w2 ⟨A2, c2, rfl, hd, hb⟩
    have K2 := Lib.hid (K1.out.trans (((below1 _ _).trans (hb.mono (by simp))).mono K1.out.size))
    have G2 := Lib.hid hd
    have G3 := Lib.hid ((G1.out.below (below1 w1 (.cells #[.bool false, .slice A1 (digs x.natAbs).length c1] 24))).below hb)
    obtain ⟨hc2, hf2⟩ := bcell hb
    have z2 : w1.heap.size < w2.heap.size := by have := hb.size; simp at this; omega
    clear hb hd
    go_wp2_with fail
    refine (rcmp_any A1 A2 c1 c2 (digs x.natAbs) (digs y.natAbs) _ (G3.out.below (below1 _ _)) (G2.out.below (below1 _ _)) (by omega) (by omega)).mono ?_
    rintro e w3 ⟨rfl, rfl⟩
    go_wp2
    go_ret
    exact ⟨ret_i (by rw [val_digs, val_digs]; exact E0.out), ((below2 w _ _).trans (K2.out.mono (by simp; omega))).alloc (by have := K2.out.size; simp at this; omega) _⟩
end Go.Proofs.YtijodbjdajddoaaGreatDoor
end
