import Derived.Test.YtdmfapgclppmhaaGreatDoorMB5
import Derived.Test.YtdmfapgclppmhaaGreatDoorMB2
import Derived.Test.YtdmfapgclppmhaaGreatDoorMB0
import Derived.Lib.ConvBytes
import Derived.Test.YtdmfapgclppmhaaGreatDoorMB4
import Derived.Deep.AppendLies
import Derived.Test.YtdmfapgclppmhaaGreatDoorMB1
set_option maxHeartbeats 16000000
set_option maxRecDepth 100000
section
namespace Go.Proofs.YtdmfapgclppmhaaGreatDoor
open Go.RowKit
theorem nx_bdU {z y : Int} (h : (digs z.natAbs).length ≤ 100000) (y0 : -1000000 ≤ y) (y1 : y ≤ 1000000) : -10000000 ≤ nx z y ∧ nx z y ≤ 10000000 := by
  by_cases h0 : z = 0
  · unfold nx; rw [if_pos h0]; omega
  · have hb := bl_bd h
    have hlt : tz z.natAbs < 2 * 3200000 := by
      have := (blen_bd z.natAbs (by omega)).2.1
      have := tz_lt (by omega) this
      omega
    have e2 : nx z y = y + tz z.natAbs := by unfold nx; rw [if_neg h0]
    omega
theorem rzadd_j {A B : Option Addr} {c d : Nat} {p q z : Int} {w : World} (h : Dg w A c (digs p.natAbs)) (h' : Dg w B d (digs q.natAbs)) (hl : (digs p.natAbs).length ≤ 100000) (hl' : (digs q.natAbs).length ≤ 100000) (hz : p + q = z) :
    Calls Tryz.prog 50 #[.agg #[.bool (decide (p < 0)), .slice A (digs p.natAbs).length c], .agg #[.bool (decide (q < 0)), .slice B (digs q.natAbs).length d]] w fun e w' => Zr z w e w' := by
  have := rzadd_any A B c d (decide (p < 0)) (decide (q < 0)) _ _ w h h' (by omega) (by omega)
  rw [sg_of _ rfl, sg_of _ rfl, hz] at this; exact this
theorem rnorm_j {A : Option Addr} {c : Nat} {z y M E : Int} {w : World} (h : Dg w A c (digs z.natAbs)) (hl : (digs z.natAbs).length ≤ 100000) (y0 : -1000000 ≤ y) (y1 : y ≤ 1000000) (hM : nm z = M) (hE : nx z y = E) :
    Calls Tryz.prog 49 #[.agg #[.bool (decide (z < 0)), .slice A (digs z.natAbs).length c], .int .i64 y] w fun e w' => Yr M E w e w' :=
  rnorm_z h hl (sg_of _ rfl) hl y0 y1 hM hE
theorem r5add_b_ (A B : Option Addr) (c d : Nat) (m n x y : Int) (p q e0 z M E : Int) (w : World) (h : Dg w A c (digs m.natAbs)) (h' : Dg w B d (digs n.natAbs)) (hl : (digs m.natAbs).length ≤ 10000) (hl' : (digs n.natAbs).length ≤ 10000) (r1 : Rt m x) (r2 : Rt n y) (hf : ∀ W, Dg W A c (digs m.natAbs) → Dg W B d (digs n.natAbs) → Calls Tryz.prog 47 #[.agg #[.bool (decide (m < 0)), .slice A (digs m.natAbs).length c, .int .i64 x], .agg #[.bool (decide (n < 0)), .slice B (digs n.natAbs).length d, .int .i64 y]] W (Ybs p q e0 W)) (lp : (digs p.natAbs).length ≤ 20000) (lq : (digs q.natAbs).length ≤ 20000) (hz : p + q = z) (lz : (digs z.natAbs).length ≤ 50000) (e00 : -1000000 ≤ e0) (e01 : e0 ≤ 1000000) (hM : nm z = M) (hE : nx z e0 = E) {K F V : Int} (hq : tot M E = (K, F, V)):
    Calls Tryz.prog 23 #[.agg #[.bool (decide (m < 0)), .slice A (digs m.natAbs).length c, .int .i64 x], .agg #[.bool (decide (n < 0)), .slice B (digs n.natAbs).length d, .int .i64 y]] w fun e w' => Ye K F V w e w' := by
  have HR1 := qH r1
  have HR2 := qH r2
  have lx := qH hl
  have ly := qH hl'
  have HQ := qH hq
  have HF := qH hf
  have LP := qH lp
  have LQ := qH lq
  have HZ := qH hz
  have LZ := qH lz
  have E0 := qH (And.intro e00 e01)
  have HM := qH hM
  have HE := qH hE
  have BE := nx_bdU (z := z) (y := e0) (by omega) e00 e01
  rw [hE] at BE
  have BE := qH BE
  have LM := nm_len z
  rw [hM] at LM
  have LM := qH (Nat.le_trans LM lz)
  have L0 := qH (((live_start w).add h).add h')
  clear h h' hl hl' r1 r2 hf lp lq hz lz e00 e01 hM hE hq
  go_enter Tryz.func23, Tryz.ntmps23
  go_wp2_with fail
  obtain ⟨v1, hW, hb, Rx_1, Ry_1, Rr_1⟩ := new3 w (.cells #[.bool (decide (m < 0)), .slice A (digs m.natAbs).length c, .int .i64 x] 26) (.cells #[.bool (decide (n < 0)), .slice B (digs n.natAbs).length d, .int .i64 y] 26) (.cells #[.bool false, .slice none 0 0, .int .i64 0] 26)
  rw [← hW]
  have L1 := ls L0 hb
  have Gx := gl0 L0.out
  have Gy := gl1 L0.out
  have Nxy : w.heap.size < w.heap.size + 1 := by omega
  have Gr := gl2 L0.out
  have Nxr : w.heap.size < w.heap.size + 1 + 1 := by omega
  have Nyr : w.heap.size + 1 < w.heap.size + 1 + 1 := by omega
  clear hW hb
  refine (r5right_t (L1.out.get (A := A) (c := c) (xs := digs m.natAbs) (by simp)) lx.out HR1.out).mono ?_
  rintro e w2 ⟨rfl, hb⟩
  have L2 := ls L1 hb
  have Rx_2 := co Rx_1 hb
  have Ry_2 := co Ry_1 hb
  have Rr_2 := co Rr_1 hb
  clear hb 
  obtain ⟨fy0, zy0, fy1, zy1, fy2, zy2, xy⟩ := ly3 Ry_2.out
  go_wp2_with fail
  refine (r5right_t (L2.out.get (A := B) (c := d) (xs := digs n.natAbs) (by simp)) ly.out HR2.out).mono ?_
  rintro e w3 ⟨rfl, hb⟩
  have L3 := ls L2 hb
  clear fy0 zy0 fy1 zy1 fy2 zy2 xy
  have Rx_3 := co Rx_2 hb
  have Ry_3 := co Ry_2 hb
  have Rr_3 := co Rr_2 hb
  clear hb 
  obtain ⟨fx0, zx0, fx1, zx1, fx2, zx2, xx⟩ := ly3 Rx_3.out
  obtain ⟨fy0, zy0, fy1, zy1, fy2, zy2, xy⟩ := ly3 Ry_3.out
  go_wp2_with fail
  refine (HF.out _ (L3.out.get (A := A) (c := c) (xs := digs m.natAbs) (by simp)) (L3.out.get (A := B) (c := d) (xs := digs n.natAbs) (by simp))).mono ?_
  rintro e w4 ⟨A4, c4, B4, d4, rfl, hd, hd', hb⟩
  have L4 := qH (((L3.out.step hb).add hd).add hd')
  clear fx0 zx0 fx1 zx1 fx2 zx2 xx fy0 zy0 fy1 zy1 fy2 zy2 xy
  have Rx_4 := co Rx_3 hb
  have Ry_4 := co Ry_3 hb
  have Rr_4 := co Rr_3 hb
  clear hb hd hd'
  go_wp2_with fail
  obtain ⟨w5, hW, hb, Ra_5, Rb_5⟩ := new2 w4 (.cells #[.bool (decide (p < 0)), .slice A4 (digs p.natAbs).length c4] 24) (.cells #[.bool (decide (q < 0)), .slice B4 (digs q.natAbs).length d4] 24)
  rw [← hW]
  have L5 := ls L4 hb
  have Rx_5 := co Rx_4 hb
  have Ry_5 := co Ry_4 hb
  have Rr_5 := co Rr_4 hb
  have Ga := gl0 L4.out
  have Nxa := nl0 Rx_4.out
  have Nya := nl0 Ry_4.out
  have Nra := nl0 Rr_4.out
  have Gb := gl1 L4.out
  have Nxb := nl1 Rx_4.out
  have Nyb := nl1 Ry_4.out
  have Nrb := nl1 Rr_4.out
  have Nab : w4.heap.size < w4.heap.size + 1 := by omega
  clear hW hb
  refine (rzadd_j (L5.out.get (A := A4) (c := c4) (xs := digs p.natAbs) (by simp)) (L5.out.get (A := B4) (c := d4) (xs := digs q.natAbs) (by simp)) (Nat.le_trans LP.out (by omega)) (Nat.le_trans LQ.out (by omega)) HZ.out).mono ?_
  rintro e w6 ⟨A6, c6, rfl, hd, hb⟩
  have L6 := la L5 hb hd
  have Rx_6 := co Rx_5 hb
  have Ry_6 := co Ry_5 hb
  have Rr_6 := co Rr_5 hb
  have Ra_6 := co Ra_5 hb
  have Rb_6 := co Rb_5 hb
  clear hb hd
  go_wp2_with fail
  refine (rnorm_j (L6.out.get (A := A6) (c := c6) (xs := digs z.natAbs) (by simp)) (Nat.le_trans LZ.out (by omega)) E0.out.1 E0.out.2 HM.out HE.out).mono ?_
  rintro e w7 ⟨A7, c7, rfl, hd, hb⟩
  have L7 := la L6 hb hd
  have Rx_7 := co Rx_6 hb
  have Ry_7 := co Ry_6 hb
  have Rr_7 := co Rr_6 hb
  have Ra_7 := co Ra_6 hb
  have Rb_7 := co Rb_6 hb
  clear hb hd
  go_wp2_with fail
  refine (r5told (L7.out.get (A := A7) (c := c7) (xs := digs M.natAbs) (by simp)) (Nat.le_trans LM.out (by omega)) BE.out.1 BE.out.2 HQ.out).mono ?_
  rintro e w8 ⟨A8, c8, rfl, hd, hb⟩
  have L8 := la L7 hb hd
  have Rx_8 := co Rx_7 hb
  have Ry_8 := co Ry_7 hb
  have Rr_8 := co Rr_7 hb
  have Ra_8 := co Ra_7 hb
  have Rb_8 := co Rb_7 hb
  clear hb hd
  obtain ⟨fr0, zr0, fr1, zr1, fr2, zr2, xr⟩ := ly3 Rr_8.out
  go_wp2
  refine bodyPost_ret (v := .tuple #[.agg #[.bool (decide (K < 0)), .slice A8 (digs K.natAbs).length c8, .int .i64 F], .int .i64 V]) (by simp [results, Tryz.results23, go_sem, fr0, fr1, fr2]) rfl ?_
  refine ⟨A8, c8, rfl, ?_, ?_⟩
  · exact (fin3 L8.out Rr_8.out noint3 Gr).get (A := A8) (c := c8) (xs := digs K.natAbs) (by simp)
  · exact (fin3 L8.out Rr_8.out noint3 Gr).1
theorem ybs_z1 {A B : Option Addr} {c d : Nat} {m n x y : Int} {w : World} (h : Dg w A c (digs m.natAbs)) (h' : Dg w B d (digs n.natAbs)) (m0 : m = 0) :
    Calls Tryz.prog 47 #[.agg #[.bool (decide (m < 0)), .slice A (digs m.natAbs).length c, .int .i64 x], .agg #[.bool (decide (n < 0)), .slice B (digs n.natAbs).length d, .int .i64 y]] w (Ybs 0 n y w) := by
  refine (r5lift_z1 A B c d m n x y w h h' m0).mono ?_
  rintro e w' ⟨C, k, rfl, hd, hb⟩
  have e0 : digs (0 : Int).natAbs = [] := digs_zero
  exact ⟨none, 0, C, k, by rw [e0]; rfl, by rw [e0]; exact Dg.nil_ _ _, hd, hb⟩
theorem ybs_z2 {A B : Option Addr} {c d : Nat} {m n x y : Int} {w : World} (h : Dg w A c (digs m.natAbs)) (h' : Dg w B d (digs n.natAbs)) (m0 : m ≠ 0) (n0 : n = 0) :
    Calls Tryz.prog 47 #[.agg #[.bool (decide (m < 0)), .slice A (digs m.natAbs).length c, .int .i64 x], .agg #[.bool (decide (n < 0)), .slice B (digs n.natAbs).length d, .int .i64 y]] w (Ybs m 0 x w) := by
  refine (r5lift_z2 A B c d m n x y w h h' m0 n0).mono ?_
  rintro e w' ⟨C, k, rfl, hd, hb⟩
  have e0 : digs (0 : Int).natAbs = [] := digs_zero
  exact ⟨C, k, none, 0, by rw [e0]; rfl, hd, by rw [e0]; exact Dg.nil_ _ _, hb⟩
theorem r5add_t {A B : Option Addr} {c d : Nat} {m n x y M E K F V : Int} {w : World} (h : Dg w A c (digs m.natAbs)) (h' : Dg w B d (digs n.natAbs)) (hl : (digs m.natAbs).length ≤ 10000) (hl' : (digs n.natAbs).length ≤ 10000) (r1 : Rt m x) (r2 : Rt n y) (hs : IsD (dv m x + dv n y) M E) (hq : tot M E = (K, F, V)) :
    Calls Tryz.prog 23 #[.agg #[.bool (decide (m < 0)), .slice A (digs m.natAbs).length c, .int .i64 x], .agg #[.bool (decide (n < 0)), .slice B (digs n.natAbs).length d, .int .i64 y]] w fun e w' => Ye K F V w e w' := by
  have e0 : (digs (0 : Int).natAbs).length = 0 := by rw [show digs (0 : Int).natAbs = [] from digs_zero]; rfl
  by_cases m0 : m = 0
  · have hu := IsD.of (m := n) (e := y) (M := M) (E := E) (by rw [m0, dv_zero, Rat.zero_add] at hs; exact hs)
    exact r5add_b_ A B c d m n x y 0 n y n M E w h h' hl hl' r1 r2 (fun W a b => ybs_z1 a b m0) (by omega) (by omega) (by omega) (by omega) (by have := r2.2; omega) (by have := r2.2; omega) hu.1 hu.2 hq
  · by_cases n0 : n = 0
    · have hu := IsD.of (m := m) (e := x) (M := M) (E := E) (by rw [n0, dv_zero, Rat.add_zero] at hs; exact hs)
      exact r5add_b_ A B c d m n x y m 0 x m M E w h h' hl hl' r1 r2 (fun W a b => ybs_z2 a b m0 n0) (by omega) (by omega) (by omega) (by omega) (by have := r1.2; omega) (by have := r1.2; omega) hu.1 hu.2 hq
    · obtain ⟨e1, he1⟩ : ∃ e, min x y = e := ⟨_, rfl⟩
      have ez := sum_upto m x n y
      rw [he1] at ez
      have x0 := r1.2.1
      have x1 := r1.2.2
      have y0 := r2.2.1
      have y1 := r2.2.2
      have lp := upto_len2 (m := m) (x := x) (e0 := e1) hl (by omega)
      have lq := upto_len2 (m := n) (x := y) (e0 := e1) hl' (by omega)
      have hu := IsD.of (m := upto m x e1 + upto n y e1) (e := e1) (M := M) (E := E) (by rw [ez]; exact hs)
      have h1 := digs_len_mono _ _ (by omega : (upto m x e1 + upto n y e1).natAbs ≤ (upto m x e1).natAbs + (upto n y e1).natAbs)
      have h2 := digs_add_len (upto m x e1).natAbs (upto n y e1).natAbs
      exact r5add_b_ A B c d m n x y _ _ e1 _ M E w h h' hl hl' r1 r2 (fun W a b => r5lift_any a b hl hl' x0 x1 y0 y1 m0 n0 he1 rfl rfl) lp lq rfl (by omega) (by omega) (by omega) hu.1 hu.2 hq
theorem rzbytes_no (A : Option Addr) (c : Nat) (s : Bool) (xs : List Nat) (w : World) (h : Dg w A c xs) (hl : xs.length ≤ 9223372036854775807) (hno : rightB s xs = false ∨ 400 < xs.length) :
    Calls Tryz.prog 38 #[.agg #[.bool s, .slice A xs.length c]] w fun e w' => e = .returned (.tuple #[.string ⟨#[]⟩, .bool false]) ∧ Below w.heap.size w w' := by
  have RA := qH (fun W h q hq => rright_any A c s xs W h q hq hl)
  cases hr : rightB s xs
  · have HR := qH hr
    clear hno hr
    go_enter Tryz.func38, Tryz.ntmps38
    go_wp2_with fail
    refine (RA.out _ (h.below (below1 _ _)) false HR.out).mono ?_
    rintro e w1 ⟨rfl, hb⟩
    have K1 := qH ((below1 w _).trans (hb.mono (by simp)))
    clear hb
    go_wp2
    go_ret2
    exact ⟨rfl, K1.out⟩
  · have HR := qH hr
    have h4 : 400 < xs.length := hno.resolve_left (by rw [hr]; simp)
    have d4 : decide ((400 : Int) < (xs.length : Int)) = true := by simp; omega
    clear hno hr h4
    go_enter Tryz.func38, Tryz.ntmps38
    go_wp2_with fail
    refine (RA.out _ (h.below (below1 _ _)) true HR.out).mono ?_
    rintro e w1 ⟨rfl, hb⟩
    have K1 := qH ((below1 w _).trans (hb.mono (by simp)))
    obtain ⟨hc, hf⟩ := bcell hb
    clear hb
    go_wp2
    go_ret2
    exact ⟨rfl, K1.out⟩
theorem rzbytes_any (A : Option Addr) (c : Nat) (s : Bool) (xs : List Nat) (w : World) (h : Dg w A c xs) (hl : xs.length ≤ 400) (hr : rightB s xs = true) :
    Calls Tryz.prog 38 #[.agg #[.bool s, .slice A xs.length c]] w fun e w' => e = .returned (.tuple #[.string ⟨(zbytes s xs).toArray⟩, .bool true]) ∧ Below w.heap.size w w' := by
  have RA := qH (fun W h => rright_any A c s xs W h true hr (by omega))
  obtain ⟨i0, hi, hz0, hz1, hz2⟩ := info_parts elem8_info
  have d4 : decide ((400 : Int) < (xs.length : Int)) = false := by simp; omega
  clear hr
  have HD := qH h
  clear h
  obtain ⟨H, hH⟩ : ∃ H : Int, ((headN s xs.length : Nat) : Int) = H := ⟨_, rfl⟩
  have HH := qH hH
  have hH2 : H = 2 * (xs.length : Int) + (if s then 1 else 0) := by rw [← hH]; unfold headN; cases s <;> simp
  clear hH
  cases s
  · have hH3 : 2 * (xs.length : Int) = H := by simpa using hH2.symm
    have hHb : 0 ≤ H ∧ H ≤ 801 := by omega
    obtain ⟨hHb0, hHb1⟩ := hHb
    have HEQ := qH hH3
    clear hH2 hH3
    go_enter Tryz.func38, Tryz.ntmps38
    go_wp2_with fail
    refine (RA.out _ (HD.out.below (below1 _ _))).mono ?_
    rintro e w1 ⟨rfl, hb⟩
    have K1 := qH (show Below (w.heap.size + 1) (w.alloc (.cells #[.bool false, .slice A xs.length c] 24)) w1 by simpa using hb)
    obtain ⟨hc, hf⟩ := bcellB K1.out
    have hsz : w.heap.size + 1 ≤ w1.heap.size := by have := K1.out.size; simpa using this
    clear hb
    go_upto_region 7 with fail
    rw [HEQ.out]
    go_wp2_with fail
    have HW := qH (show (w1.alloc (.cells #[.int .u8 (H / 256), .int .u8 (H % 256)] 5)).ownsRow (w.heap.size + 1) 5 1 (.slice (some ⟨w1.heap.size, 0, none⟩) 2 2) 2 (Lib.byteCells [UInt8.ofNat (headN false xs.length / 256), UInt8.ofNat (headN false xs.length)]) by
      rw [head_cells HH.out hHb1]
      exact World.ownsRow_lit w1 #[.int .u8 (H / 256), .int .u8 (H % 256)] 2 hsz (by unfold maxLen; omega) rfl)
    have KW := qH (K1.out.alloc hsz (.cells #[.int .u8 (H / 256), .int .u8 (H % 256)] 5))
    clear hc hf
    generalize w1.alloc (.cells #[.int .u8 (H / 256), .int .u8 (H % 256)] 5) = w2 at *
    go_loopw [6, 7] (fun v i wr => ∃ k : Nat, k ≤ xs.length ∧ i = .int .i64 k ∧ Hid (wr.ownsRow (w.heap.size + 1) 5 1 v (2 + 4 * k) (Lib.byteCells ([UInt8.ofNat (headN false xs.length / 256), UInt8.ofNat (headN false xs.length)] ++ lay4 (xs.take k)))) ∧ Hid (Below (w.heap.size + 1) (w.alloc (.cells #[.bool false, .slice A xs.length c] 24)) wr)) (fun _ i _ => xs.length - (intOf i).toNat)
    case atStart => exact ⟨0, Nat.zero_le _, rfl, qH (by simpa [lay4] using HW.out), KW⟩
    case round =>
      obtain ⟨k, hk, rfl, ho, hb⟩ := hrel
      obtain ⟨hc, hf⟩ := bcellB hb.out
      have hsz2 : w.heap.size + 1 ≤ wr.heap.size := by have := hb.out.size; simpa using this
      by_cases hlt : k < xs.length
      · obtain ⟨b, off, hD, hbl, hcell⟩ := HD.out.2.2 (by omega)
        have hcx := ((below1 w (.cells #[.bool false, .slice A xs.length c] 24)).trans (hb.out.mono (by omega))).cell (p := ⟨b, off + k, none⟩) hbl |>.trans (hcell k hlt)
        have hx := getD_lt HD.out.2.1 k
        have HX := qH hx
        generalize hxk : xs[k]?.getD 0 = x at *
        have HXK := qH hxk
        clear hcell hxk hx
        generalize hX : ((x : Nat) : Int) = X at *
        have i0' : 0 ≤ X := by omega
        have i1' : X < 4294967296 := by have := HX.out; omega
        have HXX := qH hX
        clear hX
        have hkc : k ≤ c := by have := HD.out.1; omega
        subst hD
        go_wp2_with (at_builtin; refine wpList_append_own _ rfl _ _ 50 rfl (w.heap.size + 1) 5 i0 (.int .u8 0) 1 1 Tryz.underlying50 hi hz0 hz1 hz2 rfl (by decide) _ _ _ rfl (ho.out.alloc _) ⟨wr.heap.size, 0, none⟩ 4 4 [.int .u8 (X % 256), .int .u8 (X / 256 % 256), .int .u8 (X / 65536 % 256), .int .u8 (X / 16777216)] rfl rfl (fun j u hj => four_new hj) (by intro u hu; simp at hu; rcases hu with rfl | rfl | rfl | rfl <;> rfl) (by unfold maxLen; omega) (by omega) (by simp; omega) ?_)
        intro v' w4 hown1 hgrow _
        have HN := qH hown1
        have HB1 := qH ((hb.out.alloc hsz2 _).grown hgrow (by simp; omega) (fun k hk => (ho.out.lt k hk).1))
        clear hown1 hgrow hc hf
        go_wp2
        go_roundw
        case rel =>
          refine ⟨k + 1, by omega, by go_num, qH ?_, HB1⟩
          rw [lay4_take hlt, HXK.out, ← List.append_assoc, byteCells_add, d4_cells HXX.out HX.out]
          exact HN.out
        case measure => simp [intOf]; omega
      · have hkl : k = xs.length := by omega
        subst hkl
        have e : xs.take xs.length = xs := List.take_length
        rw [e] at ho
        have hcv := own_string ho.out (by simp [lay4_len]; omega) (by omega)
        have KZ := qH hb.out
        clear ho hb e
        go_wp2
        go_ret2
        exact ⟨rfl, (below1 w _).trans (KZ.out.mono (by omega))⟩
  · have hH3 : 2 * (xs.length : Int) + 1 = H := by simpa using hH2.symm
    have hHb : 0 ≤ H ∧ H ≤ 801 := by omega
    obtain ⟨hHb0, hHb1⟩ := hHb
    have HEQ := qH hH3
    clear hH2 hH3
    go_enter Tryz.func38, Tryz.ntmps38
    go_wp2_with fail
    refine (RA.out _ (HD.out.below (below1 _ _))).mono ?_
    rintro e w1 ⟨rfl, hb⟩
    have K1 := qH (show Below (w.heap.size + 1) (w.alloc (.cells #[.bool true, .slice A xs.length c] 24)) w1 by simpa using hb)
    obtain ⟨hc, hf⟩ := bcellB K1.out
    have hsz : w.heap.size + 1 ≤ w1.heap.size := by have := K1.out.size; simpa using this
    clear hb
    go_upto_region 7 with fail
    rw [HEQ.out]
    go_wp2_with fail
    have HW := qH (show (w1.alloc (.cells #[.int .u8 (H / 256), .int .u8 (H % 256)] 5)).ownsRow (w.heap.size + 1) 5 1 (.slice (some ⟨w1.heap.size, 0, none⟩) 2 2) 2 (Lib.byteCells [UInt8.ofNat (headN true xs.length / 256), UInt8.ofNat (headN true xs.length)]) by
      rw [head_cells HH.out hHb1]
      exact World.ownsRow_lit w1 #[.int .u8 (H / 256), .int .u8 (H % 256)] 2 hsz (by unfold maxLen; omega) rfl)
    have KW := qH (K1.out.alloc hsz (.cells #[.int .u8 (H / 256), .int .u8 (H % 256)] 5))
    clear hc hf
    generalize w1.alloc (.cells #[.int .u8 (H / 256), .int .u8 (H % 256)] 5) = w2 at *
    go_loopw [6, 7] (fun v i wr => ∃ k : Nat, k ≤ xs.length ∧ i = .int .i64 k ∧ Hid (wr.ownsRow (w.heap.size + 1) 5 1 v (2 + 4 * k) (Lib.byteCells ([UInt8.ofNat (headN true xs.length / 256), UInt8.ofNat (headN true xs.length)] ++ lay4 (xs.take k)))) ∧ Hid (Below (w.heap.size + 1) (w.alloc (.cells #[.bool true, .slice A xs.length c] 24)) wr)) (fun _ i _ => xs.length - (intOf i).toNat)
    case atStart => exact ⟨0, Nat.zero_le _, rfl, qH (by simpa [lay4] using HW.out), KW⟩
    case round =>
      obtain ⟨k, hk, rfl, ho, hb⟩ := hrel
      obtain ⟨hc, hf⟩ := bcellB hb.out
      have hsz2 : w.heap.size + 1 ≤ wr.heap.size := by have := hb.out.size; simpa using this
      by_cases hlt : k < xs.length
      · obtain ⟨b, off, hD, hbl, hcell⟩ := HD.out.2.2 (by omega)
        have hcx := ((below1 w (.cells #[.bool true, .slice A xs.length c] 24)).trans (hb.out.mono (by omega))).cell (p := ⟨b, off + k, none⟩) hbl |>.trans (hcell k hlt)
        have hx := getD_lt HD.out.2.1 k
        have HX := qH hx
        generalize hxk : xs[k]?.getD 0 = x at *
        have HXK := qH hxk
        clear hcell hxk hx
        generalize hX : ((x : Nat) : Int) = X at *
        have i0' : 0 ≤ X := by omega
        have i1' : X < 4294967296 := by have := HX.out; omega
        have HXX := qH hX
        clear hX
        have hkc : k ≤ c := by have := HD.out.1; omega
        subst hD
        go_wp2_with (at_builtin; refine wpList_append_own _ rfl _ _ 50 rfl (w.heap.size + 1) 5 i0 (.int .u8 0) 1 1 Tryz.underlying50 hi hz0 hz1 hz2 rfl (by decide) _ _ _ rfl (ho.out.alloc _) ⟨wr.heap.size, 0, none⟩ 4 4 [.int .u8 (X % 256), .int .u8 (X / 256 % 256), .int .u8 (X / 65536 % 256), .int .u8 (X / 16777216)] rfl rfl (fun j u hj => four_new hj) (by intro u hu; simp at hu; rcases hu with rfl | rfl | rfl | rfl <;> rfl) (by unfold maxLen; omega) (by omega) (by simp; omega) ?_)
        intro v' w4 hown1 hgrow _
        have HN := qH hown1
        have HB1 := qH ((hb.out.alloc hsz2 _).grown hgrow (by simp; omega) (fun k hk => (ho.out.lt k hk).1))
        clear hown1 hgrow hc hf
        go_wp2
        go_roundw
        case rel =>
          refine ⟨k + 1, by omega, by go_num, qH ?_, HB1⟩
          rw [lay4_take hlt, HXK.out, ← List.append_assoc, byteCells_add, d4_cells HXX.out HX.out]
          exact HN.out
        case measure => simp [intOf]; omega
      · have hkl : k = xs.length := by omega
        subst hkl
        have e : xs.take xs.length = xs := List.take_length
        rw [e] at ho
        have hcv := own_string ho.out (by simp [lay4_len]; omega) (by omega)
        have KZ := qH hb.out
        clear ho hb e
        go_wp2
        go_ret2
        exact ⟨rfl, (below1 w _).trans (KZ.out.mono (by omega))⟩
theorem r5half_t (x u K F : Int) (q : Bool) (w : World) (hm : ∀ (A : Option Addr) (c : Nat) (W : World), Dg W A c (digs u.natAbs) → Calls Tryz.prog 51 #[.agg #[.bool (decide (u < 0)), .slice A (digs u.natAbs).length c], .int .i64 x] W fun e w' => Yb K F q W e w') (hu : u = 1):
    Calls Tryz.prog 24 #[.int .i64 x] w fun e w' => Yr K F w e w' := by
  have FR : ∀ W, Calls Tryz.prog 39 #[.int .i64 1] W fun e w' => Zr u W e w' := fun W => by subst hu; exact rzfrom_any 1 W (by omega) (by omega)
  have FR := qH FR
  have MY := qH hm
  have L0 := qH (live_start w)
  clear hu hm
  go_enter Tryz.func24, Tryz.ntmps24
  go_wp2_with fail
  obtain ⟨v1, hW, hb, Rr_1⟩ := new1 w (.cells #[.bool false, .slice none 0 0, .int .i64 0] 26)
  rw [← hW]
  have L1 := ls L0 hb
  have Gr := gl0 L0.out
  clear hW hb
  refine (FR.out _).mono ?_
  rintro e w2 ⟨A2, c2, rfl, hd, hb⟩
  have L2 := la L1 hb hd
  have Rr_2 := co Rr_1 hb
  clear hb hd
  go_wp2_with fail
  refine (MY.out A2 c2 _ (L2.out.get (A := A2) (c := c2) (xs := digs u.natAbs) (by simp))).mono ?_
  rintro e w3 ⟨A3, c3, rfl, hd, hb⟩
  have L3 := la L2 hb hd
  have Rr_3 := co Rr_2 hb
  clear hb hd
  obtain ⟨fr0, zr0, fr1, zr1, fr2, zr2, xr⟩ := ly3 Rr_3.out
  go_wp2
  have al : ∀ (V : World) (o : Obj) (i : Nat), w.heap.size < V.heap.size → (V.alloc o).cell? ⟨w.heap.size, i, none⟩ = V.cell? ⟨w.heap.size, i, none⟩ := fun V o i h => (below1 V o).cell (p := ⟨_, i, none⟩) h
  refine bodyPost_ret (v := .agg #[.bool (decide (K < 0)), .slice A3 (digs K.natAbs).length c3, .int .i64 F]) (by simp [results, Tryz.results24, go_sem, al, xr, fr0, fr1, fr2]) rfl ?_
  refine ⟨A3, c3, rfl, ?_, ?_⟩
  · exact ((fin3 L3.out Rr_3.out noint3 Gr).step (below1 _ _)).get (A := A3) (c := c3) (xs := digs K.natAbs) (by simp)
  · exact ((fin3 L3.out Rr_3.out noint3 Gr).step (below1 _ _)).1
theorem r5size_w (A : Option Addr) (c : Nat) (s : Bool) (xs : List Nat) (x : Int) (w : World) (h : Dg w A c xs) (hl : xs.length ≤ 9223372036854775807) (hq : dyR s xs x = false):
    Calls Tryz.prog 65 #[.agg #[.bool s, .slice A xs.length c, .int .i64 x]] w fun e w' => e = .returned (.tuple #[.int .i64 0, .bool false]) ∧ Below w.heap.size w w' := by
  have lx := qH hl
  have HQ := qH hq
  have L0 := qH ((live_start w).add h)
  clear h hl hq
  go_enter Tryz.func65, Tryz.ntmps65
  go_wp2_with fail
  obtain ⟨v1, hW, hb, Rx_1⟩ := new1 w (.cells #[.bool s, .slice A xs.length c, .int .i64 x] 26)
  rw [← hW]
  have L1 := ls L0 hb
  have Gx := gl0 L0.out
  clear hW hb
  refine (r5right_any (L1.out.get (A := A) (c := c) (xs := xs) (by simp)) lx.out HQ.out).mono ?_
  rintro e w2 ⟨rfl, hb⟩
  have L2 := ls L1 hb
  have Rx_2 := co Rx_1 hb
  clear hb 
  obtain ⟨fx0, zx0, fx1, zx1, fx2, zx2, xx⟩ := ly3 Rx_2.out
  go_wp2
  go_ret2
  exact ⟨rfl, L2.out.1⟩
theorem r5size_z (A : Option Addr) (c : Nat) (m x : Int) (w : World) (h : Dg w A c (digs m.natAbs)) (hl : (digs m.natAbs).length ≤ 10000) (r1 : Rt m x) (m0 : m = 0):
    Calls Tryz.prog 65 #[.agg #[.bool (decide (m < 0)), .slice A (digs m.natAbs).length c, .int .i64 x]] w fun e w' => e = .returned (.tuple #[.int .i64 0, .bool false]) ∧ Below w.heap.size w w' := by
  have lx := qH hl
  have HR := qH r1
  have t1 : ((((digs m.natAbs).length : Nat) : Int) == 0) = true := by rw [m0, show digs (0 : Int).natAbs = [] from digs_zero]; rfl
  have L0 := qH ((live_start w).add h)
  clear h hl r1 m0
  go_enter Tryz.func65, Tryz.ntmps65
  go_wp2_with fail
  obtain ⟨v1, hW, hb, Rx_1⟩ := new1 w (.cells #[.bool (decide (m < 0)), .slice A (digs m.natAbs).length c, .int .i64 x] 26)
  rw [← hW]
  have L1 := ls L0 hb
  have Gx := gl0 L0.out
  clear hW hb
  refine (r5right_t (L1.out.get (A := A) (c := c) (xs := digs m.natAbs) (by simp)) lx.out HR.out).mono ?_
  rintro e w2 ⟨rfl, hb⟩
  have L2 := ls L1 hb
  have Rx_2 := co Rx_1 hb
  clear hb 
  obtain ⟨fx0, zx0, fx1, zx1, fx2, zx2, xx⟩ := ly3 Rx_2.out
  go_wp2
  go_ret2
  exact ⟨rfl, L2.out.1⟩
theorem r5size_y (A : Option Addr) (c : Nat) (m x k : Int) (w : World) (h : Dg w A c (digs m.natAbs)) (hl : (digs m.natAbs).length ≤ 10000) (r1 : Rt m x) (m0 : m ≠ 0) (hk : x + bl m = k):
    Calls Tryz.prog 65 #[.agg #[.bool (decide (m < 0)), .slice A (digs m.natAbs).length c, .int .i64 x]] w fun e w' => e = .returned (.tuple #[.int .i64 k, .bool true]) ∧ Below w.heap.size w w' := by
  have lx := qH hl
  have HR := qH r1
  have t1 : ((((digs m.natAbs).length : Nat) : Int) == 0) = false := beq_eq_false_iff_ne.2 (fun e => m0 (by have := digs_nil.1 (show (digs m.natAbs).length = 0 by omega); omega))
  have SB := qH (show -10000000 ≤ x ∧ x ≤ 10000000 by have := r1.2; omega)
  have HK := qH hk
  have L0 := qH ((live_start w).add h)
  clear h hl r1 m0 hk
  go_enter Tryz.func65, Tryz.ntmps65
  go_wp2_with fail
  obtain ⟨v1, hW, hb, Rx_1⟩ := new1 w (.cells #[.bool (decide (m < 0)), .slice A (digs m.natAbs).length c, .int .i64 x] 26)
  rw [← hW]
  have L1 := ls L0 hb
  have Gx := gl0 L0.out
  clear hW hb
  refine (r5right_t (L1.out.get (A := A) (c := c) (xs := digs m.natAbs) (by simp)) lx.out HR.out).mono ?_
  rintro e w2 ⟨rfl, hb⟩
  have L2 := ls L1 hb
  have Rx_2 := co Rx_1 hb
  clear hb 
  obtain ⟨fx0, zx0, fx1, zx1, fx2, zx2, xx⟩ := ly3 Rx_2.out
  go_wp2_with fail
  refine (r5size_any A c m x k _ (L2.out.get (A := A) (c := c) (xs := digs m.natAbs) (by simp)) (Nat.le_trans lx.out (by omega)) SB.out.1 SB.out.2 HK.out).mono ?_
  rintro e w3 ⟨rfl, hb⟩
  have L3 := ls L2 hb
  clear fx0 zx0 fx1 zx1 fx2 zx2 xx
  have Rx_3 := co Rx_2 hb
  clear hb 
  obtain ⟨fx0, zx0, fx1, zx1, fx2, zx2, xx⟩ := ly3 Rx_3.out
  go_wp2
  go_ret2
  exact ⟨rfl, L3.out.1⟩
theorem r5half_u (x u : Int) (w : World) (h0 : -65537 ≤ x) (h1 : x ≤ 65535) (hu : u = 1) :
    Calls Tryz.prog 24 #[.int .i64 x] w fun e w' => Yr u x w e w' := by
  have LN : (digs u.natAbs).length ≤ 2 := digs_small (by omega)
  have hI : inR u x = true := by
    subst hu
    have e : bl 1 = 1 := by decide +kernel
    unfold inR
    rw [decide_eq_true_eq, e]
    right
    omega
  exact r5half_t x u u x true w (fun A c W hW => r5make_yes A c (decide (u < 0)) (digs u.natAbs) x u x W hW (by omega) (by omega) (by omega) (by rw [sg_dz, hu]; exact (nm_odd rfl).1) (by rw [sg_dz, hu]; exact (nm_odd rfl).2 x) hI) hu
theorem r15short_w (A : Option Addr) (c : Nat) (s : Bool) (xs : List Nat) (x : Int) (w : World) (h : Dg w A c xs) (hl : xs.length ≤ 9223372036854775807) (hq : dyR s xs x = false):
    Calls Tryz.prog 66 #[.agg #[.bool s, .slice A xs.length c, .int .i64 x], .int .i64 400] w fun e w' => e = .returned (.bool false) ∧ Below w.heap.size w w' := by
  have lx := qH hl
  have HQ := qH hq
  have L0 := qH ((live_start w).add h)
  clear h hl hq
  go_enter Tryz.func66, Tryz.ntmps66
  go_wp2_with fail
  obtain ⟨v1, hW, hb, Rx_1⟩ := new1 w (.cells #[.bool s, .slice A xs.length c, .int .i64 x] 26)
  rw [← hW]
  have L1 := ls L0 hb
  clear hW hb
  refine (r5right_any (L1.out.get (A := A) (c := c) (xs := xs) (by simp)) lx.out HQ.out).mono ?_
  rintro e w2 ⟨rfl, hb⟩
  have L2 := ls L1 hb
  have Rx_2 := co Rx_1 hb
  clear hb
  obtain ⟨fx0, zx0, fx1, zx1, fx2, zx2, xx⟩ := ly3 Rx_2.out
  go_wp2
  go_ret
  exact ⟨rfl, L2.out.1⟩
theorem r15short_y (A : Option Addr) (c : Nat) (m x : Int) (w : World) (h : Dg w A c (digs m.natAbs)) (hl : (digs m.natAbs).length ≤ 10000) (r1 : Rt m x) {q : Bool} (hq : decide (bl m ≤ 400) = q):
    Calls Tryz.prog 66 #[.agg #[.bool (decide (m < 0)), .slice A (digs m.natAbs).length c, .int .i64 x], .int .i64 400] w fun e w' => e = .returned (.bool q) ∧ Below w.heap.size w w' := by
  have lx := qH hl
  have HR := qH (dyR_num r1)
  obtain ⟨kk, hkk⟩ : ∃ kk : Nat, bl m = kk := ⟨_, rfl⟩
  have HB := qH (show (blen (val (digs m.natAbs)) : Int) = (kk : Int) by rw [val_digs, ← hkk]; rfl)
  have hd : decide (kk ≤ 400) = q := by rw [← hkk]; exact hq
  have hd2 : decide ((kk : Int) ≤ 400) = q := by rw [← hd, decide_eq_decide]; omega
  clear hkk
  have L0 := qH ((live_start w).add h)
  clear h hl hq r1
  go_enter Tryz.func66, Tryz.ntmps66
  go_wp2_with fail
  obtain ⟨v1, hW, hb, Rx_1⟩ := new1 w (.cells #[.bool (decide (m < 0)), .slice A (digs m.natAbs).length c, .int .i64 x] 26)
  rw [← hW]
  have L1 := ls L0 hb
  clear hW hb
  refine (r5right_any (L1.out.get (A := A) (c := c) (xs := digs m.natAbs) (by simp)) (Nat.le_trans lx.out (by omega)) HR.out).mono ?_
  rintro e w2 ⟨rfl, hb⟩
  have L2 := ls L1 hb
  have Rx_2 := co Rx_1 hb
  clear hb
  obtain ⟨fx0, zx0, fx1, zx1, fx2, zx2, xx⟩ := ly3 Rx_2.out
  go_wp2_with fail
  refine (rbits_any A c (digs m.natAbs) _ (L2.out.get (A := A) (c := c) (xs := digs m.natAbs) (by simp)) (Nat.le_trans lx.out (by omega))).mono ?_
  rintro e w3 ⟨rfl, hb⟩
  rw [HB.out]
  have L3 := ls L2 hb
  clear hb fx0 zx0 fx1 zx1 fx2 zx2 xx
  go_wp2
  go_ret
  exact ⟨rfl, L3.out.1⟩
theorem r15short_any {A : Option Addr} {c : Nat} {s : Bool} {xs : List Nat} {x : Int} {q : Bool} {w : World} (h : Dg w A c xs) (hl : xs.length ≤ 10000) (hq : mayB s xs x = q) :
    Calls Tryz.prog 66 #[.agg #[.bool s, .slice A xs.length c, .int .i64 x], .int .i64 400] w fun e w' => e = .returned (.bool q) ∧ Below w.heap.size w w' := by
  cases hr : dyR s xs x
  · obtain rfl : q = false := by rw [← hq]; unfold mayB; rw [hr]; rfl
    exact r15short_w A c s xs x w h (by omega) hr
  · obtain ⟨m, rfl, rfl, r1⟩ := num_of h.2.1 hr
    exact r15short_y A c m x w h hl r1 (by rw [← hq, may_num r1])
theorem r15plain_w (A : Option Addr) (c : Nat) (s : Bool) (xs : List Nat) (x : Int) (w : World) (h : Dg w A c xs) (hl : xs.length ≤ 9223372036854775807) (hq : dyR s xs x = false):
    Calls Tryz.prog 32 #[.agg #[.bool s, .slice A xs.length c, .int .i64 x]] w fun e w' => e = .returned (.bool false) ∧ Below w.heap.size w w' := by
  have lx := qH hl
  have HQ := qH hq
  have L0 := qH ((live_start w).add h)
  clear h hl hq
  go_enter Tryz.func32, Tryz.ntmps32
  go_wp2_with fail
  obtain ⟨v1, hW, hb, Rx_1⟩ := new1 w (.cells #[.bool s, .slice A xs.length c, .int .i64 x] 26)
  rw [← hW]
  have L1 := ls L0 hb
  clear hW hb
  refine (r5right_any (L1.out.get (A := A) (c := c) (xs := xs) (by simp)) lx.out HQ.out).mono ?_
  rintro e w2 ⟨rfl, hb⟩
  have L2 := ls L1 hb
  have Rx_2 := co Rx_1 hb
  clear hb
  obtain ⟨fx0, zx0, fx1, zx1, fx2, zx2, xx⟩ := ly3 Rx_2.out
  go_wp2_with fail
  refine (r5size_w A c s xs x _ (L2.out.get (A := A) (c := c) (xs := xs) (by simp)) lx.out HQ.out).mono ?_
  rintro e w3 ⟨rfl, hb⟩
  have L3 := ls L2 hb
  clear fx0 zx0 fx1 zx1 fx2 zx2 xx
  have Rx_3 := co Rx_2 hb
  clear hb
  obtain ⟨fx0, zx0, fx1, zx1, fx2, zx2, xx⟩ := ly3 Rx_3.out
  go_wp2
  go_ret
  exact ⟨rfl, L3.out.1⟩
theorem r15plain_z (A : Option Addr) (c : Nat) (m x : Int) (w : World) (h : Dg w A c (digs m.natAbs)) (hl : (digs m.natAbs).length ≤ 10000) (r1 : Rt m x) (m0 : m = 0):
    Calls Tryz.prog 32 #[.agg #[.bool (decide (m < 0)), .slice A (digs m.natAbs).length c, .int .i64 x]] w fun e w' => e = .returned (.bool true) ∧ Below w.heap.size w w' := by
  have lx := qH hl
  have HR := qH (dyR_num r1)
  have HR1 := qH r1
  have HM0 := qH m0
  have L0 := qH ((live_start w).add h)
  clear h hl r1 m0
  go_enter Tryz.func32, Tryz.ntmps32
  go_wp2_with fail
  obtain ⟨v1, hW, hb, Rx_1⟩ := new1 w (.cells #[.bool (decide (m < 0)), .slice A (digs m.natAbs).length c, .int .i64 x] 26)
  rw [← hW]
  have L1 := ls L0 hb
  clear hW hb
  refine (r5right_any (L1.out.get (A := A) (c := c) (xs := digs m.natAbs) (by simp)) (Nat.le_trans lx.out (by omega)) HR.out).mono ?_
  rintro e w2 ⟨rfl, hb⟩
  have L2 := ls L1 hb
  have Rx_2 := co Rx_1 hb
  clear hb
  obtain ⟨fx0, zx0, fx1, zx1, fx2, zx2, xx⟩ := ly3 Rx_2.out
  go_wp2_with fail
  refine (r5size_z A c m x _ (L2.out.get (A := A) (c := c) (xs := digs m.natAbs) (by simp)) lx.out HR1.out HM0.out).mono ?_
  rintro e w3 ⟨rfl, hb⟩
  have L3 := ls L2 hb
  clear fx0 zx0 fx1 zx1 fx2 zx2 xx
  have Rx_3 := co Rx_2 hb
  clear hb
  obtain ⟨fx0, zx0, fx1, zx1, fx2, zx2, xx⟩ := ly3 Rx_3.out
  go_wp2
  go_ret
  exact ⟨rfl, L3.out.1⟩
theorem r15plain_l (A : Option Addr) (c : Nat) (m x : Int) (w : World) (h : Dg w A c (digs m.natAbs)) (hl : (digs m.natAbs).length ≤ 10000) (r1 : Rt m x) (m0 : m ≠ 0) (hx : x < -64):
    Calls Tryz.prog 32 #[.agg #[.bool (decide (m < 0)), .slice A (digs m.natAbs).length c, .int .i64 x]] w fun e w' => e = .returned (.bool false) ∧ Below w.heap.size w w' := by
  have lx := qH hl
  have HR := qH (dyR_num r1)
  have HR1 := qH r1
  have HM0 := qH m0
  obtain ⟨k, hk⟩ : ∃ k : Int, x + bl m = k := ⟨_, rfl⟩
  have HK := qH hk
  have d1 : decide (-64 ≤ x) = false := decide_eq_false (by omega)
  have L0 := qH ((live_start w).add h)
  clear h hl r1 m0 hk hx
  go_enter Tryz.func32, Tryz.ntmps32
  go_wp2_with fail
  obtain ⟨v1, hW, hb, Rx_1⟩ := new1 w (.cells #[.bool (decide (m < 0)), .slice A (digs m.natAbs).length c, .int .i64 x] 26)
  rw [← hW]
  have L1 := ls L0 hb
  clear hW hb
  refine (r5right_any (L1.out.get (A := A) (c := c) (xs := digs m.natAbs) (by simp)) (Nat.le_trans lx.out (by omega)) HR.out).mono ?_
  rintro e w2 ⟨rfl, hb⟩
  have L2 := ls L1 hb
  have Rx_2 := co Rx_1 hb
  clear hb
  obtain ⟨fx0, zx0, fx1, zx1, fx2, zx2, xx⟩ := ly3 Rx_2.out
  go_wp2_with fail
  refine (r5size_y A c m x k _ (L2.out.get (A := A) (c := c) (xs := digs m.natAbs) (by simp)) lx.out HR1.out HM0.out HK.out).mono ?_
  rintro e w3 ⟨rfl, hb⟩
  have L3 := ls L2 hb
  clear fx0 zx0 fx1 zx1 fx2 zx2 xx
  have Rx_3 := co Rx_2 hb
  clear hb
  obtain ⟨fx0, zx0, fx1, zx1, fx2, zx2, xx⟩ := ly3 Rx_3.out
  go_wp2
  go_ret
  exact ⟨rfl, L3.out.1⟩
theorem r15plain_y (A : Option Addr) (c : Nat) (m x : Int) (w : World) (h : Dg w A c (digs m.natAbs)) (hl : (digs m.natAbs).length ≤ 10000) (r1 : Rt m x) (m0 : m ≠ 0) (hx : -64 ≤ x) {q : Bool} (hq : decide (x + bl m ≤ 16) = q):
    Calls Tryz.prog 32 #[.agg #[.bool (decide (m < 0)), .slice A (digs m.natAbs).length c, .int .i64 x]] w fun e w' => e = .returned (.bool q) ∧ Below w.heap.size w w' := by
  have lx := qH hl
  have HR := qH (dyR_num r1)
  have HR1 := qH r1
  have HM0 := qH m0
  obtain ⟨k, hk⟩ : ∃ k : Int, x + bl m = k := ⟨_, rfl⟩
  have HK := qH hk
  have d1 : decide (-64 ≤ x) = true := decide_eq_true (by omega)
  have d2 : decide (k ≤ 16) = q := by rw [← hq, hk]
  have L0 := qH ((live_start w).add h)
  clear h hl r1 m0 hk hx hq
  go_enter Tryz.func32, Tryz.ntmps32
  go_wp2_with fail
  obtain ⟨v1, hW, hb, Rx_1⟩ := new1 w (.cells #[.bool (decide (m < 0)), .slice A (digs m.natAbs).length c, .int .i64 x] 26)
  rw [← hW]
  have L1 := ls L0 hb
  clear hW hb
  refine (r5right_any (L1.out.get (A := A) (c := c) (xs := digs m.natAbs) (by simp)) (Nat.le_trans lx.out (by omega)) HR.out).mono ?_
  rintro e w2 ⟨rfl, hb⟩
  have L2 := ls L1 hb
  have Rx_2 := co Rx_1 hb
  clear hb
  obtain ⟨fx0, zx0, fx1, zx1, fx2, zx2, xx⟩ := ly3 Rx_2.out
  go_wp2_with fail
  refine (r5size_y A c m x k _ (L2.out.get (A := A) (c := c) (xs := digs m.natAbs) (by simp)) lx.out HR1.out HM0.out HK.out).mono ?_
  rintro e w3 ⟨rfl, hb⟩
  have L3 := ls L2 hb
  clear fx0 zx0 fx1 zx1 fx2 zx2 xx
  have Rx_3 := co Rx_2 hb
  clear hb
  obtain ⟨fx0, zx0, fx1, zx1, fx2, zx2, xx⟩ := ly3 Rx_3.out
  go_wp2
  go_ret
  exact ⟨rfl, L3.out.1⟩
theorem r15plain_any {A : Option Addr} {c : Nat} {s : Bool} {xs : List Nat} {x : Int} {q : Bool} {w : World} (h : Dg w A c xs) (hl : xs.length ≤ 10000) (hq : plainB s xs x = q) :
    Calls Tryz.prog 32 #[.agg #[.bool s, .slice A xs.length c, .int .i64 x]] w fun e w' => e = .returned (.bool q) ∧ Below w.heap.size w w' := by
  unfold plainB at hq
  cases hr : dyR s xs x
  · obtain rfl : q = false := by rw [← hq, hr]; rfl
    exact r15plain_w A c s xs x w h (by omega) hr
  · rw [hr, Bool.true_and] at hq
    obtain ⟨m, rfl, rfl, r1⟩ := num_of h.2.1 hr
    by_cases m0 : m = 0
    · obtain rfl : q = true := by rw [← hq, decide_eq_true (show (digs m.natAbs).length = 0 by rw [m0, show digs (0 : Int).natAbs = [] from digs_zero]; rfl)]; rfl
      exact r15plain_z A c m x w h hl r1 m0
    · rw [decide_eq_false (fun e => m0 (by have := digs_nil.1 e; omega)), Bool.false_or, val_digs] at hq
      by_cases hx : x < -64
      · obtain rfl : q = false := by rw [← hq, decide_eq_false (by omega)]; rfl
        exact r15plain_l A c m x w h hl r1 m0 hx
      · rw [decide_eq_true (by omega), Bool.true_and] at hq
        exact r15plain_y A c m x w h hl r1 m0 (by omega) hq
theorem r5bytes_n (A : Option Addr) (c : Nat) (m x : Int) (w : World) (h : Dg w A c (digs m.natAbs)) (hl : (digs m.natAbs).length ≤ 400) (r1 : Rt m x) (hq : inR m x = false):
    Calls Tryz.prog 19 #[.agg #[.bool (decide (m < 0)), .slice A (digs m.natAbs).length c, .int .i64 x]] w fun e w' => e = .returned (.tuple #[.string ⟨#[]⟩, .int .i64 4]) ∧ Below w.heap.size w w' := by
  have lx := qH hl
  have HR := qH (dyR_num r1)
  have HI := qH hq
  have XB := qH r1.2
  have L0 := qH ((live_start w).add h)
  clear h hl r1 hq
  go_enter Tryz.func19, Tryz.ntmps19
  go_wp2_with fail
  obtain ⟨v1, hW, hb, Rx_1⟩ := new1 w (.cells #[.bool (decide (m < 0)), .slice A (digs m.natAbs).length c, .int .i64 x] 26)
  rw [← hW]
  have L1 := ls L0 hb
  clear hW hb
  refine (r5right_any (L1.out.get (A := A) (c := c) (xs := digs m.natAbs) (by simp)) (Nat.le_trans lx.out (by omega)) HR.out).mono ?_
  rintro e w2 ⟨rfl, hb⟩
  have L2 := ls L1 hb
  have Rx_2 := co Rx_1 hb
  clear hb
  obtain ⟨fx0, zx0, fx1, zx1, fx2, zx2, xx⟩ := ly3 Rx_2.out
  go_wp2_with fail
  refine (r5inr_any (L2.out.get (A := A) (c := c) (xs := digs m.natAbs) (by simp)) (Nat.le_trans lx.out (by omega)) (by have := XB.out; omega) (by have := XB.out; omega) HI.out).mono ?_
  rintro e w3 ⟨rfl, hb⟩
  have L3 := ls L2 hb
  clear fx0 zx0 fx1 zx1 fx2 zx2 xx
  have Rx_3 := co Rx_2 hb
  clear hb
  obtain ⟨fx0, zx0, fx1, zx1, fx2, zx2, xx⟩ := ly3 Rx_3.out
  go_wp2
  exact bodyPost_ret (v := .tuple #[.string ⟨#[]⟩, .int .i64 4]) (by simp [results, Tryz.results19, go_sem]) rfl ⟨rfl, L3.out.1⟩
theorem r5bytes_y (A : Option Addr) (c : Nat) (m x : Int) (t : ByteArray) (w : World) (h : Dg w A c (digs m.natAbs)) (hl : (digs m.natAbs).length ≤ 400) (r1 : Rt m x) (hq : inR m x = true) (ht : t.data.toList = zb m ++ zb x):
    Calls Tryz.prog 19 #[.agg #[.bool (decide (m < 0)), .slice A (digs m.natAbs).length c, .int .i64 x]] w fun e w' => e = .returned (.tuple #[.string t, .int .i64 0]) ∧ Below w.heap.size w w' := by
  have lx := qH hl
  have HR := qH (dyR_num r1)
  have HI := qH hq
  have XB := qH r1.2
  obtain ⟨t1, ht1⟩ : ∃ t1 : ByteArray, (⟨(zb m).toArray⟩ : ByteArray) = t1 := ⟨_, rfl⟩
  obtain ⟨t2, ht2⟩ : ∃ t2 : ByteArray, (⟨(zb x).toArray⟩ : ByteArray) = t2 := ⟨_, rfl⟩
  have TT := qH (show t1 ++ t2 = t by rw [← ht1, ← ht2]; apply ByteArray.ext; apply Array.toList_inj.1; rw [ht]; simp)
  have TS := qH (show t1.size + t2.size ≤ 10000 by rw [← ht1, ← ht2]; have := zbytes_len (decide (m < 0)) (digs m.natAbs); have h2 := zbytes_len (decide (x < 0)) (digs x.natAbs); have h3 : (digs x.natAbs).length ≤ 2 := digs_small (by have := r1.2; omega); show (zb m).length + (zb x).length ≤ 10000; unfold zb; omega)
  have B1 := qH (fun (V : World) (hV : Dg V A c (digs m.natAbs)) => ht1 ▸ rzbytes_any A c (decide (m < 0)) (digs m.natAbs) V hV hl (zb_right m))
  have B2 := qH (fun (A' : Option Addr) (c' : Nat) (V : World) (hV : Dg V A' c' (digs x.natAbs)) => ht2 ▸ rzbytes_any A' c' (decide (x < 0)) (digs x.natAbs) V hV (Nat.le_trans (digs_small (by have := r1.2; omega)) (by omega : 2 ≤ 400)) (zb_right x))
  have L0 := qH ((live_start w).add h)
  clear h hl r1 hq ht ht1 ht2
  go_enter Tryz.func19, Tryz.ntmps19
  go_wp2_with fail
  obtain ⟨v1, hW, hb, Rx_1⟩ := new1 w (.cells #[.bool (decide (m < 0)), .slice A (digs m.natAbs).length c, .int .i64 x] 26)
  rw [← hW]
  have L1 := ls L0 hb
  clear hW hb
  refine (r5right_any (L1.out.get (A := A) (c := c) (xs := digs m.natAbs) (by simp)) (Nat.le_trans lx.out (by omega)) HR.out).mono ?_
  rintro e w2 ⟨rfl, hb⟩
  have L2 := ls L1 hb
  have Rx_2 := co Rx_1 hb
  clear hb
  obtain ⟨fx0, zx0, fx1, zx1, fx2, zx2, xx⟩ := ly3 Rx_2.out
  go_wp2_with fail
  refine (r5inr_any (L2.out.get (A := A) (c := c) (xs := digs m.natAbs) (by simp)) (Nat.le_trans lx.out (by omega)) (by have := XB.out; omega) (by have := XB.out; omega) HI.out).mono ?_
  rintro e w3 ⟨rfl, hb⟩
  have L3 := ls L2 hb
  clear fx0 zx0 fx1 zx1 fx2 zx2 xx
  have Rx_3 := co Rx_2 hb
  clear hb
  obtain ⟨fx0, zx0, fx1, zx1, fx2, zx2, xx⟩ := ly3 Rx_3.out
  go_wp2_with fail
  refine (B1.out _ (L3.out.get (A := A) (c := c) (xs := digs m.natAbs) (by simp))).mono ?_
  rintro e w4 ⟨rfl, hb⟩
  have L4 := ls L3 hb
  clear fx0 zx0 fx1 zx1 fx2 zx2 xx
  have Rx_4 := co Rx_3 hb
  clear hb
  obtain ⟨fx0, zx0, fx1, zx1, fx2, zx2, xx⟩ := ly3 Rx_4.out
  go_wp2_with fail
  refine (rzfrom_any x _ (by have := XB.out; omega) (by have := XB.out; omega)).mono ?_
  rintro e w5 ⟨A', c', rfl, hd, hb⟩
  have L5 := la L4 hb hd
  clear hb hd fx0 zx0 fx1 zx1 fx2 zx2 xx
  go_wp2_with fail
  refine (B2.out A' c' _ (L5.out.get (A := A') (c := c') (xs := digs x.natAbs) (by simp))).mono ?_
  rintro e w6 ⟨rfl, hb⟩
  have L6 := ls L5 hb
  clear hb
  have nl : ¬ (9223372036854775807 < t1.size + t2.size) := by have := TS.out; omega
  go_wp2_with fail
  rw [TT.out]
  exact bodyPost_ret (v := .tuple #[.string t, .int .i64 0]) (by simp [results, Tryz.results19, go_sem]) rfl ⟨rfl, L6.out.1⟩
theorem r5bytes_any {v : Nm} (hk : ok32 v.2.1) (hl : v.2.1.length ≤ 400) (hr : dyR v.1 v.2.1 v.2.2 = true) : ∃ t : ByteArray, t.data.toList = bytT v ∧ ∀ (A : Option Addr) (c : Nat) (w : World), Dg w A c v.2.1 →
    Calls Tryz.prog 19 #[.agg #[.bool v.1, .slice A v.2.1.length c, .int .i64 v.2.2]] w fun e w' => e = .returned (.tuple #[.string t, .int .i64 (errT v)]) ∧ Below w.heap.size w w' := by
  obtain ⟨s, xs, x⟩ := v
  obtain ⟨m, rfl, rfl, r1⟩ := num_of hk hr
  have hn : nmv (decide (m < 0), digs m.natAbs, x) = m := sg_dz m
  unfold bytT errT dyIn nbB
  rw [hn]
  dsimp only
  cases hq : inR m x
  · exact ⟨⟨#[]⟩, rfl, fun A c w h => r5bytes_n A c m x w h hl r1 hq⟩
  · exact ⟨⟨(zb m ++ zb x).toArray⟩, rfl, fun A c w h => r5bytes_y A c m x _ w h hl r1 hq rfl⟩
theorem NsL.rowq {w : World} {P : Option Addr} {k : Nat} {cs : List Nm} (h : NsL w P k cs) : RowQ w P cs := by
  intro i v hv
  obtain ⟨A, C, hc, h⟩ := h
  have hi : i < cs.length := by
    rcases Nat.lt_or_ge i cs.length with h1 | h1
    · exact h1
    · rw [List.getElem?_eq_none_iff.2 h1] at hv; cases hv
  obtain ⟨b, o, rfl, hb, hr⟩ := h (by omega)
  have := hr i hi
  simp only [hv, Option.getD_some] at this
  exact ⟨b, o, A i, C i, rfl, this⟩
theorem rowq_one {w : World} {b : Nat} {s : Bool} {A : Option Addr} {c : Nat} {xs : List Nat} {x : Int} (h : w.heap[b]? = some (.cells #[.bool s, .slice A xs.length c, .int .i64 x] 26 (0, 0))) (hd : Dg w A c xs) : RowQ w (some ⟨b, 0, none⟩) [(s, xs, x)] := by
  intro i v hv
  rcases i with _ | i
  · simp at hv; subst hv
    exact ⟨b, 0, A, c, rfl, row_c (i := 0) h rfl, row_c (i := 1) h rfl, row_c (i := 2) h rfl, hd⟩
  · simp at hv
def headB (F O W Q D n : Int) : List UInt8 := [84, F, O, Q, D, W + 128, n].map by8
def stpP (s : List UInt8 × Int) (p : Pd) : List UInt8 × Int := p.cs.foldl stp (stp (s.1 ++ [by8 (p.w + 128)], s.2) p.er)
def encS (F O : Int) (a : Nm) (W Q D : Int) (ps : List Pd) : List UInt8 × Int := ps.foldl stpP (stp (headB F O W Q D ps.length, 0) a)
def outB (s : List UInt8 × Int) : List UInt8 := if s.2 = 0 then s.1 else []
def outE (s : List UInt8 × Int) : Int := if s.2 = 0 then 0 else 1
theorem stp_ge (s : List UInt8 × Int) (v : Nm) : s.1.length ≤ (stp s v).1.length := by unfold stp; simp
theorem stps_ge (cs : List Nm) : ∀ s : List UInt8 × Int, s.1.length ≤ (cs.foldl stp s).1.length := by
  induction cs with
  | nil => intro s; simp
  | cons v cs ih => intro s; rw [List.foldl_cons]; exact Nat.le_trans (stp_ge s v) (ih _)
theorem stpPs_ge (ps : List Pd) : ∀ s : List UInt8 × Int, s.1.length ≤ (ps.foldl stpP s).1.length := by
  induction ps with
  | nil => intro s; simp
  | cons p ps ih =>
    intro s; rw [List.foldl_cons]
    refine Nat.le_trans ?_ (ih _)
    unfold stpP
    refine Nat.le_trans ?_ (stps_ge p.cs _)
    refine Nat.le_trans ?_ (stp_ge _ p.er)
    simp
theorem encS_pos (F O : Int) (a : Nm) (W Q D : Int) (ps : List Pd) : 0 < (encS F O a W Q D ps).1.length := by
  unfold encS
  refine Nat.lt_of_lt_of_le ?_ (stpPs_ge ps _)
  refine Nat.lt_of_lt_of_le ?_ (stp_ge _ a)
  unfold headB; simp
theorem own_conv {w : World} {base : Nat} {x : Value} {n : Nat} {l : List UInt8} (h : w.ownsRow base 5 1 x n (Lib.byteCells l)) (h0 : 0 < l.length) :
    (convert 50 9 x).run Tryz.prog w = .ok (.string ⟨l.toArray⟩) w := by
  have hl : l.length = n := by have := h.1; simpa [Lib.byteCells] using this
  obtain ⟨g, cap, hv, _, _⟩ := World.ownsRow.form h (by omega)
  subst hv
  rw [← hl]
  refine run_convert_bytes_back w 50 9 5 ⟨g, 0, none⟩ cap l Tryz.underlying50 Tryz.underlying5 Tryz.underlying9 (fun j hj => ?_)
  refine h.cells (g := g) rfl j _ ?_
  unfold Lib.byteCells
  rw [List.getElem?_map, List.getElem?_eq_getElem hj]
  rfl
theorem digs_bl (n : Nat) : (digs n).length ≤ blen n / 32 + 1 := Nat.le_trans (digs_len_mono _ _ (Nat.le_of_lt (blen_lt n))) (pow_digs_len _)
theorem rightL_all {D : Int} : ∀ {ps : List Pd} {q r : Int × Int}, rightL D ps q = some r → ∀ p, p ∈ ps → pieceB p D = true
  | [], _, _, _ => fun p hp => by simp at hp
  | a :: ps, q, r, h => fun p hp => by
    simp only [rightL] at h
    split at h
    · rename_i hc
      rw [Bool.and_eq_true] at hc
      rcases List.mem_cons.1 hp with rfl | hp
      · exact hc.1
      · exact rightL_all h p hp
    · cases h
theorem PsL.below {w w' : World} {P : Option Addr} {ps : List Pd} (h : PsL w P ps) (hB : Below w.heap.size w w') : PsL w' P ps := by
  intro h0
  obtain ⟨b, o, e, hb, hr⟩ := h h0
  refine ⟨b, o, e, Nat.lt_of_lt_of_le hb hB.size, fun i p hp => ?_⟩
  obtain ⟨A, c, B, d, P2, k, e0, e1, e2, e3, e4, e5, e6, e7, hd, he, hn⟩ := hr i p hp
  have ce : ∀ j, w'.cell? ⟨b, j, none⟩ = w.cell? ⟨b, j, none⟩ := fun j => hB.cell (p := ⟨b, j, none⟩) hb
  exact ⟨A, c, B, d, P2, k, (ce _).trans e0, (ce _).trans e1, (ce _).trans e2, (ce _).trans e3, (ce _).trans e4, (ce _).trans e5, (ce _).trans e6, (ce _).trans e7, hd.below hB, he.below hB, hn.below hB⟩
theorem rightN {v : Nm} (hk : ok32 v.2.1) (h : nmB v = true) : dyR v.1 v.2.1 v.2.2 = true ∧ ok32 v.2.1 ∧ v.2.1.length ≤ 400 ∧ -131072 ≤ v.2.2 ∧ v.2.2 ≤ 131072 := by
  obtain ⟨s, xs, x⟩ := v
  unfold nmB mayB at h
  rw [Bool.and_eq_true, decide_eq_true_eq] at h
  dsimp only at *
  refine ⟨h.1, hk, ?_, ?_⟩
  · have h1 := h.2
    obtain ⟨m, rfl, rfl, r1⟩ := num_of hk h.1
    have := digs_bl m.natAbs
    rw [val_digs] at h1
    omega
  · obtain ⟨m, rfl, rfl, r1⟩ := num_of hk h.1
    exact r1.2
theorem rightA {s : Bool} {xs : List Nat} {x : Int} (hk : ok32 xs) (h : plainB s xs x = true) : dyR s xs x = true ∧ ok32 xs ∧ xs.length ≤ 400 ∧ -131072 ≤ x ∧ x ≤ 131072 := by
  unfold plainB at h
  rw [Bool.and_eq_true] at h
  refine ⟨h.1, hk, ?_, ?_⟩
  · have h2 := h.2
    obtain ⟨m, rfl, rfl, r1⟩ := num_of hk h.1
    have h3 := digs_bl m.natAbs
    rw [val_digs] at h2
    rw [Bool.or_eq_true, decide_eq_true_eq, Bool.and_eq_true, decide_eq_true_eq, decide_eq_true_eq] at h2
    omega
  · obtain ⟨m, rfl, rfl, r1⟩ := num_of hk h.1
    exact r1.2
theorem psmall_new {base g c : Nat} {v : Value} {L : List UInt8} {E : Int} (ns : List Int) {n : Nat} (hn : n = ns.length) {w w4 : World} {cs : Array Value} (hcs : cs = (ns.map (Value.int .i64)).toArray) (hW : w.alloc (.cells cs 3) = w4) (hp : PB w base g v L E) (hl : L.length + ns.length ≤ 100000000) :
    Calls Tryz.prog 16 #[.pointer (some ⟨g, 0, none⟩), .slice (some ⟨w.heap.size, 0, none⟩) n c] w4 fun e w' => ∃ v', e = .returned (.tuple #[]) ∧ PB w' base g v' (L ++ ns.map by8) E ∧ Gq base g w w' := by
  subst hn
  have hb : Below w.heap.size w w4 := by rw [← hW]; exact below1 _ _
  have hr : w4.heap[w.heap.size]? = some (.cells cs 3 (0, 0)) := by rw [← hW]; exact heap_alloc_new _ _
  have hg := heap_lt hp.1
  refine (psmall_any base g w.heap.size 0 c v L E ns w4 (hp.below hb) cs _ hr (by decide) (by omega) (fun i x hx => ?_) (Nat.le_trans hp.2.2 (by have := hb.size; omega)) hl).mono ?_
  · refine row_c hr ?_
    rw [hcs, Nat.zero_add]
    simp [hx]
  · rintro e w' ⟨v', rfl, h1, h2⟩
    exact ⟨v', rfl, h1, (Gq.below hb).trans h2⟩
theorem pnum_one {g c' : Nat} {v : Value} {L : List UInt8} {E : Int} {A : Option Addr} {c : Nat} {s : Bool} {xs : List Nat} {x : Int} {W0 w w4 : World} (hp : PB w W0.heap.size g v L E) (hB : Below W0.heap.size W0 w) (hW : w.alloc (.cells #[.bool s, .slice A xs.length c, .int .i64 x] 26) = w4) (hd : Dg W0 A c xs) (hR : dyR s xs x = true ∧ ok32 xs ∧ xs.length ≤ 400 ∧ -131072 ≤ x ∧ x ≤ 131072) (hl : L.length + 2000 ≤ 100000000) :
    Calls Tryz.prog 17 #[.pointer (some ⟨g, 0, none⟩), .slice (some ⟨w.heap.size, 0, none⟩) 1 c'] w4 fun e w' => ∃ v', e = .returned (.tuple #[]) ∧ PB w' W0.heap.size g v' (stp (L, E) (s, xs, x)).1 (stp (L, E) (s, xs, x)).2 ∧ Gq W0.heap.size g w w' := by
  have hb : Below w.heap.size w w4 := by rw [← hW]; exact below1 _ _
  have hr : w4.heap[w.heap.size]? = some (.cells #[.bool s, .slice A xs.length c, .int .i64 x] 26 (0, 0)) := by rw [← hW]; exact heap_alloc_new _ _
  have hg := heap_lt hp.1
  have hB4 : Below W0.heap.size W0 w4 := hB.trans (hb.mono hB.size)
  refine (pnumbers_any g c' (some ⟨w.heap.size, 0, none⟩) v L E [(s, xs, x)] W0 w4 (hp.below hb) hB4 (fun w' hw => rowq_one (hw.row hr (by omega) (by decide)) (hd.below (hw.base hB4 (by have := hb.size; have := hB.size; omega) hp.2.2 (Nat.le_refl _)))) (fun u hu => by rw [List.mem_singleton] at hu; subst hu; exact hR) (by simpa using hl)).mono ?_
  rintro e w' ⟨v', rfl, h1, h2⟩
  exact ⟨v', rfl, h1, (Gq.below hb).trans h2⟩
theorem pnum_ns {g k : Nat} {v : Value} {L : List UInt8} {E : Int} {P : Option Addr} {cs : List Nm} {W0 w : World} (hp : PB w W0.heap.size g v L E) (hB : Below W0.heap.size W0 w) (hd : NsL W0 P k cs) (hR : ∀ v, v ∈ cs → dyR v.1 v.2.1 v.2.2 = true ∧ ok32 v.2.1 ∧ v.2.1.length ≤ 400 ∧ -131072 ≤ v.2.2 ∧ v.2.2 ≤ 131072) (hl : L.length + 2000 * cs.length ≤ 100000000) :
    Calls Tryz.prog 17 #[.pointer (some ⟨g, 0, none⟩), .slice P cs.length k] w fun e w' => ∃ v', e = .returned (.tuple #[]) ∧ PB w' W0.heap.size g v' (cs.foldl stp (L, E)).1 (cs.foldl stp (L, E)).2 ∧ Gq W0.heap.size g w w' :=
  pnumbers_any g k P v L E cs W0 w hp hB (fun w' hw => (hd.below (hw.base hB hB.size hp.2.2 (Nat.le_refl _))).rowq) hR hl
theorem NsL.ok {w : World} {P : Option Addr} {k : Nat} {cs : List Nm} (h : NsL w P k cs) : ∀ v, v ∈ cs → ok32 v.2.1 := fun v hv => by
  obtain ⟨i, hi⟩ := List.mem_iff_getElem?.1 hv
  obtain ⟨b, o, A, c, _, _, _, _, hd⟩ := h.rowq i v hi
  exact hd.2.1
theorem stpP_len {D : Int} (hD : D ≤ 16) {p : Pd} (hp : pieceB p D = true) (hk : ok32 p.er.2.1) (hn : ∀ v, v ∈ p.cs → ok32 v.2.1) (s : List UInt8 × Int) : (stpP s p).1.length ≤ s.1.length + 40000 := by
  unfold pieceB at hp
  simp only [Bool.and_eq_true, decide_eq_true_eq, List.all_eq_true] at hp
  obtain ⟨_, hl, ⟨_, he⟩, hc, _⟩ := hp
  have h1 := stp_len p.cs (fun v hv => (rightN (hn v hv) (hc v hv)).2) (stp (s.1 ++ [by8 (p.w + 128)], s.2) p.er)
  have h2 := stp_len [p.er] (fun v hv => by rw [List.mem_singleton] at hv; subst hv; exact (rightN hk he).2) (s.1 ++ [by8 (p.w + 128)], s.2)
  simp only [List.foldl_cons, List.foldl_nil, List.length_append, List.length_singleton] at h2
  have h3 : 2000 * p.cs.length ≤ 2000 * 17 := by omega
  unfold stpP
  omega
theorem encode_go (A P : Option Addr) (c k : Nat) (F O W Q D : Int) (s : Bool) (xs : List Nat) (x : Int) (ps : List Pd) (w : World) (h : Dg w A c xs) (hl : xs.length ≤ 10000) (hT : T32 w) (hps : PsL w P ps) (hsm : SmP ps) (hq : rightT F O (s, xs, x) W Q D ps = true) :
    Calls Tryz.prog 7 #[.agg #[.int .i64 F, .int .i64 O, .bool s, .slice A xs.length c, .int .i64 x, .int .i64 W, .int .i64 Q, .int .i64 D, .slice P ps.length k]] w fun e w' => (∃ t : ByteArray, e = .returned (.tuple #[.string t, .int .i64 (outE (encS F O (s, xs, x) W Q D ps))]) ∧ t.data.toList = outB (encS F O (s, xs, x) W Q D ps)) ∧ Below w.heap.size w w' := by
  have HR := qH (fun (W1 : World) (hB : Below w.heap.size w W1) => cright_any (A := A) (c := c) (k := k) (a := (s, xs, x)) (h.below hB) hl (t32_below hT hB) (PsL.below hps hB) hsm hq)
  have HQ := qH hq
  have HPS := qH hps
  have HH := qH h
  have hq2 := hq
  unfold rightT at hq2
  simp only [Bool.and_eq_true, decide_eq_true_eq] at hq2
  obtain ⟨_, _, hpl, ⟨hw0, hw1⟩, _, ⟨hd0, hd1⟩, ⟨hn0, hn1⟩, hrl⟩ := hq2
  have hpp : ∀ p, p ∈ ps → pieceB p D = true := rightL_all (by have := hrl; rw [beq_iff_eq] at this; exact this)
  have RA := qH (rightA h.2.1 hpl)
  have wW : wrap64 (W + 128) = W + 128 := IntWalk.wrap64_in _ ⟨by omega, by omega⟩
  have hlen : ps.length ≤ 32 := by omega
  have HD := qH (And.intro hd0 hd1)
  have HPP := qH hpp
  have HPL := qH hpl
  clear h hl hT hps hsm hq hpl hw0 hw1 hd0 hd1 hn0 hn1 hrl hpp
  go_enter Tryz.func7, Tryz.ntmps7
  go_wp2_with fail
  obtain ⟨v1, hW⟩ : ∃ V : World, V = w.alloc (.cells #[.int .i64 F, .int .i64 O, .bool s, .slice A xs.length c, .int .i64 x, .int .i64 W, .int .i64 Q, .int .i64 D, .slice P ps.length k] 29) := ⟨_, rfl⟩
  rw [← hW]
  have hb : Below w.heap.size w v1 := by rw [hW]; exact below1 _ _
  have B1 := qH hb
  have R1 := qH (show v1.heap[w.heap.size]? = some (.cells #[.int .i64 F, .int .i64 O, .bool s, .slice A xs.length c, .int .i64 x, .int .i64 W, .int .i64 Q, .int .i64 D, .slice P ps.length k] 29 (0, 0)) by rw [hW]; exact heap_alloc_new _ _)
  clear hW hb
  refine (HR.out v1 B1.out).mono ?_
  rintro e w2 ⟨rfl, hb⟩
  have R2 := co R1 hb
  have B2 := qH (B1.out.trans (hb.mono B1.out.size))
  clear hb
  obtain ⟨ft0, ft1, ft2, ft3, ft4, ft5, ft6, ft7, ft8, xft⟩ := ly9f R2.out
  go_upto_region 4 with fail
  clear ft0 ft1 ft2 ft3 ft4 ft5 ft6 ft7 ft8 xft
  obtain ⟨w3, hW⟩ : ∃ V : World, V = w2.alloc (.cells #[.slice none 0 0, .int .i64 0] 52) := ⟨_, rfl⟩
  rw [← hW]
  have hb : Below w2.heap.size w2 w3 := by rw [hW]; exact below1 _ _
  obtain ⟨g, hg⟩ : ∃ g, g = w2.heap.size := ⟨_, rfl⟩
  have HGE := qH (show w.heap.size < g by rw [hg]; exact heap_lt R2.out)
  rw [← hg]
  have P3 := qH (show PB w3 w.heap.size g (.slice none 0 0) [] 0 from ⟨by rw [hW, hg]; exact heap_alloc_new _ _, World.ownsRow_nil _ _ _ _, Nat.le_of_lt HGE.out⟩)
  have R3 := co R2 hb
  have B3 := qH (B2.out.trans (hb.mono B2.out.size))
  clear hb hW hg
  obtain ⟨ft0, ft1, ft2, ft3, ft4, ft5, ft6, ft7, ft8, xft⟩ := ly9f R3.out
  go_wp2_with fail
  clear ft0 ft1 ft2 ft3 ft4 ft5 ft6 ft7 ft8 xft
  obtain ⟨w4, hW⟩ : ∃ V : World, w3.alloc (.cells #[.int .i64 84, .int .i64 F, .int .i64 O, .int .i64 Q, .int .i64 D, .int .i64 (W + 128), .int .i64 ps.length] 3) = V := ⟨_, rfl⟩
  rw [hW]
  refine (psmall_new [84, F, O, Q, D, W + 128, ps.length] rfl rfl hW P3.out (by simp)).mono ?_
  rintro e w5 ⟨v5, rfl, hp, hg⟩
  have P5 := qH (show PB w5 w.heap.size g v5 (headB F O W Q D ps.length) 0 from hp)
  have B5 := qH (hg.base B3.out B3.out.size P3.out.2.2 (Nat.le_refl _))
  have R5 := qH (hg.row R3.out (Nat.ne_of_lt HGE.out) (by decide))
  clear hp hg hW
  obtain ⟨ft0, ft1, ft2, ft3, ft4, ft5, ft6, ft7, ft8, xft⟩ := ly9f R5.out
  go_wp2_with fail
  clear ft0 ft1 ft2 ft3 ft4 ft5 ft6 ft7 ft8 xft
  obtain ⟨w6, hW⟩ : ∃ V : World, w5.alloc (.cells #[.bool s, .slice A xs.length c, .int .i64 x] 26) = V := ⟨_, rfl⟩
  rw [hW]
  refine (pnum_one P5.out B5.out hW HH.out RA.out (by unfold headB; simp)).mono ?_
  rintro e w7 ⟨v7, rfl, hp, hg⟩
  obtain ⟨L7, E7, hs⟩ : ∃ L E, stp (headB F O W Q D ps.length, 0) (s, xs, x) = (L, E) := ⟨_, _, rfl⟩
  rw [hs] at hp
  have HS := qH hs
  have LS := qH (show L7.length ≤ 3000 by
    have := stp_len [(s, xs, x)] (fun u hu => by rw [List.mem_singleton] at hu; subst hu; exact RA.out.2) (headB F O W Q D ps.length, 0)
    simp only [List.foldl_cons, List.foldl_nil, hs, List.length_singleton] at this
    unfold headB at this; simp at this; omega)
  have P7 := qH hp
  have B7 := qH (hg.base B5.out B5.out.size P5.out.2.2 (Nat.le_refl _))
  have R7 := qH (hg.row R5.out (Nat.ne_of_lt HGE.out) (by decide))
  clear hp hg hW hs
  obtain ⟨ft0, ft1, ft2, ft3, ft4, ft5, ft6, ft7, ft8, xft⟩ := ly9f R7.out
  go_wp2
  clear ft0 ft1 ft2 ft3 ft4 ft5 ft6 ft7 ft8 xft
  go_loopw [33] (fun i wr => ∃ (j : Nat) (v1 : Value) (L1 : List UInt8) (E1 : Int), j ≤ ps.length ∧ i = .int .i64 j ∧ Hid ((ps.take j).foldl stpP (L7, E7) = (L1, E1) ∧ L1.length ≤ 3000 + 40000 * j) ∧ Hid (PB wr w.heap.size g v1 L1 E1) ∧ Hid (Below w.heap.size w wr) ∧ Hid (wr.heap[w.heap.size]? = some (.cells #[.int .i64 F, .int .i64 O, .bool s, .slice A xs.length c, .int .i64 x, .int .i64 W, .int .i64 Q, .int .i64 D, .slice P ps.length k] 29 (0, 0)))) (fun i _ => ps.length - (intOf i).toNat)
  case atStart => exact ⟨0, v7, L7, E7, Nat.zero_le _, rfl, qH ⟨rfl, LS.out⟩, P7, B7, R7⟩
  case round =>
    obtain ⟨j, v1, L1, E1, hj, rfl, HF, HP1, HB, HRT⟩ := hrel
    by_cases hlt : j < ps.length
    · obtain ⟨p, hp⟩ : ∃ p, ps[j]? = some p := ⟨_, List.getElem?_eq_getElem hlt⟩
      obtain ⟨b, o, rfl, hbb, hps⟩ := HPS.out (by omega)
      obtain ⟨A2, c2, B2, d2, P2, k2, e0, e1, e2, e3, e4, e5, e6, e7, hda, hde, hns⟩ := hps j p hp
      have HX := qH (show (ps.take (j + 1)).foldl stpP (L7, E7) = stpP (L1, E1) p by rw [List.take_add_one, hp, List.foldl_append, HF.out.1]; rfl)
      have hpB := HPP.out p (List.mem_of_getElem? hp)
      have XL := qH (show (stpP (L1, E1) p).1.length ≤ 3000 + 40000 * (j + 1) by
        have := stpP_len HD.out.2 hpB hde.2.1 hns.ok (L1, E1)
        have := HF.out.2
        dsimp only at *
        omega)
      have hpB2 := hpB
      unfold pieceB at hpB2
      simp only [Bool.and_eq_true, decide_eq_true_eq, List.all_eq_true] at hpB2
      obtain ⟨⟨pw0, pw1⟩, hcl, ⟨_, her⟩, hcs, _⟩ := hpB2
      have HER := qH (rightN hde.2.1 her)
      have HCS := qH (fun v hv => rightN (hns.ok v hv) (hcs v hv))
      have HCL := qH hcl
      have wp : wrap64 (p.w + 128) = p.w + 128 := IntWalk.wrap64_in _ ⟨by omega, by omega⟩
      have HNS := qH hns
      have HDE := qH hde
      have g0 := (HB.out.cell (p := ⟨b, o + j * 8, none⟩) hbb).trans e0
      have g1 := (HB.out.cell (p := ⟨b, o + j * 8 + 1, none⟩) hbb).trans e1
      have g2 := (HB.out.cell (p := ⟨b, o + j * 8 + 2, none⟩) hbb).trans e2
      have g3 := (HB.out.cell (p := ⟨b, o + j * 8 + 3, none⟩) hbb).trans e3
      have g4 := (HB.out.cell (p := ⟨b, o + j * 8 + 4, none⟩) hbb).trans e4
      have g5 := (HB.out.cell (p := ⟨b, o + j * 8 + 5, none⟩) hbb).trans e5
      have g6 := (HB.out.cell (p := ⟨b, o + j * 8 + 6, none⟩) hbb).trans e6
      have g7 := (HB.out.cell (p := ⟨b, o + j * 8 + 7, none⟩) hbb).trans e7
      have HLT := qH hlt
      clear e0 e1 e2 e3 e4 e5 e6 e7 hda hde hns hp hps hpB hcl her hcs pw0 pw1
      go_wp2_with fail
      clear g0 g1 g2 g3 g4 g5 g6 g7
      obtain ⟨wa, hW⟩ : ∃ V : World, wr.alloc (.cells #[.bool p.a.1, .slice A2 p.a.2.1.length c2, .int .i64 p.a.2.2, .int .i64 p.w, .slice P2 p.cs.length k2, .bool p.er.1, .slice B2 p.er.2.1.length d2, .int .i64 p.er.2.2] 49) = V := ⟨_, rfl⟩
      rw [hW]
      have hz : wr.heap.size + 1 = wa.heap.size := by rw [← hW]; simp
      have hb : Below wr.heap.size wr wa := by rw [← hW]; exact below1 _ _
      have hpr : wa.heap[wr.heap.size]? = some (.cells #[.bool p.a.1, .slice A2 p.a.2.1.length c2, .int .i64 p.a.2.2, .int .i64 p.w, .slice P2 p.cs.length k2, .bool p.er.1, .slice B2 p.er.2.1.length d2, .int .i64 p.er.2.2] 49 (0, 0)) := by rw [← hW]; exact heap_alloc_new _ _
      obtain ⟨pb, hpb⟩ : ∃ n, wr.heap.size = n := ⟨_, rfl⟩
      have PA := qH (HP1.out.below hb)
      have BA := qH (HB.out.trans (hb.mono HB.out.size))
      have RA2 := co HRT hb
      have NE := qH (show pb ≠ g from fun e => by have := heap_lt HP1.out.1; omega)
      rw [hz]
      rw [hpb] at hpr ⊢
      have QA := qH hpr
      clear hW hz hb hpr hpb
      obtain ⟨wb, hW⟩ : ∃ V : World, wa.alloc (.cells #[.int .i64 (p.w + 128)] 3) = V := ⟨_, rfl⟩
      rw [hW]
      refine (psmall_new [p.w + 128] rfl rfl hW PA.out (by have := HF.out.2; simp; omega)).mono ?_
      rintro e w8 ⟨v8, rfl, hp, hg⟩
      have P8 := qH (show PB w8 w.heap.size g v8 (L1 ++ [by8 (p.w + 128)]) E1 from hp)
      have B8 := qH (hg.base BA.out BA.out.size PA.out.2.2 (Nat.le_refl _))
      have R8 := qH (hg.row RA2.out (Nat.ne_of_lt HGE.out) (by decide))
      have Q8 := qH (hg.row QA.out NE.out (by decide))
      clear hp hg hW
      obtain ⟨fp0, fp1, fp2, fp3, fp4, fp5, fp6, fp7, xfp⟩ := ly8f Q8.out
      go_wp2_with fail
      clear fp0 fp1 fp2 fp3 fp4 fp5 fp6 fp7 xfp
      obtain ⟨wc, hW⟩ : ∃ V : World, w8.alloc (.cells #[.bool p.er.1, .slice B2 p.er.2.1.length d2, .int .i64 p.er.2.2] 26) = V := ⟨_, rfl⟩
      rw [hW]
      refine (pnum_one P8.out B8.out hW HDE.out HER.out (by have := HF.out.2; simp; omega)).mono ?_
      rintro e w9 ⟨v9, rfl, hp, hg⟩
      obtain ⟨L9, E9, hs⟩ : ∃ L E, stp (L1 ++ [by8 (p.w + 128)], E1) p.er = (L, E) := ⟨_, _, rfl⟩
      rw [show (p.er.1, p.er.2.1, p.er.2.2) = p.er from rfl, hs] at hp
      have HS9 := qH hs
      have LS9 := qH (show L9.length ≤ 3000 + 40000 * j + 2001 by
        have := stp_len [p.er] (fun u hu => by rw [List.mem_singleton] at hu; subst hu; exact HER.out.2) (L1 ++ [by8 (p.w + 128)], E1)
        simp only [List.foldl_cons, List.foldl_nil, hs, List.length_singleton, List.length_append] at this
        have := HF.out.2; omega)
      have P9 := qH hp
      have B9 := qH (hg.base B8.out B8.out.size P8.out.2.2 (Nat.le_refl _))
      have R9 := qH (hg.row R8.out (Nat.ne_of_lt HGE.out) (by decide))
      have Q9 := qH (hg.row Q8.out NE.out (by decide))
      clear hp hg hW hs
      obtain ⟨fp0, fp1, fp2, fp3, fp4, fp5, fp6, fp7, xfp⟩ := ly8f Q9.out
      go_wp2_with fail
      clear fp0 fp1 fp2 fp3 fp4 fp5 fp6 fp7 xfp
      refine (pnum_ns P9.out B9.out HNS.out HCS.out (by have := LS9.out; have := HCL.out; have := HD.out; omega)).mono ?_
      rintro e w10 ⟨v10, rfl, hp, hg⟩
      have hst : stpP (L1, E1) p = p.cs.foldl stp (L9, E9) := by unfold stpP; rw [HS9.out]
      rw [← hst] at hp
      have P10 := qH hp
      have B10 := qH (hg.base B9.out B9.out.size P9.out.2.2 (Nat.le_refl _))
      have R10 := qH (hg.row R9.out (Nat.ne_of_lt HGE.out) (by decide))
      clear hp hg hst
      go_wp2
      go_roundw
      case rel => exact ⟨j + 1, v10, (stpP (L1, E1) p).1, (stpP (L1, E1) p).2, HLT.out, by go_num, qH ⟨HX.out, XL.out⟩, P10, B10, R10⟩
      case measure => have := HLT.out; simp [intOf]; omega
    · obtain rfl : j = ps.length := by omega
      have hf := HF.out.1
      rw [List.take_length] at hf
      have HE := qH (show encS F O (s, xs, x) W Q D ps = (L1, E1) by unfold encS; rw [HS.out]; exact hf)
      have L0 := qH (show 0 < L1.length by
        have h1 := encS_pos F O (s, xs, x) W Q D ps
        rw [HE.out] at h1; exact h1)
      clear hf
      have f0 := row_c (i := 0) HP1.out.1 rfl
      have f1 := row_c (i := 1) HP1.out.1 rfl
      by_cases h0 : E1 = 0
      · subst h0
        have c0 := own_conv HP1.out.2.1 L0.out
        go_wp2
        go_ret2
        exact ⟨⟨⟨L1.toArray⟩, by rw [HE.out]; rfl, by rw [HE.out]; rfl⟩, HB.out⟩
      · have hz : (E1 != 0) = true := bne_iff_ne.2 h0
        have HZ := qH h0
        go_wp2
        go_ret2
        exact ⟨⟨⟨#[]⟩, by rw [HE.out]; unfold outE; dsimp only; rw [if_neg HZ.out]; rfl, by rw [HE.out]; unfold outB; dsimp only; rw [if_neg HZ.out]⟩, HB.out⟩
def fitsH (p : Pd) : Bool := nmB p.a && ((decide (-64 ≤ p.w) && decide (p.w ≤ 64)) && ((decide (2 ≤ p.cs.length) && decide (p.cs.length ≤ 17)) && (nmB p.er && !p.er.1)))
def fitsB (p : Pd) : Bool := fitsH p && p.cs.all nmB
theorem all_take_snoc {cs : List Nm} {j : Nat} {v : Nm} (h : cs[j]? = some v) (ha : (cs.take j).all nmB = true) (hv : nmB v = true) : (cs.take (j + 1)).all nmB = true := by
  rw [List.take_add_one, h]; simp [ha, hv]
theorem all_no {cs : List Nm} {j : Nat} {v : Nm} (h : cs[j]? = some v) (hv : nmB v = false) : cs.all nmB = false := by
  rw [Bool.eq_false_iff]; intro e
  rw [List.all_eq_true] at e
  have := e v (List.mem_of_getElem? h)
  rw [hv] at this; cases this
theorem r15fits_go (A B P : Option Addr) (c d k n : Nat) (s r : Bool) (xs ys : List Nat) (x W y : Int) (cs : List Nm) (q q1 : Bool) (w : World) (h : Dg w A c xs) (h' : Dg w B d ys) (hl : xs.length ≤ 10000) (hl' : ys.length ≤ 10000) (hns : NsL w P k cs) (hX : ∀ v, v ∈ cs → v.2.1.length ≤ 10000) (hn : cs.length = n) (hq1 : (nmB (s, xs, x) && ((decide (-64 ≤ W) && decide (W ≤ 64)) && ((decide (2 ≤ n) && decide (n ≤ 17)) && (nmB (r, ys, y) && !r)))) = q1) (hq : (q1 && cs.all nmB) = q) :
    Calls Tryz.prog 33 #[.agg #[.bool s, .slice A xs.length c, .int .i64 x, .int .i64 W, .slice P n k, .bool r, .slice B ys.length d, .int .i64 y]] w fun e w' => e = .returned (.bool q) ∧ Below w.heap.size w w' := by
  have H := qH h
  have H' := qH h'
  have HL := qH (And.intro hl hl')
  have HNS := qH hns
  have HX := qH hX
  have HN := qH hn
  have Q1 := qH hq1
  have HQ := qH hq
  clear h h' hl hl' hns hX hn hq1 hq
  go_enter Tryz.func33, Tryz.ntmps33
  go_upto_region 1 with fail
  obtain ⟨v1, hW⟩ : ∃ V : World, w.alloc (.cells #[.bool s, .slice A xs.length c, .int .i64 x, .int .i64 W, .slice P n k, .bool r, .slice B ys.length d, .int .i64 y] 49) = V := ⟨_, rfl⟩
  rw [hW]
  have B1 := qH (show Below w.heap.size w v1 by rw [← hW]; exact below1 _ _)
  have R1 := qH (show v1.heap[w.heap.size]? = some (.cells #[.bool s, .slice A xs.length c, .int .i64 x, .int .i64 W, .slice P n k, .bool r, .slice B ys.length d, .int .i64 y] 49 (0, 0)) by rw [← hW]; exact heap_alloc_new _ _)
  clear hW
  go_cut [41] (fun bv wx => bv = .bool (!q1) ∧ Hid (Below w.heap.size w wx) ∧ Hid (wx.heap[w.heap.size]? = some (.cells #[.bool s, .slice A xs.length c, .int .i64 x, .int .i64 W, .slice P n k, .bool r, .slice B ys.length d, .int .i64 y] 49 (0, 0))))
  case first =>
    obtain ⟨ra, hra⟩ : ∃ t, nmB (s, xs, x) = t := ⟨_, rfl⟩
    have HA := qH hra
    clear hra
    obtain ⟨f0, zf0, f1, zf1, f2, zf2, f3, zf3, f4, zf4, f5, zf5, f6, zf6, f7, zf7, xf⟩ := ly8z R1.out
    go_wp2_with fail
    refine (r15short_any (H.out.below B1.out) HL.out.1 HA.out).mono ?_
    rintro e v2 ⟨rfl, hb⟩
    have B2 := qH (B1.out.trans (hb.mono B1.out.size))
    have R2 := co R1 hb
    clear hb f0 zf0 f1 zf1 f2 zf2 f3 zf3 f4 zf4 f5 zf5 f6 zf6 f7 zf7 xf
    obtain ⟨f0, zf0, f1, zf1, f2, zf2, f3, zf3, f4, zf4, f5, zf5, f6, zf6, f7, zf7, xf⟩ := ly8z R2.out
    cases ra
    · go_wp2_with fail
      go_meet
      exact ⟨by rw [show q1 = false from by rw [← Q1.out]; have hA := HA.out; simp [hA]]; rfl, B2, R2⟩
    · by_cases c1 : W < -64
      · have d1 : decide (W < -64) = true := decide_eq_true c1
        have C1 := qH c1
        clear c1
        go_wp2_with fail
        go_meet
        exact ⟨by rw [show q1 = false from by rw [← Q1.out]; have cc := C1.out; simp; omega]; rfl, B2, R2⟩
      · have d1 : decide (W < -64) = false := decide_eq_false c1
        by_cases c2 : 64 < W
        · have d2 : decide (64 < W) = true := decide_eq_true c2
          have C2 := qH c2
          clear c1 c2
          go_wp2_with fail
          go_meet
          exact ⟨by rw [show q1 = false from by rw [← Q1.out]; have cc := C2.out; simp; omega]; rfl, B2, R2⟩
        · have d2 : decide (64 < W) = false := decide_eq_false c2
          by_cases c3 : n < 2
          · have d3 : decide ((n : Int) < 2) = true := decide_eq_true (by omega)
            have d4 : decide (n < 2) = true := decide_eq_true c3
            have C3 := qH c3
            clear c1 c2 c3
            go_wp2_with fail
            go_meet
            exact ⟨by rw [show q1 = false from by rw [← Q1.out]; have cc := C3.out; simp; omega]; rfl, B2, R2⟩
          · have d3 : decide ((n : Int) < 2) = false := decide_eq_false (by omega)
            have d4 : decide (n < 2) = false := decide_eq_false c3
            by_cases c4 : 17 < n
            · have d5 : decide (17 < (n : Int)) = true := decide_eq_true (by omega)
              have d6 : decide (17 < n) = true := decide_eq_true c4
              have C4 := qH c4
              clear c1 c2 c3 c4
              go_wp2_with fail
              go_meet
              exact ⟨by rw [show q1 = false from by rw [← Q1.out]; have cc := C4.out; simp; omega]; rfl, B2, R2⟩
            · have d5 : decide (17 < (n : Int)) = false := decide_eq_false (by omega)
              have d6 : decide (17 < n) = false := decide_eq_false c4
              have CC := qH (show (-64 ≤ W ∧ W ≤ 64) ∧ 2 ≤ n ∧ n ≤ 17 by omega)
              clear c1 c2 c3 c4
              go_wp2_with fail
              obtain ⟨rb, hrb⟩ : ∃ t, nmB (r, ys, y) = t := ⟨_, rfl⟩
              have HE := qH hrb
              clear hrb
              refine (r15short_any (H'.out.below B2.out) HL.out.2 HE.out).mono ?_
              rintro e v3 ⟨rfl, hb⟩
              have B3 := qH (B2.out.trans (hb.mono B2.out.size))
              have R3 := co R2 hb
              clear hb f0 zf0 f1 zf1 f2 zf2 f3 zf3 f4 zf4 f5 zf5 f6 zf6 f7 zf7 xf
              obtain ⟨f0, zf0, f1, zf1, f2, zf2, f3, zf3, f4, zf4, f5, zf5, f6, zf6, f7, zf7, xf⟩ := ly8z R3.out
              cases rb
              · go_wp2_with fail
                go_meet
                exact ⟨by rw [show q1 = false from by rw [← Q1.out]; have hE := HE.out; simp [hE]]; rfl, B3, R3⟩
              · cases r
                · go_wp2_with fail
                  go_meet
                  exact ⟨by rw [show q1 = true from by rw [← Q1.out]; have hA := HA.out; have hE := HE.out; have cc := CC.out; simp [hA, hE]; omega]; rfl, B3, R3⟩
                · go_wp2_with fail
                  go_meet
                  exact ⟨by rw [show q1 = false from by rw [← Q1.out]; simp]; rfl, B3, R3⟩
  case rest =>
    obtain ⟨rfl, B4, R4⟩ := hcut
    rename_i v4
    cases q1
    · obtain rfl : q = false := by rw [← HQ.out]; rfl
      go_wp2_with fail
      go_ret
      exact ⟨rfl, B4.out⟩
    · obtain rfl : q = cs.all nmB := by rw [← HQ.out]; rfl
      have H17 := qH (show n ≤ 17 by have := Q1.out; simp only [Bool.and_eq_true, decide_eq_true_eq] at this; exact this.2.2.1.2)
      go_wp2_with fail
      go_loopw [3] (fun i wr => ∃ j : Nat, j ≤ n ∧ i = .int .i64 j ∧ Hid ((cs.take j).all nmB = true) ∧ Hid (Below w.heap.size w wr) ∧ Hid (wr.heap[w.heap.size]? = some (.cells #[.bool s, .slice A xs.length c, .int .i64 x, .int .i64 W, .slice P n k, .bool r, .slice B ys.length d, .int .i64 y] 49 (0, 0)))) (fun i _ => n - (intOf i).toNat)
      case atStart => exact ⟨0, Nat.zero_le _, rfl, qH rfl, B4, R4⟩
      case round =>
        obtain ⟨j, hj, rfl, HAL, HB, HRT⟩ := hrel
        have t4 := row_c (i := 4) HRT.out rfl
        have zt4 := frozen_of_row _ _ 4 _ _ HRT.out
        have xt := heap_lt HRT.out
        by_cases hlt : j < n
        · obtain ⟨v, hv⟩ : ∃ v, cs[j]? = some v := ⟨_, List.getElem?_eq_getElem (by have := HN.out; omega)⟩
          have HV := qH hv
          obtain ⟨b, o, A2, c2, rfl, g0, g1, g2, hd⟩ := (HNS.out.below HB.out).rowq j v hv
          have HD := qH hd
          have HXV := qH (HX.out v (List.mem_of_getElem? hv))
          obtain ⟨⟨vs, vx, ve⟩, hve⟩ : ∃ z, z = v := ⟨_, rfl⟩
          subst hve
          clear hv hd
          go_wp2_with fail
          obtain ⟨rv, hrv⟩ : ∃ t, nmB (vs, vx, ve) = t := ⟨_, rfl⟩
          have HRV := qH hrv
          clear hrv
          refine (r15short_any HD.out HXV.out HRV.out).mono ?_
          rintro e w1 ⟨rfl, hb1⟩
          have HB1 := qH (HB.out.trans (hb1.mono HB.out.size))
          have HRT1 := qH (cells_of HRT.out hb1)
          clear hb1 g0 g1 g2 t4 zt4 xt
          cases rv
          · have HNO := qH (all_no HV.out HRV.out)
            go_wp2
            try rw [Exit.noGoto_ret]
            go_ret
            exact ⟨by rw [HNO.out]; rfl, HB1.out⟩
          · have HS := qH (all_take_snoc HV.out HAL.out HRV.out)
            go_wp2
            go_roundw
            case rel =>
              have h17 := H17.out
              have hw : wrap64 ((j : Int) + 1) = (j : Int) + 1 := IntWalk.wrap64_in _ ⟨by omega, by omega⟩
              refine ⟨_, _, _, _, _, _, _, _, _, _, _, _, _, _, _, _, ⟨j + 1, by omega, ?_, HS, HB1, HRT1⟩, rfl⟩
              rw [hw]; exact congrArg _ (by omega)
            case measure =>
              have h17 := H17.out
              have hw : wrap64 ((j : Int) + 1) = (j : Int) + 1 := IntWalk.wrap64_in _ ⟨by omega, by omega⟩
              rw [hw]
              simp [intOf]; omega
        · obtain rfl : j = n := by omega
          have HE := qH (show cs.all nmB = true by have := HAL.out; rwa [← HN.out, List.take_length] at this)
          go_wp2
          go_ret
          exact ⟨by rw [HE.out]; rfl, HB.out⟩
theorem r15fits_any {A B P : Option Addr} {c d k : Nat} {p : Pd} {q : Bool} {w : World} (h : Dg w A c p.a.2.1) (h' : Dg w B d p.er.2.1) (hl : p.a.2.1.length ≤ 10000) (hl' : p.er.2.1.length ≤ 10000) (hns : NsL w P k p.cs) (hX : ∀ v, v ∈ p.cs → v.2.1.length ≤ 10000) (hq : fitsB p = q) :
    Calls Tryz.prog 33 #[.agg #[.bool p.a.1, .slice A p.a.2.1.length c, .int .i64 p.a.2.2, .int .i64 p.w, .slice P p.cs.length k, .bool p.er.1, .slice B p.er.2.1.length d, .int .i64 p.er.2.2]] w fun e w' => e = .returned (.bool q) ∧ Below w.heap.size w w' := by
  obtain ⟨⟨s, xs, x⟩, W, cs, ⟨r, ys, y⟩⟩ := p
  exact r15fits_go A B P c d k cs.length s r xs ys x W y cs q _ w h h' hl hl' hns hX rfl rfl hq
theorem r15end_n (A : Option Addr) (c : Nat) (m v W t M E K F V : Int) (w : World) (h : Dg w A c (digs m.natAbs)) (hl : (digs m.natAbs).length ≤ 10000) (r1 : Rt m v) (h0 : -30 ≤ W) (h1 : W ≤ 10) (hu : t = 1) (hs : IsD (dv m v + dv t W) M E) (hq : tot M E = (K, F, V)):
    Calls Tryz.prog 35 #[.agg #[.bool (decide (m < 0)), .slice A (digs m.natAbs).length c, .int .i64 v], .int .i64 W] w fun e w' => Yr K F w e w' := by
  have lx := qH hl
  have HR1 := qH r1
  have HS := qH hs
  have HQ := qH hq
  have RU := qH (show Rt t W by subst hu; exact ⟨.inr rfl, by omega, by omega⟩)
  have LU := qH (show (digs t.natAbs).length ≤ 10000 from Nat.le_trans (digs_small (by omega)) (by omega : 2 ≤ 10000))
  have HH := qH (fun (W1 : World) => r5half_u W t W1 (by omega) (by omega) hu)
  have L0 := qH ((live_start w).add h)
  clear h hl r1 hs hq hu h0 h1
  go_enter Tryz.func35, Tryz.ntmps35
  go_wp2_with fail
  obtain ⟨v1, hW, hb, Rx_1, Rr_1⟩ := new2 w (.cells #[.bool (decide (m < 0)), .slice A (digs m.natAbs).length c, .int .i64 v] 26) (.cells #[.bool false, .slice none 0 0, .int .i64 0] 26)
  rw [← hW]
  have L1 := ls L0 hb
  have Gx := gl0 L0.out
  have Gr := gl1 L0.out
  have Nxr : w.heap.size < w.heap.size + 1 := by omega
  clear hW hb
  refine wp_operands_late (W := v1) rfl 6 8 9 [0, 1, 2, 3, 4, 5, 7] [8, 9, 10, 11, 7, 12, 13, 5] (fun i u ww => match i with | 6 => u = .int .i64 V | 0 => u = .agg #[.bool (decide (m < 0)), .slice A (digs m.natAbs).length c, .int .i64 v] | 1 => u = .int .i64 W | 2 => ∃ A c, u = .agg #[.bool (decide (t < 0)), .slice A (digs t.natAbs).length c, .int .i64 W] ∧ Dg ww A c (digs t.natAbs) | 3 => ∃ A c, u = .tuple #[.agg #[.bool (decide (K < 0)), .slice A (digs K.natAbs).length c, .int .i64 F], .int .i64 V] ∧ Dg ww A c (digs K.natAbs) | 4 => ∃ A c, u = .tuple #[.agg #[.bool (decide (K < 0)), .slice A (digs K.natAbs).length c, .int .i64 F], .int .i64 V] ∧ Dg ww A c (digs K.natAbs) | 5 => ∃ A c, u = .agg #[.bool (decide (K < 0)), .slice A (digs K.natAbs).length c, .int .i64 F] ∧ Dg ww A c (digs K.natAbs) | 7 => ∃ g, u = .pointer (some ⟨g, 0, none⟩) ∧ ww.heap[g]? = some (.cells #[.bool false, .slice none 0 0, .int .i64 0] 26 (0, 0)) ∧ v1.heap.size ≤ g | _ => True)
    (by kernel_rfl) (by kernel_rfl) (by decide) (by kernel_rfl) (by kernel_rfl) (by kernel_rfl) (by decide) (by kernel_rfl) (by kernel_rfl) (by kernel_rfl) (by kernel_rfl) (by kernel_rfl) (by kernel_rfl) (by kernel_rfl) (by kernel_rfl) ?_ ?_ ?_
  · intro i u x y hi h hb
    have hi' : i = 6 ∨ i = 0 ∨ i = 1 ∨ i = 2 ∨ i = 3 ∨ i = 4 ∨ i = 5 ∨ i = 7 := by simpa using hi
    rcases hi' with rfl | rfl | rfl | rfl | rfl | rfl | rfl | rfl
    · exact h
    · exact h
    · exact h
    · obtain ⟨A, c, e, hd⟩ := h
      exact ⟨A, c, e, hd.below hb⟩
    · obtain ⟨A, c, e, hd⟩ := h
      exact ⟨A, c, e, hd.below hb⟩
    · obtain ⟨A, c, e, hd⟩ := h
      exact ⟨A, c, e, hd.below hb⟩
    · obtain ⟨A, c, e, hd⟩ := h
      exact ⟨A, c, e, hd.below hb⟩
    · obtain ⟨g, e, hg, hge⟩ := h
      exact ⟨g, e, cells_of hg hb, hge⟩
  · intro i a x KK hi hF hb hw hK
    have hi' : i = 6 ∨ i = 0 ∨ i = 1 ∨ i = 2 ∨ i = 3 ∨ i = 4 ∨ i = 5 ∨ i = 7 := by simpa using hi
    rcases hi' with rfl | rfl | rfl | rfl | rfl | rfl | rfl | rfl
    · simp only [wpOp, gAy, gSy, gZy, Region.wanted, if_true]
      refine Or.inl ?_
      obtain ⟨A', c', e0, hd⟩ := hw 4 (by kernel_rfl)
      have e0 : a.eval (.tmp 7) = _ := e0
      clear hw hF
      simp only [Oper.wp, execOp]
      rw [e0]
      go_simp
      exact hK _ x (by first | rfl | simp) (Below.refl _ _)
    · simp only [wpOp, gAy, gZy, Region.wanted, if_true]
      refine Or.inl ?_
      have e0 : a.eval (.tmp 2) = .pointer (some ⟨w.heap.size, 0, none⟩) := hF.2.2 2 (by decide)
      have f0 := row_cell Rx_1.out hb 0
      have f1 := row_cell Rx_1.out hb 1
      have f2 := row_cell Rx_1.out hb 2
      simp only [gAy, gSy, gZy] at f0 f1 f2
      clear hw hF
      simp only [Oper.wp, execOp]
      rw [e0]
      go_simp
      exact hK _ x (by first | rfl | simp) (Below.refl _ _)
    · simp only [wpOp, gAy, gSy, gZy, Region.wanted, if_true]
      refine Or.inl ?_
      have e0 : a.eval (.tmp 1) = .int .i64 W := hF.2.2 1 (by decide)
      clear hw hF
      simp only [Oper.wp, execOp]
      rw [e0]
      go_simp
      exact hK _ x (by first | rfl | simp) (Below.refl _ _)
    · simp only [wpOp, gAy, gSy, gZy, Region.wanted, if_true]
      refine Or.inl ?_
      have e0 : a.tmps.getD 9 undef = .int .i64 W := hw 1 (by kernel_rfl)
      clear hw hF
      simp only [Oper.wp, execOp]
      go_simp
      refine (HH.out _).mono ?_
      rintro e y ⟨A2, c2, rfl, hd2, hbb⟩
      exact hK _ y ⟨A2, c2, rfl, hd2⟩ hbb
    · simp only [wpOp, gAy, gSy, gZy, Region.wanted, if_true]
      refine Or.inl ?_
      have e0 : a.tmps.getD 8 undef = .agg #[.bool (decide (m < 0)), .slice A (digs m.natAbs).length c, .int .i64 v] := hw 0 (by kernel_rfl)
      obtain ⟨A', c', e1, hd⟩ := hw 2 (by kernel_rfl)
      have e1 : a.tmps.getD 10 undef = _ := e1
      clear hw hF
      simp only [Oper.wp, execOp]
      go_simp
      refine (r5add_t ((L1.out.step hb).get (A := A) (c := c) (xs := digs m.natAbs) (by simp)) hd lx.out LU.out HR1.out RU.out HS.out HQ.out).mono ?_
      rintro e y ⟨A2, c2, rfl, hd2, hbb⟩
      exact hK _ y ⟨A2, c2, rfl, hd2⟩ hbb
    · simp only [wpOp, gAy, gSy, gZy, Region.wanted, if_true]
      refine Or.inl ?_
      obtain ⟨A', c', e0, hd⟩ := hw 3 (by kernel_rfl)
      have e0 : a.eval (.tmp 11) = _ := e0
      clear hw hF
      simp only [Oper.wp, execOp]
      rw [e0]
      go_simp
      exact hK _ x ⟨A', c', rfl, hd⟩ (Below.refl _ _)
    · simp only [wpOp, gAy, gSy, gZy, Region.wanted, if_true]
      refine Or.inl ?_
      obtain ⟨A', c', e0, hd⟩ := hw 4 (by kernel_rfl)
      have e0 : a.eval (.tmp 7) = _ := e0
      clear hw hF
      simp only [Oper.wp, execOp]
      rw [e0]
      go_simp
      exact hK _ x ⟨A', c', rfl, hd⟩ (Below.refl _ _)
    · simp only [wpOp, gAy, gSy, gZy, Region.wanted, if_true]
      refine Or.inl ?_
      clear hw hF
      simp only [Oper.wp, execOp]
      go_simp
      exact hK _ _ ⟨_, rfl, heap_alloc_new _ _, hb.size⟩ (below1 _ _)
  · intro a x hF0 hb hR
    have hF : Fr6 [13, 8, 9, 10, 11, 7, 12, 5] _ a := hF0
    have e0 : a.tmps.getD 8 undef = .agg #[.bool (decide (m < 0)), .slice A (digs m.natAbs).length c, .int .i64 v] := hR 0 (by decide)
    have e1 : a.tmps.getD 9 undef = .int .i64 W := hR 1 (by decide)
    obtain ⟨B2, d2, h2, hd2⟩ := hR 2 (by decide)
    have e2 : a.tmps.getD 10 undef = _ := h2
    obtain ⟨B3, d3, h3, hd3⟩ := hR 3 (by decide)
    have e3 : a.tmps.getD 11 undef = _ := h3
    obtain ⟨B4, d4, h4, hd4⟩ := hR 4 (by decide)
    have e4 : a.tmps.getD 7 undef = _ := h4
    obtain ⟨B5, d5, h5, hd5⟩ := hR 5 (by decide)
    have e5 : a.tmps.getD 12 undef = _ := h5
    obtain ⟨g7, h7, hg7, hge7⟩ := hR 7 (by decide)
    have e7 : a.tmps.getD 5 undef = _ := h7
    refine ⟨⟨?_, ?_⟩, fun hx => ?_⟩
    · rw [hF.fold (by kernel_rfl)]
      simp only [List.foldl_cons, List.foldl_nil, e0, e1, e2, e3, e4, e5, e7]
      generalize a.tmps.getD 13 undef = vx at *
      simp only [Act.put, List.setIfInBounds_toArray, List.set_cons_zero, List.set_cons_succ]
      clear e0 e1 e2 e3 e4 e5 e7 hR hF hF0 h2 h3 h4 h5 h7
      obtain ⟨w2, hW⟩ : ∃ W : World, W = x := ⟨_, rfl⟩
      rw [← hW]
      rw [← hW] at hb hd2 hd3 hd4 hd5 hg7
      have L2 := qH (((((L1.out.step hb).add hd2).add hd3).add hd4).add hd5)
      have Rx_2 := co Rx_1 hb
      have Rr_2 := co Rr_1 hb
      have Rq7_2 := qH hg7
      have Gq7 : w.heap.size ≤ g7 := Nat.le_trans L1.out.1.size hge7
      have Nxq7 : w.heap.size < g7 := by have := heap_lt Rx_1.out; omega
      have Nrq7 : w.heap.size + 1 < g7 := by have := heap_lt Rr_1.out; omega
      clear hW hb hd2 hd3 hd4 hd5 hg7 hge7
      obtain ⟨fq70, zq70, fq71, zq71, fq72, zq72, xq7⟩ := ly3 Rq7_2.out
      simp only [wpOps_cons]
      simp only [wpOp, gAy, gSy, gZy, Region.wanted, if_true]
      refine Or.inl ?_
      simp only [Oper.wp, execOp]
      go_simp
      simp only [wpOps_cons]
      simp only [wpOp, gAy, gSy, gZy, Region.wanted, if_true]
      refine Or.inl ?_
      simp only [Oper.wp, execOp]
      go_simp
      simp only [wpOps_cons]
      simp only [wpOp, gAy, gSy, gZy, Region.wanted, if_true]
      refine Or.inl ?_
      simp only [Oper.wp, execOp]
      go_simp
      try simp only [wpOps]
      clear fq70 zq70 fq71 zq71 fq72 zq72 xq7
      obtain ⟨w3, hW⟩ : ∃ W : World, W = (((w2.setCell ⟨g7, 0, none⟩ (.bool (decide (K < 0)))).setCell ⟨g7, 1, none⟩ (.slice B5 (digs K.natAbs).length d5)).setCell ⟨g7, 2, none⟩ (.int .i64 F)) := ⟨_, rfl⟩
      rw [← hW]
      have hO : Only (g7) w2 w3 := by rw [hW]; exact ((((Only.refl (g7) w2).setCell 0 _).setCell 1 _).setCell 2 _)
      have L3 := qH (live_only L2.out hO Rq7_2.out noint_dy Gq7)
      have Rx_3 := qH ((hO.block _ (by omega)).trans Rx_2.out)
      have Rr_3 := qH ((hO.block _ (by omega)).trans Rr_2.out)
      have Rq7_3 := qH (show w3.heap[g7]? = some (.cells #[.bool (decide (K < 0)), .slice B5 (digs K.natAbs).length d5, .int .i64 F] 26 (0, 0)) by rw [hW]; exact (heap_setCell_same _ _ 2 _ _ _ (heap_setCell_same _ _ 1 _ _ _ (heap_setCell_same _ _ 0 _ _ _ Rq7_2.out))))
      clear hW hO
      obtain ⟨fr0, zr0, fr1, zr1, fr2, zr2, xr⟩ := ly3 Rr_3.out
      obtain ⟨fq70, zq70, fq71, zq71, fq72, zq72, xq7⟩ := ly3 Rq7_3.out
      go_wp2
      refine bodyPost_ret (v := .agg #[.bool (decide (K < 0)), .slice B5 (digs K.natAbs).length d5, .int .i64 F]) (by simp [results, Tryz.results35, go_sem, fr0, fr1, fr2, fq70, fq71, fq72]) rfl ?_
      refine ⟨B5, d5, rfl, ?_, ?_⟩
      · exact (fin3 L3.out Rr_3.out noint3 Gr).get (A := B5) (c := d5) (xs := digs K.natAbs) (by simp)
      · exact (fin3 L3.out Rr_3.out noint3 Gr).1
    · rw [hF.fold (by kernel_rfl)]
      simp only [List.foldl_cons, List.foldl_nil, e0, e1, e2, e3, e4, e5, e7]
      generalize a.tmps.getD 13 undef = vx at *
      simp only [Act.put, List.setIfInBounds_toArray, List.set_cons_zero, List.set_cons_succ]
      clear e0 e1 e2 e3 e4 e5 e7 hR hF hF0 h2 h3 h4 h5 h7
      obtain ⟨w2, hW⟩ : ∃ W : World, W = x := ⟨_, rfl⟩
      rw [← hW]
      rw [← hW] at hb hd2 hd3 hd4 hd5 hg7
      have L2 := qH (((((L1.out.step hb).add hd2).add hd3).add hd4).add hd5)
      have Rx_2 := co Rx_1 hb
      have Rr_2 := co Rr_1 hb
      have Rq7_2 := qH hg7
      have Gq7 : w.heap.size ≤ g7 := Nat.le_trans L1.out.1.size hge7
      have Nxq7 : w.heap.size < g7 := by have := heap_lt Rx_1.out; omega
      have Nrq7 : w.heap.size + 1 < g7 := by have := heap_lt Rr_1.out; omega
      clear hW hb hd2 hd3 hd4 hd5 hg7 hge7
      obtain ⟨fq70, zq70, fq71, zq71, fq72, zq72, xq7⟩ := ly3 Rq7_2.out
      simp only [wpOps_cons]
      simp only [wpOp, gAy, gSy, gZy, Region.wanted, if_true]
      refine Or.inl ?_
      simp only [Oper.wp, execOp]
      go_simp
      simp only [wpOps_cons]
      simp only [wpOp, gAy, gSy, gZy, Region.wanted, if_true]
      refine Or.inl ?_
      simp only [Oper.wp, execOp]
      go_simp
      simp only [wpOps_cons]
      simp only [wpOp, gAy, gSy, gZy, Region.wanted, if_true]
      refine Or.inl ?_
      simp only [Oper.wp, execOp]
      go_simp
      try simp only [wpOps]
      clear fq70 zq70 fq71 zq71 fq72 zq72 xq7
      obtain ⟨w3, hW⟩ : ∃ W : World, W = (((w2.setCell ⟨g7, 0, none⟩ (.bool (decide (K < 0)))).setCell ⟨g7, 1, none⟩ (.slice B5 (digs K.natAbs).length d5)).setCell ⟨g7, 2, none⟩ (.int .i64 F)) := ⟨_, rfl⟩
      rw [← hW]
      have hO : Only (g7) w2 w3 := by rw [hW]; exact ((((Only.refl (g7) w2).setCell 0 _).setCell 1 _).setCell 2 _)
      have L3 := qH (live_only L2.out hO Rq7_2.out noint_dy Gq7)
      have Rx_3 := qH ((hO.block _ (by omega)).trans Rx_2.out)
      have Rr_3 := qH ((hO.block _ (by omega)).trans Rr_2.out)
      have Rq7_3 := qH (show w3.heap[g7]? = some (.cells #[.bool (decide (K < 0)), .slice B5 (digs K.natAbs).length d5, .int .i64 F] 26 (0, 0)) by rw [hW]; exact (heap_setCell_same _ _ 2 _ _ _ (heap_setCell_same _ _ 1 _ _ _ (heap_setCell_same _ _ 0 _ _ _ Rq7_2.out))))
      clear hW hO
      obtain ⟨fr0, zr0, fr1, zr1, fr2, zr2, xr⟩ := ly3 Rr_3.out
      obtain ⟨fq70, zq70, fq71, zq71, fq72, zq72, xq7⟩ := ly3 Rq7_3.out
      go_wp2
      refine bodyPost_ret (v := .agg #[.bool (decide (K < 0)), .slice B5 (digs K.natAbs).length d5, .int .i64 F]) (by simp [results, Tryz.results35, go_sem, fr0, fr1, fr2, fq70, fq71, fq72]) rfl ?_
      refine ⟨B5, d5, rfl, ?_, ?_⟩
      · exact (fin3 L3.out Rr_3.out noint3 Gr).get (A := B5) (c := d5) (xs := digs K.natAbs) (by simp)
      · exact (fin3 L3.out Rr_3.out noint3 Gr).1
    · have e6 : a.tmps.getD 13 undef = .int .i64 V := hx
      rw [hF.fold (by kernel_rfl)]
      simp only [List.foldl_cons, List.foldl_nil, e0, e1, e2, e3, e4, e5, e7, e6]
      simp only [Act.put, List.setIfInBounds_toArray, List.set_cons_zero, List.set_cons_succ]
      clear e0 e1 e2 e3 e4 e5 e7 e6 hR hF hF0 h2 h3 h4 h5 h7 hx
      obtain ⟨w2, hW⟩ : ∃ W : World, W = x := ⟨_, rfl⟩
      rw [← hW]
      rw [← hW] at hb hd2 hd3 hd4 hd5 hg7
      have L2 := qH (((((L1.out.step hb).add hd2).add hd3).add hd4).add hd5)
      have Rx_2 := co Rx_1 hb
      have Rr_2 := co Rr_1 hb
      have Rq7_2 := qH hg7
      have Gq7 : w.heap.size ≤ g7 := Nat.le_trans L1.out.1.size hge7
      have Nxq7 : w.heap.size < g7 := by have := heap_lt Rx_1.out; omega
      have Nrq7 : w.heap.size + 1 < g7 := by have := heap_lt Rr_1.out; omega
      clear hW hb hd2 hd3 hd4 hd5 hg7 hge7
      obtain ⟨fq70, zq70, fq71, zq71, fq72, zq72, xq7⟩ := ly3 Rq7_2.out
      simp only [wpOps_cons]
      simp only [wpOp, gAy, gSy, gZy, Region.wanted, if_true]
      refine Or.inl ?_
      simp only [Oper.wp, execOp]
      go_simp
      simp only [wpOps_cons]
      simp only [wpOp, gAy, gSy, gZy, Region.wanted, if_true]
      refine Or.inl ?_
      simp only [Oper.wp, execOp]
      go_simp
      try simp only [wpOps]
      clear fq70 zq70 fq71 zq71 fq72 zq72 xq7
      obtain ⟨w3, hW⟩ : ∃ W : World, W = (((w2.setCell ⟨g7, 0, none⟩ (.bool (decide (K < 0)))).setCell ⟨g7, 1, none⟩ (.slice B5 (digs K.natAbs).length d5)).setCell ⟨g7, 2, none⟩ (.int .i64 F)) := ⟨_, rfl⟩
      rw [← hW]
      have hO : Only (g7) w2 w3 := by rw [hW]; exact ((((Only.refl (g7) w2).setCell 0 _).setCell 1 _).setCell 2 _)
      have L3 := qH (live_only L2.out hO Rq7_2.out noint_dy Gq7)
      have Rx_3 := qH ((hO.block _ (by omega)).trans Rx_2.out)
      have Rr_3 := qH ((hO.block _ (by omega)).trans Rr_2.out)
      have Rq7_3 := qH (show w3.heap[g7]? = some (.cells #[.bool (decide (K < 0)), .slice B5 (digs K.natAbs).length d5, .int .i64 F] 26 (0, 0)) by rw [hW]; exact (heap_setCell_same _ _ 2 _ _ _ (heap_setCell_same _ _ 1 _ _ _ (heap_setCell_same _ _ 0 _ _ _ Rq7_2.out))))
      clear hW hO
      obtain ⟨fr0, zr0, fr1, zr1, fr2, zr2, xr⟩ := ly3 Rr_3.out
      obtain ⟨fq70, zq70, fq71, zq71, fq72, zq72, xq7⟩ := ly3 Rq7_3.out
      go_wp2
      refine bodyPost_ret (v := .agg #[.bool (decide (K < 0)), .slice B5 (digs K.natAbs).length d5, .int .i64 F]) (by simp [results, Tryz.results35, go_sem, fr0, fr1, fr2, fq70, fq71, fq72]) rfl ?_
      refine ⟨B5, d5, rfl, ?_, ?_⟩
      · exact (fin3 L3.out Rr_3.out noint3 Gr).get (A := B5) (c := d5) (xs := digs K.natAbs) (by simp)
      · exact (fin3 L3.out Rr_3.out noint3 Gr).1
theorem r15end_q {A : Option Addr} {c : Nat} {m v W K F : Int} {w : World} (h : Dg w A c (digs m.natAbs)) (hl : (digs m.natAbs).length ≤ 10000) (r1 : Rt m v) (h0 : -30 ≤ W) (h1 : W ≤ 10) (hq : endq m v W = (K, F)) :
    Calls Tryz.prog 35 #[.agg #[.bool (decide (m < 0)), .slice A (digs m.natAbs).length c, .int .i64 v], .int .i64 W] w fun e w' => Yr K F w e w' := by
  have := r15end_n A c m v W 1 _ _ (endq m v W).1 (endq m v W).2 (tot (nm (endz m v W)) (nx (endz m v W) (min v W))).2.2 w h hl r1 h0 h1 rfl (endz_is m v W) rfl
  rw [hq] at this; exact this
def encO (F O : Int) (a : Nm) (W Q D : Int) (ps : List Pd) : List UInt8 × Int := if rightT F O a W Q D ps then encS F O a W Q D ps else ([], 1)
theorem encode_no (A P : Option Addr) (c k : Nat) (F O W Q D : Int) (s : Bool) (xs : List Nat) (x : Int) (ps : List Pd) (w : World) (h : Dg w A c xs) (hl : xs.length ≤ 10000) (hT : T32 w) (hps : PsL w P ps) (hsm : SmP ps) (hq : rightT F O (s, xs, x) W Q D ps = false) :
    Calls Tryz.prog 7 #[.agg #[.int .i64 F, .int .i64 O, .bool s, .slice A xs.length c, .int .i64 x, .int .i64 W, .int .i64 Q, .int .i64 D, .slice P ps.length k]] w fun e w' => e = .returned (.tuple #[.string ⟨#[]⟩, .int .i64 1]) ∧ Below w.heap.size w w' := by
  have HR := qH (fun (W1 : World) (hB : Below w.heap.size w W1) => cright_any (A := A) (c := c) (k := k) (a := (s, xs, x)) (h.below hB) hl (t32_below hT hB) (PsL.below hps hB) hsm hq)
  clear h hl hT hps hsm hq
  go_enter Tryz.func7, Tryz.ntmps7
  go_wp2_with fail
  obtain ⟨v1, hW⟩ : ∃ V : World, V = w.alloc (.cells #[.int .i64 F, .int .i64 O, .bool s, .slice A xs.length c, .int .i64 x, .int .i64 W, .int .i64 Q, .int .i64 D, .slice P ps.length k] 29) := ⟨_, rfl⟩
  rw [← hW]
  have hb : Below w.heap.size w v1 := by rw [hW]; exact below1 _ _
  have B1 := qH hb
  clear hW hb
  refine (HR.out v1 B1.out).mono ?_
  rintro e w2 ⟨rfl, hb⟩
  have B2 := qH (B1.out.trans (hb.mono B1.out.size))
  clear hb
  go_wp2
  go_ret2
  exact ⟨rfl, B2.out⟩
theorem encode_any {A P : Option Addr} {c k : Nat} {F O W Q D : Int} {a : Nm} {ps : List Pd} {w : World} (h : Dg w A c a.2.1) (hl : a.2.1.length ≤ 10000) (hT : T32 w) (hps : PsL w P ps) (hsm : SmP ps) :
    Calls Tryz.prog 7 #[.agg #[.int .i64 F, .int .i64 O, .bool a.1, .slice A a.2.1.length c, .int .i64 a.2.2, .int .i64 W, .int .i64 Q, .int .i64 D, .slice P ps.length k]] w fun e w' => (∃ t : ByteArray, e = .returned (.tuple #[.string t, .int .i64 (outE (encO F O a W Q D ps))]) ∧ t.data.toList = outB (encO F O a W Q D ps)) ∧ Below w.heap.size w w' := by
  obtain ⟨s, xs, x⟩ := a
  unfold encO
  cases hq : rightT F O (s, xs, x) W Q D ps
  · refine (encode_no A P c k F O W Q D s xs x ps w h hl hT hps hsm hq).mono ?_
    rintro e w' ⟨rfl, hb⟩
    exact ⟨⟨⟨#[]⟩, rfl, rfl⟩, hb⟩
  · exact encode_go A P c k F O W Q D s xs x ps w h hl hT hps hsm hq
theorem size_any {A P : Option Addr} {c k : Nat} {F O W Q D : Int} {a : Nm} {ps : List Pd} {w : World} (h : Dg w A c a.2.1) (hl : a.2.1.length ≤ 10000) (hT : T32 w) (hps : PsL w P ps) (hsm : SmP ps) :
    Calls Tryz.prog 9 #[.agg #[.int .i64 F, .int .i64 O, .bool a.1, .slice A a.2.1.length c, .int .i64 a.2.2, .int .i64 W, .int .i64 Q, .int .i64 D, .slice P ps.length k]] w fun e w' => e = .returned (.int .i64 ((outB (encO F O a W Q D ps)).length : Nat)) ∧ Below w.heap.size w w' := by
  have HR := qH (fun (W1 : World) (hB : Below w.heap.size w W1) => encode_any (A := A) (c := c) (k := k) (F := F) (O := O) (W := W) (Q := Q) (D := D) (h.below hB) hl (t32_below hT hB) (PsL.below hps hB) hsm)
  obtain ⟨E, hE⟩ : ∃ E, outE (encO F O a W Q D ps) = E := ⟨_, rfl⟩
  obtain ⟨L, hL⟩ : ∃ L, outB (encO F O a W Q D ps) = L := ⟨_, rfl⟩
  rw [hE, hL] at HR
  rw [hL]
  clear h hl hT hps hsm hE hL
  obtain ⟨s, xs, x⟩ := a
  go_enter Tryz.func9, Tryz.ntmps9
  go_wp2_with fail
  obtain ⟨v1, hW⟩ : ∃ V : World, V = w.alloc (.cells #[.int .i64 F, .int .i64 O, .bool s, .slice A xs.length c, .int .i64 x, .int .i64 W, .int .i64 Q, .int .i64 D, .slice P ps.length k] 29) := ⟨_, rfl⟩
  rw [← hW]
  have hb : Below w.heap.size w v1 := by rw [hW]; exact below1 _ _
  have B1 := qH hb
  clear hW hb
  refine (HR.out v1 B1.out).mono ?_
  rintro e w2 ⟨⟨t, rfl, ht⟩, hb⟩
  have B2 := qH (B1.out.trans (hb.mono B1.out.size))
  have HTS := qH (show (t.size : Int) = (L.length : Nat) by rw [← ht]; simp)
  clear hb ht
  go_wp2
  go_ret
  exact ⟨by rw [← HTS.out]; rfl, B2.out⟩
def NoInt (w : World) (v : Value) : Prop := ∀ g cur T fr, v.ownBlock = some g → w.heap[g]? = some (.cells cur T fr) → ∀ (i : Nat) (n : Int), cur[i]? ≠ some (.int .u32 n)
def CsOf (w : World) (cs : List Value) (L : List (Int × Int)) : Prop := cs.length = L.length * 3 ∧ (∀ u ∈ cs, ∀ n : Int, u ≠ .int .u32 n) ∧
  ∀ (i : Nat) z, L[i]? = some z → ∃ A c, cs[i * 3]? = some (.bool (decide (z.1 < 0))) ∧ cs[i * 3 + 1]? = some (.slice A (digs z.1.natAbs).length c) ∧ cs[i * 3 + 2]? = some (.int .i64 z.2) ∧ Dg w A c (digs z.1.natAbs)
def Dw (w : World) (B : Nat) (v : Value) (L : List (Int × Int)) : Prop := NoInt w v ∧ ∃ cs, w.ownsRow B 26 3 v L.length cs ∧ CsOf w cs L
def zdy : Value := .agg #[.bool false, .slice none 0 0, .int .i64 0]
theorem CsOf.kept {w w' : World} {cs : List Value} {L : List (Int × Int)} (h : CsOf w cs L) (hk : Kept w w') : CsOf w' cs L :=
  ⟨h.1, h.2.1, fun i z hz => by obtain ⟨A, c, h0, h1, h2, h3⟩ := h.2.2 i z hz; exact ⟨A, c, h0, h1, h2, h3.kept hk⟩⟩
theorem CsOf.snoc {w : World} {cs : List Value} {L : List (Int × Int)} {m x : Int} {A : Option Addr} {c : Nat} (h : CsOf w cs L) (hd : Dg w A c (digs m.natAbs)) : CsOf w (cs ++ [.bool (decide (m < 0)), .slice A (digs m.natAbs).length c, .int .i64 x]) (L ++ [(m, x)]) := by
  refine ⟨by rw [List.length_append, List.length_append, h.1]; simp; omega, ?_, fun i z hz => ?_⟩
  · intro u hu n
    rcases List.mem_append.1 hu with hu | hu
    · exact h.2.1 u hu n
    · simp at hu; rcases hu with rfl | rfl | rfl <;> simp
  · rcases Nat.lt_trichotomy i L.length with hi | hi | hi
    · rw [List.getElem?_append_left hi] at hz
      obtain ⟨A, c, h0, h1, h2, h3⟩ := h.2.2 i z hz
      have hl := h.1
      exact ⟨A, c, by rw [List.getElem?_append_left (by omega)]; exact h0, by rw [List.getElem?_append_left (by omega)]; exact h1, by rw [List.getElem?_append_left (by omega)]; exact h2, h3⟩
    · subst hi
      rw [List.getElem?_append_right (Nat.le_refl _), Nat.sub_self] at hz
      obtain rfl : (m, x) = z := by simpa using hz
      have hl := h.1
      refine ⟨A, c, ?_, ?_, ?_, hd⟩
      · rw [List.getElem?_append_right (by omega), show L.length * 3 - cs.length = 0 by omega]; rfl
      · rw [List.getElem?_append_right (by omega), show L.length * 3 + 1 - cs.length = 1 by omega]; rfl
      · rw [List.getElem?_append_right (by omega), show L.length * 3 + 2 - cs.length = 2 by omega]; rfl
    · rw [List.getElem?_eq_none (by simp; omega)] at hz; cases hz
theorem zero_no {k : Nat} {u : Value} (h : u ∈ Builtin.zeroCells zdy.cells k) : ∀ n : Int, u ≠ .int .u32 n := by
  unfold Builtin.zeroCells at h
  obtain ⟨i, _, rfl⟩ := Array.mem_map.1 h
  intro n
  have e : zdy.cells = #[.bool false, .slice none 0 0, .int .i64 0] := rfl
  rw [e]
  have h3 : i % 3 = 0 ∨ i % 3 = 1 ∨ i % 3 = 2 := by omega
  rcases h3 with h | h | h <;> simp [h]
theorem at_mem {a : Array Value} {i : Nat} {u : Value} (h : a[i]? = some u) : u ∈ a := Array.mem_of_getElem? h
theorem run_append_no {P : Program} (w : World) (B : Nat) (t ty e : TypeId) (i : TypeInfo) (bytes : Nat) (ht : P.underlying t = some (.slice e)) (hi : P.info? e = some i) (z : Value) (size : Nat) (hz : i.zero = some z) (hsize : i.size = size) (hzz : ∀ k u, u ∈ Builtin.zeroCells z.cells k → ∀ n : Int, u ≠ .int .u32 n) (hby : i.bytes = bytes)
    (v : Value) (n : Nat) (xs : List Value) (hown : w.ownsRow B e size v n xs) (hc : NoInt w v) (hxs : ∀ u ∈ xs, ∀ n : Int, u ≠ .int .u32 n)
    (a : Addr) (c : Nat) (news : List Value) (hl : news.length = size) (hnews : ∀ j u, news[j]? = some u → w.cell? (a.add j) = some u) (h1 : ∀ u ∈ news, u.oneCell' = true) (hnn : ∀ u ∈ news, ∀ n : Int, u ≠ .int .u32 n)
    (h63 : n + 1 ≤ maxLen) (hbytes : (n + 1) * bytes ≤ 140737488355328) (v' : Value) (w' : World) (hr : (Builtin.append_ #[t, t] ty #[v, .slice (some a) 1 c]).run P w = .ok v' w') : NoInt w' v' := by
  subst hby
  have hsmall : n + 1 ≤ 9223372036854775807 := by simp only [maxLen] at h63; omega
  rcases hown.2 with ⟨rfl, rfl⟩ | ⟨g, cap, cur, rfl, hbg, hg, hnc, hcm, hcs, htake⟩
  · rw [run_append_nil (P := P) w t ty e i z ht hi hz a 1 c news (by rw [hsize, hl, Nat.one_mul]) hnews (by omega) (by omega) (by have hb := hbytes; simp only [Nat.zero_add] at hb; omega)] at hr
    injection hr with e1 e2
    subst e1 e2
    intro g cur T fr hg hh j k hj
    have eg : w.heap.size = g := by simpa [Value.ownBlock] using hg
    subst eg
    have h4 := (heap_alloc_new w.drew _).symm.trans hh
    injection h4 with h4
    injection h4 with h4
    subst h4
    rcases Array.mem_append.1 (at_mem hj) with h | h
    · exact hnn _ (by simpa using h) k rfl
    · exact hzz _ _ h k rfl
  · by_cases hroom : n + 1 ≤ cap
    · rw [run_append_room (P := P) w t ty e i ht hi g n cap cur hg a 1 c news (by rw [hsize, hl, Nat.one_mul]) hnews h1 hroom (by rw [hl, hcs, hsize]; have := Nat.mul_le_mul_right size hroom; rw [Nat.add_mul, Nat.one_mul] at this; omega)] at hr
      injection hr with e1 e2
      subst e1 e2
      intro g' cur' T fr hg' hh j k hj
      have eg : g = g' := by simpa [Value.ownBlock] using hg'
      subst eg
      have h4 := (setRow_heap w g cur _ e _ hg).symm.trans hh
      injection h4 with h4
      injection h4 with h4
      subst h4
      have hm := at_mem hj
      simp only [List.mem_toArray, List.mem_append] at hm
      have hcur : ∀ u ∈ cur.toList, ∀ n : Int, u ≠ .int .u32 n := by
        intro u hu n hn
        subst hn
        obtain ⟨q, hq⟩ := List.getElem?_of_mem hu
        exact hc g cur _ _ rfl hg q n (by simpa using hq)
      rcases hm with (h | h) | h
      · exact hcur _ (List.mem_of_mem_take h) k rfl
      · exact hnn _ h k rfl
      · exact hcur _ (List.mem_of_mem_drop h) k rfl
    · have holds : ∀ j u, xs[j]? = some u → w.cell? ((⟨g, 0, none⟩ : Addr).add j) = some u := hown.cells (g := g) rfl
      rw [run_append_grow (P := P) w t ty e i z ht hi hz ⟨g, 0, none⟩ n cap xs (by rw [hsize]; exact hown.1) holds a 1 c news (by rw [hsize, hl, Nat.one_mul]) hnews (by omega) (by omega) (growslice_fits (by omega) hbytes)] at hr
      injection hr with e1 e2
      subst e1 e2
      intro g' cur' T fr hg' hh j k hj
      have eg : w.heap.size = g' := by simpa [Value.ownBlock] using hg'
      subst eg
      have h4 := (heap_alloc_new w.drew _).symm.trans hh
      injection h4 with h4
      injection h4 with h4
      subst h4
      rcases Array.mem_append.1 (at_mem hj) with h | h
      · rcases Array.mem_append.1 h with h | h
        · exact hxs _ (by simpa using h) k rfl
        · exact hnn _ (by simpa using h) k rfl
      · exact hzz _ _ h k rfl
theorem kept_of_grown {w w' : World} {B n size : Nat} {e : TypeId} {v : Value} {xs : List Value} (hown : w.ownsRow B e size v n xs) (hc : NoInt w v) (hg : w.grownBy w' v.ownBlock) : Kept w w' := by
  refine ⟨hg.size, fun b o k hk => ?_⟩
  have hlt := cell_lt hk
  by_cases hb : some b = v.ownBlock
  · exfalso
    rcases hown.2 with ⟨rfl, _⟩ | ⟨g, cap, cur, rfl, _, hh, _⟩
    · simp [Value.ownBlock] at hb
    · have eg : b = g := by simpa [Value.ownBlock] using hb
      subst eg
      rw [cell_of_row _ _ _ _ _ _ hh] at hk
      exact hc b cur _ _ rfl hh _ _ hk
  · rw [← hk]
    exact World.grownBy.cell_far hg _ hlt hb
theorem dy_info : ∃ i : TypeInfo, Tryz.prog.info? 26 = some i ∧ i.zero = some zdy ∧ i.size = 3 ∧ i.bytes = 40 := by
  obtain ⟨i0, hi, hz0, hz1, hz2⟩ := info_parts (show (Tryz.prog.info? 26).map (fun i => (i.zero, i.size, i.bytes)) = some (some zdy, 3, 40) by kernel_rfl)
  exact ⟨i0, hi, hz0, hz1, hz2⟩
theorem wp_append_dy {w : World} {o : Oper} {a : Act} {K : Act → World → Prop} {Q : Exit → Act → World → Prop} (s x : Operand)
    (ho : o.op = .call { callee := .builtin .append, args := #[s, x], argTypes := #[47, 47] }) (B : Nat) (v : Value) (L : List (Int × Int)) (m y : Int) (q : Nat) (T' : TypeId) (c cA : Nat) (A : Option Addr)
    (hs : a.eval s = v) (hD : Dw w B v L) (hrow : w.heap[q]? = some (.cells #[.bool (decide (m < 0)), .slice A (digs m.natAbs).length cA, .int .i64 y] T' (0, 0))) (hd : Dg w A cA (digs m.natAbs)) (hx : a.eval x = .slice (some ⟨q, 0, none⟩) 1 c) (hb : L.length + 1 ≤ 1000000) (hbase : B ≤ w.heap.size)
    (h : ∀ g cap w', Dw w' B (.slice (some ⟨g, 0, none⟩) (L.length + 1) cap) (L ++ [(m, y)]) → w.grownBy w' v.ownBlock → Kept w w' → (v.ownBlock = some g ∨ g = w.heap.size) → K (a.put o.dst (.slice (some ⟨g, 0, none⟩) (L.length + 1) cap)) w') : o.wp Tryz.prog a w K Q := by
  obtain ⟨hn, cs, hown, hcs⟩ := hD
  obtain ⟨i0, hi, hz0, hz1, hz2⟩ := dy_info
  have hnews : ∀ j u, ([.bool (decide (m < 0)), .slice A (digs m.natAbs).length cA, .int .i64 y] : List Value)[j]? = some u → w.cell? ((⟨q, 0, none⟩ : Addr).add j) = some u := fun j u hj => by
    rw [Addr.add_lit]
    exact row_c hrow (by simpa using hj)
  have hone : ∀ u ∈ ([.bool (decide (m < 0)), .slice A (digs m.natAbs).length cA, .int .i64 y] : List Value), u.oneCell' = true := by intro u hu; simp at hu; rcases hu with rfl | rfl | rfl <;> rfl
  have hnn : ∀ u ∈ ([.bool (decide (m < 0)), .slice A (digs m.natAbs).length cA, .int .i64 y] : List Value), ∀ n : Int, u ≠ .int .u32 n := by intro u hu n; simp at hu; rcases hu with rfl | rfl | rfl <;> simp
  obtain ⟨g, cap, w', hr, h2, h3, h4, h5⟩ := run_append_lies (P := Tryz.prog) w 47 o.type B 26 i0 zdy 3 40 Tryz.underlying47 hi hz0 hz1 hz2 rfl (by decide) v L.length cs hown ⟨q, 0, none⟩ 1 c [.bool (decide (m < 0)), .slice A (digs m.natAbs).length cA, .int .i64 y] rfl hnews hone (by decide) (by unfold maxLen; omega) (by omega) hbase w.heap.size rfl
  have hk := kept_of_grown hown hn h3
  have hno := run_append_no (P := Tryz.prog) w B 47 o.type 26 i0 40 Tryz.underlying47 hi zdy 3 hz0 hz1 (fun _ _ => zero_no) hz2 v L.length cs hown hn hcs.2.1 ⟨q, 0, none⟩ c _ rfl hnews hone hnn (by unfold maxLen; omega) (by omega) _ _ hr
  unfold Oper.wp execOp
  simp only [ho, resolve, invoke, builtin, Sem.run_bind, Sem.run_pure, Result.andThen_ok, List.map_toArray, List.map_cons, List.map_nil, hs, hx, hr]
  exact h g cap w' ⟨hno, _, by rw [List.length_append]; exact h2, (hcs.kept hk).snoc (hd.kept hk)⟩ h3 hk h4
theorem own_laterI {w w' : World} {B size n : Nat} {e : TypeId} {v : Value} {xs : List Value} (h : w.ownsRow B e size v n xs) (hb : Below w.heap.size w w') : w'.ownsRow B e size v n xs := by
  refine ⟨h.1, ?_⟩
  rcases h.2 with h1 | ⟨g, cap, cur, hv, hg, hc, rest⟩
  · exact .inl h1
  · exact .inr ⟨g, cap, cur, hv, hg, (hb.block g (heap_lt hc)).trans hc, rest⟩
theorem dw_nil (w : World) (B : Nat) : Dw w B (.slice none 0 0) [] := ⟨fun g _ _ _ h => by simp [Value.ownBlock] at h, [], World.ownsRow_nil _ _ _ _, rfl, fun u hu => by simp at hu, fun i z hz => by simp at hz⟩
theorem Dw.below {w w' : World} {B : Nat} {v : Value} {L : List (Int × Int)} (h : Dw w B v L) (hb : Below w.heap.size w w') : Dw w' B v L := by
  obtain ⟨hn, cs, hown, hcs⟩ := h
  refine ⟨fun g cur T fr hg hh => hn g cur T fr hg ?_, cs, own_laterI hown hb, hcs.kept (Kept.below hb)⟩
  exact (hb.block g (hown.lt g hg).2).symm.trans hh
def rdS (s : List UInt8 × Bool) : Int × List UInt8 × Bool := match s.1 with
  | [] => (0, [], true)
  | x :: r => (x.toNat, r, s.2)
def okN (l : List UInt8) : Prop := ∃ q : Int × Int × List UInt8, l = zb q.1 ++ zb q.2.1 ++ q.2.2 ∧ (digs q.1.natAbs).length ≤ 400 ∧ Rt q.1 q.2.1 ∧ inR q.1 q.2.1 = true
open Classical in
noncomputable def rdN (s : List UInt8 × Bool) : (Int × Int) × List UInt8 × Bool := if h : okN s.1 then ((h.choose.1, h.choose.2.1), h.choose.2.2, s.2) else ((0, 0), [], true)
theorem rdN_is (s : List UInt8 × Bool) : Rt (rdN s).1.1 (rdN s).1.2 ∧ (digs (rdN s).1.1.natAbs).length ≤ 400 ∧ (rdN s).2.1.length ≤ s.1.length := by
  unfold rdN
  by_cases h : okN s.1
  · rw [dif_pos h]
    obtain ⟨h1, h2, h3, h4⟩ := h.choose_spec
    refine ⟨h3, h2, ?_⟩
    have := congrArg List.length h1
    rw [List.length_append, List.length_append] at this
    dsimp only; omega
  · rw [dif_neg h]
    refine ⟨⟨.inl ⟨rfl, rfl⟩, by dsimp only; omega, by dsimp only; omega⟩, ?_, by simp⟩
    show (digs 0).length ≤ 400
    rw [digs_zero]; simp
theorem rdS_is (s : List UInt8 × Bool) : 0 ≤ (rdS s).1 ∧ (rdS s).1 ≤ 255 ∧ (rdS s).2.1.length ≤ s.1.length := by
  obtain ⟨l, m⟩ := s
  unfold rdS
  cases l with
  | nil => simp
  | cons x r => have := x.toNat_lt; simp; omega
theorem grow_set (w : World) (g i : Nat) (v : Value) : w.grownBy (w.setCell ⟨g, i, none⟩ v) (some g) := by
  have h := (Only.refl g w).setCell i v
  exact ⟨h.os, h.tape, h.output, Nat.le_of_eq h.size.symm, fun k _ hk => h.block k (fun e => hk (by rw [e]))⟩
theorem grow_trans {a b c : World} {r : Option Nat} (h : a.grownBy b r) (k : b.grownBy c r) : a.grownBy c r :=
  ⟨k.os.trans h.os, k.tape.trans h.tape, k.output.trans h.output, Nat.le_trans h.size k.size, fun i hi hr => (k.block i (Nat.lt_of_lt_of_le hi h.size) hr).trans (h.block i hi hr)⟩
theorem grow_below {a b : World} {r : Option Nat} (h : Below a.heap.size a b) : a.grownBy b r := ⟨h.os, h.tape, h.output, h.size, fun i hi _ => h.block i hi⟩
theorem grow_row {a b : World} {g k : Nat} {o : Obj} (h : a.grownBy b (some g)) (hr : a.heap[k]? = some o) (hk : k ≠ g) : b.heap[k]? = some o := (h.block k (heap_lt hr) (fun e => hk (by injection e))).trans hr
theorem grow_kept {a b : World} {g : Nat} {cs : Array Value} {T : TypeId} {fr : Nat × Nat} (h : a.grownBy b (some g)) (hr : a.heap[g]? = some (.cells cs T fr)) (hz : ∀ (i : Nat) (n : Int), cs[i]? ≠ some (.int .u32 n)) : Kept a b := by
  refine ⟨h.size, fun k o n hc => ?_⟩
  by_cases e : k = g
  · subst e
    rw [cell_of_row _ _ _ _ _ _ hr] at hc
    exact absurd hc (hz o n)
  · rw [World.cell?_of_block (a := ⟨k, o, none⟩) (h.block k (cell_lt hc) (fun e2 => e (by injection e2)))]
    exact hc
def LB (w : World) (g : Nat) (s : List UInt8 × Bool) (rs : List Value) : Prop := w.heap[g]? = some (.cells (.string ⟨s.1.toArray⟩ :: .bool s.2 :: rs).toArray 60 (0, 0))
theorem LB.set0 {w : World} {g : Nat} {s : List UInt8 × Bool} {rs : List Value} (h : LB w g s rs) (r : List UInt8) : LB (w.setCell ⟨g, 0, none⟩ (.string ⟨r.toArray⟩)) g (r, s.2) rs := by
  have := heap_setCell_same _ _ 0 _ _ (.string ⟨r.toArray⟩) h
  unfold LB; rw [this]; simp
theorem LB.set1 {w : World} {g : Nat} {s : List UInt8 × Bool} {rs : List Value} (h : LB w g s rs) (m : Bool) : LB (w.setCell ⟨g, 1, none⟩ (.bool m)) g (s.1, m) rs := by
  have := heap_setCell_same _ _ 1 _ _ (.bool m) h
  unfold LB; rw [this]; simp
theorem noint_rs {s : List UInt8 × Bool} {rs : List Value} (h : ∀ u, u ∈ rs → ∀ n : Int, u ≠ .int .u32 n) : ∀ (i : Nat) (n : Int), ((.string ⟨s.1.toArray⟩ :: .bool s.2 :: rs : List Value).toArray)[i]? ≠ some (.int .u32 n) := by
  intro i n e
  rcases i with _ | _ | i
  · simp at e
  · simp at e
  · simp at e
    exact h _ (List.mem_of_getElem? e) n rfl
theorem lsmall_any (g : Nat) (s : List UInt8 × Bool) (rs : List Value) (w : World) (h : LB w g s rs) (hl : s.1.length ≤ 9223372036854775807) :
    Calls Tryz.prog 40 #[.pointer (some ⟨g, 0, none⟩)] w fun e w' => e = .returned (.int .i64 (rdS s).1) ∧ LB w' g (rdS s).2 rs ∧ w.grownBy w' (some g) := by
  have H := qH h
  have f0 : w.cell? ⟨g, 0, none⟩ = some (.string ⟨s.1.toArray⟩) := row_c h (i := 0) rfl
  have f1 : w.cell? ⟨g, 1, none⟩ = some (.bool s.2) := row_c h (i := 1) rfl
  have q0 := frozen_of_row _ _ 0 _ _ h
  have q1 := frozen_of_row _ _ 1 _ _ h
  obtain ⟨l, m⟩ := s
  clear h
  cases l with
  | nil =>
    unfold rdS
    dsimp only at *
    go_enter Tryz.func40, Tryz.ntmps40
    go_wp2
    go_ret
    exact ⟨rfl, H.out.set1 true, grow_set _ _ _ _⟩
  | cons x r =>
    unfold rdS
    dsimp only at *
    have HX := qH (H.out.set0 r)
    have xn := x.toNat_lt
    have hs : (⟨(x :: r).toArray⟩ : ByteArray).size = r.length + 1 := rfl
    have x2 : (⟨(x :: r).toArray⟩ : ByteArray).extract 1 (r.length + 1) = ⟨r.toArray⟩ := by
      apply ByteArray.ext; simp
    have hz0 : (⟨(x :: r).toArray⟩ : ByteArray)[0]? = some x := rfl
    have HZ0 := qH hz0
    clear hz0
    generalize hd : (⟨(x :: r).toArray⟩ : ByteArray) = d at *
    generalize ht : (⟨r.toArray⟩ : ByteArray) = t at *
    go_enter Tryz.func40, Tryz.ntmps40
    go_wp2
    go_ret
    refine ⟨?_, HX.out, grow_set _ _ _ _⟩
    have hv : d[0]'(by omega) = x := by
      have := HZ0.out
      rw [getElem?_pos d 0 (by omega)] at this
      exact Option.some.inj this
    have hw : wrap64 ((x.toNat : Nat) : Int) = x.toNat := IntWalk.wrap64_in _ ⟨by omega, by omega⟩
    rw [hv]
    exact congrArg (fun z => Ending.returned (Value.int .i64 z)) hw
theorem dtake_rd {l : List UInt8} {m : Bool} (hl : l.length ≤ 9223372036854775807) (w : World) : ∃ er : Int, (rdN (l, m)).2.2 = (m || (er != 0)) ∧
    Calls Tryz.prog 73 #[.string ⟨l.toArray⟩] w fun e w' => ∃ A c, e = .returned (.tuple #[.agg #[.bool (decide ((rdN (l, m)).1.1 < 0)), .slice A (digs (rdN (l, m)).1.1.natAbs).length c, .int .i64 (rdN (l, m)).1.2], .string ⟨(rdN (l, m)).2.1.toArray⟩, .int .i64 er]) ∧ Dg w' A c (digs (rdN (l, m)).1.1.natAbs) ∧ Below w.heap.size w w' := by
  by_cases h : okN l
  · refine ⟨0, ?_, ?_⟩
    · unfold rdN; rw [dif_pos h]; simp
    · obtain ⟨h1, h2, h3, h4⟩ := h.choose_spec
      unfold rdN
      rw [dif_pos h]
      exact dtake_yes (b := ⟨l.toArray⟩) (t := ⟨h.choose.2.2.toArray⟩) (by simpa using h1) h2 h3 h4 (by simpa using hl) w
  · refine ⟨2, ?_, ?_⟩
    · unfold rdN; rw [dif_neg h]; simp
    · unfold rdN
      rw [dif_neg h]
      refine (dtake_no (b := ⟨l.toArray⟩) (fun ⟨a, b, t, h1, h2, h3, h4⟩ => h ⟨(a, b, t), by simpa using h1, h2, h3, h4⟩) (by simpa using hl) w).mono ?_
      rintro e w' ⟨rfl, hb⟩
      have e0 : digs ((0 : Int).natAbs) = [] := digs_zero
      refine ⟨none, 0, ?_, ?_, hb⟩
      · dsimp only; rw [e0]; rfl
      · dsimp only; rw [e0]; exact Dg.nil_ _ _
theorem lnumber_any (g : Nat) (s : List UInt8 × Bool) (rs : List Value) (w : World) (h : LB w g s rs) (hz : ∀ u, u ∈ rs → ∀ n : Int, u ≠ .int .u32 n) (hl : s.1.length ≤ 9223372036854775807) :
    Calls Tryz.prog 41 #[.pointer (some ⟨g, 0, none⟩)] w fun e w' => ∃ A c, e = .returned (.agg #[.bool (decide ((rdN s).1.1 < 0)), .slice A (digs (rdN s).1.1.natAbs).length c, .int .i64 (rdN s).1.2]) ∧ Dg w' A c (digs (rdN s).1.1.natAbs) ∧ LB w' g (rdN s).2 rs ∧ w.grownBy w' (some g) := by
  obtain ⟨l, m⟩ := s
  have H := qH h
  have HZ := qH hz
  obtain ⟨wz, hwz⟩ : ∃ V : World, w.alloc (.cells #[.bool false, .slice none 0 0, .int .i64 0] 26) = V := ⟨_, rfl⟩
  obtain ⟨er, her, hT⟩ := dtake_rd (l := l) (m := m) hl wz
  have HT := qH hT
  have NZ := qH (noint_rs (s := (l, m)) hz)
  obtain ⟨K, hK⟩ : ∃ K, (rdN (l, m)).1.1 = K := ⟨_, rfl⟩
  obtain ⟨F, hF⟩ : ∃ K, (rdN (l, m)).1.2 = K := ⟨_, rfl⟩
  obtain ⟨r, hr⟩ : ∃ K, (rdN (l, m)).2.1 = K := ⟨_, rfl⟩
  have h2 : (rdN (l, m)).2 = (r, m || (er != 0)) := by rw [← hr, ← her]
  rw [hK, hF, hr] at HT
  rw [hK, hF, h2]
  clear hK hF hr h2 her hT h hz
  have hb : Below w.heap.size w wz := by rw [← hwz]; exact below1 _ _
  have HR := qH (show wz.heap[w.heap.size]? = some (.cells #[.bool false, .slice none 0 0, .int .i64 0] 26 (0, 0)) by rw [← hwz]; exact heap_alloc_new _ _)
  have H1 := qH (show LB wz g (l, m) rs from (hb.block g (heap_lt H.out)).trans H.out)
  have G1 := qH (grow_below (r := some g) hb)
  have GN := qH (heap_lt H.out)
  clear hb
  go_enter Tryz.func41, Tryz.ntmps41
  go_upto_region 1 with fail
  try rw [hwz]
  have f0 : wz.cell? ⟨g, 0, none⟩ = some (.string ⟨l.toArray⟩) := row_c H1.out (i := 0) rfl
  clear hwz
  generalize hd : (⟨l.toArray⟩ : ByteArray) = d at *
  generalize ht : (⟨r.toArray⟩ : ByteArray) = t at *
  go_wp2_with fail
  refine HT.out.mono ?_
  rintro e w2 ⟨A, c, rfl, hdg, hb⟩
  clear f0
  have R2 := co HR hb
  have H2 := qH (show LB w2 g (l, m) rs from (hb.block g (heap_lt H1.out)).trans H1.out)
  have G2 := qH (grow_trans G1.out (grow_below hb))
  have D2 := qH hdg
  clear hb hdg HT
  go_upto_region 2 with fail
  obtain ⟨w3, hW⟩ : ∃ V : World, w2.alloc (.cells #[.bool (decide (K < 0)), .slice A (digs K.natAbs).length c, .int .i64 F] 26) = V := ⟨_, rfl⟩
  rw [hW]
  have hb : Below w2.heap.size w2 w3 := by rw [← hW]; exact below1 _ _
  obtain ⟨x, hx⟩ : ∃ n, w2.heap.size = n := ⟨_, rfl⟩
  have X3 := qH (show w3.heap[x]? = some (.cells #[.bool (decide (K < 0)), .slice A (digs K.natAbs).length c, .int .i64 F] 26 (0, 0)) by rw [← hW, ← hx]; exact heap_alloc_new _ _)
  have R3 := co R2 hb
  have H3 := qH (show LB w3 g (l, m) rs from (hb.block g (heap_lt H2.out)).trans H2.out)
  have G3 := qH (grow_trans G2.out (grow_below hb))
  have D3 := qH (D2.out.below hb)
  have NX := qH (show w.heap.size < x ∧ g ≠ w.heap.size ∧ g ≠ x from ⟨by rw [← hx]; exact heap_lt R2.out, Nat.ne_of_lt GN.out, by have := heap_lt H2.out; omega⟩)
  rw [hx]
  clear hb hW hx
  have z0 := frozen_of_row _ _ 0 _ _ H3.out
  have xg := heap_lt H3.out
  have f0 : w3.cell? ⟨g, 0, none⟩ = some (.string d) := by rw [← hd]; exact row_c H3.out (i := 0) rfl
  go_upto_region 3 with fail
  obtain ⟨w4, hW⟩ : ∃ V : World, w3.setCell ⟨g, 0, none⟩ (.string t) = V := ⟨_, rfl⟩
  rw [hW]
  have H4 := qH (show LB w4 g (r, m) rs by rw [← hW, ← ht]; exact H3.out.set0 r)
  have G4 := qH (grow_trans G3.out (show w3.grownBy w4 (some g) by rw [← hW]; exact grow_set _ _ _ _))
  have hO : Only g w3 w4 := by rw [← hW]; exact (Only.refl g w3).setCell 0 _
  have X4 := qH ((hO.block x (Ne.symm NX.out.2.2)).trans X3.out)
  have R4 := qH ((hO.block w.heap.size (Ne.symm NX.out.2.1)).trans R3.out)
  have D4 := qH (D3.out.kept (hO.kept H3.out (noint_rs HZ.out)))
  clear hW hO f0 z0 xg
  have z1 := frozen_of_row _ _ 1 _ _ H4.out
  have fg1 : w4.cell? ⟨g, 1, none⟩ = some (.bool m) := row_c H4.out (i := 1) rfl
  have xg := heap_lt H4.out
  have nx1 := NX.out.2.1
  have nx2 := NX.out.2.2
  by_cases he : er = 0
  · subst he
    go_upto_region 5 with fail
    obtain ⟨w5, hW⟩ : ∃ V : World, w4 = V := ⟨_, rfl⟩
    have H5 := qH (show LB w5 g (r, m || ((0 : Int) != 0)) rs by rw [← hW, show (m || ((0 : Int) != 0)) = m by simp]; exact H4.out)
    have G5 := qH (show w.grownBy w5 (some g) by rw [← hW]; exact G4.out)
    have X5 := qH (show w5.heap[x]? = some (.cells #[.bool (decide (K < 0)), .slice A (digs K.natAbs).length c, .int .i64 F] 26 (0, 0)) by rw [← hW]; exact X4.out)
    have R5 := qH (show w5.heap[w.heap.size]? = some (.cells #[.bool false, .slice none 0 0, .int .i64 0] 26 (0, 0)) by rw [← hW]; exact R4.out)
    have D5 := qH (show Dg w5 A c (digs K.natAbs) by rw [← hW]; exact D4.out)
    rw [hW]
    clear hW z1 xg nx1 nx2 fg1
    have y0 := row_c (i := 0) X5.out rfl
    have y1 := row_c (i := 1) X5.out rfl
    have y2 := row_c (i := 2) X5.out rfl
    have f0 := row_c (i := 0) R5.out rfl
    have f1 := row_c (i := 1) R5.out rfl
    have f2 := row_c (i := 2) R5.out rfl
    have z0 := frozen_of_row _ _ 0 _ _ R5.out
    have z1 := frozen_of_row _ _ 1 _ _ R5.out
    have z2 := frozen_of_row _ _ 2 _ _ R5.out
    have xr := heap_lt R5.out
    go_wp2
    obtain ⟨w6, hW⟩ : ∃ V : World, ((w5.setCell ⟨w.heap.size, 0, none⟩ (.bool (decide (K < 0)))).setCell ⟨w.heap.size, 1, none⟩ (.slice A (digs K.natAbs).length c)).setCell ⟨w.heap.size, 2, none⟩ (.int .i64 F) = V := ⟨_, rfl⟩
    rw [hW]
    have hO : Only w.heap.size w5 w6 := by rw [← hW]; exact (((Only.refl w.heap.size w5).setCell 0 _).setCell 1 _).setCell 2 _
    have hR6 : w6.heap[w.heap.size]? = some (.cells #[.bool (decide (K < 0)), .slice A (digs K.natAbs).length c, .int .i64 F] 26 (0, 0)) := by rw [← hW]; exact heap_setCell_same _ _ 2 _ _ _ (heap_setCell_same _ _ 1 _ _ _ (heap_setCell_same _ _ 0 _ _ _ R5.out))
    have H6 := qH (show LB w6 g (r, _) rs from (hO.block g NX.out.2.1).trans H5.out)
    have D6 := qH (D5.out.kept (hO.kept R5.out noint3))
    have G6 := qH (show w.grownBy w6 (some g) from ⟨hO.os.trans G5.out.os, hO.tape.trans G5.out.tape, hO.output.trans G5.out.output, Nat.le_trans G5.out.size (Nat.le_of_eq hO.size.symm), fun k hk hk2 => (hO.block k (by omega)).trans (G5.out.block k hk hk2)⟩)
    have g0 := row_c (i := 0) hR6 rfl
    have g1 := row_c (i := 1) hR6 rfl
    have g2 := row_c (i := 2) hR6 rfl
    clear hO y0 y1 y2 z0 z1 z2 xr f0 f1 f2
    refine bodyPost_ret (v := .agg #[.bool (decide (K < 0)), .slice A (digs K.natAbs).length c, .int .i64 F]) (by simp [results, Tryz.results41, go_sem, g0, g1, g2]) rfl ?_
    exact ⟨A, c, rfl, D6.out, H6.out, G6.out⟩
  · have hne : (er != 0) = true := bne_iff_ne.2 he
    go_upto_region 5 with fail
    obtain ⟨w5, hW⟩ : ∃ V : World, w4.setCell ⟨g, 1, none⟩ (.bool true) = V := ⟨_, rfl⟩
    rw [hW]
    have hO : Only g w4 w5 := by rw [← hW]; exact (Only.refl g w4).setCell 1 _
    have H5 := qH (show LB w5 g (r, m || (er != 0)) rs by rw [← hW, hne, Bool.or_true]; exact H4.out.set1 true)
    have G5 := qH (grow_trans G4.out (show w4.grownBy w5 (some g) by rw [← hW]; exact grow_set _ _ _ _))
    have X5 := qH ((hO.block x (Ne.symm NX.out.2.2)).trans X4.out)
    have R5 := qH ((hO.block w.heap.size (Ne.symm NX.out.2.1)).trans R4.out)
    have D5 := qH (D4.out.kept (hO.kept H4.out (noint_rs HZ.out)))
    clear hW hO z1 xg nx1 nx2 hne he fg1
    have y0 := row_c (i := 0) X5.out rfl
    have y1 := row_c (i := 1) X5.out rfl
    have y2 := row_c (i := 2) X5.out rfl
    have f0 := row_c (i := 0) R5.out rfl
    have f1 := row_c (i := 1) R5.out rfl
    have f2 := row_c (i := 2) R5.out rfl
    have z0 := frozen_of_row _ _ 0 _ _ R5.out
    have z1 := frozen_of_row _ _ 1 _ _ R5.out
    have z2 := frozen_of_row _ _ 2 _ _ R5.out
    have xr := heap_lt R5.out
    go_wp2
    obtain ⟨w6, hW⟩ : ∃ V : World, ((w5.setCell ⟨w.heap.size, 0, none⟩ (.bool (decide (K < 0)))).setCell ⟨w.heap.size, 1, none⟩ (.slice A (digs K.natAbs).length c)).setCell ⟨w.heap.size, 2, none⟩ (.int .i64 F) = V := ⟨_, rfl⟩
    rw [hW]
    have hO : Only w.heap.size w5 w6 := by rw [← hW]; exact (((Only.refl w.heap.size w5).setCell 0 _).setCell 1 _).setCell 2 _
    have hR6 : w6.heap[w.heap.size]? = some (.cells #[.bool (decide (K < 0)), .slice A (digs K.natAbs).length c, .int .i64 F] 26 (0, 0)) := by rw [← hW]; exact heap_setCell_same _ _ 2 _ _ _ (heap_setCell_same _ _ 1 _ _ _ (heap_setCell_same _ _ 0 _ _ _ R5.out))
    have H6 := qH (show LB w6 g (r, _) rs from (hO.block g NX.out.2.1).trans H5.out)
    have D6 := qH (D5.out.kept (hO.kept R5.out noint3))
    have G6 := qH (show w.grownBy w6 (some g) from ⟨hO.os.trans G5.out.os, hO.tape.trans G5.out.tape, hO.output.trans G5.out.output, Nat.le_trans G5.out.size (Nat.le_of_eq hO.size.symm), fun k hk hk2 => (hO.block k (by omega)).trans (G5.out.block k hk hk2)⟩)
    have g0 := row_c (i := 0) hR6 rfl
    have g1 := row_c (i := 1) hR6 rfl
    have g2 := row_c (i := 2) hR6 rfl
    clear hO y0 y1 y2 z0 z1 z2 xr f0 f1 f2
    refine bodyPost_ret (v := .agg #[.bool (decide (K < 0)), .slice A (digs K.natAbs).length c, .int .i64 F]) (by simp [results, Tryz.results41, go_sem, g0, g1, g2]) rfl ?_
    exact ⟨A, c, rfl, D6.out, H6.out, G6.out⟩
theorem lsmall_v {g : Nat} {s s2 : List UInt8 × Bool} {n : Int} {rs : List Value} {w : World} (e : rdS s = (n, s2)) (h : LB w g s rs) (hl : s.1.length ≤ 9223372036854775807) :
    Calls Tryz.prog 40 #[.pointer (some ⟨g, 0, none⟩)] w fun e w' => e = .returned (.int .i64 n) ∧ LB w' g s2 rs ∧ w.grownBy w' (some g) := by
  have := lsmall_any g s rs w h hl
  rw [e] at this; exact this
theorem lnumber_v {g : Nat} {s s2 : List UInt8 × Bool} {q : Int × Int} {rs : List Value} {w : World} (e : rdN s = (q, s2)) (h : LB w g s rs) (hz : ∀ u, u ∈ rs → ∀ n : Int, u ≠ .int .u32 n) (hl : s.1.length ≤ 9223372036854775807) :
    Calls Tryz.prog 41 #[.pointer (some ⟨g, 0, none⟩)] w fun e w' => ∃ A c, e = .returned (.agg #[.bool (decide (q.1 < 0)), .slice A (digs q.1.natAbs).length c, .int .i64 q.2]) ∧ Dg w' A c (digs q.1.natAbs) ∧ LB w' g s2 rs ∧ w.grownBy w' (some g) := by
  have := lnumber_any g s rs w h hz hl
  rw [e] at this; exact this
theorem rdS_b {s s2 : List UInt8 × Bool} {n : Int} {N : Nat} (e : rdS s = (n, s2)) (hl : s.1.length ≤ N) : s2.1.length ≤ N ∧ 0 ≤ n ∧ n ≤ 255 := by
  have := rdS_is s
  rw [e] at this
  exact ⟨Nat.le_trans this.2.2 hl, this.1, this.2.1⟩
theorem rdN_b {s s2 : List UInt8 × Bool} {q : Int × Int} {N : Nat} (e : rdN s = (q, s2)) (hl : s.1.length ≤ N) : s2.1.length ≤ N ∧ Rt q.1 q.2 ∧ (digs q.1.natAbs).length ≤ 400 := by
  have := rdN_is s
  rw [e] at this
  exact ⟨Nat.le_trans this.2.2 hl, this.1, this.2.1⟩
theorem keep_cell {w : World} {g o i : Nat} {v : Value} {X : Option Value} (h : w.cell? ⟨g, o, none⟩ = X) (hne : o ≠ i) : (w.setCell ⟨g, i, none⟩ v).cell? ⟨g, o, none⟩ = X := by
  rw [World.cell?_setCell_other _ _ _ _ (by intro e; simp only [Addr.mk.injEq] at e; omega)]; exact h
theorem zmake_dz {A : Option Addr} {c : Nat} {K : Int} {w : World} (h : Dg w A c (digs K.natAbs)) (hl : (digs K.natAbs).length ≤ 1000000) :
    Calls Tryz.prog 42 #[.bool (decide (K < 0)), .slice A (digs K.natAbs).length c] w fun e w' => Zr K w e w' := by
  have := zmake_any A c (decide (K < 0)) _ w h hl
  rwa [sg_dz] at this
theorem LB.setr {w : World} {g : Nat} {s : List UInt8 × Bool} {rs : List Value} (h : LB w g s rs) (i : Nat) (v : Value) : LB (w.setCell ⟨g, i + 2, none⟩ v) g s (rs.set i v) := by
  have := heap_setCell_same _ _ (i + 2) _ _ v h
  unfold LB; rw [this]; simp
noncomputable def rdH (s : List UInt8 × Bool) : Int × Int × Int × Int × Int × Int × (Int × Int) × List UInt8 × Bool :=
  let t := rdS s
  let s1 := if t.1 = 84 then t.2 else (t.2.1, true)
  let f := rdS s1
  let o := rdS f.2
  let p := rdS o.2
  let d := rdS p.2
  let x := rdS d.2
  let n := rdS x.2
  let a := rdN n.2
  (f.1, o.1, p.1, d.1, x.1 - 128, n.1, a.1, a.2)
theorem head_any (g : Nat) (s0 s1 s2 s3 s4 s5 s6 s7 s8 : List UInt8 × Bool) (t F O Q D W n : Int) (a : Int × Int) (w : World) (h : LB w g s0 [.int .i64 0, .int .i64 0, .bool false, .slice none 0 0, .int .i64 0, .int .i64 0, .int .i64 0, .int .i64 0, .slice none 0 0, .bool false, .slice none 0 0, .int .i64 0]) (hl : s0.1.length ≤ 9223372036854775807)
    (e0 : rdS s0 = (t, s1)) (e1 : rdS (if t = 84 then s1 else (s1.1, true)) = (F, s2)) (e2 : rdS s2 = (O, s3)) (e3 : rdS s3 = (Q, s4)) (e4 : rdS s4 = (D, s5)) (e5 : rdS s5 = (W, s6)) (e6 : rdS s6 = (n, s7)) (e7 : rdN s7 = (a, s8)) :
    Calls Tryz.prog 20 #[.pointer (some ⟨g, 0, none⟩)] w fun e w' => ∃ A c B d, e = .returned (.int .i64 n) ∧ LB w' g s8 [.int .i64 F, .int .i64 O, .bool (decide (a.1 < 0)), .slice A (digs a.1.natAbs).length c, .int .i64 a.2, .int .i64 (W - 128), .int .i64 Q, .int .i64 D, .slice none 0 0, .bool (decide (a.1 < 0)), .slice B (digs a.1.natAbs).length d, .int .i64 a.2] ∧ Dg w' A c (digs a.1.natAbs) ∧ Dg w' B d (digs a.1.natAbs) ∧ w.grownBy w' (some g) := by
  have H0 := qH h
  have E0 := qH e0
  have E1 := qH e1
  have E2 := qH e2
  have E3 := qH e3
  have E4 := qH e4
  have E5 := qH e5
  have E6 := qH e6
  have E7 := qH e7
  have B0 := qH hl
  have B1 := qH (rdS_b e0 hl)
  obtain ⟨sx, hsx⟩ : ∃ z, (if t = 84 then s1 else (s1.1, true)) = z := ⟨_, rfl⟩
  rw [hsx] at E1
  have BX := qH (show sx.1.length ≤ 9223372036854775807 by rw [← hsx]; split; exact B1.out.1; exact B1.out.1)
  have B2 := qH (rdS_b E1.out BX.out)
  have B3 := qH (rdS_b e2 B2.out.1)
  have B4 := qH (rdS_b e3 B3.out.1)
  have B5 := qH (rdS_b e4 B4.out.1)
  have B6 := qH (rdS_b e5 B5.out.1)
  have B7 := qH (rdS_b e6 B6.out.1)
  have B8 := qH (rdN_b e7 B7.out.1)
  have wW : wrap64 (W - 128) = W - 128 := IntWalk.wrap64_in _ ⟨by have := B6.out; omega, by have := B6.out; omega⟩
  have HSX := qH hsx
  clear h e0 e1 e2 e3 e4 e5 e6 e7 hl hsx
  go_enter Tryz.func20, Tryz.ntmps20
  go_wp2_with fail
  refine (lsmall_v E0.out H0.out B0.out).mono ?_
  rintro e w1 ⟨rfl, hlb, hgr⟩
  have H1 := qH hlb
  have G1 := qH hgr
  clear hlb hgr
  have z1 := frozen_of_row _ _ 1 _ _ H1.out
  have f1 := row_c H1.out (i := 1) rfl
  by_cases ht : t = 84
  · subst ht
    have HX := qH (show LB w1 g sx [.int .i64 0, .int .i64 0, .bool false, .slice none 0 0, .int .i64 0, .int .i64 0, .int .i64 0, .int .i64 0, .slice none 0 0, .bool false, .slice none 0 0, .int .i64 0] by rw [← HSX.out, if_pos rfl]; exact H1.out)
    have GX := G1
    clear f1 z1
    go_upto_region 4 with fail
    go_wp2_with fail
    have HD := qH (show LB w1.drew g sx [.int .i64 0, .int .i64 0, .bool false, .slice none 0 0, .int .i64 0, .int .i64 0, .int .i64 0, .int .i64 0, .slice none 0 0, .bool false, .slice none 0 0, .int .i64 0] from HX.out)
    have GD := qH (grow_trans GX.out (grow_below (r := some g) (bd0 w1)))
    go_region_held3 (fun w' => True)
      (first | trivial)
      (first
        | (go_at_call 40; (with_reducible refine (lsmall_v E1.out HD.out BX.out).mono ?_); rintro e w2 ⟨rfl, hlb, hgr⟩; (have H2 := qH hlb); (have G2 := qH (grow_trans GD.out hgr)); clear hlb hgr)
        | (go_at_call 40; (with_reducible refine (lsmall_v E2.out H2.out B2.out.1).mono ?_); rintro e w3 ⟨rfl, hlb, hgr⟩; (have H3 := qH hlb); (have G3 := qH (grow_trans G2.out hgr)); clear hlb hgr)
        | (go_at_call 40; (with_reducible refine (lsmall_v E3.out H3.out B3.out.1).mono ?_); rintro e w4 ⟨rfl, hlb, hgr⟩; (have H4 := qH hlb); (have G4 := qH (grow_trans G3.out hgr)); clear hlb hgr)
        | (go_at_call 40; (with_reducible refine (lsmall_v E4.out H4.out B4.out.1).mono ?_); rintro e w5 ⟨rfl, hlb, hgr⟩; (have H5 := qH hlb); (have G5 := qH (grow_trans G4.out hgr)); clear hlb hgr; (have q2 := row_c (i := 2) H5.out rfl); (have p2 := frozen_of_row _ _ 2 _ _ H5.out); (have q3 := row_c (i := 3) H5.out rfl); (have p3 := frozen_of_row _ _ 3 _ _ H5.out); (have q8 := row_c (i := 8) H5.out rfl); (have p8 := frozen_of_row _ _ 8 _ _ H5.out); (have q9 := row_c (i := 9) H5.out rfl); (have p9 := frozen_of_row _ _ 9 _ _ H5.out)))
    rename_i hHeld
    clear hHeld
    clear q2 p2 q3 p3 q8 p8 q9 p9
    obtain ⟨w6, hW⟩ : ∃ V : World, (((w5.setCell ⟨g, 2, none⟩ (.int .i64 F)).setCell ⟨g, 3, none⟩ (.int .i64 O)).setCell ⟨g, 8, none⟩ (.int .i64 Q)).setCell ⟨g, 9, none⟩ (.int .i64 D) = V := ⟨_, rfl⟩
    rw [hW]
    have H6 := qH (show LB w6 g s5 [.int .i64 F, .int .i64 O, .bool false, .slice none 0 0, .int .i64 0, .int .i64 0, .int .i64 Q, .int .i64 D, .slice none 0 0, .bool false, .slice none 0 0, .int .i64 0] by rw [← hW]; exact (((H5.out.setr 0 _).setr 1 _).setr 6 _).setr 7 _)
    have G6 := qH (grow_trans G5.out (show w5.grownBy w6 (some g) by rw [← hW]; exact grow_trans (grow_trans (grow_trans (grow_set _ _ _ _) (grow_set _ _ _ _)) (grow_set _ _ _ _)) (grow_set _ _ _ _)))
    clear hW
    go_wp2_with fail
    refine (lsmall_v E5.out H6.out B5.out.1).mono ?_
    rintro e w7 ⟨rfl, hlb, hgr⟩
    have H7 := qH hlb
    have G7 := qH (grow_trans G6.out hgr)
    clear hlb hgr
    have q7 := row_c (i := 7) H7.out rfl
    have p7 := frozen_of_row _ _ 7 _ _ H7.out
    go_wp2_with fail
    clear q7 p7
    obtain ⟨w8, hW⟩ : ∃ V : World, w7.setCell ⟨g, 7, none⟩ (.int .i64 (W - 128)) = V := ⟨_, rfl⟩
    rw [hW]
    have H8 := qH (show LB w8 g s6 [.int .i64 F, .int .i64 O, .bool false, .slice none 0 0, .int .i64 0, .int .i64 (W - 128), .int .i64 Q, .int .i64 D, .slice none 0 0, .bool false, .slice none 0 0, .int .i64 0] by rw [← hW]; exact H7.out.setr 5 _)
    have G8 := qH (grow_trans G7.out (show w7.grownBy w8 (some g) by rw [← hW]; exact grow_set _ _ _ _))
    clear hW
    refine (lsmall_v E6.out H8.out B6.out.1).mono ?_
    rintro e w9 ⟨rfl, hlb, hgr⟩
    have H9 := qH hlb
    have G9 := qH (grow_trans G8.out hgr)
    clear hlb hgr
    go_wp2_with fail
    refine (lnumber_v E7.out H9.out (by intro u hu n e; subst e; simp at hu) B7.out.1).mono ?_
    rintro e w10 ⟨A, c, rfl, hdg, hlb, hgr⟩
    have H10 := qH hlb
    have G10 := qH (grow_trans G9.out hgr)
    have D10 := qH hdg
    clear hlb hgr hdg
    have q4 := row_c (i := 4) H10.out rfl
    have p4 := frozen_of_row _ _ 4 _ _ H10.out
    have q5 := row_c (i := 5) H10.out rfl
    have p5 := frozen_of_row _ _ 5 _ _ H10.out
    have q6 := row_c (i := 6) H10.out rfl
    have p6 := frozen_of_row _ _ 6 _ _ H10.out
    go_wp2_with fail
    clear q4 p4 q5 p5 q6 p6
    obtain ⟨w11, hW⟩ : ∃ V : World, ((w10.setCell ⟨g, 4, none⟩ (.bool (decide (a.1 < 0)))).setCell ⟨g, 5, none⟩ (.slice A (digs a.1.natAbs).length c)).setCell ⟨g, 6, none⟩ (.int .i64 a.2) = V := ⟨_, rfl⟩
    rw [hW]
    have H11 := qH (show LB w11 g s8 [.int .i64 F, .int .i64 O, .bool (decide (a.1 < 0)), .slice A (digs a.1.natAbs).length c, .int .i64 a.2, .int .i64 (W - 128), .int .i64 Q, .int .i64 D, .slice none 0 0, .bool false, .slice none 0 0, .int .i64 0] by rw [← hW]; exact ((H10.out.setr 2 _).setr 3 _).setr 4 _)
    have hg11 : w10.grownBy w11 (some g) := by rw [← hW]; exact grow_trans (grow_trans (grow_set _ _ _ _) (grow_set _ _ _ _)) (grow_set _ _ _ _)
    have G11 := qH (grow_trans G10.out hg11)
    have D11 := qH (D10.out.kept (grow_kept hg11 H10.out (noint_rs (s := s8) (by intro u hu n e; subst e; simp at hu))))
    clear hW hg11
    have KD := qH (bd0 w11)
    have SG := qH (heap_lt H11.out)
    have xg := SG.out
    have q4 := row_c (i := 4) H11.out rfl
    have q5 := row_c (i := 5) H11.out rfl
    have q6 := row_c (i := 6) H11.out rfl
    go_region_held3 (fun w' => w'.cell? ⟨g, 4, none⟩ = w11.cell? ⟨g, 4, none⟩ ∧ w'.cell? ⟨g, 5, none⟩ = w11.cell? ⟨g, 5, none⟩ ∧ w'.cell? ⟨g, 6, none⟩ = w11.cell? ⟨g, 6, none⟩)
      (first | with_reducible exact ⟨keep_b KD.out xg 4, keep_b KD.out xg 5, keep_b KD.out xg 6⟩ | with_reducible exact ⟨keep_b K12.out xg 4, keep_b K12.out xg 5, keep_b K12.out xg 6⟩ | (refine ⟨?_, ?_, ?_⟩ <;> (repeat (refine keep_cell ?_ (by decide))) <;> exact keep_b K12.out xg _))
      (first
        | (go_at_call 42; (with_reducible refine (zmake_dz (D11.out.below KD.out) (Nat.le_trans B8.out.2.2 (by omega))).mono ?_); rintro e w12 ⟨B, d, rfl, hd, hb⟩; (have K12 := bt KD hb); (have D12 := qH hd); (have q11 := row_c (i := 11) (co H11 K12.out).out rfl); (have p11 := frozen_of_row _ _ 11 _ _ (cells_of H11.out K12.out)); (have q12 := row_c (i := 12) (co H11 K12.out).out rfl); (have p12 := frozen_of_row _ _ 12 _ _ (cells_of H11.out K12.out)); (have q13 := row_c (i := 13) (co H11 K12.out).out rfl); (have p13 := frozen_of_row _ _ 13 _ _ (cells_of H11.out K12.out)); clear hb hd))
    rename_i hHeld
    clear hHeld
    clear q4 q5 q6 q11 p11 q12 p12 q13 p13 xg
    obtain ⟨w13, hW⟩ : ∃ V : World, ((w12.setCell ⟨g, 11, none⟩ (.bool (decide (a.1 < 0)))).setCell ⟨g, 12, none⟩ (.slice B (digs a.1.natAbs).length d)).setCell ⟨g, 13, none⟩ (.int .i64 a.2) = V := ⟨_, rfl⟩
    rw [hW]
    have H12 := qH (show LB w12 g s8 [.int .i64 F, .int .i64 O, .bool (decide (a.1 < 0)), .slice A (digs a.1.natAbs).length c, .int .i64 a.2, .int .i64 (W - 128), .int .i64 Q, .int .i64 D, .slice none 0 0, .bool false, .slice none 0 0, .int .i64 0] from cells_of H11.out K12.out)
    have H13 := qH (show LB w13 g s8 [.int .i64 F, .int .i64 O, .bool (decide (a.1 < 0)), .slice A (digs a.1.natAbs).length c, .int .i64 a.2, .int .i64 (W - 128), .int .i64 Q, .int .i64 D, .slice none 0 0, .bool (decide (a.1 < 0)), .slice B (digs a.1.natAbs).length d, .int .i64 a.2] by rw [← hW]; exact ((H12.out.setr 9 _).setr 10 _).setr 11 _)
    have hg13 : w12.grownBy w13 (some g) := by rw [← hW]; exact grow_trans (grow_trans (grow_set _ _ _ _) (grow_set _ _ _ _)) (grow_set _ _ _ _)
    have hk13 := grow_kept hg13 H12.out (noint_rs (s := s8) (by intro u hu n e; subst e; simp at hu))
    have G13 := qH (grow_trans (grow_trans G11.out (grow_below K12.out)) hg13)
    have DA := qH ((D11.out.below K12.out).kept hk13)
    have DB := qH (D12.out.kept hk13)
    clear hW hg13 hk13
    go_wp2
    go_ret
    exact ⟨A, c, B, d, rfl, H13.out, DA.out, DB.out, G13.out⟩
  · have hne : (t != 84) = true := bne_iff_ne.2 ht
    have HTT := qH ht
    go_upto_region 3 with fail
    obtain ⟨wx, hW⟩ : ∃ V : World, w1.setCell ⟨g, 1, none⟩ (.bool true) = V := ⟨_, rfl⟩
    rw [hW]
    have HX := qH (show LB wx g sx [.int .i64 0, .int .i64 0, .bool false, .slice none 0 0, .int .i64 0, .int .i64 0, .int .i64 0, .int .i64 0, .slice none 0 0, .bool false, .slice none 0 0, .int .i64 0] by rw [← HSX.out, if_neg HTT.out, ← hW]; exact H1.out.set1 true)
    have GX := qH (grow_trans G1.out (show w1.grownBy wx (some g) by rw [← hW]; exact grow_set _ _ _ _))
    clear hW f1 z1 hne ht
    go_upto_region 4 with fail
    go_wp2_with fail
    have HD := qH (show LB wx.drew g sx [.int .i64 0, .int .i64 0, .bool false, .slice none 0 0, .int .i64 0, .int .i64 0, .int .i64 0, .int .i64 0, .slice none 0 0, .bool false, .slice none 0 0, .int .i64 0] from HX.out)
    have GD := qH (grow_trans GX.out (grow_below (r := some g) (bd0 wx)))
    go_region_held3 (fun w' => True)
      (first | trivial)
      (first
        | (go_at_call 40; (with_reducible refine (lsmall_v E1.out HD.out BX.out).mono ?_); rintro e w2 ⟨rfl, hlb, hgr⟩; (have H2 := qH hlb); (have G2 := qH (grow_trans GD.out hgr)); clear hlb hgr)
        | (go_at_call 40; (with_reducible refine (lsmall_v E2.out H2.out B2.out.1).mono ?_); rintro e w3 ⟨rfl, hlb, hgr⟩; (have H3 := qH hlb); (have G3 := qH (grow_trans G2.out hgr)); clear hlb hgr)
        | (go_at_call 40; (with_reducible refine (lsmall_v E3.out H3.out B3.out.1).mono ?_); rintro e w4 ⟨rfl, hlb, hgr⟩; (have H4 := qH hlb); (have G4 := qH (grow_trans G3.out hgr)); clear hlb hgr)
        | (go_at_call 40; (with_reducible refine (lsmall_v E4.out H4.out B4.out.1).mono ?_); rintro e w5 ⟨rfl, hlb, hgr⟩; (have H5 := qH hlb); (have G5 := qH (grow_trans G4.out hgr)); clear hlb hgr; (have q2 := row_c (i := 2) H5.out rfl); (have p2 := frozen_of_row _ _ 2 _ _ H5.out); (have q3 := row_c (i := 3) H5.out rfl); (have p3 := frozen_of_row _ _ 3 _ _ H5.out); (have q8 := row_c (i := 8) H5.out rfl); (have p8 := frozen_of_row _ _ 8 _ _ H5.out); (have q9 := row_c (i := 9) H5.out rfl); (have p9 := frozen_of_row _ _ 9 _ _ H5.out)))
    rename_i hHeld
    clear hHeld
    clear q2 p2 q3 p3 q8 p8 q9 p9
    obtain ⟨w6, hW⟩ : ∃ V : World, (((w5.setCell ⟨g, 2, none⟩ (.int .i64 F)).setCell ⟨g, 3, none⟩ (.int .i64 O)).setCell ⟨g, 8, none⟩ (.int .i64 Q)).setCell ⟨g, 9, none⟩ (.int .i64 D) = V := ⟨_, rfl⟩
    rw [hW]
    have H6 := qH (show LB w6 g s5 [.int .i64 F, .int .i64 O, .bool false, .slice none 0 0, .int .i64 0, .int .i64 0, .int .i64 Q, .int .i64 D, .slice none 0 0, .bool false, .slice none 0 0, .int .i64 0] by rw [← hW]; exact (((H5.out.setr 0 _).setr 1 _).setr 6 _).setr 7 _)
    have G6 := qH (grow_trans G5.out (show w5.grownBy w6 (some g) by rw [← hW]; exact grow_trans (grow_trans (grow_trans (grow_set _ _ _ _) (grow_set _ _ _ _)) (grow_set _ _ _ _)) (grow_set _ _ _ _)))
    clear hW
    go_wp2_with fail
    refine (lsmall_v E5.out H6.out B5.out.1).mono ?_
    rintro e w7 ⟨rfl, hlb, hgr⟩
    have H7 := qH hlb
    have G7 := qH (grow_trans G6.out hgr)
    clear hlb hgr
    have q7 := row_c (i := 7) H7.out rfl
    have p7 := frozen_of_row _ _ 7 _ _ H7.out
    go_wp2_with fail
    clear q7 p7
    obtain ⟨w8, hW⟩ : ∃ V : World, w7.setCell ⟨g, 7, none⟩ (.int .i64 (W - 128)) = V := ⟨_, rfl⟩
    rw [hW]
    have H8 := qH (show LB w8 g s6 [.int .i64 F, .int .i64 O, .bool false, .slice none 0 0, .int .i64 0, .int .i64 (W - 128), .int .i64 Q, .int .i64 D, .slice none 0 0, .bool false, .slice none 0 0, .int .i64 0] by rw [← hW]; exact H7.out.setr 5 _)
    have G8 := qH (grow_trans G7.out (show w7.grownBy w8 (some g) by rw [← hW]; exact grow_set _ _ _ _))
    clear hW
    refine (lsmall_v E6.out H8.out B6.out.1).mono ?_
    rintro e w9 ⟨rfl, hlb, hgr⟩
    have H9 := qH hlb
    have G9 := qH (grow_trans G8.out hgr)
    clear hlb hgr
    go_wp2_with fail
    refine (lnumber_v E7.out H9.out (by intro u hu n e; subst e; simp at hu) B7.out.1).mono ?_
    rintro e w10 ⟨A, c, rfl, hdg, hlb, hgr⟩
    have H10 := qH hlb
    have G10 := qH (grow_trans G9.out hgr)
    have D10 := qH hdg
    clear hlb hgr hdg
    have q4 := row_c (i := 4) H10.out rfl
    have p4 := frozen_of_row _ _ 4 _ _ H10.out
    have q5 := row_c (i := 5) H10.out rfl
    have p5 := frozen_of_row _ _ 5 _ _ H10.out
    have q6 := row_c (i := 6) H10.out rfl
    have p6 := frozen_of_row _ _ 6 _ _ H10.out
    go_wp2_with fail
    clear q4 p4 q5 p5 q6 p6
    obtain ⟨w11, hW⟩ : ∃ V : World, ((w10.setCell ⟨g, 4, none⟩ (.bool (decide (a.1 < 0)))).setCell ⟨g, 5, none⟩ (.slice A (digs a.1.natAbs).length c)).setCell ⟨g, 6, none⟩ (.int .i64 a.2) = V := ⟨_, rfl⟩
    rw [hW]
    have H11 := qH (show LB w11 g s8 [.int .i64 F, .int .i64 O, .bool (decide (a.1 < 0)), .slice A (digs a.1.natAbs).length c, .int .i64 a.2, .int .i64 (W - 128), .int .i64 Q, .int .i64 D, .slice none 0 0, .bool false, .slice none 0 0, .int .i64 0] by rw [← hW]; exact ((H10.out.setr 2 _).setr 3 _).setr 4 _)
    have hg11 : w10.grownBy w11 (some g) := by rw [← hW]; exact grow_trans (grow_trans (grow_set _ _ _ _) (grow_set _ _ _ _)) (grow_set _ _ _ _)
    have G11 := qH (grow_trans G10.out hg11)
    have D11 := qH (D10.out.kept (grow_kept hg11 H10.out (noint_rs (s := s8) (by intro u hu n e; subst e; simp at hu))))
    clear hW hg11
    have KD := qH (bd0 w11)
    have SG := qH (heap_lt H11.out)
    have xg := SG.out
    have q4 := row_c (i := 4) H11.out rfl
    have q5 := row_c (i := 5) H11.out rfl
    have q6 := row_c (i := 6) H11.out rfl
    go_region_held3 (fun w' => w'.cell? ⟨g, 4, none⟩ = w11.cell? ⟨g, 4, none⟩ ∧ w'.cell? ⟨g, 5, none⟩ = w11.cell? ⟨g, 5, none⟩ ∧ w'.cell? ⟨g, 6, none⟩ = w11.cell? ⟨g, 6, none⟩)
      (first | with_reducible exact ⟨keep_b KD.out xg 4, keep_b KD.out xg 5, keep_b KD.out xg 6⟩ | with_reducible exact ⟨keep_b K12.out xg 4, keep_b K12.out xg 5, keep_b K12.out xg 6⟩ | (refine ⟨?_, ?_, ?_⟩ <;> (repeat (refine keep_cell ?_ (by decide))) <;> exact keep_b K12.out xg _))
      (first
        | (go_at_call 42; (with_reducible refine (zmake_dz (D11.out.below KD.out) (Nat.le_trans B8.out.2.2 (by omega))).mono ?_); rintro e w12 ⟨B, d, rfl, hd, hb⟩; (have K12 := bt KD hb); (have D12 := qH hd); (have q11 := row_c (i := 11) (co H11 K12.out).out rfl); (have p11 := frozen_of_row _ _ 11 _ _ (cells_of H11.out K12.out)); (have q12 := row_c (i := 12) (co H11 K12.out).out rfl); (have p12 := frozen_of_row _ _ 12 _ _ (cells_of H11.out K12.out)); (have q13 := row_c (i := 13) (co H11 K12.out).out rfl); (have p13 := frozen_of_row _ _ 13 _ _ (cells_of H11.out K12.out)); clear hb hd))
    rename_i hHeld
    clear hHeld
    clear q4 q5 q6 q11 p11 q12 p12 q13 p13 xg
    obtain ⟨w13, hW⟩ : ∃ V : World, ((w12.setCell ⟨g, 11, none⟩ (.bool (decide (a.1 < 0)))).setCell ⟨g, 12, none⟩ (.slice B (digs a.1.natAbs).length d)).setCell ⟨g, 13, none⟩ (.int .i64 a.2) = V := ⟨_, rfl⟩
    rw [hW]
    have H12 := qH (show LB w12 g s8 [.int .i64 F, .int .i64 O, .bool (decide (a.1 < 0)), .slice A (digs a.1.natAbs).length c, .int .i64 a.2, .int .i64 (W - 128), .int .i64 Q, .int .i64 D, .slice none 0 0, .bool false, .slice none 0 0, .int .i64 0] from cells_of H11.out K12.out)
    have H13 := qH (show LB w13 g s8 [.int .i64 F, .int .i64 O, .bool (decide (a.1 < 0)), .slice A (digs a.1.natAbs).length c, .int .i64 a.2, .int .i64 (W - 128), .int .i64 Q, .int .i64 D, .slice none 0 0, .bool (decide (a.1 < 0)), .slice B (digs a.1.natAbs).length d, .int .i64 a.2] by rw [← hW]; exact ((H12.out.setr 9 _).setr 10 _).setr 11 _)
    have hg13 : w12.grownBy w13 (some g) := by rw [← hW]; exact grow_trans (grow_trans (grow_set _ _ _ _) (grow_set _ _ _ _)) (grow_set _ _ _ _)
    have hk13 := grow_kept hg13 H12.out (noint_rs (s := s8) (by intro u hu n e; subst e; simp at hu))
    have G13 := qH (grow_trans (grow_trans G11.out (grow_below K12.out)) hg13)
    have DA := qH ((D11.out.below K12.out).kept hk13)
    have DB := qH (D12.out.kept hk13)
    clear hW hg13 hk13
    go_wp2
    go_ret
    exact ⟨A, c, B, d, rfl, H13.out, DA.out, DB.out, G13.out⟩
structure PdZ where
  a : Int × Int
  w : Int
  cs : List (Int × Int)
  er : Int × Int
def nmOf (q : Int × Int) : Nm := (decide (q.1 < 0), digs q.1.natAbs, q.2)
def PdZ.to (p : PdZ) : Pd := ⟨nmOf p.a, p.w, p.cs.map nmOf, nmOf p.er⟩
def NrL (w : World) (P : Option Addr) (k : Nat) (L : List (Int × Int)) : Prop := L.length ≤ k ∧ (L.length ≠ 0 → ∃ b cur fr, P = some ⟨b, 0, none⟩ ∧ w.heap[b]? = some (.cells cur 26 fr) ∧
  ∀ (i : Nat) z, L[i]? = some z → ∃ A c, w.cell? ⟨b, i * 3, none⟩ = some (.bool (decide (z.1 < 0))) ∧ w.cell? ⟨b, i * 3 + 1, none⟩ = some (.slice A (digs z.1.natAbs).length c) ∧ w.cell? ⟨b, i * 3 + 2, none⟩ = some (.int .i64 z.2) ∧ Dg w A c (digs z.1.natAbs))
theorem Dw.nrl {w : World} {B : Nat} {A : Option Addr} {m k : Nat} {L : List (Int × Int)} (h : Dw w B (.slice A m k) L) : m = L.length ∧ NrL w A k L := by
  obtain ⟨hn, cs, hown, hcs⟩ := h
  rcases hown.2 with ⟨h1, h2⟩ | ⟨g, cap, cur, h1, hB, hh, hc, _, _, _⟩
  · injection h1 with e1 e2 e3
    exact ⟨by omega, by omega, fun h0 => absurd h2 h0⟩
  · have h1c := h1
    injection h1 with e1 e2 e3
    refine ⟨e2, by omega, fun _ => ⟨g, cur, _, e1, hh, fun i z hz => ?_⟩⟩
    obtain ⟨A, c, c0, c1, c2, hd⟩ := hcs.2.2 i z hz
    have a0 := hown.cells (g := g) (by rw [h1c]; rfl) _ _ c0
    have a1 := hown.cells (g := g) (by rw [h1c]; rfl) _ _ c1
    have a2 := hown.cells (g := g) (by rw [h1c]; rfl) _ _ c2
    rw [Addr.add_lit] at a0 a1 a2
    simp only [Nat.zero_add] at a0 a1 a2
    exact ⟨A, c, a0, a1, a2, hd⟩
def Gz (N g : Nat) (w w' : World) : Prop := Kept w w' ∧ (w'.os = w.os ∧ w'.tape = w.tape ∧ w'.output = w.output) ∧ ∀ k, k < w.heap.size → k ≠ g → (k < N ∨ ∀ cs fr, w.heap[k]? ≠ some (.cells cs 49 fr)) → w'.heap[k]? = w.heap[k]?
theorem Gz.refl (N g : Nat) (w : World) : Gz N g w w := ⟨Kept.refl _, ⟨rfl, rfl, rfl⟩, fun _ _ _ _ => rfl⟩
theorem Gz.trans {N g : Nat} {a b c : World} (h : Gz N g a b) (k : Gz N g b c) : Gz N g a c := by
  refine ⟨h.1.trans k.1, ⟨k.2.1.1.trans h.2.1.1, k.2.1.2.1.trans h.2.1.2.1, k.2.1.2.2.trans h.2.1.2.2⟩, fun i hi hg hb => ?_⟩
  have e := h.2.2 i hi hg hb
  exact (k.2.2 i (Nat.lt_of_lt_of_le hi h.1.1) hg (hb.imp id (fun f cs fr x => f cs fr (e ▸ x)))).trans e
theorem Gz.below {N g : Nat} {a b : World} (h : Below a.heap.size a b) : Gz N g a b := ⟨Kept.below h, ⟨h.os, h.tape, h.output⟩, fun i hi _ _ => h.block i hi⟩
theorem Gz.grown {N g : Nat} {a b : World} (h : a.grownBy b (some g)) (k : Kept a b) : Gz N g a b := ⟨k, ⟨h.os, h.tape, h.output⟩, fun i hi hg _ => h.block i hi (fun e => hg (by injection e))⟩
theorem Gz.row {N g : Nat} {a b : World} (h : Gz N g a b) {k : Nat} {cs : Array Value} {T : TypeId} {fr : Nat × Nat} (hr : a.heap[k]? = some (.cells cs T fr)) (hk : k ≠ g) (hT : T ≠ 49) : b.heap[k]? = some (.cells cs T fr) :=
  (h.2.2 k (heap_lt hr) hk (.inr (fun cs' fr' e => by rw [hr] at e; exact hT (by injection e with e; injection e)))).trans hr
theorem Gz.base {N g : Nat} {W a b : World} (h : Gz N g a b) (hB : Below N W a) (hN : N ≤ a.heap.size) (hg : N ≤ g) : Below N W b :=
  ⟨h.2.1.1.trans hB.os, h.2.1.2.1.trans hB.tape, h.2.1.2.2.trans hB.output, Nat.le_trans hB.size h.1.1, fun i hi => (h.2.2 i (by omega) (by omega) (.inl hi)).trans (hB.block i hi)⟩
theorem NrL.gz {N g : Nat} {w w' : World} {P : Option Addr} {k : Nat} {L : List (Int × Int)} (h : NrL w P k L) (hg : Gz N g w w') {cs : Array Value} {T : TypeId} {fr : Nat × Nat} (hT : w.heap[g]? = some (.cells cs T fr)) (hne : T ≠ 26) : NrL w' P k L := by
  refine ⟨h.1, fun h0 => ?_⟩
  obtain ⟨b, cur, fr2, rfl, hr, hc⟩ := h.2 h0
  have hb : b ≠ g := fun e => by subst e; rw [hT] at hr; exact hne (by injection hr with hr; injection hr)
  have hr' := hg.row hr hb (by decide)
  have ce : ∀ o, w'.cell? ⟨b, o, none⟩ = w.cell? ⟨b, o, none⟩ := fun o => World.cell?_of_block (a := ⟨b, o, none⟩) (hr'.trans hr.symm)
  refine ⟨b, cur, fr2, rfl, hr', fun i z hz => ?_⟩
  obtain ⟨A, c, c0, c1, c2, hd⟩ := hc i z hz
  exact ⟨A, c, (ce _).trans c0, (ce _).trans c1, (ce _).trans c2, hd.kept hg.1⟩
theorem NrL.ns {w : World} {P : Option Addr} {k : Nat} {L : List (Int × Int)} (h : NrL w P k L) : NsL w P k (L.map nmOf) := by
  by_cases h0 : L.length = 0
  · have : L = [] := List.length_eq_zero_iff.1 h0
    subst this
    exact ⟨fun _ => none, fun _ => 0, Nat.zero_le _, fun h => absurd rfl h⟩
  · obtain ⟨b, cur, fr, rfl, hr, hc⟩ := h.2 h0
    have key : ∀ i, ∃ Ac : Option Addr × Nat, i < L.length → w.cell? ⟨b, 0 + i * 3, none⟩ = some (.bool (((L.map nmOf)[i]?.getD (false, [], 0)).1)) ∧ w.cell? ⟨b, 0 + i * 3 + 1, none⟩ = some (.slice Ac.1 (((L.map nmOf)[i]?.getD (false, [], 0)).2.1).length Ac.2) ∧ w.cell? ⟨b, 0 + i * 3 + 2, none⟩ = some (.int .i64 ((L.map nmOf)[i]?.getD (false, [], 0)).2.2) ∧ Dg w Ac.1 Ac.2 ((L.map nmOf)[i]?.getD (false, [], 0)).2.1 := by
      intro i
      by_cases hi : i < L.length
      · obtain ⟨A, c, c0, c1, c2, hd⟩ := hc i L[i] (List.getElem?_eq_getElem hi)
        refine ⟨(A, c), fun _ => ?_⟩
        have e : (L.map nmOf)[i]?.getD (false, [], 0) = nmOf L[i] := by rw [List.getElem?_map, List.getElem?_eq_getElem hi]; rfl
        rw [e, Nat.zero_add]
        exact ⟨c0, c1, c2, hd⟩
      · exact ⟨(none, 0), fun h => absurd h hi⟩
    refine ⟨fun i => (Classical.choose (key i)).1, fun i => (Classical.choose (key i)).2, ?_, fun _ => ⟨b, 0, rfl, heap_lt hr, fun i hi => ?_⟩⟩
    · rw [List.length_map]; exact h.1
    · rw [List.length_map] at hi
      exact Classical.choose_spec (key i) hi
def PcOf (w : World) (cs : List Value) (ps : List PdZ) : Prop := cs.length = ps.length * 8 ∧ (∀ u ∈ cs, ∀ n : Int, u ≠ .int .u32 n) ∧
  ∀ (i : Nat) p, ps[i]? = some p → ∃ A c P k B d, cs[i * 8]? = some (.bool (decide (p.a.1 < 0))) ∧ cs[i * 8 + 1]? = some (.slice A (digs p.a.1.natAbs).length c) ∧ cs[i * 8 + 2]? = some (.int .i64 p.a.2) ∧ cs[i * 8 + 3]? = some (.int .i64 p.w) ∧ cs[i * 8 + 4]? = some (.slice P p.cs.length k) ∧ cs[i * 8 + 5]? = some (.bool (decide (p.er.1 < 0))) ∧ cs[i * 8 + 6]? = some (.slice B (digs p.er.1.natAbs).length d) ∧ cs[i * 8 + 7]? = some (.int .i64 p.er.2) ∧ Dg w A c (digs p.a.1.natAbs) ∧ NrL w P k p.cs ∧ Dg w B d (digs p.er.1.natAbs)
def Pw (w : World) (N : Nat) (v : Value) (ps : List PdZ) : Prop := NoInt w v ∧ ∃ cs, w.ownsRow N 49 8 v ps.length cs ∧ PcOf w cs ps
theorem PcOf.gz {N g : Nat} {w w' : World} {cs : List Value} {ps : List PdZ} (h : PcOf w cs ps) (hg : Gz N g w w') {xs : Array Value} {T : TypeId} {fr : Nat × Nat} (hT : w.heap[g]? = some (.cells xs T fr)) (hne : T ≠ 26) : PcOf w' cs ps :=
  ⟨h.1, h.2.1, fun i p hp => by obtain ⟨A, c, P, k, B, d, h0, h1, h2, h3, h4, h5, h6, h7, ha, hn, hb⟩ := h.2.2 i p hp; exact ⟨A, c, P, k, B, d, h0, h1, h2, h3, h4, h5, h6, h7, ha.kept hg.1, hn.gz hg hT hne, hb.kept hg.1⟩⟩
theorem PcOf.snoc {w : World} {cs : List Value} {ps : List PdZ} {p : PdZ} {A P B : Option Addr} {c k d : Nat} (h : PcOf w cs ps) (ha : Dg w A c (digs p.a.1.natAbs)) (hn : NrL w P k p.cs) (hb : Dg w B d (digs p.er.1.natAbs)) : PcOf w (cs ++ [.bool (decide (p.a.1 < 0)), .slice A (digs p.a.1.natAbs).length c, .int .i64 p.a.2, .int .i64 p.w, .slice P p.cs.length k, .bool (decide (p.er.1 < 0)), .slice B (digs p.er.1.natAbs).length d, .int .i64 p.er.2]) (ps ++ [p]) := by
  refine ⟨by rw [List.length_append, List.length_append, h.1]; simp; omega, ?_, fun i z hz => ?_⟩
  · intro u hu n
    rcases List.mem_append.1 hu with hu | hu
    · exact h.2.1 u hu n
    · intro e; subst e; simp at hu
  · have hl := h.1
    rcases Nat.lt_trichotomy i ps.length with hi | hi | hi
    · rw [List.getElem?_append_left hi] at hz
      have ap : ∀ j, j < 8 → (cs ++ [.bool (decide (p.a.1 < 0)), .slice A (digs p.a.1.natAbs).length c, .int .i64 p.a.2, .int .i64 p.w, .slice P p.cs.length k, .bool (decide (p.er.1 < 0)), .slice B (digs p.er.1.natAbs).length d, .int .i64 p.er.2])[i * 8 + j]? = cs[i * 8 + j]? := fun j hj => List.getElem?_append_left (by omega)
      obtain ⟨A2, c2, P2, k2, B2, d2, h0, h1, h2, h3, h4, h5, h6, h7, ha, hn, hb⟩ := h.2.2 i z hz
      exact ⟨A2, c2, P2, k2, B2, d2, (ap 0 (by omega)).trans h0, (ap 1 (by omega)).trans h1, (ap 2 (by omega)).trans h2, (ap 3 (by omega)).trans h3, (ap 4 (by omega)).trans h4, (ap 5 (by omega)).trans h5, (ap 6 (by omega)).trans h6, (ap 7 (by omega)).trans h7, ha, hn, hb⟩
    · subst hi
      rw [List.getElem?_append_right (Nat.le_refl _), Nat.sub_self] at hz
      obtain rfl : p = z := by simpa using hz
      have ap : ∀ j, (cs ++ [.bool (decide (p.a.1 < 0)), .slice A (digs p.a.1.natAbs).length c, .int .i64 p.a.2, .int .i64 p.w, .slice P p.cs.length k, .bool (decide (p.er.1 < 0)), .slice B (digs p.er.1.natAbs).length d, .int .i64 p.er.2])[ps.length * 8 + j]? = ([.bool (decide (p.a.1 < 0)), .slice A (digs p.a.1.natAbs).length c, .int .i64 p.a.2, .int .i64 p.w, .slice P p.cs.length k, .bool (decide (p.er.1 < 0)), .slice B (digs p.er.1.natAbs).length d, .int .i64 p.er.2] : List Value)[j]? := fun j => by rw [List.getElem?_append_right (by omega), show ps.length * 8 + j - cs.length = j by omega]
      exact ⟨A, c, P, k, B, d, ap 0, ap 1, ap 2, ap 3, ap 4, ap 5, ap 6, ap 7, ha, hn, hb⟩
    · rw [List.getElem?_eq_none (by simp; omega)] at hz; cases hz
theorem Pw.gz {N g : Nat} {w w' : World} {v : Value} {ps : List PdZ} (h : Pw w N v ps) (hg : Gz N g w w') {xs : Array Value} {T : TypeId} {fr : Nat × Nat} (hT : w.heap[g]? = some (.cells xs T fr)) (hne : T ≠ 26) (hv : ∀ k, v.ownBlock = some k → w'.heap[k]? = w.heap[k]?) : Pw w' N v ps := by
  obtain ⟨hn, cs, hown, hcs⟩ := h
  refine ⟨fun q cur T2 fr2 hq hh => hn q cur T2 fr2 hq ((hv q hq).symm.trans hh), cs, ⟨hown.1, ?_⟩, hcs.gz hg hT hne⟩
  rcases hown.2 with h1 | ⟨q, cap, cur, rfl, hb, hq, hr⟩
  · exact .inl h1
  · exact .inr ⟨q, cap, cur, rfl, hb, (hv q rfl).trans hq, hr⟩
theorem pw_nil (w : World) (N : Nat) : Pw w N (.slice none 0 0) [] := ⟨fun g _ _ _ h => by simp [Value.ownBlock] at h, [], World.ownsRow_nil _ _ _ _, rfl, fun u hu => by simp at hu, fun i z hz => by simp at hz⟩
def zpc : Value := .agg #[.bool false, .slice none 0 0, .int .i64 0, .int .i64 0, .slice none 0 0, .bool false, .slice none 0 0, .int .i64 0]
theorem zero_no8 {k : Nat} {u : Value} (h : u ∈ Builtin.zeroCells zpc.cells k) : ∀ n : Int, u ≠ .int .u32 n := by
  unfold Builtin.zeroCells at h
  obtain ⟨i, _, rfl⟩ := Array.mem_map.1 h
  intro n
  have e : zpc.cells = #[.bool false, .slice none 0 0, .int .i64 0, .int .i64 0, .slice none 0 0, .bool false, .slice none 0 0, .int .i64 0] := rfl
  rw [e]
  have h3 : i % 8 = 0 ∨ i % 8 = 1 ∨ i % 8 = 2 ∨ i % 8 = 3 ∨ i % 8 = 4 ∨ i % 8 = 5 ∨ i % 8 = 6 ∨ i % 8 = 7 := by omega
  rcases h3 with h | h | h | h | h | h | h | h <;> simp [h]
theorem pc_info : ∃ i : TypeInfo, Tryz.prog.info? 49 = some i ∧ i.zero = some zpc ∧ i.size = 8 ∧ i.bytes = 112 := by
  obtain ⟨i0, hi, hz0, hz1, hz2⟩ := info_parts (show (Tryz.prog.info? 49).map (fun i => (i.zero, i.size, i.bytes)) = some (some zpc, 8, 112) by kernel_rfl)
  exact ⟨i0, hi, hz0, hz1, hz2⟩
theorem wp_append_pc {w : World} {o : Oper} {a : Act} {K : Act → World → Prop} {Q : Exit → Act → World → Prop} (s x : Operand)
    (ho : o.op = .call { callee := .builtin .append, args := #[s, x], argTypes := #[27, 27] }) (N g0 : Nat) (v : Value) (ps : List PdZ) (p : PdZ) (q : Nat) (T' : TypeId) (n cA k d : Nat) (A P B : Option Addr)
    (hs : a.eval s = v) (hD : Pw w N v ps) (hrow : w.heap[q]? = some (.cells #[.bool (decide (p.a.1 < 0)), .slice A (digs p.a.1.natAbs).length cA, .int .i64 p.a.2, .int .i64 p.w, .slice P p.cs.length k, .bool (decide (p.er.1 < 0)), .slice B (digs p.er.1.natAbs).length d, .int .i64 p.er.2] T' (0, 0))) (ha : Dg w A cA (digs p.a.1.natAbs)) (hn : NrL w P k p.cs) (hb : Dg w B d (digs p.er.1.natAbs)) (hx : a.eval x = .slice (some ⟨q, 0, none⟩) 1 n) (hbd : ps.length + 1 ≤ 1000000) (hbase : N ≤ w.heap.size) {xs : Array Value} {T : TypeId} {fr : Nat × Nat} (hT : w.heap[g0]? = some (.cells xs T fr)) (hne : T ≠ 26)
    (h : ∀ g cap w', Pw w' N (.slice (some ⟨g, 0, none⟩) (ps.length + 1) cap) (ps ++ [p]) → w.grownBy w' v.ownBlock → Gz N g0 w w' → K (a.put o.dst (.slice (some ⟨g, 0, none⟩) (ps.length + 1) cap)) w') : o.wp Tryz.prog a w K Q := by
  obtain ⟨hno, cs, hown, hcs⟩ := hD
  obtain ⟨i0, hi, hz0, hz1, hz2⟩ := pc_info
  have hnews : ∀ j u, ([.bool (decide (p.a.1 < 0)), .slice A (digs p.a.1.natAbs).length cA, .int .i64 p.a.2, .int .i64 p.w, .slice P p.cs.length k, .bool (decide (p.er.1 < 0)), .slice B (digs p.er.1.natAbs).length d, .int .i64 p.er.2] : List Value)[j]? = some u → w.cell? ((⟨q, 0, none⟩ : Addr).add j) = some u := fun j u hj => by
    rw [Addr.add_lit, Nat.zero_add]
    exact row_c hrow (by simpa using hj)
  have hone : ∀ u ∈ ([.bool (decide (p.a.1 < 0)), .slice A (digs p.a.1.natAbs).length cA, .int .i64 p.a.2, .int .i64 p.w, .slice P p.cs.length k, .bool (decide (p.er.1 < 0)), .slice B (digs p.er.1.natAbs).length d, .int .i64 p.er.2] : List Value), u.oneCell' = true := by intro u hu; simp at hu; rcases hu with rfl | rfl | rfl | rfl | rfl | rfl | rfl | rfl <;> rfl
  have hnn : ∀ u ∈ ([.bool (decide (p.a.1 < 0)), .slice A (digs p.a.1.natAbs).length cA, .int .i64 p.a.2, .int .i64 p.w, .slice P p.cs.length k, .bool (decide (p.er.1 < 0)), .slice B (digs p.er.1.natAbs).length d, .int .i64 p.er.2] : List Value), ∀ n : Int, u ≠ .int .u32 n := by intro u hu n e; subst e; simp at hu
  obtain ⟨g, cap, w', hr, h2, h3, h4, h5⟩ := run_append_lies (P := Tryz.prog) w 27 o.type N 49 i0 zpc 8 112 Tryz.underlying27 hi hz0 hz1 hz2 rfl (by decide) v ps.length cs hown ⟨q, 0, none⟩ 1 n [.bool (decide (p.a.1 < 0)), .slice A (digs p.a.1.natAbs).length cA, .int .i64 p.a.2, .int .i64 p.w, .slice P p.cs.length k, .bool (decide (p.er.1 < 0)), .slice B (digs p.er.1.natAbs).length d, .int .i64 p.er.2] rfl hnews hone (by decide) (by unfold maxLen; omega) (by omega) hbase w.heap.size rfl
  have hk := kept_of_grown hown hno h3
  have hno2 := run_append_no (P := Tryz.prog) w N 27 o.type 49 i0 112 Tryz.underlying27 hi zpc 8 hz0 hz1 (fun _ _ => zero_no8) hz2 v ps.length cs hown hno hcs.2.1 ⟨q, 0, none⟩ n _ rfl hnews hone hnn (by unfold maxLen; omega) (by omega) _ _ hr
  have hgz : Gz N g0 w w' := ⟨hk, ⟨h3.os, h3.tape, h3.output⟩, fun i hi2 _ hb => h3.block i hi2 (fun e => by
    have h6 := hown.lt i e.symm
    rcases hown.2 with ⟨rfl, _⟩ | ⟨q2, cap2, cur2, rfl, _, hh, _⟩
    · cases e
    · have e2 : i = q2 := by simpa [Value.ownBlock] using e
      subst e2
      rcases hb with hb | hb
      · omega
      · exact hb _ _ hh)⟩
  unfold Oper.wp execOp
  simp only [ho, resolve, invoke, builtin, Sem.run_bind, Sem.run_pure, Result.andThen_ok, List.map_toArray, List.map_cons, List.map_nil, hs, hx, hr]
  exact h g cap w' ⟨hno2, _, by rw [List.length_append]; exact h2, (hcs.gz hgz hT hne).snoc (ha.kept hk) (hn.gz hgz hT hne) (hb.kept hk)⟩ h3 hgz
theorem wp_operandsZ {P : Program} {ops : Array Oper} {Q : Exit → Act → World → Prop} {id : Nat} {a0 : Act} {W : World} (hm : P.follows .mixedOrders = true) (n0 : Nat) (D : List Tmp) (R : Nat → Value → World → Prop) (Ch : World → World → Prop) (Z : (Nat → Bool) → World → Prop)
    (hn : n0 ≤ ops.size) (hD : D.length = n0) (hb : backB .any ops = true) (ht : tailB .any ops n0 = true) (hnd : D.Nodup) (hin : (D.all fun t => decide (t < a0.tmps.size)) = true)
    (htr : ∀ a b c, Ch a b → Ch b c → Ch a c)
    (st : ∀ i u w w', i < n0 → R i u w → Ch w w' → R i u w')
    (h0 : Ch W W.drew) (z0 : Z (fun _ => false) W.drew)
    (step : ∀ i a w l K, i < n0 → Fr6 D a0 a → Ch W w → l i = false → (∀ k, waitsB .any ops i k = true → l k = true ∧ R k (a.tmps.getD (D.getD k 0) undef) w) → Z l w →
      (∀ u w', R i u w' → Ch w w' → Z (fun j => if i = j then true else l j) w' → K (a.put (some (D.getD i 0)) u) w') → wpOp P ops Q i K a w)
    (fin : ∀ a w l, Fr6 D a0 a → Ch W w → (∀ i, i < n0 → R i (a.tmps.getD (D.getD i 0) undef) w) → (∀ i, i < n0 → l i = true) → Z l w →
      wpOps P ops Q (tails n0 (ops.size - n0)) a w) : (Code.region id ops true).wp P Q a0 W := by
  have hmem : ∀ i, i < n0 → D.getD i 0 ∈ D := fun i hi => by rw [List.getD_eq_getElem?_getD, List.getElem?_eq_getElem (by omega)]; exact List.getElem_mem _
  have hlt : ∀ i, i < n0 → D.getD i 0 < a0.tmps.size := fun i hi => by
    rw [List.all_eq_true] at hin
    simpa using hin _ (hmem i hi)
  have hne : ∀ i j, i < n0 → j < n0 → i ≠ j → D.getD i 0 ≠ D.getD j 0 := fun i j hi hj h e => by
    rw [List.getD_eq_getElem?_getD, List.getD_eq_getElem?_getD, List.getElem?_eq_getElem (by omega), List.getElem?_eq_getElem (by omega)] at e
    exact h ((List.getElem_inj hnd).1 (by simpa using e))
  have hwk : ∀ l : Array Bool, l.size = ops.size → ∀ i k, i ∈ Region.ready .any ops l → waitsB .any ops i k = true → i < n0 → k < n0 := by
    intro l hl i k hi hk hi0
    have hlt : i < ops.size := by omega
    simp only [backB, List.all_eq_true, List.mem_range] at hb
    have h1 := hb i hlt
    simp only [Array.getElem?_eq_getElem hlt, Option.map_some, Option.getD_some, Array.all_eq_true_iff_forall_mem] at h1
    simp only [waitsB, Array.getElem?_eq_getElem hlt, Option.map_some, Option.getD_some, Array.any_eq_true'] at hk
    obtain ⟨e, he, h2⟩ := hk
    simp only [Bool.and_eq_true, beq_iff_eq] at h2
    have h3 := h1 e he
    simp only [h2.1, Bool.not_true, Bool.false_or, decide_eq_true_eq] at h3
    omega
  have z : ∀ j, (Array.replicate ops.size false).getD j false = false := by intro j; simp [Array.getElem?_replicate]; split <;> rfl
  refine wp_region_any hm (wpAny_phase (fun l a w => Fr6 D a0 a ∧ Ch W w ∧ (∀ i, i < n0 → l.getD i false = true → R i (a.tmps.getD (D.getD i 0) undef) w) ∧
    Z (fun j => l.getD j false) w) hn hb ht ?_ ?_ ⟨⟨rfl, rfl, fun _ _ => rfl⟩, h0, fun i _ hi => absurd hi (by rw [z]; simp), by rw [show (fun j => (Array.replicate ops.size false).getD j false) = fun _ => false from funext z]; exact z0⟩)
  · rintro l a w i ⟨hF, hbw, hR, hZ⟩ hl hi0 hi
    have sz : ∀ j, (l.setIfInBounds i true).getD j false = (if i = j then true else l.getD j false) := fun j => getD_set l i j (by omega)
    have ps : a.tmps.size = a0.tmps.size := hF.2.1
    have hiu := (mem_ready.1 hi).1
    have hif : l.getD i false = false := by
      have : i < l.size := by omega
      simp [this] at hiu ⊢; exact hiu
    refine step i a w (fun j => l.getD j false) _ hi0 hF hbw hif (fun k hk => ⟨waits_spec hk hi, hR k (hwk l hl i k hi hk hi0) (waits_spec hk hi)⟩) hZ (fun u w' hu hbb hz => ⟨hF.put (hmem i hi0) _, htr _ _ _ hbw hbb, fun j hj hjl => ?_, by rw [show (fun j => (l.setIfInBounds i true).getD j false) = fun j => if i = j then true else l.getD j false from funext sz]; exact hz⟩)
    by_cases hij : i = j
    · subst hij; rw [put_same _ _ _ (by rw [ps]; exact hlt i hi0)]; exact hu
    · rw [sz, if_neg hij] at hjl
      rw [put_other _ _ _ _ (hne i j hi0 hj hij)]
      exact st j _ _ _ hj (hR j hj hjl) hbb
  · rintro l a w ⟨hF, hbw, hR, hZ⟩ _ hall
    exact fin a w _ hF hbw (fun i hi => hR i hi (hall i hi)) hall hZ
end Go.Proofs.YtdmfapgclppmhaaGreatDoor
end
