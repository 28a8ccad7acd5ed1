/-
  The reference's own text (astrolaberef01): Mul.
-/
import Derived.Test.YtceningojnfgpaaRefD
namespace Go.Proofs.Ytceningojnfgpaa
open Go.RowKit
theorem Row.new_zeros (w : World) (n : Nat) : Row (w.alloc (.cells (madeCells #[.int .u32 0] n) 37)) w.heap.size (List.replicate n 0) := Row.made w n
set_option maxHeartbeats 4000000 in
theorem rmul_any (A B : Option Addr) (c d : Nat) (xs ys : List Nat) (w : World) (h : Dg w A c xs) (h' : Dg w B d ys) (hl : xs.length ≤ 1048576) (hl' : ys.length ≤ 1048576) :
    Calls Try.prog 35 #[.slice A xs.length c, .slice B ys.length d] w fun e w' => ∃ A' c', e = .returned (.slice A' (digs (val xs * val ys)).length c') ∧ Dg w' A' c' (digs (val xs * val ys)) ∧ Below w.heap.size w w' := by
  have H := Lib.hid h
  have H' := Lib.hid h'
  have O1 := Lib.hid h.2.1
  have O2 := Lib.hid h'.2.1
  clear h h'
  have hmk := run_make_row' (P := Try.prog) 22 37 (.int .u32 0) 4 Try.underlying22 elem_info rfl .i64 .i64 (xs.length + ys.length) (by omega) (by omega)
  rw [show ((xs.length + ys.length : Nat) : Int) = (xs.length : Int) + (ys.length : Int) by omega] at hmk
  go_enter Try.func35, Try.ntmps35
  go_wp2
  go_loopw [6] (fun i wr => ∃ (k : Nat) (zs : List Nat), k ≤ xs.length ∧ i = .int .i64 k ∧ Row wr w.heap.size zs ∧ Hid (zs.length = xs.length + ys.length) ∧ ok32 zs ∧
    Hid (val (zs.take (k + ys.length)) = val (xs.take k) * val ys) ∧ Below w.heap.size w wr) (fun i _ => xs.length - (intOf i).toNat)
  case atStart => exact ⟨0, List.replicate (xs.length + ys.length) 0, Nat.zero_le _, rfl, Row.made _ _, by simp [Hid], ok_zeros _, by simp [Hid, val, List.take_replicate, val_zeros], (Below.refl _ _).alloc (Nat.le_refl _) _⟩
  case round =>
    obtain ⟨i, z0, hix, rfl, hrow0, HL0, hok0, HE0, hbel0⟩ := hrel
    by_cases hlt : i < xs.length
    · obtain ⟨b, off, hA, hb, hcx⟩ := H.out.2.2 (by omega)
      have hx0 := hcx i (by omega)
      have hX := getD_lt O1.out i
      generalize ex : xs[i]?.getD 0 = x at *
      have HX := Lib.hid ex
      clear ex hcx
      subst hA
      have HR0 := Lib.hid hrow0
      have HB0 := Lib.hid hbel0
      have hsz := hbel0.size
      clear hrow0 hbel0
      obtain ⟨wo, rfl⟩ : ∃ wo : World, wo = wr := ⟨_, rfl⟩
      go_wp2
      go_loopw [7, 8] (fun cy kk wr => ∃ (k cc : Nat) (zs : List Nat), k ≤ ys.length ∧ kk = .int .i64 k ∧ cy = .int .u64 cc ∧ cc < 4294967296 ∧ Row wr w.heap.size zs ∧ Hid (zs.length = z0.length) ∧ ok32 zs ∧ Hid (∀ j, i + k ≤ j → zs[j]? = z0[j]?) ∧
        Hid (val (zs.take (i + k)) + 4294967296 ^ (i + k) * cc = val (z0.take (i + k)) + 4294967296 ^ i * (val (ys.take k) * x)) ∧ Below w.heap.size wo wr) (fun _ kk _ => ys.length - (intOf kk).toNat)
      case atStart => exact ⟨0, 0, z0, Nat.zero_le _, rfl, rfl, by omega, HR0.out, by simp [Hid], hok0, by simp [Hid], by simp [Hid, val], Below.refl _ _⟩
      case round =>
        obtain ⟨k, cc, zs, hk, rfl, rfl, hc, hrow, HL, hok, HJ, HE, hbel⟩ := hrel
        have hx := ((HB0.out.trans hbel).cell (p := ⟨b, off + i, none⟩) hb).trans hx0
        by_cases hlk : k < ys.length
        · obtain ⟨b', off', hB, hb', hcy⟩ := H'.out.2.2 (by omega)
          have hy := ((HB0.out.trans hbel).cell (p := ⟨b', off' + k, none⟩) hb').trans (hcy k (by omega))
          have hY := getD_lt O2.out k
          have hcell := hrow.cell (i := i + k) (by have := HL.out; have := HL0.out; omega)
          have hfr := hrow.frozen (i + k)
          have hZ := getD_lt hok (i + k)
          generalize ez : zs[i + k]?.getD 0 = z at *
          generalize ey : ys[k]?.getD 0 = y at *
          have HZ := Lib.hid ez
          have HY := Lib.hid ey
          have hp0 : 0 ≤ (x : Int) * (y : Int) := by rw [← Int.natCast_mul]; omega
          have hpn : x * y ≤ 18446744065119617025 := Nat.le_trans (Nat.mul_le_mul (Nat.le_of_lt_succ hX) (Nat.le_of_lt_succ hY)) (by decide)
          have hp1 : (x : Int) * (y : Int) ≤ 18446744065119617025 := by rw [← Int.natCast_mul]; omega
          have hki : (i : Int) + (k : Int) < (xs.length : Int) + (ys.length : Int) := by omega
          have hk0 : (0 : Int) ≤ (i : Int) + (k : Int) := by omega
          have hw : IntKind.i64.wrap ((i : Int) + (k : Int)) = (i : Int) + (k : Int) := IntWalk.i64_in _ (by omega)
          clear ez ey hcy hpn
          subst hB
          go_wp2
          go_quiet (fail)
          go_wp2
          go_roundw
          case rel =>
            have ep : (x : Int) * (y : Int) = ((y * x : Nat) : Int) := by rw [← Int.natCast_mul, Nat.mul_comm]
            have e1 : ((x : Int) * (y : Int) + (z : Int) + (cc : Int)) % 4294967296 = (lo (z + y * x + cc) : Nat) := by rw [ep]; unfold lo; omega
            have e2 : ((x : Int) * (y : Int) + (z : Int) + (cc : Int)) / 4294967296 = (hi (z + y * x + cc) : Nat) := by rw [ep]; unfold hi; omega
            have hlh := lo_hi (z + y * x + cc)
            have hlo := lo_lt (z + y * x + cc)
            have hyx : y * x ≤ 18446744065119617025 := by have : ((y * x : Nat) : Int) ≤ 18446744065119617025 := by rw [← ep]; exact hp1
                                                          omega
            have hhi : hi (z + y * x + cc) < 4294967296 := by unfold hi; omega
            have hl1 := HL.out
            have hl0 := HL0.out
            refine ⟨k + 1, hi (z + y * x + cc), zs.set (i + k) (lo (z + y * x + cc)), hlk, by go_num, by rw [e2], hhi, (hrow.drewN _).set_int e1, by simp only [List.length_set]; exact HL, ok_set hok hlo _, fun j hj => ?_, ?_, ?_⟩
            · rw [get_set_other (by omega)]; exact HJ.out j (by omega)
            · refine row_step (by omega) (by omega) hlk hl1 HE.out ?_ rfl
              rw [← HJ.out _ (Nat.le_refl _), HZ.out, HY.out]
              exact hlh
            · exact (below_drewN hbel _).setCell (by simp) _
          case measure => simp [intOf]; omega
        · have hk' : k = ys.length := by omega
          subst hk'
          have hcell := hrow.cell (i := i + ys.length) (by have := HL.out; have := HL0.out; omega)
          have hfr := hrow.frozen (i + ys.length)
          have hki : (i : Int) + (ys.length : Int) < (xs.length : Int) + (ys.length : Int) := by omega
          have hk0 : (0 : Int) ≤ (i : Int) + (ys.length : Int) := by omega
          clear hlk
          go_wp2
          go_roundw
          case rel =>
            have hl1 := HL.out
            have hl0 := HL0.out
            have hE := HE.out
            rw [List.take_of_length_le (Nat.le_refl ys.length)] at hE
            have e1 : (cc : Int) % 4294967296 = (cc : Nat) := by omega
            exact ⟨i + 1, zs.set (i + ys.length) cc, hlt, by go_num, by first | exact hrow.set_ _ _ | exact hrow.set_int e1, by simp only [List.length_set]; exact hl1.trans hl0, ok_set hok hc _,
              mul_step (by omega) hl1 hlt HE0.out (by rw [HX.out]; exact hE), (HB0.out.trans hbel).setCell (by simp) _⟩
          case measure => simp [intOf]; omega
    · have hk' : i = xs.length := by omega
      subst hk'
      have HV := Lib.hid (show val z0 = val xs * val ys from by
        have := HE0.out
        rw [List.take_of_length_le (Nat.le_refl xs.length), List.take_of_length_le (by have := HL0.out; omega : z0.length ≤ xs.length + ys.length)] at this
        exact this)
      have HD := Lib.hid (rtrim_any (some ⟨w.heap.size, 0, none⟩) (xs.length + ys.length) z0 wr (hrow0.dg hok0 (by have := HL0.out; omega)) (by have := HL0.out; omega))
      rw [HV.out] at HD
      have HLZ := HL0.out
      rw [HLZ] at HD
      clear hlt HLZ
      go_wp2_with fail
      refine HD.out.mono ?_
      rintro e w2 ⟨A3, c3, rfl, h3, hb3⟩
      have H3 := Lib.hid h3
      have HB3 := Lib.hid hb3
      clear h3 hb3
      go_wp2
      go_ret
      exact ⟨A3, c3, rfl, H3.out, hbel0.trans (HB3.out.mono hbel0.size)⟩
end Go.Proofs.Ytceningojnfgpaa
