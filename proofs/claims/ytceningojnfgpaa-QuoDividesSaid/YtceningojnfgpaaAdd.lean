/-
  nat.Add.
-/
import Derived.Test.YtceningojnfgpaaRow
import Derived.Deep.RegionHeld3
import Derived.Deep.RegionLaw
import Derived.Deep.DeepCutAuto
namespace Go.Proofs.Ytceningojnfgpaa
open Go.RowKit
theorem keep_far {w : World} {b n o : Nat} {v : Value} (h : b < n) (k : Nat) (u : Value) (hc : w.cell? ⟨b, o, none⟩ = some v) : (w.setCell ⟨n, k, none⟩ u).drew.cell? ⟨b, o, none⟩ = some v :=
  (World.cell?_setCell_other w ⟨n, k, none⟩ ⟨b, o, none⟩ u (by intro e; injection e with e1 _ _; omega)).trans hc
set_option maxHeartbeats 2000000 in
theorem add_any (A B : Option Addr) (c d : Nat) (xs ys : List Nat) (w : World) (h : Dg w A c xs) (h' : Dg w B d ys) (hl : xs.length ≤ 1048576) (hl' : ys.length ≤ 1048576) :
    Calls Try.prog 20 #[.slice A xs.length c, .slice B ys.length d] w fun e w' => ∃ A' c', e = .returned (.slice A' (digs (val xs + val ys)).length c') ∧ Dg w' A' c' (digs (val xs + val ys)) ∧ Below w.heap.size w w' := by
  have l1 := digs_len_le h.2.1
  have l2 := digs_len_le h'.2.1
  have H := Lib.hid h
  have H' := Lib.hid h'
  clear h h'
  go_enter Try.func20, Try.ntmps20
  go_wp2_with fail
  refine (short_any A c xs _ H.out (by omega)).mono ?_
  rintro e w' ⟨A1, c1, rfl, h1, rfl⟩
  have H1 := Lib.hid h1
  clear h1
  go_wp2_with fail
  refine (short_any B d ys _ H'.out (by omega)).mono ?_
  rintro e w' ⟨B1, d1, rfl, h2, rfl⟩
  have H2 := Lib.hid h2
  clear h2
  have V1 := Lib.hid (val_digs (val xs))
  have V2 := Lib.hid (val_digs (val ys))
  have O1 := Lib.hid (ok_digs (val xs))
  have O2 := Lib.hid (ok_digs (val ys))
  have HS := Lib.hid (show val (digs (val xs)) + val (digs (val ys)) = val xs + val ys from by rw [V1.out, V2.out])
  generalize digs (val xs) = X at *
  generalize digs (val ys) = Y at *
  have hm := fun (n : Nat) (hn : n ≤ 1048576) => run_make_row' (P := Try.prog) 22 37 (.int .u32 0) 4 Try.underlying22 elem_info rfl .i64 .i64 (n + 1) (by omega) (by omega)
  go_upto_if 17 with fail
  go_cut [0, 1] (fun a b wx => ∃ (A2 B2 : Option Addr) (c2 d2 : Nat) (X2 Y2 : List Nat), a = .slice A2 X2.length c2 ∧ b = .slice B2 Y2.length d2 ∧ Dg w A2 c2 X2 ∧ Dg w B2 d2 Y2 ∧
    ok32 X2 ∧ ok32 Y2 ∧ Hid (val X2 + val Y2 = val xs + val ys) ∧ Y2.length ≤ X2.length ∧ X2.length ≤ 1048576 ∧ w = wx)
  case first =>
    by_cases hlt : X.length < Y.length
    · have hd0 : decide (X.length < Y.length) = true := by simp; omega
      go_wp2_with fail
      go_meet
      exact ⟨B1, A1, d1, c1, Y, X, rfl, rfl, H2.out, H1.out, O2.out, O1.out, (Nat.add_comm _ _).trans HS.out, by omega, by omega, rfl⟩
    · have hd0 : decide (X.length < Y.length) = false := by simp; omega
      go_wp2_with fail
      go_meet
      exact ⟨A1, B1, c1, d1, X, Y, rfl, rfl, H1.out, H2.out, O1.out, O2.out, HS.out, by omega, by omega, rfl⟩
  case rest =>
    clear H1 H2 V1 V2 O1 O2 HS l1 l2
    obtain ⟨A1, B1, c1, d1, X, Y, rfl, rfl, h1, h2, o1, o2, HS, hle, hxl, rfl⟩ := hcut
    have H1 := Lib.hid h1
    have H2 := Lib.hid h2
    have O1 := Lib.hid o1
    have O2 := Lib.hid o2
    clear h1 h2 o1 o2
    have hmk := hm X.length (by omega)
    rw [show ((X.length + 1 : Nat) : Int) = (X.length : Int) + 1 by omega] at hmk
    clear hm
    go_wp2
    go_loopw [6, 26] (fun cy i wr => ∃ (k z : Nat) (zs : List Nat), k ≤ Y.length ∧ i = .int .i64 k ∧ cy = .int .u32 z ∧ z ≤ 1 ∧ Row wr w.heap.size zs ∧ Hid (zs.length = X.length + 1) ∧ ok32 zs ∧
      Hid (val (zs.take k) + 4294967296 ^ k * z = val (X.take k) + val (Y.take k)) ∧ Below w.heap.size w wr) (fun _ i _ => Y.length - (intOf i).toNat)
    case atStart => exact ⟨0, 0, List.replicate (X.length + 1) 0, Nat.zero_le _, rfl, rfl, by omega, Row.made _ _, by simp [Hid], ok_zeros _, by simp [Hid, val], (Below.refl _ _).alloc (Nat.le_refl _) _⟩
    case round =>
      obtain ⟨k, z, zs, hk, rfl, rfl, hz, hrow, HL, hok, HE, hbel⟩ := hrel
      by_cases hlt : k < Y.length
      · obtain ⟨b, off, hA, hb, hcx⟩ := H1.out.2.2 (by omega)
        obtain ⟨b', off', hB, hb', hcy⟩ := H2.out.2.2 (by omega)
        have hx := (hbel.cell (p := ⟨b, off + k, none⟩) hb).trans (hcx k (by omega))
        have hy := (hbel.cell (p := ⟨b', off' + k, none⟩) hb').trans (hcy k (by omega))
        have hX := getD_lt O1.out k
        have hY := getD_lt O2.out k
        have hcell := hrow.cell (i := k) (by have := HL.out; omega)
        have hfr := hrow.frozen k
        have hkx : k < X.length := by omega
        have hki : (k : Int) < (X.length : Int) + 1 := by omega
        generalize ex : X[k]?.getD 0 = x at *
        generalize ey : Y[k]?.getD 0 = y at *
        have HX := Lib.hid ex
        have HY := Lib.hid ey
        clear ex ey
        clear hcx hcy
        subst hA hB
        go_wp2
        have HK1 := Lib.hid (fun u => keep_far (w := wr) hb k u hx)
        have HK2 := Lib.hid (fun u => keep_far (w := wr) hb' k u hy)
        have HC := Lib.hid (fun W => add32_fn x y z W hX hY hz)
        go_region_held3 (fun w' => w'.cell? ⟨b, off + k, none⟩ = some (.int .u32 x) ∧ w'.cell? ⟨b', off' + k, none⟩ = some (.int .u32 y)) (first | exact ⟨HK1.out _, HK2.out _⟩ | assumption | go_keep) ((go_at_call 42; refine (HC.out _).mono ?_; rintro e w' ⟨rfl, rfl⟩))
        go_wp2
        go_roundw
        case rel =>
          have hp := lo_hi (x + y + z)
          have hq := lo_lt (x + y + z)
          exact ⟨k + 1, hi (x + y + z), zs.set k (lo (x + y + z)), hlt, by go_num, rfl, by omega, (hrow.set_ k _).drew, by simp only [List.length_set]; exact HL, ok_set hok hq k,
            sum_step hkx hlt (by have := HL.out; omega) HE.out (by rw [HX.out, HY.out]; exact hp) rfl, (hbel.setCell (by simp) _).drew⟩
        case measure => simp [intOf]; omega
      · have hk' : k = Y.length := by omega
        subst hk'
        clear hlt
        go_wp2
        go_loopw [6, 51] (fun cy i wr => ∃ (k z : Nat) (zs : List Nat), k ≤ X.length - Y.length ∧ i = .int .i64 k ∧ cy = .int .u32 z ∧ z ≤ 1 ∧ Row wr w.heap.size zs ∧ Hid (zs.length = X.length + 1) ∧ ok32 zs ∧
          Hid (val (zs.take (Y.length + k)) + 4294967296 ^ (Y.length + k) * z = val (X.take (Y.length + k)) + val (Y.take (Y.length + k))) ∧ Below w.heap.size w wr) (fun _ i _ => (X.length - Y.length) - (intOf i).toNat)
        case atStart => exact ⟨0, z, zs, Nat.zero_le _, rfl, rfl, hz, hrow, HL, hok, HE, hbel⟩
        case round =>
          clear hbel hok hrow HE HL hz
          obtain ⟨k, z, zs, hk, rfl, rfl, hz, hrow, HL, hok, HE, hbel⟩ := hrel
          by_cases hlt : k < X.length - Y.length
          · obtain ⟨b, off, hA, hb, hcx⟩ := H1.out.2.2 (by omega)
            have hx := (hbel.cell (p := ⟨b, off + (Y.length + k), none⟩) hb).trans (hcx (Y.length + k) (by omega))
            have hX := getD_lt O1.out (Y.length + k)
            have hcell := hrow.cell (i := Y.length + k) (by have := HL.out; omega)
            have hfr := hrow.frozen (Y.length + k)
            have hkx : Y.length + k < X.length := by omega
            have hki : (Y.length : Int) + (k : Int) < (X.length : Int) + 1 := by omega
            generalize ex : X[Y.length + k]?.getD 0 = x at *
            have HX := Lib.hid ex
            clear ex hcx
            subst hA
            go_wp2_with fail
            refine (add32_fn x 0 z _ hX (by omega) hz).mono ?_
            rintro e w' ⟨rfl, rfl⟩
            go_wp2
            go_roundw
            case rel =>
              have hp := lo_hi (x + 0 + z)
              have hq := lo_lt (x + 0 + z)
              have hss := sum_step' (k := Y.length + k) (ys := Y) hkx (by omega) (by have := HL.out; omega) HE.out (by rw [HX.out]; exact hp) rfl
              rw [Nat.add_assoc] at hss
              exact ⟨k + 1, hi (x + 0 + z), zs.set (Y.length + k) (lo (x + 0 + z)), hlt, by go_num, rfl, by omega, hrow.set_ _ _, by simp only [List.length_set]; exact HL, ok_set hok hq _,
                hss, hbel.setCell (by simp) _⟩
            case measure => simp [intOf]; omega
          · have hk' : X.length - Y.length = k := by omega
            have hfr := hrow.frozen X.length
            have hcell := hrow.cell (i := X.length) (by have := HL.out; omega)
            clear hlt
            go_wp2_with fail
            have hrow' := hrow.set_ X.length z
            have hok' := ok_set hok (x := z) (by omega) X.length
            have hle' := HL.out
            have hd := hrow'.dg hok' (c := X.length + 1) (by simp; omega)
            have HV := Lib.hid (show val (zs.set X.length z) = val xs + val ys from by
              rw [set_last HL.out, ← HS.out]
              have := HE.out
              rw [show Y.length + k = X.length by omega, List.take_of_length_le (Nat.le_refl X.length), List.take_of_length_le (by omega : Y.length ≤ X.length)] at this
              exact this)
            have HD := Lib.hid hd
            clear hd hrow' hok' hle'
            refine (short_n HD.out (by simp only [List.length_set]; have := HL.out; omega) (by simp only [List.length_set]; exact HL.out.symm)).mono ?_
            rintro e w' ⟨A2, c2, rfl, h2, rfl⟩
            rw [HV.out] at h2
            rw [HV.out]
            have HR := Lib.hid h2
            clear h2
            go_wp2
            go_ret
            exact ⟨A2, c2, rfl, HR.out, hbel.setCell (by simp) _⟩
end Go.Proofs.Ytceningojnfgpaa
