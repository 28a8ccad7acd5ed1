/-
  nat.Sub.
-/
import Derived.Test.YtceningojnfgpaaAdd
namespace Go.Proofs.Ytceningojnfgpaa
open Go.RowKit
theorem sub_step {xs ys zs : List Nat} {k s d c t : Nat} (hx : k < xs.length) (hy : k < ys.length) (hz : k < zs.length) (h : val (xs.take k) + 4294967296 ^ k * c = val (zs.take k) + val (ys.take k))
    (hs : s + ys[k]?.getD 0 + c = xs[k]?.getD 0 + 4294967296 * d) (ht : t = s) : val (xs.take (k + 1)) + 4294967296 ^ (k + 1) * d = val ((zs.set k t).take (k + 1)) + val (ys.take (k + 1)) := by
  subst ht
  rw [take_set hz, take_one hx, take_one hy, val_snoc, val_snoc, val_snoc, List.length_take, List.length_take, List.length_take, Nat.min_eq_left (by omega), Nat.min_eq_left (by omega), Nat.min_eq_left (by omega), Nat.pow_succ]
  have : 4294967296 ^ k * (xs[k]?.getD 0) + 4294967296 ^ k * 4294967296 * d = 4294967296 ^ k * t + 4294967296 ^ k * (ys[k]?.getD 0) + 4294967296 ^ k * c := by
    rw [Nat.mul_assoc, ← Nat.mul_add, ← hs, Nat.mul_add, Nat.mul_add]
  omega
theorem sub_step' {xs ys zs : List Nat} {k s d c t : Nat} (hx : k < xs.length) (hy : ys.length ≤ k) (hz : k < zs.length) (h : val (xs.take k) + 4294967296 ^ k * c = val (zs.take k) + val (ys.take k))
    (hs : s + 0 + c = xs[k]?.getD 0 + 4294967296 * d) (ht : t = s) : val (xs.take (k + 1)) + 4294967296 ^ (k + 1) * d = val ((zs.set k t).take (k + 1)) + val (ys.take (k + 1)) := by
  subst ht
  rw [List.take_of_length_le (by omega : ys.length ≤ k)] at h
  rw [take_set hz, take_one hx, List.take_of_length_le (by omega : ys.length ≤ k + 1), val_snoc, val_snoc, List.length_take, List.length_take, Nat.min_eq_left (by omega), Nat.min_eq_left (by omega), Nat.pow_succ]
  have : 4294967296 ^ k * (xs[k]?.getD 0) + 4294967296 ^ k * 4294967296 * d = 4294967296 ^ k * t + 4294967296 ^ k * c := by
    rw [Nat.mul_assoc, ← Nat.mul_add, ← hs, Nat.mul_add, Nat.add_zero]
  omega
theorem sub_end {x y z p d : Nat} (h : x + p * d = z + y) (hz : z < p) (hle : y ≤ x) : z = x - y := by
  rcases d with _ | d
  · omega
  · have : p ≤ p * (d + 1) := Nat.le_mul_of_pos_right p (by omega)
    omega
theorem ret_sb {v v' : Value} {b b' : Bool} (h : v = v') (h' : b = b') : Ending.returned (.tuple #[v, .bool b]) = .returned (.tuple #[v', .bool b']) := by rw [h, h']
set_option maxHeartbeats 1000000 in
theorem sub_no (A B : Option Addr) (c d : Nat) (xs ys : List Nat) (w : World) (h : Dg w A c xs) (h' : Dg w B d ys) (hl : xs.length ≤ 1048576) (hl' : ys.length ≤ 1048576) (hlt : val xs < val ys) :
    Calls Try.prog 26 #[.slice A xs.length c, .slice B ys.length d] w fun e w' => e = .returned (.tuple #[.slice none 0 0, .bool false]) ∧ Below w.heap.size w w' := by
  have l1 := digs_len_le h.2.1
  have l2 := digs_len_le h'.2.1
  have H := Lib.hid h
  have H' := Lib.hid h'
  have HF := Lib.hid (cmpi_lt hlt)
  clear h h' hlt
  go_enter Try.func26, Try.ntmps26
  go_wp2_with fail
  refine (short_any A c xs _ H.out (by omega)).mono ?_
  rintro e w' ⟨A1, c1, rfl, h1, rfl⟩
  have H1 := Lib.hid h1
  clear h1
  go_wp2_with fail
  refine (short_any B d ys _ H'.out (by omega)).mono ?_
  rintro e w' ⟨B1, d1, rfl, h2, rfl⟩
  have H2 := Lib.hid h2
  clear h2
  go_wp2_with fail
  refine (cmp_any _ _ _ _ _ _ _ H1.out H2.out (by omega) (by omega)).mono ?_
  rw [val_digs, val_digs, HF.out]
  rintro e w' ⟨rfl, n, rfl⟩
  go_wp2
  go_ret2
  exact ⟨rfl, below_drewN (Below.refl _ _) n⟩
set_option maxHeartbeats 2000000 in
theorem sub_yes (A B : Option Addr) (c d : Nat) (xs ys : List Nat) (w : World) (h : Dg w A c xs) (h' : Dg w B d ys) (hl : xs.length ≤ 1048576) (hl' : ys.length ≤ 1048576) (hge : val ys ≤ val xs) :
    Calls Try.prog 26 #[.slice A xs.length c, .slice B ys.length d] w fun e w' => ∃ A' c', e = .returned (.tuple #[.slice A' (digs (val xs - val ys)).length c', .bool true]) ∧ Dg w' A' c' (digs (val xs - val ys)) ∧ Below w.heap.size w w' := by
  have l1 := digs_len_le h.2.1
  have l2 := digs_len_le h'.2.1
  have H := Lib.hid h
  have H' := Lib.hid h'
  have HF : Hid (cmpi (val xs) (val ys) = 0 ∨ cmpi (val xs) (val ys) = 1) := by
    rcases Nat.lt_or_ge (val ys) (val xs) with h | h
    · exact .inr (cmpi_gt h)
    · exact .inl (cmpi_eq (by omega))
  have hle := digs_len_mono _ _ hge
  have HG := Lib.hid hge
  clear h h' hge
  go_enter Try.func26, Try.ntmps26
  go_wp2_with fail
  refine (short_any A c xs _ H.out (by omega)).mono ?_
  rintro e w' ⟨A1, c1, rfl, h1, rfl⟩
  have H1 := Lib.hid h1
  clear h1
  go_wp2_with fail
  refine (short_any B d ys _ H'.out (by omega)).mono ?_
  rintro e w' ⟨B1, d1, rfl, h2, rfl⟩
  have H2 := Lib.hid h2
  clear h2
  go_wp2_with fail
  refine (cmp_any _ _ _ _ _ _ _ H1.out H2.out (by omega) (by omega)).mono ?_
  rw [val_digs, val_digs]
  rintro e w' ⟨rfl, nq, rfl⟩
  have hc0 : 0 ≤ cmpi (val xs) (val ys) := by rcases HF.out with h | h <;> omega
  generalize cmpi (val xs) (val ys) = q at *
  have V1 := Lib.hid (val_digs (val xs))
  have V2 := Lib.hid (val_digs (val ys))
  have O1 := Lib.hid (ok_digs (val xs))
  have O2 := Lib.hid (ok_digs (val ys))
  generalize digs (val xs) = X at *
  generalize digs (val ys) = Y at *
  have hmk := run_make_row' (P := Try.prog) 22 37 (.int .u32 0) 4 Try.underlying22 elem_info rfl .i64 .i64 X.length (by omega) (by omega)
  have hq : decide (q < 0) = false := by simp; omega
  go_wp2
  go_loopw [7, 23] (fun cy i wr => ∃ (k z : Nat) (zs : List Nat), k ≤ Y.length ∧ i = .int .i64 k ∧ cy = .int .u32 z ∧ z ≤ 1 ∧ Row wr w.heap.size zs ∧ Hid (zs.length = X.length) ∧ ok32 zs ∧
    Hid (val (X.take k) + 4294967296 ^ k * z = val (zs.take k) + val (Y.take k)) ∧ Below w.heap.size w wr) (fun _ i _ => Y.length - (intOf i).toNat)
  case atStart => exact ⟨0, 0, List.replicate X.length 0, Nat.zero_le _, rfl, rfl, by omega, Row.made _ _, by simp [Hid], ok_zeros _, by simp [Hid, val], (below_drewN (Below.refl _ _) nq).alloc (by simp) _⟩
  case round =>
    obtain ⟨k, z, zs, hk, rfl, rfl, hz, hrow, HL, hok, HE, hbel⟩ := hrel
    by_cases hlt : k < Y.length
    · obtain ⟨b, off, hA, hb, hcx⟩ := H1.out.2.2 (by omega)
      obtain ⟨b', off', hB, hb', hcy⟩ := H2.out.2.2 (by omega)
      have hx := (hbel.cell (p := ⟨b, off + k, none⟩) hb).trans (hcx k (by omega))
      have hy := (hbel.cell (p := ⟨b', off' + k, none⟩) hb').trans (hcy k (by omega))
      have hX := getD_lt O1.out k
      have hY := getD_lt O2.out k
      have hcell := hrow.cell (i := k) (by have := HL.out; omega)
      have hfr := hrow.frozen k
      have hkx : k < X.length := by omega
      have hki : (k : Int) < (X.length : Int) := by omega
      generalize ex : X[k]?.getD 0 = x at *
      generalize ey : Y[k]?.getD 0 = y at *
      have HX := Lib.hid ex
      have HY := Lib.hid ey
      clear ex ey hcx hcy
      subst hA hB
      go_wp2
      have HK1 := Lib.hid (fun u => keep_far (w := wr) hb k u hx)
      have HK2 := Lib.hid (fun u => keep_far (w := wr) hb' k u hy)
      have HC := Lib.hid (fun W => sub32_fn x y z W hX hY hz)
      go_region_held3 (fun w' => w'.cell? ⟨b, off + k, none⟩ = some (.int .u32 x) ∧ w'.cell? ⟨b', off' + k, none⟩ = some (.int .u32 y)) (first | exact ⟨HK1.out _, HK2.out _⟩ | assumption | go_keep) ((go_at_call 46; refine (HC.out _).mono ?_; rintro e w' ⟨rfl, rfl⟩))
      go_wp2
      go_roundw
      case rel =>
        obtain ⟨hp, hq1, hq2⟩ := sub_parts hX hY hz
        exact ⟨k + 1, subhi x y z, zs.set k (sublo x y z), hlt, by go_num, rfl, by omega, (hrow.set_ k _).drew, by simp only [List.length_set]; exact HL, ok_set hok hq1 k,
          sub_step hkx hlt (by have := HL.out; omega) HE.out (by rw [HX.out, HY.out]; exact hp) rfl, (hbel.setCell (by simp) _).drew⟩
      case measure => simp [intOf]; omega
    · have hk' : k = Y.length := by omega
      subst hk'
      clear hlt
      go_wp2
      go_loopw [7, 48] (fun cy i wr => ∃ (k z : Nat) (zs : List Nat), k ≤ X.length - Y.length ∧ i = .int .i64 k ∧ cy = .int .u32 z ∧ z ≤ 1 ∧ Row wr w.heap.size zs ∧ Hid (zs.length = X.length) ∧ ok32 zs ∧
        Hid (val (X.take (Y.length + k)) + 4294967296 ^ (Y.length + k) * z = val (zs.take (Y.length + k)) + val (Y.take (Y.length + k))) ∧ Below w.heap.size w wr) (fun _ i _ => (X.length - Y.length) - (intOf i).toNat)
      case atStart => exact ⟨0, z, zs, Nat.zero_le _, rfl, rfl, hz, hrow, HL, hok, HE, hbel⟩
      case round =>
        clear hbel hok hrow HE HL hz
        obtain ⟨k, z, zs, hk, rfl, rfl, hz, hrow, HL, hok, HE, hbel⟩ := hrel
        by_cases hlt : k < X.length - Y.length
        · obtain ⟨b, off, hA, hb, hcx⟩ := H1.out.2.2 (by omega)
          have hx := (hbel.cell (p := ⟨b, off + (Y.length + k), none⟩) hb).trans (hcx (Y.length + k) (by omega))
          have hX := getD_lt O1.out (Y.length + k)
          have hcell := hrow.cell (i := Y.length + k) (by have := HL.out; omega)
          have hfr := hrow.frozen (Y.length + k)
          have hkx : Y.length + k < X.length := by omega
          have hki : (Y.length : Int) + (k : Int) < (X.length : Int) := by omega
          generalize ex : X[Y.length + k]?.getD 0 = x at *
          have HX := Lib.hid ex
          clear ex hcx
          subst hA
          go_wp2_with fail
          refine (sub32_fn x 0 z _ hX (by omega) hz).mono ?_
          rintro e w' ⟨rfl, rfl⟩
          go_wp2
          go_roundw
          case rel =>
            obtain ⟨hp, hq1, hq2⟩ := sub_parts (y := 0) hX (by omega) hz
            have hss := sub_step' (k := Y.length + k) (ys := Y) hkx (by omega) (by have := HL.out; omega) HE.out (by rw [HX.out]; exact hp) rfl
            rw [Nat.add_assoc] at hss
            exact ⟨k + 1, subhi x 0 z, zs.set (Y.length + k) (sublo x 0 z), hlt, by go_num, rfl, by omega, hrow.set_ _ _, by simp only [List.length_set]; exact HL, ok_set hok hq1 _,
              hss, hbel.setCell (by simp) _⟩
          case measure => simp [intOf]; omega
        · have hk' : X.length - Y.length = k := by omega
          clear hlt
          go_wp2_with fail
          have hle' := HL.out
          have hd := hrow.dg hok (c := X.length) (by omega)
          have HV := Lib.hid (show val zs = val xs - val ys from by
            have := HE.out
            rw [show Y.length + k = X.length by omega, List.take_of_length_le (Nat.le_refl X.length), List.take_of_length_le (by omega : Y.length ≤ X.length), List.take_of_length_le (by omega : zs.length ≤ X.length), V1.out, V2.out] at this
            exact sub_end this (by rw [← hle']; exact val_lt hok) HG.out)
          have HD := Lib.hid hd
          clear hd hle'
          refine (short_n HD.out (by have := HL.out; omega) HL.out.symm).mono ?_
          rintro e w' ⟨A2, c2, rfl, h2, rfl⟩
          rw [HV.out] at h2
          rw [HV.out]
          have HR := Lib.hid h2
          clear h2
          go_wp2
          go_ret2
          exact ⟨A2, c2, rfl, HR.out, hbel⟩
end Go.Proofs.Ytceningojnfgpaa
