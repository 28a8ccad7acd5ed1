/-
  nat.Shr.
-/
import Derived.Test.YtceningojnfgpaaShl
import Derived.BigRegion
import Derived.RegionTactic
namespace Go.Proofs.Ytceningojnfgpaa
open Go.RowKit
theorem val_drop (xs : List Nat) (h : ok32 xs) (W : Nat) : val (xs.drop W) = val xs / 4294967296 ^ W := by
  rcases Nat.lt_or_ge xs.length W with hl | hl
  · rw [List.drop_eq_nil_of_le (by omega)]
    have h1 := val_lt h
    have h2 := Nat.pow_le_pow_right (n := 4294967296) (by omega) (show xs.length ≤ W by omega)
    rw [Nat.div_eq_of_lt (by omega)]; rfl
  · have e : val xs = val (xs.take W) + 4294967296 ^ W * val (xs.drop W) := by
      conv => lhs; rw [← List.take_append_drop W xs, val_append]
      rw [List.length_take, Nat.min_eq_left hl]
    have h1 : val (xs.take W) < 4294967296 ^ W := by
      have := val_lt (xs := xs.take W) (fun x hx => h x (List.mem_of_mem_take hx))
      rwa [List.length_take, Nat.min_eq_left hl] at this
    rw [e, Nat.add_mul_div_left _ _ (Nat.pow_pos (by omega)), Nat.div_eq_of_lt h1, Nat.zero_add]
theorem val_drop_cons {xs : List Nat} {k : Nat} (h : k < xs.length) : val (xs.drop k) = xs[k]?.getD 0 + 4294967296 * val (xs.drop (k + 1)) := by
  rw [List.drop_eq_getElem_cons h, List.getElem?_eq_getElem h]; rfl
theorem val_mod {xs : List Nat} (h : ok32 xs) (k : Nat) : val (xs.drop k) % 4294967296 = xs[k]?.getD 0 := by
  rcases Nat.lt_or_ge k xs.length with hk | hk
  · rw [val_drop_cons hk]; have := getD_lt h k; omega
  · rw [List.drop_eq_nil_of_le hk, List.getElem?_eq_none hk]; rfl
/-- Moved down by p bits: the next digit lends its lower ones. -/
theorem shr_math (y R P Q : Nat) (hs : P * Q = 4294967296) (hP : 0 < P) : (y + 4294967296 * R) / P = (y / P + R * Q % 4294967296) + 4294967296 * (R / P) := by
  have e1 : (y + 4294967296 * R) / P = y / P + Q * R := by
    rw [← hs, Nat.mul_assoc, Nat.add_mul_div_left _ _ hP]
  have e2 : R * Q = 4294967296 * (R / P) + R * Q % 4294967296 := by
    have hq : R * Q / 4294967296 = R / P := by
      have hQ : 0 < Q := Nat.pos_of_ne_zero (by rintro rfl; simp at hs)
      rw [← hs, Nat.mul_div_mul_right _ _ hQ]
    have := Nat.div_add_mod (R * Q) 4294967296
    rw [hq] at this
    exact this.symm
  rw [e1, Nat.mul_comm Q R]
  omega
theorem shr_digit (y z p : Nat) (hy : y < 4294967296) (hp : p < 32) : y / 2 ^ p + z * 2 ^ (32 - p) % 4294967296 < 4294967296 ∧ z * 2 ^ (32 - p) % 4294967296 % 2 ^ (32 - p) = 0 ∧ y / 2 ^ p < 2 ^ (32 - p) := by
  have hs := two_pow_split p (by omega)
  have hpp : 0 < 2 ^ p := Nat.pow_pos (by omega)
  have hqq : 0 < 2 ^ (32 - p) := Nat.pow_pos (by omega)
  generalize 2 ^ p = P at *
  generalize 2 ^ (32 - p) = Q at *
  have e1 : z * Q % 4294967296 = z % P * Q := by rw [← hs, Nat.mul_mod_mul_right]
  have h3 : z % P < P := Nat.mod_lt _ hpp
  have h4 : y / P < Q := by rw [Nat.div_lt_iff_lt_mul hpp, Nat.mul_comm, hs]; exact hy
  rw [e1]
  refine ⟨?_, Nat.mul_mod_left _ _, h4⟩
  have : z % P * Q + Q ≤ P * Q := by
    calc z % P * Q + Q = (z % P + 1) * Q := by rw [Nat.add_mul, Nat.one_mul]
      _ ≤ P * Q := Nat.mul_le_mul_right _ h3
  omega
theorem shr_or (y z p : Nat) (hy : y < 4294967296) (hp : p < 32) :
    bits BinOp.or IntKind.u32 ((y : Int) / 2 ^ p) (((z : Int) * 2 ^ (32 - p)) % 4294967296) = ((y / 2 ^ p + z * 2 ^ (32 - p) % 4294967296 : Nat) : Int) := by
  obtain ⟨h1, h2, h3⟩ := shr_digit y z p hy hp
  have e : ((z : Int) * 2 ^ (32 - p)) % 4294967296 = ((z * 2 ^ (32 - p) % 4294967296 : Nat) : Int) := by
    rw [Int.natCast_emod, Int.natCast_mul, Int.natCast_pow]; rfl
  have e' : (y : Int) / 2 ^ p = ((y / 2 ^ p : Nat) : Int) := by rw [Int.natCast_ediv, Int.natCast_pow]; rfl
  rw [e, e', u32_or_nat _ _ (Nat.lt_of_le_of_lt (Nat.div_le_self _ _) hy) (Nat.mod_lt _ (by omega)), Nat.or_comm, nat_join (32 - p) _ _ h2 h3, Nat.add_comm]
theorem shr_step {zs ys : List Nat} {k p t : Nat} (hz : k < zs.length) (hk : k < ys.length) (hok : ok32 ys) (hp : p < 32) (h : val (zs.take k) + 4294967296 ^ k * (val (ys.drop k) / 2 ^ p) = val ys / 2 ^ p)
    (ht : t = ys[k]?.getD 0 / 2 ^ p + (ys[k + 1]?.getD 0) * 2 ^ (32 - p) % 4294967296) : val ((zs.set k t).take (k + 1)) + 4294967296 ^ (k + 1) * (val (ys.drop (k + 1)) / 2 ^ p) = val ys / 2 ^ p := by
  have hs := two_pow_split p (by omega)
  rw [take_set hz, val_snoc, List.length_take, Nat.min_eq_left (by omega), ← h, val_drop_cons hk, shr_math _ _ _ _ hs (Nat.pow_pos (by omega)), ht]
  have hm : val (ys.drop (k + 1)) * 2 ^ (32 - p) % 4294967296 = ys[k + 1]?.getD 0 * 2 ^ (32 - p) % 4294967296 := by
    rw [Nat.mul_mod, val_mod hok, ← Nat.mod_eq_of_lt (getD_lt hok (k + 1)), ← Nat.mul_mod, Nat.mod_eq_of_lt (getD_lt hok (k + 1))]
  rw [hm, Nat.pow_succ]
  simp only [Nat.mul_add, Nat.mul_assoc, Nat.add_assoc]
theorem shr_pow (v n : Nat) : v / 4294967296 ^ (n / 32) / 2 ^ (n % 32) = v / 2 ^ n := by
  rw [Nat.div_div_eq_div_mul, pow_parts]
theorem Dg.drop {w : World} {b off c : Nat} {xs : List Nat} {k : Nat} (h : Dg w (some ⟨b, off, none⟩) c xs) (hk : k < xs.length) : Dg w (some ⟨b, off + k, none⟩) (c - k) (xs.drop k) := by
  refine ⟨by rw [List.length_drop]; have := h.1; omega, fun x hx => h.2.1 x (List.mem_of_mem_drop hx), fun _ => ?_⟩
  obtain ⟨b', off', e, hb, hc⟩ := h.2.2 (by omega)
  injection e with e
  injection e with e1 e2 _
  subst e1 e2
  refine ⟨b, off + k, rfl, hb, fun j hj => ?_⟩
  rw [List.length_drop] at hj
  rw [Nat.add_assoc, hc (k + j) (by omega), List.getElem?_drop]
set_option maxHeartbeats 1000000 in
theorem shr_neg (A : Option Addr) (c : Nat) (xs : List Nat) (n : Int) (w : World) (h : Dg w A c xs) (hl : xs.length ≤ 1048576) (hn : n < 0) :
    Calls Try.prog 25 #[.slice A xs.length c, .int .i64 n] w fun e w' => ∃ A' c', e = .returned (.slice A' (digs (val xs)).length c') ∧ Dg w' A' c' (digs (val xs)) ∧ Below w.heap.size w w' := by
  have l1 := digs_len_le h.2.1
  have H := Lib.hid h
  clear h
  have d0 : decide (n < 0) = true := by simp [hn]
  go_enter Try.func25, Try.ntmps25
  go_wp2_with fail
  refine (short_any A c xs _ H.out (by omega)).mono ?_
  rintro e w' ⟨A1, c1, rfl, h1, rfl⟩
  have H1 := Lib.hid h1
  clear h1
  go_wp2_with fail
  refine (clone_any A1 c1 _ _ H1.out (by omega)).mono ?_
  rintro e w' ⟨A2, c2, rfl, h2, hb⟩
  have H2 := Lib.hid h2
  clear h2
  go_wp2
  go_ret
  exact ⟨A2, c2, rfl, H2.out, hb⟩
set_option maxHeartbeats 2000000 in
set_option maxRecDepth 100000 in
theorem shr_any (A : Option Addr) (c : Nat) (xs : List Nat) (n : Nat) (w : World) (h : Dg w A c xs) (hl : xs.length ≤ 1048576) (hn : n ≤ 9223372036854775807) :
    Calls Try.prog 25 #[.slice A xs.length c, .int .i64 n] w fun e w' => ∃ A' c', e = .returned (.slice A' (digs (val xs / 2 ^ n)).length c') ∧ Dg w' A' c' (digs (val xs / 2 ^ n)) ∧ Below w.heap.size w w' := by
  have l1 := digs_len_le h.2.1
  have H := Lib.hid h
  clear h
  have d0 : decide ((n : Int) < 0) = false := by simp
  have HN := Lib.hid hn
  go_enter Try.func25, Try.ntmps25
  go_wp2_with fail
  refine (short_any A c xs _ H.out (by omega)).mono ?_
  rintro e w' ⟨A1, c1, rfl, h1, rfl⟩
  have H1 := Lib.hid h1
  clear h1
  have V1 := Lib.hid (val_digs (val xs))
  have O1 := Lib.hid (ok_digs (val xs))
  generalize digs (val xs) = X at *
  by_cases hw : X.length ≤ n / 32
  · have d1 : decide ((X.length : Int) ≤ (n : Int) / 32) = true := by simp; omega
    have HF := Lib.hid (show val xs / 2 ^ n = 0 from by
      rw [← V1.out, ← shr_pow, ← val_drop X O1.out, List.drop_eq_nil_of_le hw]; simp [val])
    clear hw
    go_wp2
    go_ret
    rw [HF.out, digs_zero]
    exact ⟨none, 0, rfl, Dg.nil_ _ _, Below.refl _ _⟩
  · have d1 : decide ((X.length : Int) ≤ (n : Int) / 32) = false := by simp; omega
    obtain ⟨b, off, rfl, hb, hcx⟩ := H1.out.2.2 (by omega)
    have hcap := H1.out.1
    have hw0 : (0 : Int) ≤ (n : Int) / 32 := by omega
    have hw1 : (n : Int) / 32 ≤ (X.length : Int) := by omega
    have hwc : ¬ (c1 = n / 32) := by omega
    go_upto_region 8 with fail
    have hdy := H1.out.drop (show n / 32 < X.length by omega)
    have hyl : (X.drop (n / 32)).length = X.length - n / 32 := List.length_drop
    have HVY := Lib.hid (show val (X.drop (n / 32)) / 2 ^ (n % 32) = val xs / 2 ^ n from by rw [val_drop X O1.out, shr_pow, V1.out])
    have OY := Lib.hid hdy.2.1
    have hm1 : X.length - n / 32 ≤ 1048576 := by omega
    have hm0 : 0 < X.length - n / 32 := by omega
    clear hw d1 hw0 hw1 hwc hcx hcap
    generalize X.drop (n / 32) = Y at *
    generalize X.length - n / 32 = m at *
    generalize off + n / 32 = o at *
    generalize c1 - n / 32 = cy at *
    have HL0 := Lib.hid hyl
    have HDY := Lib.hid hdy
    clear hyl hdy
    have hmk := run_make_row' (P := Try.prog) 22 37 (.int .u32 0) 4 Try.underlying22 elem_info rfl .i64 .i64 m (by omega) (by omega)
    go_wp2
    go_loopw [31] (fun i wr => ∃ (k : Nat) (zs : List Nat), k ≤ m ∧ i = .int .i64 k ∧ Row wr w.heap.size zs ∧ Hid (zs.length = m) ∧ ok32 zs ∧
      Hid (val (zs.take k) + 4294967296 ^ k * (val (Y.drop k) / 2 ^ (n % 32)) = val Y / 2 ^ (n % 32)) ∧ Below w.heap.size w wr) (fun i _ => m - (intOf i).toNat)
    case atStart => exact ⟨0, List.replicate m 0, Nat.zero_le _, rfl, Row.made _ _, by simp [Hid], ok_zeros _, by simp [Hid, val], (Below.refl _ _).alloc (Nat.le_refl _) _⟩
    case round =>
      obtain ⟨k, zs, hk, rfl, hrow, HL, hok, HE, hbel⟩ := hrel
      by_cases hlt : k < m
      · obtain ⟨b', o', e, hbk, hcx⟩ := HDY.out.2.2 (by have := HL0.out; omega)
        injection e with e
        injection e with e1 e2 _
        subst e1 e2
        have hx := (hbel.cell (p := ⟨b, o + k, none⟩) hb).trans (hcx k (by have := HL0.out; omega))
        have hX := getD_lt OY.out k
        have hZ := getD_lt OY.out (k + 1)
        have hcell := hrow.cell (i := k) (by have := HL.out; omega)
        have hfr := hrow.frozen k
        by_cases hlast : k + 1 < m
        · have hx2 := (hbel.cell (p := ⟨b, o + (k + 1), none⟩) hb).trans (hcx (k + 1) (by have := HL0.out; omega))
          have d2 : decide ((k : Int) + 1 < (m : Int)) = true := by simp; omega
          have hki : (k : Int) + 1 < (m : Int) := by omega
          generalize ex : Y[k]?.getD 0 = x at *
          generalize ey : Y[k + 1]?.getD 0 = y at *
          have HX := Lib.hid ex
          have HY := Lib.hid ey
          clear ex ey hcx
          go_wp2
          have hdiv : (x : Int) / 2 ^ (n % 32) = ((x / 2 ^ (n % 32) : Nat) : Int) := by rw [Int.natCast_ediv, Int.natCast_pow]; rfl
          have hdl : x / 2 ^ (n % 32) < 4294967296 := Nat.lt_of_le_of_lt (Nat.div_le_self _ _) hX
          have hr1 := hrow.set_int (i := k) hdiv
          have hb1 := hbel.setCell (p := ⟨w.heap.size, k, none⟩) (Nat.le_refl _) (.int .u32 ((x : Int) / 2 ^ (n % 32)))
          have hx3 := (World.cell?_setCell_other wr ⟨w.heap.size, k, none⟩ ⟨b, o + (k + 1), none⟩ (.int .u32 ((x : Int) / 2 ^ (n % 32))) (by intro e; injection e with e1 _ _; omega)).trans hx2
          generalize wr.setCell ⟨w.heap.size, k, none⟩ (.int .u32 ((x : Int) / 2 ^ (n % 32))) = W1 at *
          have hc1 := hr1.cell (i := k) (by simp; have := HL.out; omega)
          rw [List.getElem?_set_self (by have := HL.out; omega), Option.getD_some, ← hdiv] at hc1
          have hf1 := hr1.frozen k
          have HDV := Lib.hid hdiv
          have HR1 := Lib.hid hr1
          have HB1 := Lib.hid hb1
          clear hdiv hr1 hb1 hrow hbel
          clear hx hx2 hcell hfr
          have hw1 : IntKind.i64.wrap ((k : Int) + 1) = (k : Int) + 1 := IntWalk.i64_in _ (by omega)
          have hw2 : IntKind.i64.wrap (32 - (n : Int) % 32) = 32 - (n : Int) % 32 := IntWalk.i64_in _ (by omega)
          have hs0 : (0 : Int) ≤ 32 - (n : Int) % 32 := by omega
          have hs1 : (32 - (n : Int) % 32).toNat = 32 - n % 32 := by omega
          have hs2 : (32 - (n : Int) % 32) < 64 := by omega
          have hk0 : (0 : Int) ≤ (k : Int) + 1 := by omega
          have hk1 : ((k : Int) + 1).toNat = k + 1 := by omega
          refine wp_region_still_tail 14 (by kernel_rfl) (by kernel_rfl) ?_
          simp only [List.take_succ_cons, List.take_zero, List.drop_succ_cons, List.drop_zero]
          repeat still_step
          refine wpStill_nil ?_
          change wpList _ _ _ _ _ W1.drew
          go_wp2
          go_roundw
          case rel =>
            obtain ⟨g1, _, _⟩ := shr_digit x y (n % 32) hX (by omega)
            have e1 := shr_or x y (n % 32) hX (by omega)
            have hss := shr_step (zs := zs) (ys := Y) (k := k) (p := n % 32) (by have := HL.out; omega) (by have := HL0.out; omega) OY.out (by omega) HE.out rfl
            rw [HX.out, HY.out] at hss
            refine ⟨k + 1, (zs.set k (x / 2 ^ (n % 32))).set k (x / 2 ^ (n % 32) + y * 2 ^ (32 - n % 32) % 4294967296), hlt, by go_num, HR1.out.drew.set_int e1, by simp only [List.length_set]; exact HL, ok_set (ok_set hok hdl k) g1 k, ?_, (HB1.out.drew).setCell (by simp) _⟩
            rw [List.set_set]
            exact hss
          case measure => simp [intOf]; omega
        · have d2 : decide ((k : Int) + 1 < (m : Int)) = false := by simp; omega
          have HY := Lib.hid (show Y[k + 1]?.getD 0 = 0 from by rw [List.getElem?_eq_none (by have := HL0.out; omega)]; rfl)
          generalize ex : Y[k]?.getD 0 = x at *
          have HX := Lib.hid ex
          have hml : (m : Int) ≤ (k : Int) + 1 := by omega
          clear ex hcx hlast
          go_wp2
          go_roundw
          case rel =>
            have hdiv : (x : Int) / 2 ^ (n % 32) = ((x / 2 ^ (n % 32) : Nat) : Int) := by rw [Int.natCast_ediv, Int.natCast_pow]; rfl
            have hdl : x / 2 ^ (n % 32) < 4294967296 := Nat.lt_of_le_of_lt (Nat.div_le_self _ _) hX
            have hss := shr_step (zs := zs) (ys := Y) (k := k) (p := n % 32) (by have := HL.out; omega) (by have := HL0.out; omega) OY.out (by omega) HE.out rfl
            rw [HX.out, HY.out, Nat.zero_mul, Nat.zero_mod, Nat.add_zero] at hss
            exact ⟨k + 1, zs.set k (x / 2 ^ (n % 32)), hlt, by go_num, hrow.set_int hdiv, by simp only [List.length_set]; exact HL, ok_set hok hdl k, hss, hbel.setCell (by simp) _⟩
          case measure => simp [intOf]; omega
      · have hk' : k = m := by omega
        subst hk'
        clear hlt
        go_wp2_with fail
        have HV := Lib.hid (show val zs = val xs / 2 ^ n from by
          have := HE.out
          rw [List.take_of_length_le (by have := HL.out; omega : zs.length ≤ k), List.drop_eq_nil_of_le (by have := HL0.out; omega), HVY.out] at this
          simpa [val] using this)
        have HD := Lib.hid (hrow.dg hok (c := k) (by have := HL.out; omega))
        refine (short_n HD.out (by have := HL.out; omega) HL.out.symm).mono ?_
        rintro e w' ⟨A2, c2, rfl, h2, rfl⟩
        rw [HV.out] at h2
        rw [HV.out]
        have HR := Lib.hid h2
        clear h2
        go_wp2
        go_ret
        exact ⟨A2, c2, rfl, HR.out, hbel⟩
end Go.Proofs.Ytceningojnfgpaa
