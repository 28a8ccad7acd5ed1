import Derived.Test.YtnfafgpnnpapdaaDoorMB0
import Derived.BigRegion
import Derived.RegionTactic
import Derived.Maps.AppendAt
import Derived.Deep.AppendLies
section
/-
  nat.Shr.
-/
namespace Go.Proofs.YtnfafgpnnpapdaaDoor
open Go.RowKit
theorem val_drop (xs : List Nat) (h : ok32 xs) (W : Nat) : val (xs.drop W) = val xs / 4294967296 ^ W := by
  rcases Nat.lt_or_ge xs.length W with hl | hl
  · rw [List.drop_eq_nil_of_le (by omega)]
    have h1 := val_lt h
    have h2 := Nat.pow_le_pow_right (n := 4294967296) (by omega) (show xs.length ≤ W by omega)
    rw [Nat.div_eq_of_lt (by omega)]; rfl
  · have e : val xs = val (xs.take W) + 4294967296 ^ W * val (xs.drop W) := by
      conv => lhs; rw [← List.take_append_drop W xs, val_append]
      rw [List.length_take, Nat.min_eq_left hl]
    have h1 : val (xs.take W) < 4294967296 ^ W := by
      have := val_lt (xs := xs.take W) (fun x hx => h x (List.mem_of_mem_take hx))
      rwa [List.length_take, Nat.min_eq_left hl] at this
    rw [e, Nat.add_mul_div_left _ _ (Nat.pow_pos (by omega)), Nat.div_eq_of_lt h1, Nat.zero_add]
theorem val_drop_cons {xs : List Nat} {k : Nat} (h : k < xs.length) : val (xs.drop k) = xs[k]?.getD 0 + 4294967296 * val (xs.drop (k + 1)) := by
  rw [List.drop_eq_getElem_cons h, List.getElem?_eq_getElem h]; rfl
theorem val_mod {xs : List Nat} (h : ok32 xs) (k : Nat) : val (xs.drop k) % 4294967296 = xs[k]?.getD 0 := by
  rcases Nat.lt_or_ge k xs.length with hk | hk
  · rw [val_drop_cons hk]; have := getD_lt h k; omega
  · rw [List.drop_eq_nil_of_le hk, List.getElem?_eq_none hk]; rfl
/-- Moved down by p bits: the next digit lends its lower ones. -/
theorem shr_math (y R P Q : Nat) (hs : P * Q = 4294967296) (hP : 0 < P) : (y + 4294967296 * R) / P = (y / P + R * Q % 4294967296) + 4294967296 * (R / P) := by
  have e1 : (y + 4294967296 * R) / P = y / P + Q * R := by
    rw [← hs, Nat.mul_assoc, Nat.add_mul_div_left _ _ hP]
  have e2 : R * Q = 4294967296 * (R / P) + R * Q % 4294967296 := by
    have hq : R * Q / 4294967296 = R / P := by
      have hQ : 0 < Q := Nat.pos_of_ne_zero (by rintro rfl; simp at hs)
      rw [← hs, Nat.mul_div_mul_right _ _ hQ]
    have := Nat.div_add_mod (R * Q) 4294967296
    rw [hq] at this
    exact this.symm
  rw [e1, Nat.mul_comm Q R]
  omega
theorem shr_digit (y z p : Nat) (hy : y < 4294967296) (hp : p < 32) : y / 2 ^ p + z * 2 ^ (32 - p) % 4294967296 < 4294967296 ∧ z * 2 ^ (32 - p) % 4294967296 % 2 ^ (32 - p) = 0 ∧ y / 2 ^ p < 2 ^ (32 - p) := by
  have hs := two_pow_split p (by omega)
  have hpp : 0 < 2 ^ p := Nat.pow_pos (by omega)
  have hqq : 0 < 2 ^ (32 - p) := Nat.pow_pos (by omega)
  generalize 2 ^ p = P at *
  generalize 2 ^ (32 - p) = Q at *
  have e1 : z * Q % 4294967296 = z % P * Q := by rw [← hs, Nat.mul_mod_mul_right]
  have h3 : z % P < P := Nat.mod_lt _ hpp
  have h4 : y / P < Q := by rw [Nat.div_lt_iff_lt_mul hpp, Nat.mul_comm, hs]; exact hy
  rw [e1]
  refine ⟨?_, Nat.mul_mod_left _ _, h4⟩
  have : z % P * Q + Q ≤ P * Q := by
    calc z % P * Q + Q = (z % P + 1) * Q := by rw [Nat.add_mul, Nat.one_mul]
      _ ≤ P * Q := Nat.mul_le_mul_right _ h3
  omega
theorem shr_or (y z p : Nat) (hy : y < 4294967296) (hp : p < 32) :
    bits BinOp.or IntKind.u32 ((y : Int) / 2 ^ p) (((z : Int) * 2 ^ (32 - p)) % 4294967296) = ((y / 2 ^ p + z * 2 ^ (32 - p) % 4294967296 : Nat) : Int) := by
  obtain ⟨h1, h2, h3⟩ := shr_digit y z p hy hp
  have e : ((z : Int) * 2 ^ (32 - p)) % 4294967296 = ((z * 2 ^ (32 - p) % 4294967296 : Nat) : Int) := by
    rw [Int.natCast_emod, Int.natCast_mul, Int.natCast_pow]; rfl
  have e' : (y : Int) / 2 ^ p = ((y / 2 ^ p : Nat) : Int) := by rw [Int.natCast_ediv, Int.natCast_pow]; rfl
  rw [e, e', u32_or_nat _ _ (Nat.lt_of_le_of_lt (Nat.div_le_self _ _) hy) (Nat.mod_lt _ (by omega)), Nat.or_comm, nat_join (32 - p) _ _ h2 h3, Nat.add_comm]
theorem shr_step {zs ys : List Nat} {k p t : Nat} (hz : k < zs.length) (hk : k < ys.length) (hok : ok32 ys) (hp : p < 32) (h : val (zs.take k) + 4294967296 ^ k * (val (ys.drop k) / 2 ^ p) = val ys / 2 ^ p)
    (ht : t = ys[k]?.getD 0 / 2 ^ p + (ys[k + 1]?.getD 0) * 2 ^ (32 - p) % 4294967296) : val ((zs.set k t).take (k + 1)) + 4294967296 ^ (k + 1) * (val (ys.drop (k + 1)) / 2 ^ p) = val ys / 2 ^ p := by
  have hs := two_pow_split p (by omega)
  rw [take_set hz, val_snoc, List.length_take, Nat.min_eq_left (by omega), ← h, val_drop_cons hk, shr_math _ _ _ _ hs (Nat.pow_pos (by omega)), ht]
  have hm : val (ys.drop (k + 1)) * 2 ^ (32 - p) % 4294967296 = ys[k + 1]?.getD 0 * 2 ^ (32 - p) % 4294967296 := by
    rw [Nat.mul_mod, val_mod hok, ← Nat.mod_eq_of_lt (getD_lt hok (k + 1)), ← Nat.mul_mod, Nat.mod_eq_of_lt (getD_lt hok (k + 1))]
  rw [hm, Nat.pow_succ]
  simp only [Nat.mul_add, Nat.mul_assoc, Nat.add_assoc]
theorem shr_pow (v n : Nat) : v / 4294967296 ^ (n / 32) / 2 ^ (n % 32) = v / 2 ^ n := by
  rw [Nat.div_div_eq_div_mul, pow_parts]
theorem Dg.drop {w : World} {b off c : Nat} {xs : List Nat} {k : Nat} (h : Dg w (some ⟨b, off, none⟩) c xs) (hk : k < xs.length) : Dg w (some ⟨b, off + k, none⟩) (c - k) (xs.drop k) := by
  refine ⟨by rw [List.length_drop]; have := h.1; omega, fun x hx => h.2.1 x (List.mem_of_mem_drop hx), fun _ => ?_⟩
  obtain ⟨b', off', e, hb, hc⟩ := h.2.2 (by omega)
  injection e with e
  injection e with e1 e2 _
  subst e1 e2
  refine ⟨b, off + k, rfl, hb, fun j hj => ?_⟩
  rw [List.length_drop] at hj
  rw [Nat.add_assoc, hc (k + j) (by omega), List.getElem?_drop]
set_option maxHeartbeats 1000000 in
set_option maxRecDepth 100000 in
theorem shr_neg (A : Option Addr) (c : Nat) (xs : List Nat) (n : Int) (w : World) (h : Dg w A c xs) (hl : xs.length ≤ 1048576) (hn : n < 0) :
    Calls Tryd.prog 104 #[.slice A xs.length c, .int .i64 n] w fun e w' => ∃ A' c', e = .returned (.slice A' (digs (val xs)).length c') ∧ Dg w' A' c' (digs (val xs)) ∧ Below w.heap.size w w' := by
  have l1 := digs_len_le h.2.1
  have H := Lib.hid h
  clear h
  have d0 : decide (n < 0) = true := by simp [hn]
  go_enter Tryd.func104, Tryd.ntmps104
  go_wp2_with fail
  refine (short_any A c xs _ H.out (by omega)).mono ?_
  rintro e w' ⟨A1, c1, rfl, h1, rfl⟩
  have H1 := Lib.hid h1
  clear h1
  go_wp2_with fail
  refine (clone_any A1 c1 _ _ H1.out (by omega)).mono ?_
  rintro e w' ⟨A2, c2, rfl, h2, hb⟩
  have H2 := Lib.hid h2
  clear h2
  go_wp2
  go_ret
  exact ⟨A2, c2, rfl, H2.out, hb⟩
set_option maxHeartbeats 2000000 in
set_option maxRecDepth 100000 in
theorem shr_any (A : Option Addr) (c : Nat) (xs : List Nat) (n : Nat) (w : World) (h : Dg w A c xs) (hl : xs.length ≤ 1048576) (hn : n ≤ 9223372036854775807) :
    Calls Tryd.prog 104 #[.slice A xs.length c, .int .i64 n] w fun e w' => ∃ A' c', e = .returned (.slice A' (digs (val xs / 2 ^ n)).length c') ∧ Dg w' A' c' (digs (val xs / 2 ^ n)) ∧ Below w.heap.size w w' := by
  have l1 := digs_len_le h.2.1
  have H := Lib.hid h
  clear h
  have d0 : decide ((n : Int) < 0) = false := by simp
  have HN := Lib.hid hn
  go_enter Tryd.func104, Tryd.ntmps104
  go_wp2_with fail
  refine (short_any A c xs _ H.out (by omega)).mono ?_
  rintro e w' ⟨A1, c1, rfl, h1, rfl⟩
  have H1 := Lib.hid h1
  clear h1
  have V1 := Lib.hid (val_digs (val xs))
  have O1 := Lib.hid (ok_digs (val xs))
  generalize digs (val xs) = X at *
  by_cases hw : X.length ≤ n / 32
  · have d1 : decide ((X.length : Int) ≤ (n : Int) / 32) = true := by simp; omega
    have HF := Lib.hid (show val xs / 2 ^ n = 0 from by
      rw [← V1.out, ← shr_pow, ← val_drop X O1.out, List.drop_eq_nil_of_le hw]; simp [val])
    clear hw
    go_wp2
    go_ret
    rw [HF.out, digs_zero]
    exact ⟨none, 0, rfl, Dg.nil_ _ _, Below.refl _ _⟩
  · have d1 : decide ((X.length : Int) ≤ (n : Int) / 32) = false := by simp; omega
    obtain ⟨b, off, rfl, hb, hcx⟩ := H1.out.2.2 (by omega)
    have hcap := H1.out.1
    have hw0 : (0 : Int) ≤ (n : Int) / 32 := by omega
    have hw1 : (n : Int) / 32 ≤ (X.length : Int) := by omega
    have hwc : ¬ (c1 = n / 32) := by omega
    go_upto_region 8 with fail
    have hdy := H1.out.drop (show n / 32 < X.length by omega)
    have hyl : (X.drop (n / 32)).length = X.length - n / 32 := List.length_drop
    have HVY := Lib.hid (show val (X.drop (n / 32)) / 2 ^ (n % 32) = val xs / 2 ^ n from by rw [val_drop X O1.out, shr_pow, V1.out])
    have OY := Lib.hid hdy.2.1
    have hm1 : X.length - n / 32 ≤ 1048576 := by omega
    have hm0 : 0 < X.length - n / 32 := by omega
    clear hw d1 hw0 hw1 hwc hcx hcap
    generalize X.drop (n / 32) = Y at *
    generalize X.length - n / 32 = m at *
    generalize off + n / 32 = o at *
    generalize c1 - n / 32 = cy at *
    have HL0 := Lib.hid hyl
    have HDY := Lib.hid hdy
    clear hyl hdy
    have hmk := run_make_row' (P := Tryd.prog) 22 67 (.int .u32 0) 4 Tryd.underlying22 elem_info rfl .i64 .i64 m (by omega) (by omega)
    go_wp2
    go_loopw [31] (fun i wr => ∃ (k : Nat) (zs : List Nat), k ≤ m ∧ i = .int .i64 k ∧ Row wr w.heap.size zs ∧ Hid (zs.length = m) ∧ ok32 zs ∧
      Hid (val (zs.take k) + 4294967296 ^ k * (val (Y.drop k) / 2 ^ (n % 32)) = val Y / 2 ^ (n % 32)) ∧ Below w.heap.size w wr) (fun i _ => m - (intOf i).toNat)
    case atStart => exact ⟨0, List.replicate m 0, Nat.zero_le _, rfl, Row.made _ _, by simp [Hid], ok_zeros _, by simp [Hid, val], (Below.refl _ _).alloc (Nat.le_refl _) _⟩
    case round =>
      obtain ⟨k, zs, hk, rfl, hrow, HL, hok, HE, hbel⟩ := hrel
      by_cases hlt : k < m
      · obtain ⟨b', o', e, hbk, hcx⟩ := HDY.out.2.2 (by have := HL0.out; omega)
        injection e with e
        injection e with e1 e2 _
        subst e1 e2
        have hx := (hbel.cell (p := ⟨b, o + k, none⟩) hb).trans (hcx k (by have := HL0.out; omega))
        have hX := getD_lt OY.out k
        have hZ := getD_lt OY.out (k + 1)
        have hcell := hrow.cell (i := k) (by have := HL.out; omega)
        have hfr := hrow.frozen k
        by_cases hlast : k + 1 < m
        · have hx2 := (hbel.cell (p := ⟨b, o + (k + 1), none⟩) hb).trans (hcx (k + 1) (by have := HL0.out; omega))
          have d2 : decide ((k : Int) + 1 < (m : Int)) = true := by simp; omega
          have hki : (k : Int) + 1 < (m : Int) := by omega
          generalize ex : Y[k]?.getD 0 = x at *
          generalize ey : Y[k + 1]?.getD 0 = y at *
          have HX := Lib.hid ex
          have HY := Lib.hid ey
          clear ex ey hcx
          go_wp2
          have hdiv : (x : Int) / 2 ^ (n % 32) = ((x / 2 ^ (n % 32) : Nat) : Int) := by rw [Int.natCast_ediv, Int.natCast_pow]; rfl
          have hdl : x / 2 ^ (n % 32) < 4294967296 := Nat.lt_of_le_of_lt (Nat.div_le_self _ _) hX
          have hr1 := hrow.set_int (i := k) hdiv
          have hb1 := hbel.setCell (p := ⟨w.heap.size, k, none⟩) (Nat.le_refl _) (.int .u32 ((x : Int) / 2 ^ (n % 32)))
          have hx3 := (World.cell?_setCell_other wr ⟨w.heap.size, k, none⟩ ⟨b, o + (k + 1), none⟩ (.int .u32 ((x : Int) / 2 ^ (n % 32))) (by intro e; injection e with e1 _ _; omega)).trans hx2
          generalize wr.setCell ⟨w.heap.size, k, none⟩ (.int .u32 ((x : Int) / 2 ^ (n % 32))) = W1 at *
          have hc1 := hr1.cell (i := k) (by simp; have := HL.out; omega)
          rw [List.getElem?_set_self (by have := HL.out; omega), Option.getD_some, ← hdiv] at hc1
          have hf1 := hr1.frozen k
          have HDV := Lib.hid hdiv
          have HR1 := Lib.hid hr1
          have HB1 := Lib.hid hb1
          clear hdiv hr1 hb1 hrow hbel
          clear hx hx2 hcell hfr
          have hw1 : IntKind.i64.wrap ((k : Int) + 1) = (k : Int) + 1 := IntWalk.i64_in _ (by omega)
          have hw2 : IntKind.i64.wrap (32 - (n : Int) % 32) = 32 - (n : Int) % 32 := IntWalk.i64_in _ (by omega)
          have hs0 : (0 : Int) ≤ 32 - (n : Int) % 32 := by omega
          have hs1 : (32 - (n : Int) % 32).toNat = 32 - n % 32 := by omega
          have hs2 : (32 - (n : Int) % 32) < 64 := by omega
          have hk0 : (0 : Int) ≤ (k : Int) + 1 := by omega
          have hk1 : ((k : Int) + 1).toNat = k + 1 := by omega
          refine wp_region_still_tail 14 (by kernel_rfl) (by kernel_rfl) ?_
          simp only [List.take_succ_cons, List.take_zero, List.drop_succ_cons, List.drop_zero]
          repeat still_step
          refine wpStill_nil ?_
          change wpList _ _ _ _ _ W1.drew
          go_wp2
          go_roundw
          case rel =>
            obtain ⟨g1, _, _⟩ := shr_digit x y (n % 32) hX (by omega)
            have e1 := shr_or x y (n % 32) hX (by omega)
            have hss := shr_step (zs := zs) (ys := Y) (k := k) (p := n % 32) (by have := HL.out; omega) (by have := HL0.out; omega) OY.out (by omega) HE.out rfl
            rw [HX.out, HY.out] at hss
            refine ⟨k + 1, (zs.set k (x / 2 ^ (n % 32))).set k (x / 2 ^ (n % 32) + y * 2 ^ (32 - n % 32) % 4294967296), hlt, by go_num, HR1.out.drew.set_int e1, by simp only [List.length_set]; exact HL, ok_set (ok_set hok hdl k) g1 k, ?_, (HB1.out.drew).setCell (by simp) _⟩
            rw [List.set_set]
            exact hss
          case measure => simp [intOf]; omega
        · have d2 : decide ((k : Int) + 1 < (m : Int)) = false := by simp; omega
          have HY := Lib.hid (show Y[k + 1]?.getD 0 = 0 from by rw [List.getElem?_eq_none (by have := HL0.out; omega)]; rfl)
          generalize ex : Y[k]?.getD 0 = x at *
          have HX := Lib.hid ex
          have hml : (m : Int) ≤ (k : Int) + 1 := by omega
          clear ex hcx hlast
          go_wp2
          go_roundw
          case rel =>
            have hdiv : (x : Int) / 2 ^ (n % 32) = ((x / 2 ^ (n % 32) : Nat) : Int) := by rw [Int.natCast_ediv, Int.natCast_pow]; rfl
            have hdl : x / 2 ^ (n % 32) < 4294967296 := Nat.lt_of_le_of_lt (Nat.div_le_self _ _) hX
            have hss := shr_step (zs := zs) (ys := Y) (k := k) (p := n % 32) (by have := HL.out; omega) (by have := HL0.out; omega) OY.out (by omega) HE.out rfl
            rw [HX.out, HY.out, Nat.zero_mul, Nat.zero_mod, Nat.add_zero] at hss
            exact ⟨k + 1, zs.set k (x / 2 ^ (n % 32)), hlt, by go_num, hrow.set_int hdiv, by simp only [List.length_set]; exact HL, ok_set hok hdl k, hss, hbel.setCell (by simp) _⟩
          case measure => simp [intOf]; omega
      · have hk' : k = m := by omega
        subst hk'
        clear hlt
        go_wp2_with fail
        have HV := Lib.hid (show val zs = val xs / 2 ^ n from by
          have := HE.out
          rw [List.take_of_length_le (by have := HL.out; omega : zs.length ≤ k), List.drop_eq_nil_of_le (by have := HL0.out; omega), HVY.out] at this
          simpa [val] using this)
        have HD := Lib.hid (hrow.dg hok (c := k) (by have := HL.out; omega))
        refine (short_n HD.out (by have := HL.out; omega) HL.out.symm).mono ?_
        rintro e w' ⟨A2, c2, rfl, h2, rfl⟩
        rw [HV.out] at h2
        rw [HV.out]
        have HR := Lib.hid h2
        clear h2
        go_wp2
        go_ret
        exact ⟨A2, c2, rfl, HR.out, hbel⟩
end Go.Proofs.YtnfafgpnnpapdaaDoor
end

section
/-
  nat.Shl, Shr, Bit over what a law carries along.
-/
namespace Go.Proofs.YtnfafgpnnpapdaaDoor
open Go.RowKit
section
variable {w0 w w' : World} {L : List (Option Addr × Nat × List Nat)} {A B : Option Addr} {c d n m : Nat} {xs ys : List Nat} {x y : Nat}
theorem shl_l {i : Int} {k : Nat} (hL : Live w0 w L) (h1 : (A, c, xs) ∈ L) (hn : n = xs.length) (hx : val xs = x) (b1 : xs.length ≤ 1048576) (hi : i = (k : Int)) (hk : k ≤ 100000) :
    Calls Tryd.prog 125 #[.slice A n c, .int .i64 i] w fun e w' => ∃ A' c', e = .returned (.tuple #[.slice A' (digs (x * 2 ^ k)).length c', .bool true]) ∧ Live w0 w' ((A', c', digs (x * 2 ^ k)) :: L) := by
  subst hn hx hi
  exact (shl_any A c xs k w (hL.get h1) b1 hk).mono fun e w' ⟨A', c', he, hd, hb⟩ => ⟨A', c', he, (hL.step hb).add hd⟩
theorem shr_l {i : Int} {k : Nat} (hL : Live w0 w L) (h1 : (A, c, xs) ∈ L) (hn : n = xs.length) (hx : val xs = x) (b1 : xs.length ≤ 1048576) (hi : i = (k : Int)) (hk : k ≤ 9223372036854775807) :
    Calls Tryd.prog 104 #[.slice A n c, .int .i64 i] w fun e w' => ∃ A' c', e = .returned (.slice A' (digs (x / 2 ^ k)).length c') ∧ Live w0 w' ((A', c', digs (x / 2 ^ k)) :: L) := by
  subst hn hx hi
  exact (shr_any A c xs k w (hL.get h1) b1 hk).mono fun e w' ⟨A', c', he, hd, hb⟩ => ⟨A', c', he, (hL.step hb).add hd⟩
end
theorem pow_digs_len (k : Nat) : (digs (2 ^ k)).length ≤ k / 32 + 1 := by
  apply digs_len_lt
  have e : (4294967296 : Nat) = 2 ^ 32 := rfl
  rw [e, ← Nat.pow_mul]
  exact Nat.pow_lt_pow_right (by omega) (by omega)
theorem digs_shl_len (x k : Nat) : (digs (x * 2 ^ k)).length ≤ (digs x).length + (k / 32 + 1) := by
  have h1 := digs_mul_len x (2 ^ k)
  have h2 := pow_digs_len k
  omega
theorem digs_shr_len (x k : Nat) : (digs (x / 2 ^ k)).length ≤ (digs x).length := digs_len_mono _ _ (Nat.div_le_self _ _)
theorem blen_shl {x : Nat} (k : Nat) (h : x ≠ 0) : blen (x * 2 ^ k) = blen x + k := by
  have hp : 0 < 2 ^ k := Nat.pow_pos (by omega)
  rw [blen_shift k _ (Nat.le_mul_of_pos_left _ (by omega)), Nat.mul_div_cancel _ hp, Nat.add_comm]
theorem blen_lt (x : Nat) : x < 2 ^ blen x := by
  induction x using Nat.strongRecOn with
  | ind x ih =>
    by_cases h : x = 0
    · subst h; rw [blen_zero]; omega
    · have := ih (x / 2) (by omega)
      rw [blen_pos h, Nat.add_comm, Nat.pow_succ]; omega
theorem bit_shl (x k i : Nat) : bitAt (x * 2 ^ k) ((i : Int) + (k : Int)) = bitAt x (i : Int) := by
  unfold bitAt
  rw [decide_eq_true (by omega), decide_eq_true (by omega), show ((i : Int) + (k : Int)).toNat = i + k by omega, Int.toNat_natCast, Nat.testBit_mul_two_pow]
  simp
theorem bit_past (x i : Nat) : bitAt x ((blen x : Int) + (i : Int)) = false := by
  unfold bitAt
  rw [show ((blen x : Int) + (i : Int)).toNat = blen x + i by omega, Nat.testBit_lt_two_pow (Nat.lt_of_lt_of_le (blen_lt x) (Nat.pow_le_pow_right (by omega) (by omega)))]
  simp
end Go.Proofs.YtnfafgpnnpapdaaDoor
end

section
/-
  The law's own 'digits': are two lists the same?
-/
namespace Go.Proofs.YtnfafgpnnpapdaaDoor
open Go.RowKit
section
variable {w0 w w' : World} {L : List (Option Addr × Nat × List Nat)} {A B : Option Addr} {c d n m : Nat} {xs ys : List Nat} {x y : Nat}
end
end Go.Proofs.YtnfafgpnnpapdaaDoor
end

section
/-
  Slices of digits that are written out in a text; inputs that are cut to so many digits.
-/
namespace Go.Proofs.YtnfafgpnnpapdaaDoor
open Go.RowKit
theorem Live.new {w0 w : World} {L : List (Option Addr × Nat × List Nat)} (h : Live w0 w L) (cs : Array Value) {xs : List Nat} (hk : ok32 xs) (hc : ∀ j, j < xs.length → cs[j]? = some (.int .u32 (xs[j]?.getD 0 : Nat))) :
    Live w0 (w.alloc (.cells cs 67)) ((some ⟨w.heap.size, 0, none⟩, xs.length, xs) :: L) :=
  (h.step ((Below.refl _ _).alloc (Nat.le_refl _) _)).add (dg_new w cs _ hk hc (Nat.le_refl _))
theorem Live.new1 {w0 w : World} {L : List (Option Addr × Nat × List Nat)} (h : Live w0 w L) (x : Int) (a : Nat) (hx : x = (a : Int)) (ha : a < 4294967296) :
    Live w0 (w.alloc (.cells #[.int .u32 x] 67)) ((some ⟨w.heap.size, 0, none⟩, 1, [a]) :: L) := by
  subst hx
  exact h.new #[.int .u32 (a : Int)] (xs := [a]) (by intro z hz; simp at hz; omega) (by intro j hj; simp at hj; subst hj; rfl)
theorem Live.new2 {w0 w : World} {L : List (Option Addr × Nat × List Nat)} (h : Live w0 w L) (x y : Int) (a b : Nat) (hx : x = (a : Int)) (hy : y = (b : Int)) (ha : a < 4294967296) (hb : b < 4294967296) :
    Live w0 (w.alloc (.cells #[.int .u32 x, .int .u32 y] 67)) ((some ⟨w.heap.size, 0, none⟩, 2, [a, b]) :: L) := by
  subst hx hy
  exact h.new #[.int .u32 (a : Int), .int .u32 (b : Int)] (xs := [a, b]) (by intro z hz; simp at hz; omega)
    (by intro j hj; simp at hj; rcases (show j = 0 ∨ j = 1 by omega) with rfl | rfl <;> rfl)
theorem Live.new3 {w0 w : World} {L : List (Option Addr × Nat × List Nat)} (h : Live w0 w L) (x y z : Int) (a b c : Nat) (hx : x = (a : Int)) (hy : y = (b : Int)) (hz : z = (c : Int)) (ha : a < 4294967296) (hb : b < 4294967296) (hc : c < 4294967296) :
    Live w0 (w.alloc (.cells #[.int .u32 x, .int .u32 y, .int .u32 z] 67)) ((some ⟨w.heap.size, 0, none⟩, 3, [a, b, c]) :: L) := by
  subst hx hy hz
  exact h.new #[.int .u32 (a : Int), .int .u32 (b : Int), .int .u32 (c : Int)] (xs := [a, b, c]) (by intro z hz; simp at hz; omega)
    (by intro j hj; simp at hj; rcases (show j = 0 ∨ j = 1 ∨ j = 2 by omega) with rfl | rfl | rfl <;> rfl)
theorem digs_two {a b : Nat} (ha : a < 4294967296) (hb : b < 4294967296) (h : b ≠ 0) : digs (a + 4294967296 * b) = [a, b] := by
  rw [digs_pos (by omega), show (a + 4294967296 * b) % 4294967296 = a by omega, show (a + 4294967296 * b) / 4294967296 = b by omega, digs_pos h, show b % 4294967296 = b by omega, show b / 4294967296 = 0 by omega, digs_zero]
theorem digs_one {a : Nat} (ha : a < 4294967296) (h : a ≠ 0) : digs a = [a] := by
  rw [digs_pos h, show a % 4294967296 = a by omega, show a / 4294967296 = 0 by omega, digs_zero]
theorem live_start (w : World) : Live w w [] := ⟨Below.refl _ _, fun t ht => by simp at ht⟩
theorem Dg.take {w : World} {A : Option Addr} {c : Nat} {xs : List Nat} (h : Dg w A c xs) (k : Nat) : Dg w A c (xs.take k) :=
  ⟨by rw [List.length_take]; have := h.1; omega, fun x hx => h.2.1 x (List.mem_of_mem_take hx), fun h0 => by
    rw [List.length_take] at h0
    obtain ⟨b, off, e, hb, hc⟩ := h.2.2 (by omega)
    refine ⟨b, off, e, hb, fun j hj => ?_⟩
    rw [List.length_take] at hj
    rw [hc j (by omega), List.getElem?_take, if_pos (by omega)]⟩
theorem blen_ne {v : Nat} (h : v ≠ 0) : ((blen v : Int) == 0) = false := by rw [blen_pos h]; exact beq_eq_false_iff_ne.2 (by omega)
end Go.Proofs.YtnfafgpnnpapdaaDoor
end

section
/-
  zint's sizes: against, with, without, times, more.
-/
namespace Go.Proofs.YtnfafgpnnpapdaaDoor
open Go.RowKit
theorem bcell {W w1 : World} (hb : Below W.heap.size W w1) : (∀ b o, b < W.heap.size → w1.cell? ⟨b, o, none⟩ = W.cell? ⟨b, o, none⟩) ∧ (∀ b o, b < W.heap.size → w1.frozen? ⟨b, o, none⟩ = W.frozen? ⟨b, o, none⟩) :=
  ⟨fun b o h => hb.cell (p := ⟨b, o, none⟩) h, fun b o h => hb.frozen (p := ⟨b, o, none⟩) h⟩
theorem below1 (w : World) (o1 : Obj) : Below w.heap.size w (w.alloc o1) := (Below.refl _ _).alloc (Nat.le_refl _) _
theorem below2 (w : World) (o1 o2 : Obj) : Below w.heap.size w ((w.alloc o1).alloc o2) := (below1 w o1).alloc (by simp) _
theorem below3 (w : World) (o1 o2 o3 : Obj) : Below w.heap.size w (((w.alloc o1).alloc o2).alloc o3) := (below2 w o1 o2).alloc (by simp; omega) _
/-- The digits do not lie in block g. -/
def Off (g : Nat) (A : Option Addr) (xs : List Nat) : Prop := 0 < xs.length → ∀ o, A ≠ some ⟨g, o, none⟩
theorem Dg.set_off {w : World} {A : Option Addr} {c g : Nat} {xs : List Nat} (h : Dg w A c xs) (hA : Off g A xs) (i : Nat) (v : Value) : Dg (w.setCell ⟨g, i, none⟩ v) A c xs :=
  ⟨h.1, h.2.1, fun h0 => by
    obtain ⟨b, off, e, hb, hc⟩ := h.2.2 h0
    have hne : b ≠ g := fun e' => hA h0 off (by rw [e, e'])
    refine ⟨b, off, e, by simpa using hb, fun j hj => ?_⟩
    rw [World.cell?_setCell_other _ _ _ _ (by intro h; simp only [Addr.mk.injEq] at h; omega)]
    exact hc j hj⟩
/-- Digits do not lie where a result of another kind is kept. -/
theorem off_box {W w1 : World} {A : Option Addr} {c g : Nat} {xs : List Nat} {cs : Array Value} {t : TypeId} (hd : Dg w1 A c xs) (hb : Below (W.alloc (.cells cs t)).heap.size (W.alloc (.cells cs t)) w1) (hg : g = W.heap.size) (hcs : ∀ (o : Nat) (n : Int), cs[o]? ≠ some (.int .u32 n)) : Off g A xs := by
  intro h0 o e
  obtain ⟨b, off, e', _, hc⟩ := hd.2.2 h0
  rw [e] at e'
  simp only [Option.some.injEq, Addr.mk.injEq, and_true] at e'
  obtain ⟨rfl, rfl⟩ := e'
  have h1 := hc 0 h0
  rw [hb.cell (p := ⟨g, o + 0, none⟩) (by rw [hg]; simp), hg, cell_of_row _ _ _ _ _ _ (heap_alloc_new W _)] at h1
  exact hcs _ _ h1
theorem noint1 {A : Option Addr} {n c : Nat} : ∀ (o : Nat) (m : Int), (#[Value.slice A n c])[o]? ≠ some (.int .u32 m) := by
  intro o m; rcases o with _ | o <;> simp
theorem noint2 {A : Option Addr} {n c : Nat} {b : Bool} : ∀ (o : Nat) (m : Int), (#[Value.slice A n c, .bool b])[o]? ≠ some (.int .u32 m) := by
  intro o m; rcases o with _ | _ | o <;> simp
theorem noint2' {A : Option Addr} {n c : Nat} {b : Bool} : ∀ (o : Nat) (m : Int), (#[Value.bool b, .slice A n c])[o]? ≠ some (.int .u32 m) := by
  intro o m; rcases o with _ | _ | o <;> simp
set_option maxHeartbeats 1000000 in
set_option maxRecDepth 100000 in
theorem against_any (A B : Option Addr) (c d x y : Nat) (q : Int) (w : World) (h : Dg w A c (digs x)) (h' : Dg w B d (digs y)) (hl : (digs x).length ≤ 1048576) (hl' : (digs y).length ≤ 1048576) (hq : cmpi x y = q) :
    Calls Tryd.prog 99 #[.agg #[.slice A (digs x).length c], .agg #[.slice B (digs y).length d]] w fun e w' => e = .returned (.int .i64 q) ∧ Below w.heap.size w w' := by
  have HC := Lib.hid (cmp_any A B c d (digs x) (digs y))
  rw [val_digs, val_digs, hq] at HC
  go_enter Tryd.func99, Tryd.ntmps99
  go_wp2_with fail
  refine (HC.out _ (h.below (below2 _ _ _)) (h'.below (below2 _ _ _)) (by omega) (by omega)).mono ?_
  rintro e w1 ⟨rfl, k, rfl⟩
  go_wp2
  go_ret
  exact ⟨rfl, below_drewN (below2 _ _ _) _⟩
set_option maxHeartbeats 1000000 in
set_option maxRecDepth 100000 in
theorem with_any (A B : Option Addr) (c d x y : Nat) (w : World) (h : Dg w A c (digs x)) (h' : Dg w B d (digs y)) (hl : (digs x).length ≤ 1048576) (hl' : (digs y).length ≤ 1048576) :
    Calls Tryd.prog 133 #[.agg #[.slice A (digs x).length c], .agg #[.slice B (digs y).length d]] w fun e w' => ∃ A' c', e = .returned (.agg #[.slice A' (digs (x + y)).length c']) ∧ Dg w' A' c' (digs (x + y)) ∧ Below w.heap.size w w' := by
  have HC := Lib.hid (add_any A B c d (digs x) (digs y))
  rw [val_digs, val_digs] at HC
  go_enter Tryd.func133, Tryd.ntmps133
  go_wp2_with fail
  refine (HC.out _ (h.below (below3 _ _ _ _)) (h'.below (below3 _ _ _ _)) hl hl').mono ?_
  rintro e w1 ⟨A1, c1, rfl, hd, hb⟩
  obtain ⟨hc, hf⟩ := bcell hb
  have HO := Lib.hid (off_box (g := w.heap.size + 1 + 1) hd hb (by simp) noint1)
  have HB := Lib.hid ((below3 w _ _ _).trans (hb.mono (by simp; omega)))
  have HD := Lib.hid hd
  clear hb hd
  go_wp2
  refine bodyPost_ret (v := .agg #[.slice A1 (digs (x + y)).length c1]) (by simp [results, Tryd.results133, go_sem, hc]) rfl ⟨A1, c1, rfl, ?_, ?_⟩
  · exact HD.out.set_off HO.out _ _
  · exact HB.out.setCell (by simp; omega) _
set_option maxHeartbeats 1000000 in
set_option maxRecDepth 100000 in
theorem times_any (A B : Option Addr) (c d x y : Nat) (w : World) (h : Dg w A c (digs x)) (h' : Dg w B d (digs y)) (hl : (digs x).length ≤ 1048576) (hl' : (digs y).length ≤ 1048576) :
    Calls Tryd.prog 119 #[.agg #[.slice A (digs x).length c], .agg #[.slice B (digs y).length d]] w fun e w' => ∃ A' c', e = .returned (.agg #[.slice A' (digs (x * y)).length c']) ∧ Dg w' A' c' (digs (x * y)) ∧ Below w.heap.size w w' := by
  have HC := Lib.hid (mul_any A B c d (digs x) (digs y))
  rw [val_digs, val_digs] at HC
  go_enter Tryd.func119, Tryd.ntmps119
  go_wp2_with fail
  refine (HC.out _ (h.below (below3 _ _ _ _)) (h'.below (below3 _ _ _ _)) hl hl').mono ?_
  rintro e w1 ⟨A1, c1, rfl, hd, hb⟩
  obtain ⟨hc, hf⟩ := bcell hb
  have HO := Lib.hid (off_box (g := w.heap.size + 1 + 1) hd hb (by simp) noint1)
  have HB := Lib.hid ((below3 w _ _ _).trans (hb.mono (by simp; omega)))
  have HD := Lib.hid hd
  clear hb hd
  go_wp2
  refine bodyPost_ret (v := .agg #[.slice A1 (digs (x * y)).length c1]) (by simp [results, Tryd.results119, go_sem, hc]) rfl ⟨A1, c1, rfl, ?_, ?_⟩
  · exact HD.out.set_off HO.out _ _
  · exact HB.out.setCell (by simp; omega) _
set_option maxHeartbeats 1000000 in
set_option maxRecDepth 100000 in
theorem without_any (A B : Option Addr) (c d x y : Nat) (w : World) (h : Dg w A c (digs x)) (h' : Dg w B d (digs y)) (hl : (digs x).length ≤ 1048576) (hl' : (digs y).length ≤ 1048576) (hle : y ≤ x) :
    Calls Tryd.prog 134 #[.agg #[.slice A (digs x).length c], .agg #[.slice B (digs y).length d]] w fun e w' => ∃ A' c', e = .returned (.agg #[.slice A' (digs (x - y)).length c']) ∧ Dg w' A' c' (digs (x - y)) ∧ Below w.heap.size w w' := by
  have HC := Lib.hid (sub_yes A B c d (digs x) (digs y))
  rw [val_digs, val_digs] at HC
  go_enter Tryd.func134, Tryd.ntmps134
  go_wp2_with fail
  refine (HC.out _ (h.below (below3 _ _ _ _)) (h'.below (below3 _ _ _ _)) hl hl' hle).mono ?_
  rintro e w1 ⟨A1, c1, rfl, hd, hb⟩
  obtain ⟨hc, hf⟩ := bcell hb
  have HO := Lib.hid (off_box (g := w.heap.size + 1 + 1) hd hb (by simp) noint1)
  have HB := Lib.hid ((below3 w _ _ _).trans (hb.mono (by simp; omega)))
  have HD := Lib.hid hd
  clear hb hd
  go_wp2
  refine bodyPost_ret (v := .agg #[.slice A1 (digs (x - y)).length c1]) (by simp [results, Tryd.results134, go_sem, hc]) rfl ⟨A1, c1, rfl, ?_, ?_⟩
  · exact HD.out.set_off HO.out _ _
  · exact HB.out.setCell (by simp; omega) _
set_option maxHeartbeats 1000000 in
set_option maxRecDepth 100000 in
theorem more_any (A : Option Addr) (c x : Nat) (w : World) (h : Dg w A c (digs x)) (hl : (digs x).length ≤ 1048576) :
    Calls Tryd.prog 132 #[.agg #[.slice A (digs x).length c]] w fun e w' => ∃ A' c', e = .returned (.agg #[.slice A' (digs (x + 1)).length c']) ∧ Dg w' A' c' (digs (x + 1)) ∧ Below w.heap.size w w' := by
  have d1 := digs_one (a := 1) (by omega) (by omega)
  have HC := Lib.hid (fun (B : Option Addr) (d : Nat) (W : World) (h1 : Dg W A c (digs x)) (h2 : Dg W B d [1]) => with_any A B c d x 1 W h1 (by rw [d1]; exact h2) hl (by rw [d1]; simp))
  rw [d1] at HC
  clear d1
  go_enter Tryd.func132, Tryd.ntmps132
  go_wp2_with fail
  have HN := Lib.hid (((live_start _).add (h.below (below2 w (.cells #[.slice A (digs x).length c] 97) (.cells #[.slice none 0 0] 97)))).new1 1 1 rfl (by omega))
  refine (HC.out _ _ _ (HN.out.get (by simp)) (HN.out.get (by simp))).mono ?_
  rintro e w1 ⟨A1, c1, rfl, hd, hb⟩
  obtain ⟨hc, hf⟩ := bcell hb
  have HO := Lib.hid (off_box (g := w.heap.size + 1) hd ((below1 _ _).trans (hb.mono (by simp))) (by simp) noint1)
  have HB := Lib.hid ((below3 w _ _ _).trans (hb.mono (by simp; omega)))
  have HD := Lib.hid hd
  clear hb hd
  go_wp2
  refine bodyPost_ret (v := .agg #[.slice A1 (digs (x + 1)).length c1]) (by simp [results, Tryd.results132, go_sem, hc]) rfl ⟨A1, c1, rfl, ?_, ?_⟩
  · exact HD.out.set_off HO.out _ _
  · exact HB.out.setCell (by simp) _
/-- A whole number as an answer: its sign, its digits. -/
def sg (s : Bool) (m : Nat) : Int := if s then -(m : Int) else (m : Int)
set_option maxHeartbeats 1000000 in
set_option maxRecDepth 100000 in
theorem give_any (A : Option Addr) (c x : Nat) (s : Bool) (w : World) (h : Dg w A c (digs x)) (hl : (digs x).length ≤ 1048576) :
    Calls Tryd.prog 96 #[.agg #[.slice A (digs x).length c, .bool s]] w fun e w' => ∃ A' c', e = .returned (.agg #[.bool (s && decide (x ≠ 0)), .slice A' (digs x).length c']) ∧ Dg w' A' c' (digs x) ∧ Below w.heap.size w w' := by
  by_cases h0 : x = 0
  · subst h0
    have HZ := Lib.hid (zero_any A (digs 0).length c)
    rw [digs_zero] at HZ
    rw [digs_zero]
    go_enter Tryd.func96, Tryd.ntmps96
    go_wp2_with fail
    refine (HZ.out _ true rfl).mono ?_
    rintro e w1 ⟨rfl, hb⟩
    obtain ⟨hc, hf⟩ := bcell hb
    have HB := Lib.hid ((below2 w _ _).trans (hb.mono (by simp; omega)))
    clear hb
    go_wp2
    refine bodyPost_ret (v := .agg #[.bool false, .slice none 0 0]) (by simp [results, Tryd.results96, go_sem, hc]) rfl ⟨none, 0, by simp, Dg.nil_ _ _, ?_⟩
    exact (HB.out.setCell (by simp) _).setCell (by simp) _
  · have hz : (((digs x).length : Int) == 0) = false := beq_eq_false_iff_ne.2 (by have : (digs x).length ≠ 0 := fun e => h0 (digs_nil.1 e); omega)
    have HZ := Lib.hid hz
    have HS := Lib.hid (show (s && decide (x ≠ 0)) = s by rw [decide_eq_true h0, Bool.and_true])
    clear hz h0
    go_enter Tryd.func96, Tryd.ntmps96
    go_wp2_with fail
    refine (zero_any A (digs x).length c _ false HZ.out).mono ?_
    rintro e w1 ⟨rfl, hb⟩
    obtain ⟨hc, hf⟩ := bcell hb
    have HD := Lib.hid (h.below ((below2 w _ _).trans (hb.mono (by simp; omega))))
    have HO := Lib.hid (off_box (g := w.heap.size + 1) HD.out hb (by simp) noint2')
    have HB := Lib.hid ((below2 w _ _).trans (hb.mono (by simp; omega)))
    clear hb h
    go_wp2
    refine bodyPost_ret (v := .agg #[.bool s, .slice A (digs x).length c]) (by simp [results, Tryd.results96, go_sem, hc]) rfl ⟨A, c, by rw [HS.out], ?_, ?_⟩
    · exact (HD.out.set_off HO.out _ _).set_off HO.out _ _
    · exact (HB.out.setCell (by simp) _).setCell (by simp) _
end Go.Proofs.YtnfafgpnnpapdaaDoor
end

section
/-
  zint.sum, Add.
-/
namespace Go.Proofs.YtnfafgpnnpapdaaDoor
open Go.RowKit
theorem bcellN {W w1 : World} {N : Nat} (hb : Below W.heap.size W w1) (hN : N ≤ W.heap.size) : (∀ b o, b < N → w1.cell? ⟨b, o, none⟩ = W.cell? ⟨b, o, none⟩) ∧ (∀ b o, b < N → w1.frozen? ⟨b, o, none⟩ = W.frozen? ⟨b, o, none⟩) :=
  ⟨fun b o h => hb.cell (p := ⟨b, o, none⟩) (by simpa using Nat.lt_of_lt_of_le h hN), fun b o h => hb.frozen (p := ⟨b, o, none⟩) (by simpa using Nat.lt_of_lt_of_le h hN)⟩
theorem bcellB {W w1 : World} {N : Nat} (hb : Below N W w1) : (∀ b o, b < N → w1.cell? ⟨b, o, none⟩ = W.cell? ⟨b, o, none⟩) ∧ (∀ b o, b < N → w1.frozen? ⟨b, o, none⟩ = W.frozen? ⟨b, o, none⟩) :=
  ⟨fun b o h => hb.cell (p := ⟨b, o, none⟩) h, fun b o h => hb.frozen (p := ⟨b, o, none⟩) h⟩
theorem undrew {w w1 : World} (hb : Below w.drew.heap.size w.drew w1) : Below w.heap.size w w1 := ⟨hb.os, hb.tape, hb.output, hb.size, hb.block⟩
theorem N2 (w : World) (o1 o2 o3 : Obj) : w.heap.size + 2 ≤ (((w.alloc o1).alloc o2).alloc o3).heap.size := by simp
theorem size1 (w : World) (o1 : Obj) : w.heap.size + 1 ≤ (w.alloc o1).heap.size := by simp
theorem size2 (w : World) (o1 o2 : Obj) : w.heap.size + 2 ≤ ((w.alloc o1).alloc o2).heap.size := by simp
theorem size3 (w : World) (o1 o2 o3 : Obj) : w.heap.size + 3 ≤ (((w.alloc o1).alloc o2).alloc o3).heap.size := by simp
set_option maxHeartbeats 4000000 in
set_option maxRecDepth 100000 in
theorem sum_same (A B : Option Addr) (c d x y : Nat) (s : Bool) (w : World) (h : Dg w A c (digs x)) (h' : Dg w B d (digs y)) (hl : (digs x).length ≤ 1048576) (hl' : (digs y).length ≤ 1048576) :
    Calls Tryd.prog 94 #[.agg #[.slice A (digs x).length c, .bool s], .agg #[.slice B (digs y).length d, .bool s]] w fun e w' => ∃ A' c', e = .returned (.agg #[.slice A' (digs (x + y)).length c', .bool s]) ∧ Dg w' A' c' (digs (x + y)) ∧ Below w.heap.size w w' := by
  have HW := Lib.hid (with_any A B c d x y)
  have hs : (s == s) = true := by simp
  go_enter Tryd.func94, Tryd.ntmps94
  go_wp2
  go_region_held3 (fun w' => (∀ b o, b < w.heap.size + 2 → w'.cell? ⟨b, o, none⟩ = (((w.alloc (.cells #[.slice A (digs x).length c, .bool s] 99)).alloc (.cells #[.slice B (digs y).length d, .bool s] 99)).alloc (.cells #[.slice none 0 0, .bool false] 99)).cell? ⟨b, o, none⟩) ∧ (∀ b o, b < w.heap.size + 2 → w'.frozen? ⟨b, o, none⟩ = (((w.alloc (.cells #[.slice A (digs x).length c, .bool s] 99)).alloc (.cells #[.slice B (digs y).length d, .bool s] 99)).alloc (.cells #[.slice none 0 0, .bool false] 99)).frozen? ⟨b, o, none⟩))
    (first | exact ⟨fun _ _ _ => rfl, fun _ _ _ => rfl⟩ | exact bcellB HB1.out | exact bcellB ((HB1.out.setCell (by simp) _).setCell (by simp) _))
    (first | (go_at_call 133; refine (HW.out _ (h.below (below_drew (below3 _ _ _ _))) (h'.below (below_drew (below3 _ _ _ _))) hl hl').mono ?_; rintro e w1 ⟨A1, c1, rfl, hd, hb⟩; (have HB1 := Lib.hid ((undrew hb).mono (N2 _ _ _ _))); (obtain ⟨hc1, hf1⟩ := bcell (undrew hb)); (have HO1 := Lib.hid (off_box (g := w.heap.size + 1 + 1) hd (undrew hb) (by simp) noint2)); (have HD1 := Lib.hid hd); clear hb hd))
  go_wp2
  refine bodyPost_ret (v := .agg #[.slice A1 (digs (x + y)).length c1, .bool s]) (by simp [results, Tryd.results94, go_sem, hc1]) rfl ⟨A1, c1, rfl, ?_, ?_⟩
  · exact (HD1.out.set_off HO1.out _ _).set_off HO1.out _ _
  · exact (((below3 w _ _ _).trans (HB1.out.mono (by omega))).setCell (by simp; omega) _).setCell (by simp; omega) _
set_option maxHeartbeats 4000000 in
set_option maxRecDepth 100000 in
theorem sum_less (A B : Option Addr) (c d x y : Nat) (s r : Bool) (w : World) (h : Dg w A c (digs x)) (h' : Dg w B d (digs y)) (hl : (digs x).length ≤ 1048576) (hl' : (digs y).length ≤ 1048576) (hsr : (s == r) = false) (hlt : x < y) :
    Calls Tryd.prog 94 #[.agg #[.slice A (digs x).length c, .bool s], .agg #[.slice B (digs y).length d, .bool r]] w fun e w' => ∃ A' c', e = .returned (.agg #[.slice A' (digs (y - x)).length c', .bool r]) ∧ Dg w' A' c' (digs (y - x)) ∧ Below w.heap.size w w' := by
  have HA := Lib.hid (fun W h1 h2 => against_any A B c d x y (-1) W h1 h2 hl hl' (cmpi_lt hlt))
  have HW := Lib.hid (fun W h1 h2 => without_any B A d c y x W h1 h2 hl' hl (Nat.le_of_lt hlt))
  clear hlt
  go_enter Tryd.func94, Tryd.ntmps94
  go_wp2_with fail
  refine (HA.out _ (h.below (below3 _ _ _ _)) (h'.below (below3 _ _ _ _))).mono ?_
  rintro e w0 ⟨rfl, hb0⟩
  have HB0 := Lib.hid hb0
  have H1 := Lib.hid (h.below ((below3 w _ _ _).trans (hb0.mono (by simp; omega))))
  have H2 := Lib.hid (h'.below ((below3 w _ _ _).trans (hb0.mono (by simp; omega))))
  obtain ⟨hc0, hf0⟩ := bcell hb0
  clear hb0 h h'
  go_wp2
  go_region_held3 (fun w' => (∀ b o, b < w.heap.size + 2 → w'.cell? ⟨b, o, none⟩ = (((w.alloc (.cells #[.slice A (digs x).length c, .bool s] 99)).alloc (.cells #[.slice B (digs y).length d, .bool r] 99)).alloc (.cells #[.slice none 0 0, .bool false] 99)).cell? ⟨b, o, none⟩))
    (first | exact (bcellB (HB0.out.mono (N2 _ _ _ _))).1 | exact (bcellB HB1.out).1 | exact (bcellB ((HB1.out.setCell (by simp) _).setCell (by simp) _)).1)
    (first | (go_at_call 134; refine (HW.out _ (H2.out.below (below_drew (Below.refl _ _))) (H1.out.below (below_drew (Below.refl _ _)))).mono ?_; rintro e w1 ⟨A1, c1, rfl, hd, hb⟩; (have HB2 := Lib.hid (HB0.out.trans ((undrew hb).mono HB0.out.size))); (have HB1 := Lib.hid (HB2.out.mono (N2 _ _ _ _))); (obtain ⟨hc1, hf1⟩ := bcell HB2.out); (have HO1 := Lib.hid (off_box (g := w.heap.size + 1 + 1) hd HB2.out (by simp) noint2)); (have HD1 := Lib.hid hd); clear hb hd))
  go_wp2
  refine bodyPost_ret (v := .agg #[.slice A1 (digs (y - x)).length c1, .bool r]) (by simp [results, Tryd.results94, go_sem, hc1]) rfl ⟨A1, c1, rfl, ?_, ?_⟩
  · exact (HD1.out.set_off HO1.out _ _).set_off HO1.out _ _
  · exact (((below3 w _ _ _).trans (HB1.out.mono (by omega))).setCell (by simp; omega) _).setCell (by simp; omega) _
set_option maxHeartbeats 4000000 in
set_option maxRecDepth 100000 in
theorem sum_more (A B : Option Addr) (c d x y : Nat) (s r : Bool) (w : World) (h : Dg w A c (digs x)) (h' : Dg w B d (digs y)) (hl : (digs x).length ≤ 1048576) (hl' : (digs y).length ≤ 1048576) (hsr : (s == r) = false) (q : Int) (hq0 : decide (q < 0) = false) (hq : cmpi x y = q) (hle : y ≤ x) :
    Calls Tryd.prog 94 #[.agg #[.slice A (digs x).length c, .bool s], .agg #[.slice B (digs y).length d, .bool r]] w fun e w' => ∃ A' c', e = .returned (.agg #[.slice A' (digs (x - y)).length c', .bool s]) ∧ Dg w' A' c' (digs (x - y)) ∧ Below w.heap.size w w' := by
  have HA := Lib.hid (fun W h1 h2 => against_any A B c d x y q W h1 h2 hl hl' hq)
  have HW := Lib.hid (fun W h1 h2 => without_any A B c d x y W h1 h2 hl hl' hle)
  clear hq hle
  go_enter Tryd.func94, Tryd.ntmps94
  go_wp2_with fail
  refine (HA.out _ (h.below (below3 _ _ _ _)) (h'.below (below3 _ _ _ _))).mono ?_
  rintro e w0 ⟨rfl, hb0⟩
  have HB0 := Lib.hid hb0
  have H1 := Lib.hid (h.below ((below3 w _ _ _).trans (hb0.mono (by simp; omega))))
  have H2 := Lib.hid (h'.below ((below3 w _ _ _).trans (hb0.mono (by simp; omega))))
  obtain ⟨hc0, hf0⟩ := bcell hb0
  clear hb0 h h'
  go_wp2
  go_region_held3 (fun w' => (∀ b o, b < w.heap.size + 2 → w'.cell? ⟨b, o, none⟩ = (((w.alloc (.cells #[.slice A (digs x).length c, .bool s] 99)).alloc (.cells #[.slice B (digs y).length d, .bool r] 99)).alloc (.cells #[.slice none 0 0, .bool false] 99)).cell? ⟨b, o, none⟩))
    (first | exact (bcellB (HB0.out.mono (N2 _ _ _ _))).1 | exact (bcellB HB1.out).1 | exact (bcellB ((HB1.out.setCell (by simp) _).setCell (by simp) _)).1)
    (first | (go_at_call 134; refine (HW.out _ (H1.out.below (below_drew (Below.refl _ _))) (H2.out.below (below_drew (Below.refl _ _)))).mono ?_; rintro e w1 ⟨A1, c1, rfl, hd, hb⟩; (have HB2 := Lib.hid (HB0.out.trans ((undrew hb).mono HB0.out.size))); (have HB1 := Lib.hid (HB2.out.mono (N2 _ _ _ _))); (obtain ⟨hc1, hf1⟩ := bcell HB2.out); (have HO1 := Lib.hid (off_box (g := w.heap.size + 1 + 1) hd HB2.out (by simp) noint2)); (have HD1 := Lib.hid hd); clear hb hd))
  go_wp2
  refine bodyPost_ret (v := .agg #[.slice A1 (digs (x - y)).length c1, .bool s]) (by simp [results, Tryd.results94, go_sem, hc1]) rfl ⟨A1, c1, rfl, ?_, ?_⟩
  · exact (HD1.out.set_off HO1.out _ _).set_off HO1.out _ _
  · exact (((below3 w _ _ _).trans (HB1.out.mono (by omega))).setCell (by simp; omega) _).setCell (by simp; omega) _
theorem sg_same (s : Bool) (x y : Nat) : sg s (x + y) = sg s x + sg s y := by unfold sg; cases s <;> simp <;> omega
theorem sg_less {s r : Bool} (h : (s == r) = false) {x y : Nat} (hlt : x < y) : sg r (y - x) = sg s x + sg r y := by unfold sg; cases s <;> cases r <;> simp at h ⊢ <;> omega
theorem sg_more {s r : Bool} (h : (s == r) = false) {x y : Nat} (hlt : y ≤ x) : sg s (x - y) = sg s x + sg r y := by unfold sg; cases s <;> cases r <;> simp at h ⊢ <;> omega
theorem sum_any (A B : Option Addr) (c d x y : Nat) (s r : Bool) (w : World) (h : Dg w A c (digs x)) (h' : Dg w B d (digs y)) (hl : (digs x).length ≤ 1000000) (hl' : (digs y).length ≤ 1000000) :
    Calls Tryd.prog 94 #[.agg #[.slice A (digs x).length c, .bool s], .agg #[.slice B (digs y).length d, .bool r]] w fun e w' => ∃ A' c' m t, e = .returned (.agg #[.slice A' (digs m).length c', .bool t]) ∧ sg t m = sg s x + sg r y ∧ (digs m).length ≤ max (digs x).length (digs y).length + 1 ∧ Dg w' A' c' (digs m) ∧ Below w.heap.size w w' := by
  cases hsr : (s == r)
  · rcases Nat.lt_or_ge x y with hlt | hge
    · exact (sum_less A B c d x y s r w h h' (by omega) (by omega) hsr hlt).mono fun _ _ ⟨A', c', he, hd, hb⟩ => ⟨A', c', y - x, r, he, sg_less hsr hlt, by have := digs_sub_len y x; omega, hd, hb⟩
    · have hq : decide (cmpi x y < 0) = false := by
        rcases Nat.eq_or_lt_of_le hge with e | e
        · rw [cmpi_eq e.symm]; rfl
        · rw [cmpi_gt e]; rfl
      exact (sum_more A B c d x y s r w h h' (by omega) (by omega) hsr _ hq rfl hge).mono fun _ _ ⟨A', c', he, hd, hb⟩ => ⟨A', c', x - y, s, he, sg_more hsr hge, by have := digs_sub_len x y; omega, hd, hb⟩
  · have e : s = r := by simpa using hsr
    subst e
    exact (sum_same A B c d x y s w h h' (by omega) (by omega)).mono fun _ _ ⟨A', c', he, hd, hb⟩ => ⟨A', c', x + y, s, he, sg_same s x y, digs_add_len x y, hd, hb⟩
end Go.Proofs.YtnfafgpnnpapdaaDoor
end

section
/-
  zint.Add, Sub, Neg, Mul, Make.
-/
namespace Go.Proofs.YtnfafgpnnpapdaaDoor
open Go.RowKit
theorem sg_neg (s : Bool) (m : Nat) : (s && decide (m ≠ 0)) = decide (sg s m < 0) := by
  cases s
  · rw [Bool.false_and]; exact (decide_eq_false (by unfold sg; simp)).symm
  · rw [Bool.true_and, decide_eq_decide]; unfold sg; simp; omega
theorem sg_not (s : Bool) (m : Nat) : sg (!s) m = -sg s m := by unfold sg; cases s <;> simp
theorem sg_abs (s : Bool) (m : Nat) : (sg s m).natAbs = m := by unfold sg; cases s <;> simp
theorem sg_take (s : Bool) (m : Nat) : sg (s && decide (0 < m)) m = sg s m := by
  unfold sg; cases s
  · simp
  · rcases Nat.eq_zero_or_pos m with h | h
    · subst h; rfl
    · simp [h]
/-- A whole number as an answer. -/
def Zr (z : Int) (w : World) (e : Ending) (w' : World) : Prop := ∃ A' c', e = .returned (.agg #[.bool (decide (z < 0)), .slice A' (digs z.natAbs).length c']) ∧ Dg w' A' c' (digs z.natAbs) ∧ Below w.heap.size w w'
theorem zr_give {w w' : World} {A : Option Addr} {c m : Nat} {t : Bool} {z : Int} (hz : sg t m = z) (hd : Dg w' A c (digs m)) (hb : Below w.heap.size w w') : Zr z w (.returned (.agg #[.bool (t && decide (m ≠ 0)), .slice A (digs m).length c])) w' := by
  have e1 := sg_neg t m
  have e2 := sg_abs t m
  rw [hz] at e1 e2
  rw [e1]
  subst e2
  exact ⟨A, c, rfl, hd, hb⟩
set_option maxHeartbeats 4000000 in
set_option maxRecDepth 100000 in
theorem zadd_any (A B : Option Addr) (c d : Nat) (s r : Bool) (xs ys : List Nat) (w : World) (h : Dg w A c xs) (h' : Dg w B d ys) (hl : xs.length ≤ 1000000) (hl' : ys.length ≤ 1000000) :
    Calls Tryd.prog 49 #[.agg #[.bool s, .slice A xs.length c], .agg #[.bool r, .slice B ys.length d]] w fun e w' => Zr (sg s (val xs) + sg r (val ys)) w e w' := by
  have l1 := digs_len_le h.2.1
  have l2 := digs_len_le h'.2.1
  go_enter Tryd.func49, Tryd.ntmps49
  go_wp2
  have HB0 := Lib.hid (Below.refl (((w.alloc (.cells #[.bool s, .slice A xs.length c] 24)).alloc (.cells #[.bool r, .slice B ys.length d] 24)).alloc (.cells #[.bool false, .slice none 0 0] 24)).heap.size (((w.alloc (.cells #[.bool s, .slice A xs.length c] 24)).alloc (.cells #[.bool r, .slice B ys.length d] 24)).alloc (.cells #[.bool false, .slice none 0 0] 24)))
  have HD1 := Lib.hid (below_drew HB0.out)
  have H1 := Lib.hid (h.below (below3 _ (.cells #[.bool s, .slice A xs.length c] 24) (.cells #[.bool r, .slice B ys.length d] 24) (.cells #[.bool false, .slice none 0 0] 24)))
  have H2 := Lib.hid (h'.below (below3 _ (.cells #[.bool s, .slice A xs.length c] 24) (.cells #[.bool r, .slice B ys.length d] 24) (.cells #[.bool false, .slice none 0 0] 24)))
  clear h h'
  go_region_held3 (fun w' => (∀ b o, b < w.heap.size + 2 → w'.cell? ⟨b, o, none⟩ = (((w.alloc (.cells #[.bool s, .slice A xs.length c] 24)).alloc (.cells #[.bool r, .slice B ys.length d] 24)).alloc (.cells #[.bool false, .slice none 0 0] 24)).cell? ⟨b, o, none⟩))
    (first | exact fun _ _ _ => rfl | exact (bcellB (K1.out.mono (N2 _ _ _ _))).1 | exact (bcellB (K2.out.mono (N2 _ _ _ _))).1 | exact (bcellB (K3.out.mono (N2 _ _ _ _))).1 | exact (bcellB (K4.out.mono (N2 _ _ _ _))).1 | exact (bcellB (((K4.out.mono (N2 _ _ _ _)).setCell (by simp) _).setCell (by simp) _)).1)
    (first
      | (go_at_call_of 95 A; refine (take_any A c s xs _ (H1.out.below HD1.out) (by omega)).mono ?_; rintro e w1 ⟨A1, c1, rfl, hd, hb⟩; (have K1 := Lib.hid (HD1.out.trans (hb.mono HD1.out.size))); (have G1 := Lib.hid hd); clear hb hd)
      | (go_at_call_of 95 B; refine (take_any B d r ys _ (H2.out.below K1.out) (by omega)).mono ?_; rintro e w2 ⟨A2, c2, rfl, hd, hb⟩; (have K2 := Lib.hid (K1.out.trans (hb.mono K1.out.size))); (have G2 := Lib.hid hd); (have F1 := Lib.hid (G1.out.below hb)); clear hb hd)
      | (go_at_call 94; refine (sum_any A1 A2 c1 c2 (val xs) (val ys) _ _ _ F1.out G2.out (by omega) (by omega)).mono ?_; rintro e w3 ⟨A3, c3, m, t, rfl, hm, hlm, hd, hb⟩; (have K3 := Lib.hid (K2.out.trans (hb.mono K2.out.size))); (have G3 := Lib.hid hd); (have M := Lib.hid hm); clear hb hd hm)
      | (go_at_call 96; refine (give_any A3 c3 m t _ G3.out (by omega)).mono ?_; rintro e w4 ⟨A4, c4, rfl, hd, hb⟩; (have K4 := Lib.hid (K3.out.trans (hb.mono K3.out.size))); (obtain ⟨hc4, hf4⟩ := bcell K4.out); (have HO4 := Lib.hid (off_box (g := w.heap.size + 1 + 1) hd K4.out (by simp) noint2')); (have G4 := Lib.hid hd); clear hb hd))
  go_wp2
  refine bodyPost_ret (v := .agg #[.bool (t && decide (m ≠ 0)), .slice A4 (digs m).length c4]) (by simp [results, Tryd.results49, go_sem, hc4]) rfl ?_
  exact zr_give (by rw [M.out, sg_take, sg_take]) ((G4.out.set_off HO4.out _ _).set_off HO4.out _ _) ((((below3 w _ _ _).trans (K4.out.mono (by simp; omega))).setCell (by simp; omega) _).setCell (by simp; omega) _)
set_option maxHeartbeats 2000000 in
set_option maxRecDepth 100000 in
theorem zneg_any (A : Option Addr) (c : Nat) (s : Bool) (xs : List Nat) (w : World) (h : Dg w A c xs) (hl : xs.length ≤ 1000000) :
    Calls Tryd.prog 61 #[.agg #[.bool s, .slice A xs.length c]] w fun e w' => Zr (-sg s (val xs)) w e w' := by
  have l1 := digs_len_le h.2.1
  have HS := Lib.hid (sg_take s (val xs))
  go_enter Tryd.func61, Tryd.ntmps61
  go_wp2_with fail
  refine (take_any A c s xs _ (h.below (below2 _ _ _)) (by omega)).mono ?_
  rintro e w1 ⟨A1, c1, rfl, hd, hb⟩
  generalize (s && decide (0 < val xs)) = t at *
  have hz : w.heap.size + 1 < w1.heap.size := by have := hb.size; simp at this; omega
  have K1 := Lib.hid hb
  have G1 := Lib.hid hd
  obtain ⟨hc1, hf1⟩ := bcell hb
  clear hb hd h
  go_wp2_with fail
  refine (give_any A1 c1 (val xs) (!t) _ (G1.out.below (below1 _ _)) (by omega)).mono ?_
  rintro e w2 ⟨A2, c2, rfl, hd, hb⟩
  have K2 := Lib.hid (K1.out.trans (((below1 _ _).trans (hb.mono (by simp))).mono K1.out.size))
  have G2 := Lib.hid hd
  have HO2 := Lib.hid (off_box (g := w.heap.size + 1) hd K2.out (by simp) noint2')
  obtain ⟨hc2, hf2⟩ := bcell K2.out
  clear hb hd
  go_wp2
  refine bodyPost_ret (v := .agg #[.bool (!t && decide (val xs ≠ 0)), .slice A2 (digs (val xs)).length c2]) (by simp [results, Tryd.results61, go_sem, hc2]) rfl ?_
  exact zr_give (by rw [sg_not, HS.out]) ((G2.out.set_off HO2.out _ _).set_off HO2.out _ _) ((((below2 w _ _).trans (K2.out.mono (by simp; omega))).setCell (by simp) _).setCell (by simp) _)
set_option maxHeartbeats 2000000 in
set_option maxRecDepth 100000 in
theorem zmake_any (A : Option Addr) (c : Nat) (s : Bool) (xs : List Nat) (w : World) (h : Dg w A c xs) (hl : xs.length ≤ 1000000) :
    Calls Tryd.prog 55 #[.bool s, .slice A xs.length c] w fun e w' => Zr (sg s (val xs)) w e w' := by
  have l1 := digs_len_le h.2.1
  go_enter Tryd.func55, Tryd.ntmps55
  go_wp2_with fail
  refine (trim_any A c xs _ (h.below (below1 _ _)) (by omega)).mono ?_
  rintro e w1 ⟨A1, c1, rfl, hd, hb⟩
  have K1 := Lib.hid hb
  have G1 := Lib.hid hd
  obtain ⟨hc1, hf1⟩ := bcell hb
  clear hb hd h
  go_wp2_with fail
  refine (give_any A1 c1 (val xs) s _ G1.out (by omega)).mono ?_
  rintro e w2 ⟨A2, c2, rfl, hd, hb⟩
  have K2 := Lib.hid (K1.out.trans (hb.mono K1.out.size))
  have G2 := Lib.hid hd
  have HO2 := Lib.hid (off_box (g := w.heap.size) hd K2.out rfl noint2')
  obtain ⟨hc2, hf2⟩ := bcell K2.out
  clear hb hd
  go_wp2
  refine bodyPost_ret (v := .agg #[.bool (s && decide (val xs ≠ 0)), .slice A2 (digs (val xs)).length c2]) (by simp [results, Tryd.results55, go_sem, hc2]) rfl ?_
  exact zr_give rfl ((G2.out.set_off HO2.out _ _).set_off HO2.out _ _) ((((below1 w _).trans (K2.out.mono (by simp))).setCell (by simp) _).setCell (by simp) _)
theorem wrap_u64_eq (x : Int) : IntKind.u64.wrap x = x % 18446744073709551616 := by simp [IntKind.wrap, IntKind.signed, IntKind.bits]
set_option maxHeartbeats 2000000 in
set_option maxRecDepth 100000 in
theorem zfrom_any (n : Int) (w : World) (h0 : -9223372036854775808 ≤ n) (h1 : n ≤ 9223372036854775807) :
    Calls Tryd.prog 50 #[.int .i64 n] w fun e w' => Zr n w e w' := by
  have lf := digs_small (n := n.natAbs) (by omega)
  by_cases hn : n < 0
  · have d0 : decide (n < 0) = true := by simp [hn]
    have HS := Lib.hid (show sg true n.natAbs = n by unfold sg; simp; omega)
    have HW := Lib.hid (show IntKind.u64.wrap (-IntKind.u64.wrap n) = ((n.natAbs : Nat) : Int) by rw [wrap_u64_eq, wrap_u64_eq]; omega)
    go_enter Tryd.func50, Tryd.ntmps50
    go_wp2_with fail
    refine (from_l (i := _) (k := n.natAbs) (live_start _) HW.out (by omega)).mono ?_
    rintro e w1 ⟨A1, c1, rfl, hL⟩
    have K1 := Lib.hid hL.1
    have G1 := Lib.hid (hL.get (A := A1) (c := c1) (xs := digs n.natAbs) (by simp))
    clear hL
    go_wp2_with fail
    refine (give_any A1 c1 n.natAbs true _ G1.out (by omega)).mono ?_
    rintro e w2 ⟨A2, c2, rfl, hd, hb⟩
    have K2 := Lib.hid (K1.out.trans (hb.mono K1.out.size))
    have G2 := Lib.hid hd
    have HO2 := Lib.hid (off_box (g := w.heap.size) hd K2.out rfl noint2')
    obtain ⟨hc2, hf2⟩ := bcell K2.out
    clear hb hd
    go_wp2
    refine bodyPost_ret (v := .agg #[.bool (true && decide (n.natAbs ≠ 0)), .slice A2 (digs n.natAbs).length c2]) (by simp [results, Tryd.results50, go_sem, hc2]) rfl ?_
    exact zr_give HS.out ((G2.out.set_off HO2.out _ _).set_off HO2.out _ _) ((((below1 w _).trans (K2.out.mono (by simp))).setCell (by simp) _).setCell (by simp) _)
  · have d0 : decide (n < 0) = false := by simp; omega
    have HS := Lib.hid (show sg false n.natAbs = n by unfold sg; simp; omega)
    have HW := Lib.hid (show n = ((n.natAbs : Nat) : Int) by omega)
    go_enter Tryd.func50, Tryd.ntmps50
    go_wp2_with fail
    refine (from_l (i := _) (k := n.natAbs) (live_start _) HW.out (by omega)).mono ?_
    rintro e w1 ⟨A1, c1, rfl, hL⟩
    have K1 := Lib.hid hL.1
    have G1 := Lib.hid (hL.get (A := A1) (c := c1) (xs := digs n.natAbs) (by simp))
    clear hL
    go_wp2_with fail
    refine (give_any A1 c1 n.natAbs false _ G1.out (by omega)).mono ?_
    rintro e w2 ⟨A2, c2, rfl, hd, hb⟩
    have K2 := Lib.hid (K1.out.trans (hb.mono K1.out.size))
    have G2 := Lib.hid hd
    have HO2 := Lib.hid (off_box (g := w.heap.size) hd K2.out rfl noint2')
    obtain ⟨hc2, hf2⟩ := bcell K2.out
    clear hb hd
    go_wp2
    refine bodyPost_ret (v := .agg #[.bool (false && decide (n.natAbs ≠ 0)), .slice A2 (digs n.natAbs).length c2]) (by simp [results, Tryd.results50, go_sem, hc2]) rfl ?_
    exact zr_give HS.out ((G2.out.set_off HO2.out _ _).set_off HO2.out _ _) ((((below1 w _).trans (K2.out.mono (by simp))).setCell (by simp) _).setCell (by simp) _)
end Go.Proofs.YtnfafgpnnpapdaaDoor
end

section
/-
  The reference's own text (astrolaberef01): at, Trim.
-/
namespace Go.Proofs.YtnfafgpnnpapdaaDoor
open Go.RowKit
set_option maxHeartbeats 400000 in
set_option maxRecDepth 100000 in
theorem rat_any (A : Option Addr) (c : Nat) (xs : List Nat) (i : Nat) (w : World) (h : Dg w A c xs) (hi : i ≤ 9223372036854775807) :
    Calls Tryd.prog 140 #[.slice A xs.length c, .int .i64 i] w fun e w' => e = .returned (.int .u64 (xs[i]?.getD 0 : Nat)) ∧ w = w' := by
  by_cases h1 : xs.length ≤ i
  · have d0 : decide (xs.length ≤ i) = true := by simp [h1]
    have HF : Hid ((0 : Int) = ((xs[i]?.getD 0 : Nat) : Int)) := by rw [List.getElem?_eq_none h1]; rfl
    clear h1
    go_enter Tryd.func140, Tryd.ntmps140
    go_wp2
    go_ret
    exact ⟨ret_i HF.out, rfl⟩
  · have d0 : decide (xs.length ≤ i) = false := by simp; omega
    obtain ⟨b, off, hA, hb, hcx⟩ := h.2.2 (by omega)
    have hx := hcx i (by omega)
    have hX := getD_lt h.2.1 i
    have hlt : i < xs.length := by omega
    generalize xs[i]?.getD 0 = x at *
    clear hcx h1 h
    subst hA
    go_enter Tryd.func140, Tryd.ntmps140
    go_wp2
    go_ret
    exact ⟨rfl, rfl⟩
/-- append(out, xs...) where xs has no array and no elements. -/
theorem wpList_append_nil {P : Program} {w : World} {ops : Array Oper} {rest : List Oper} {o : Oper} {a : Act} {Q : Exit → Act → World → Prop} (hgd : o.guard = none) (s x : Operand) (t : TypeId)
    (ho : o.op = .call { callee := .builtin .append, args := #[s, x], argTypes := #[t, t] }) (e : TypeId) (i : TypeInfo) (ht : P.underlying t = some (.slice e)) (hi : P.info? e = some i)
    (c : Nat) (hs : a.eval s = .slice none 0 0) (hx : a.eval x = .slice none 0 c) (h : wpList P ops Q rest (a.put o.dst (.slice none 0 0)) w) : wpList P ops Q (o :: rest) a w := by
  refine wpList_plain hgd fun K hK => ?_
  have hrun : (Builtin.append_ #[t, t] o.type #[.slice none 0 0, .slice none 0 c]).run P w = .ok (.slice none 0 0) w := by
    simp [Builtin.append_, run_underlying ht, sizeOf, typeInfo, hi, Builtin.lenOf, Builtin.firstCells]
  unfold Oper.wp
  simp [execOp, ho, resolve, invoke, builtin, hs, hx, hrun, Result.andThen]
  exact hK _ _ h
theorem rtrim_eq {xs : List Nat} {k : Nat} (hk32 : ok32 xs) (hk : k ≤ xs.length) (hz : ∀ j, k ≤ j → j < xs.length → xs[j]?.getD 0 = 0) (hl : 0 < k → xs[k - 1]?.getD 0 ≠ 0) : xs.take k = digs (val xs) := digs_take hk32 hk hz hl
set_option maxHeartbeats 2000000 in
set_option maxRecDepth 100000 in
theorem rtrim_f (A : Option Addr) (c : Nat) (xs : List Nat) (w : World) (h : Dg w A c xs) (hl : xs.length ≤ 16777216) :
    Calls Tryd.prog 126 #[.slice A xs.length c] w fun e w' => ∃ A' c', e = .returned (.slice A' (digs (val xs)).length c') ∧ Dg w' A' c' (digs (val xs)) ∧ Below w.heap.size w w' ∧ Fr w.heap.size A' := by
  obtain ⟨i0, hi, hz0, hz1, hz2⟩ := info_parts elem_info
  rcases A with _ | A
  · have h0 : xs = [] := by
      rcases Nat.eq_zero_or_pos xs.length with h0 | h0
      · exact List.eq_nil_of_length_eq_zero h0
      · obtain ⟨b, off, e, _⟩ := h.2.2 h0
        cases e
    subst h0
    clear h hl
    rw [show val [] = 0 from rfl, digs_zero]
    go_enter Tryd.func126, Tryd.ntmps126
    go_wp2
    go_loop [3] (fun n => n = .int .i64 0) (fun n => (intOf n).toNat)
    case atStart => rfl
    case round =>
      subst hrel
      go_wp2_with (at_builtin; refine wpList_append_nil rfl _ _ 22 rfl 67 i0 Tryd.underlying22 hi c rfl rfl ?_)
      go_ret
      exact ⟨none, 0, rfl, Dg.nil_ _ _, Below.refl _ _, fr_none _⟩
  · have H := Lib.hid h
    have hcap := h.1
    clear h
    go_enter Tryd.func126, Tryd.ntmps126
    go_wp2
    go_loop [3] (fun n => ∃ k : Nat, k ≤ xs.length ∧ n = .int .i64 k ∧ Hid (∀ j, k ≤ j → j < xs.length → xs[j]?.getD 0 = 0)) (fun n => (intOf n).toNat)
    case atStart => exact ⟨xs.length, Nat.le_refl _, rfl, fun j h1 h2 => by omega⟩
    case round =>
      obtain ⟨k, hk, rfl, hz⟩ := hrel
      by_cases hk0 : k = 0
      · subst hk0
        have HT := Lib.hid (show ([] : List Value) = cells (digs (val xs)) from by rw [← digs_take H.out.2.1 hk hz (fun h => absurd h (by omega))]; rfl)
        clear hz hk
        go_wp2_with (at_builtin; refine wpList_append_own _ rfl _ _ 22 rfl w.heap.size 67 i0 (.int .u32 0) 1 4 Tryd.underlying22 hi hz0 hz1 hz2 rfl (by decide) _ _ _ rfl (World.ownsRow_nil _ _ _ _) A 0 c [] rfl rfl (fun j u hj => by simp at hj) (fun u hu => by simp at hu) (by unfold maxLen; omega) (by omega) (Nat.le_refl _) ?_)
        intro v' w1 hown hgrow hnil
        try simp only [Nat.add_zero, List.append_nil] at hown
        rw [HT.out] at hown
        obtain ⟨A', c', hv, hd, hfr⟩ := dg_of_own_f hown (ok_digs _)
        have HV := Lib.hid hv
        have HFR := Lib.hid hfr
        clear hfr hv hown hnil
        go_wp2
        go_ret
        exact ⟨A', c', by rw [← HV.out]; rfl, hd, (Below.refl _ w).grown hgrow (Nat.le_refl _) (by intro k hk; simp [Value.ownBlock] at hk), HFR.out⟩
      · obtain ⟨b, off, hA, hb, hcell⟩ := H.out.2.2 (by omega)
        have hc1 := hcell (k - 1) (by omega)
        have hkc : k ≤ c := by omega
        have hk1 : 0 < k := by omega
        injection hA with hA
        by_cases hx : xs[k - 1]?.getD 0 = 0
        · have hx' : ((xs[k - 1]?.getD 0 : Nat) == (0 : Int)) = true := by rw [hx]; rfl
          have HX := Lib.hid hx
          clear hcell hx
          subst hA
          go_wp2
          go_round
          case rel =>
            refine ⟨k - 1, by omega, by go_num, fun j h1 h2 => ?_⟩
            by_cases hj : j = k - 1
            · subst hj; exact HX.out
            · exact hz j (by omega) h2
          case measure => simp [intOf]; omega
        · have hx' : ((xs[k - 1]?.getD 0 : Nat) == (0 : Int)) = false := by simp; omega
          have HT := Lib.hid (show cells (xs.take k) = cells (digs (val xs)) from by rw [digs_take H.out.2.1 hk hz (fun _ => hx)])
          clear hcell hx
          subst hA
          go_wp2_with (at_builtin; refine wpList_append_own _ rfl _ _ 22 rfl w.heap.size 67 i0 (.int .u32 0) 1 4 Tryd.underlying22 hi hz0 hz1 hz2 rfl (by decide) _ _ _ rfl (World.ownsRow_nil _ _ _ _) ⟨b, off, none⟩ k c (cells (xs.take k)) rfl ?qc1 ?qc2 ?qc3 ?qc4 ?qc5 ?qc6 ?_)
          case qc1 => simp [cells] <;> omega
          case qc2 =>
            intro j u hj
            obtain ⟨hlt, rfl⟩ := cells_get hj
            rw [List.length_take] at hlt
            have h1 : j < k := Nat.lt_of_lt_of_le hlt (Nat.min_le_left _ _)
            have h2 : j < xs.length := Nat.lt_of_lt_of_le hlt (Nat.min_le_right _ _)
            rw [List.getElem?_take, if_pos h1]
            have hdc := dg_cell H.out (cells_at h2)
            rw [Addr.add_lit] at hdc
            exact hdc
          case qc3 => intro u hu; unfold cells at hu; obtain ⟨x, _, rfl⟩ := List.mem_map.1 hu; rfl
          case qc4 => unfold maxLen; omega
          case qc5 => omega
          intro v' w1 hown hgrow hnil
          rw [HT.out] at hown
          obtain ⟨A', c', hv, hd, hfr⟩ := dg_of_own_f hown (ok_digs _)
          have HV := Lib.hid hv
          have HFR := Lib.hid hfr
          clear hfr hv hown hnil
          go_wp2
          go_ret
          exact ⟨A', c', by rw [← HV.out]; rfl, hd, (Below.refl _ w).grown hgrow (Nat.le_refl _) (by intro k hk; simp [Value.ownBlock] at hk), HFR.out⟩
theorem rtrim_any (A : Option Addr) (c : Nat) (xs : List Nat) (w : World) (h : Dg w A c xs) (hl : xs.length ≤ 16777216) :
    Calls Tryd.prog 126 #[.slice A xs.length c] w fun e w' => ∃ A' c', e = .returned (.slice A' (digs (val xs)).length c') ∧ Dg w' A' c' (digs (val xs)) ∧ Below w.heap.size w w' :=
  (rtrim_f A c xs w h hl).mono fun _ _ ⟨A', c', h1, h2, h3, _⟩ => ⟨A', c', h1, h2, h3⟩
end Go.Proofs.YtnfafgpnnpapdaaDoor
end

section
/-
  The reference's own text (astrolaberef01): Small, Bits, Bit, From, Cmp.
-/
namespace Go.Proofs.YtnfafgpnnpapdaaDoor
open Go.RowKit
theorem or_join' (a b : Nat) (ha : a < 4294967296) (hb : b < 4294967296) : bits BinOp.or IntKind.u64 (a : Int) ((b : Int) * 4294967296) = ((a + 4294967296 * b : Nat) : Int) := by
  have e : (b : Int) * 4294967296 = ((b * 4294967296 : Nat) : Int) := by omega
  rw [e, u64_or_nat _ _ (by omega) (by omega), Nat.or_comm, nat_join 32 _ _ (by omega) (by omega)]
  congr 1
  omega
set_option maxHeartbeats 1000000 in
set_option maxRecDepth 100000 in
theorem rbits_any (A : Option Addr) (c : Nat) (xs : List Nat) (w : World) (h : Dg w A c xs) (hl : xs.length ≤ 16777216) :
    Calls Tryd.prog 88 #[.slice A xs.length c] w fun e w' => e = .returned (.int .i64 (blen (val xs))) ∧ Below w.heap.size w w' := by
  have l1 := digs_len_le h.2.1
  have H := Lib.hid h
  clear h
  go_enter Tryd.func88, Tryd.ntmps88
  go_wp2_with fail
  refine (rtrim_any A c xs _ H.out hl).mono ?_
  rintro e w1 ⟨A1, c1, rfl, h1, hb⟩
  have H1 := Lib.hid h1
  have HB := Lib.hid hb
  clear h1 hb
  by_cases h0 : val xs = 0
  · have e0 : digs (val xs) = [] := by rw [h0, digs_zero]
    have HF := Lib.hid (show (0 : Int) = (blen (val xs) : Int) from by rw [h0, blen_zero]; rfl)
    rw [e0]
    clear h0 e0
    go_wp2
    go_ret
    exact ⟨ret_i HF.out, HB.out⟩
  · have hb := blen_digs (val xs) h0
    have hn : (digs (val xs)).length ≠ 0 := fun h => h0 (digs_nil.1 h)
    have ok := ok_digs (val xs)
    generalize digs (val xs) = X at *
    obtain ⟨b, off, hA, hbk, hcx⟩ := H1.out.2.2 (by omega)
    have hx := hcx (X.length - 1) (by omega)
    have hlt := getD_lt ok (X.length - 1)
    generalize X[X.length - 1]?.getD 0 = d at *
    have hbl : blen d ≤ 64 := by rw [blen_eq _ (by omega)]; exact Lib.bitLen_le d 64 (by omega) (by omega)
    have HBL := Lib.hid hb
    have t0 : 0 < X.length := by omega
    have t1 : ((X.length : Int) == 0) = false := beq_eq_false_iff_ne.2 (by omega)
    clear hcx hb h0 hn ok
    subst hA
    go_wp2
    go_loop [4, 5] (fun bi kk => ∃ i k : Nat, bi = .int .i64 (32 * ((X.length : Int) - 1) + i) ∧ kk = .int .u32 k ∧ k < 4294967296 ∧ Hid (i + blen k = blen d)) (fun _ kk => (intOf kk).toNat)
    case atStart => exact ⟨0, d, by go_num, rfl, hlt, by simp [Hid]⟩
    case round =>
      obtain ⟨i, k, rfl, rfl, hk, HE⟩ := hrel
      have hi : i ≤ 64 := by have := HE.out; omega
      by_cases h0 : k = 0
      · subst h0
        have HI := Lib.hid (show (32 * ((X.length : Int) - 1) + i) = (blen (val xs) : Int) from by have := HE.out; rw [blen_zero] at this; rw [HBL.out]; omega)
        clear HE
        go_wp2
        go_ret
        exact ⟨ret_i HI.out, HB.out⟩
      · have hkp : 0 < k := by omega
        have HK := Lib.hid (blen_pos h0)
        go_wp2
        go_round
        case rel => exact ⟨i + 1, k / 2, by go_num, by go_num, by omega, by have := HE.out; rw [HK.out] at this; show i + 1 + blen (k / 2) = blen d; omega⟩
        case measure => simp [intOf]; omega
set_option maxHeartbeats 1000000 in
set_option maxRecDepth 100000 in
theorem rbit_any (A : Option Addr) (c : Nat) (xs : List Nat) (i : Int) (w : World) (h : Dg w A c xs) (hl : xs.length ≤ 16777216) (hi : -9223372036854775808 ≤ i) (hi' : i ≤ 9223372036854775807) :
    Calls Tryd.prog 107 #[.slice A xs.length c, .int .i64 i] w fun e w' => e = .returned (.bool (bitAt (val xs) i)) ∧ w = w' := by
  by_cases h0 : i < 0
  · have HF : Hid (false = bitAt (val xs) i) := by unfold bitAt; rw [decide_eq_false (by omega)]; rfl
    have d0 : decide (i < 0) = true := by simp; omega
    go_enter Tryd.func107, Tryd.ntmps107
    go_wp2
    go_ret
    exact ⟨ret_b HF.out, rfl⟩
  · obtain ⟨n, rfl⟩ := Int.eq_ofNat_of_zero_le (show 0 ≤ i by omega)
    have hb := val_bit xs (n / 32) (n % 32) h.2.1 (by omega)
    rw [show 32 * (n / 32) + n % 32 = n by omega] at hb
    have HF : Hid (bitAt (val xs) n = (xs[n / 32]?.getD 0).testBit (n % 32)) := by unfold bitAt; rw [decide_eq_true (by omega), Int.toNat_natCast, hb]; rfl
    clear hb
    by_cases h1 : xs.length ≤ n / 32
    · have d1 : decide ((xs.length : Int) ≤ (n : Int) / 32) = true := by simp; omega
      have HG : Hid (xs[n / 32]?.getD 0 = 0) := by rw [List.getElem?_eq_none h1]; rfl
      clear h1 h0
      go_enter Tryd.func107, Tryd.ntmps107
      go_wp2
      go_ret
      exact ⟨ret_b (by rw [HF.out, HG.out]; simp), rfl⟩
    · obtain ⟨b, off, hA, hbk, hcx⟩ := h.2.2 (by omega)
      have hx := hcx (n / 32) (by omega)
      have hlt := getD_lt h.2.1 (n / 32)
      have h2 : n / 32 < xs.length := by omega
      generalize xs[n / 32]?.getD 0 = d at *
      clear hcx h1 h0 h
      subst hA
      go_enter Tryd.func107, Tryd.ntmps107
      go_wp2
      go_ret
      refine ⟨ret_b ?_, rfl⟩
      simp only [HF.out]
      exact bit_fin d (n % 32) hlt
set_option maxHeartbeats 400000 in
set_option maxRecDepth 100000 in
theorem rfrom_any (n : Nat) (w : World) (hn : n < 18446744073709551616) :
    Calls Tryd.prog 110 #[.int .u64 n] w fun e w' => ∃ A' c', e = .returned (.slice A' (digs n).length c') ∧ Dg w' A' c' (digs n) ∧ Below w.heap.size w w' := by
  have hv : val [n % 4294967296, n / 4294967296] = n := by simp only [val]; omega
  have hd := dg_two w ((n : Int) % 4294967296) ((n : Int) / 4294967296) (n % 4294967296) (n / 4294967296) (by omega) (by omega) 67 (by omega) (by omega)
  have hs := rtrim_any _ _ _ _ hd (by simp)
  rw [hv] at hs
  have HS := Lib.hid hs
  clear hs hv hd
  go_enter Tryd.func110, Tryd.ntmps110
  go_wp2_with fail
  refine Calls.mono (show Calls Tryd.prog 126 #[.slice _ 2 2] _ _ from HS.out) ?_
  rintro e w' ⟨A1, c1, rfl, h1, hb⟩
  have H1 := Lib.hid h1
  clear h1
  go_wp2
  go_ret
  exact ⟨A1, c1, rfl, H1.out, ((Below.refl _ _).alloc (Nat.le_refl _) _).trans (hb.mono (by simp))⟩
end Go.Proofs.YtnfafgpnnpapdaaDoor
end

section
/-
  The reference's own text (astrolaberef01): Cmp, Add, Sub.
-/
namespace Go.Proofs.YtnfafgpnnpapdaaDoor
open Go.RowKit
/-- A list with noughts behind. -/
def pad (xs : List Nat) (N : Nat) : List Nat := xs ++ List.replicate (N - xs.length) 0
theorem pad_len {xs : List Nat} {N : Nat} (h : xs.length ≤ N) : (pad xs N).length = N := by simp [pad]; omega
theorem pad_val (xs : List Nat) (N : Nat) : val (pad xs N) = val xs := by rw [pad, val_append, val_zeros]; simp
theorem pad_ok {xs : List Nat} (N : Nat) (h : ok32 xs) : ok32 (pad xs N) := by
  intro x hx
  rcases List.mem_append.1 hx with hx | hx
  · exact h x hx
  · rw [List.eq_of_mem_replicate hx]; omega
theorem pad_get (xs : List Nat) (N j : Nat) : (pad xs N)[j]?.getD 0 = xs[j]?.getD 0 := by
  rcases Nat.lt_or_ge j xs.length with h | h
  · rw [pad, List.getElem?_append_left h]
  · rw [pad, List.getElem?_append_right h, List.getElem?_eq_none h, List.getElem?_replicate]
    split <;> rfl
theorem val_take_step (xs : List Nat) (k : Nat) : val (xs.take (k + 1)) = val (xs.take k) + 4294967296 ^ k * (xs[k]?.getD 0) := by
  rcases Nat.lt_or_ge k xs.length with h | h
  · rw [take_one h, val_snoc, List.length_take, Nat.min_eq_left (by omega)]
  · rw [List.take_of_length_le (by omega), List.take_of_length_le h, List.getElem?_eq_none h]; simp
theorem val_take_mod {xs : List Nat} (h : ok32 xs) (k : Nat) : val (xs.take k) = val xs % 4294967296 ^ k := by
  have e : val xs = val (xs.take k) + 4294967296 ^ k * val (xs.drop k) := by
    rcases Nat.lt_or_ge k xs.length with hl | hl
    · conv => lhs; rw [← List.take_append_drop k xs, val_append]
      rw [List.length_take, Nat.min_eq_left (by omega)]
    · rw [List.take_of_length_le hl, List.drop_eq_nil_of_le hl]; simp [val]
  have hlt : val (xs.take k) < 4294967296 ^ k := by
    have h1 := val_lt (xs := xs.take k) (fun x hx => h x (List.mem_of_mem_take hx))
    rw [List.length_take] at h1
    exact Nat.lt_of_lt_of_le h1 (Nat.pow_le_pow_right (by omega) (Nat.min_le_left _ _))
  rw [e, Nat.add_mul_mod_self_left, Nat.mod_eq_of_lt hlt]
theorem pad_lt {xs ys : List Nat} {N k : Nat} (hx : ok32 xs) (hy : ok32 ys) (lx : xs.length ≤ N) (ly : ys.length ≤ N) (hk : k < N) (hj : ∀ j, k < j → j < N → xs[j]?.getD 0 = ys[j]?.getD 0) (h : xs[k]?.getD 0 < ys[k]?.getD 0) : val xs < val ys := by
  rw [← pad_val xs N, ← pad_val ys N]
  exact val_lt_at _ _ k (by rw [pad_len lx, pad_len ly]) (pad_ok N hx) (pad_ok N hy) (by rw [pad_len lx]; exact hk) (fun j a b => by rw [pad_len lx] at b; rw [pad_get, pad_get]; exact hj j a b) (by rw [pad_get, pad_get]; exact h)
theorem pad_eq {xs ys : List Nat} {N : Nat} (lx : xs.length ≤ N) (ly : ys.length ≤ N) (hj : ∀ j, j < N → xs[j]?.getD 0 = ys[j]?.getD 0) : val xs = val ys := by
  rw [← pad_val xs N, ← pad_val ys N]
  exact congrArg val (val_eq_of (by rw [pad_len lx, pad_len ly]) (fun j b => by rw [pad_len lx] at b; rw [pad_get, pad_get]; exact hj j b))
set_option maxHeartbeats 2000000 in
set_option maxRecDepth 100000 in
theorem rcmp_any (A B : Option Addr) (c d : Nat) (xs ys : List Nat) (w : World) (h : Dg w A c xs) (h' : Dg w B d ys) (hl : xs.length ≤ 16777216) (hl' : ys.length ≤ 16777216) :
    Calls Tryd.prog 114 #[.slice A xs.length c, .slice B ys.length d] w fun e w' => e = .returned (.int .i64 (cmpi (val xs) (val ys))) ∧ w = w' := by
  have hN : ∃ N : Nat, max (xs.length : Int) (ys.length : Int) = (N : Int) ∧ xs.length ≤ N ∧ ys.length ≤ N ∧ N ≤ 16777216 := ⟨max xs.length ys.length, by omega, by omega, by omega, by omega⟩
  obtain ⟨N, eN, n1, n2, n3⟩ := hN
  have EN := Lib.hid eN
  have RX := Lib.hid (fun (k : Nat) (hk : k ≤ 9223372036854775807) => rat_any A c xs k w h hk)
  have RY := Lib.hid (fun (k : Nat) (hk : k ≤ 9223372036854775807) => rat_any B d ys k w h' hk)
  have O1 := Lib.hid h.2.1
  have O2 := Lib.hid h'.2.1
  clear eN h h'
  go_enter Tryd.func114, Tryd.ntmps114
  go_wp2
  go_loop [5] (fun i => ∃ k : Nat, k ≤ N ∧ i = .int .i64 (↑k - 1) ∧ Hid (∀ j, k ≤ j → j < N → xs[j]?.getD 0 = ys[j]?.getD 0)) (fun i => (intOf i + 1).toNat)
  case atStart => exact ⟨N, Nat.le_refl _, congrArg (Value.int .i64) (by rw [EN.out]), fun j a b => by omega⟩
  case round =>
    obtain ⟨k, hk, rfl, hz⟩ := hrel
    rcases k with _ | k
    · rw [show (((0 : Nat) : Int) - 1) = -1 from rfl]
      have HF := Lib.hid (cmpi_eq (a := val xs) (b := val ys) (pad_eq n1 n2 (fun j hj => hz j (Nat.zero_le _) hj)))
      go_wp2
      go_ret
      exact ⟨ret_i HF.out.symm, rfl⟩
    · rw [show (((k + 1 : Nat) : Int) - 1) = (k : Int) from by omega]
      have hX := getD_lt O1.out k
      have hY := getD_lt O2.out k
      have rx := Lib.hid (RX.out k (by omega))
      have ry := Lib.hid (RY.out k (by omega))
      have HJ := Lib.hid (fun j (a : k < j) (b : j < N) => hz j (by omega) b)
      rcases Nat.lt_trichotomy (xs[k]?.getD 0) (ys[k]?.getD 0) with h | h | h
      · have HF := Lib.hid (cmpi_lt (pad_lt O1.out O2.out n1 n2 (by omega) HJ.out h))
        have d0 : decide (xs[k]?.getD 0 < ys[k]?.getD 0) = true := by simp [h]
        clear h
        go_wp2_with fail
        refine rx.out.mono ?_
        rintro e w' ⟨rfl, rfl⟩
        go_wp2_with fail
        refine ry.out.mono ?_
        rintro e w' ⟨rfl, rfl⟩
        go_wp2
        go_ret
        exact ⟨ret_i HF.out.symm, rfl⟩
      · have HX := Lib.hid h
        have d0 : decide (xs[k]?.getD 0 < ys[k]?.getD 0) = false := by simp; omega
        have d1 : decide (ys[k]?.getD 0 < xs[k]?.getD 0) = false := by simp; omega
        clear h
        go_wp2_with fail
        refine rx.out.mono ?_
        rintro e w' ⟨rfl, rfl⟩
        go_wp2_with fail
        refine ry.out.mono ?_
        rintro e w' ⟨rfl, rfl⟩
        go_wp2_with fail
        refine rx.out.mono ?_
        rintro e w' ⟨rfl, rfl⟩
        go_wp2_with fail
        refine ry.out.mono ?_
        rintro e w' ⟨rfl, rfl⟩
        go_wp2
        go_round
        case rel =>
          refine ⟨k, by omega, rfl, fun j a b => ?_⟩
          rcases Nat.eq_or_lt_of_le a with e | e
          · subst e; exact HX.out
          · exact hz j (by omega) b
        case measure => simp [intOf] <;> omega
      · have HF := Lib.hid (cmpi_gt (pad_lt O2.out O1.out n2 n1 (by omega) (fun j a b => (HJ.out j a b).symm) h))
        have d0 : decide (xs[k]?.getD 0 < ys[k]?.getD 0) = false := by simp; omega
        have d1 : decide (ys[k]?.getD 0 < xs[k]?.getD 0) = true := by simp [h]
        clear h
        go_wp2_with fail
        refine rx.out.mono ?_
        rintro e w' ⟨rfl, rfl⟩
        go_wp2_with fail
        refine ry.out.mono ?_
        rintro e w' ⟨rfl, rfl⟩
        go_wp2_with fail
        refine rx.out.mono ?_
        rintro e w' ⟨rfl, rfl⟩
        go_wp2_with fail
        refine ry.out.mono ?_
        rintro e w' ⟨rfl, rfl⟩
        go_wp2
        go_ret
        exact ⟨ret_i HF.out.symm, rfl⟩
theorem rsum_step {xs ys zs : List Nat} {k s d c t : Nat} (hz : zs.length = k) (h : val zs + 4294967296 ^ k * c = val (xs.take k) + val (ys.take k))
    (hs : s + 4294967296 * d = xs[k]?.getD 0 + ys[k]?.getD 0 + c) (ht : t = s) : val (zs ++ [t]) + 4294967296 ^ (k + 1) * d = val (xs.take (k + 1)) + val (ys.take (k + 1)) := by
  subst ht
  rw [val_take_step, val_take_step, val_snoc, hz, Nat.pow_succ]
  have : 4294967296 ^ k * t + 4294967296 ^ k * 4294967296 * d = 4294967296 ^ k * (xs[k]?.getD 0) + 4294967296 ^ k * (ys[k]?.getD 0) + 4294967296 ^ k * c := by
    rw [Nat.mul_assoc, ← Nat.mul_add, hs, Nat.mul_add, Nat.mul_add]
  omega
theorem sum_end {a b c p q z : Nat} (h : c + p * z = a + b) (ha : a < q) (hb : b < q) (hp : 2 * q ≤ p) : c = a + b := by
  rcases z with _ | z
  · omega
  · have : p ≤ p * (z + 1) := Nat.le_mul_of_pos_right _ (by omega)
    omega
theorem pow_twice (N : Nat) : 2 * 4294967296 ^ N ≤ 4294967296 ^ (N + 1) := by
  rw [Nat.pow_succ]
  have := Nat.mul_le_mul_left (4294967296 ^ N) (show 2 ≤ 4294967296 by omega)
  rw [Nat.mul_comm 2]
  exact this
theorem rsum_end {xs ys zs : List Nat} {N z : Nat} (o1 : ok32 xs) (o2 : ok32 ys) (n1 : xs.length ≤ N) (n2 : ys.length ≤ N) (h : val zs + 4294967296 ^ (N + 1) * z = val (xs.take (N + 1)) + val (ys.take (N + 1))) : val zs = val xs + val ys := by
  rw [List.take_of_length_le (by omega), List.take_of_length_le (by omega)] at h
  exact sum_end h (Nat.lt_of_lt_of_le (val_lt o1) (Nat.pow_le_pow_right (by omega) n1)) (Nat.lt_of_lt_of_le (val_lt o2) (Nat.pow_le_pow_right (by omega) n2)) (pow_twice N)
theorem ok_snoc {zs : List Nat} (h : ok32 zs) {x : Nat} (hx : x < 4294967296) : ok32 (zs ++ [x]) := by
  intro z hz
  rcases List.mem_append.1 hz with hz | hz
  · exact h z hz
  · simp at hz; omega
theorem own_snoc {w : World} {base : Nat} {e : TypeId} {v : Value} {k : Nat} {zs : List Nat} {x : Int} {t : Nat} (h : w.ownsRow base e 1 v (k + 1) (cells zs ++ [.int .u32 x])) (hx : x = (t : Int)) : w.ownsRow base e 1 v (k + 1) (cells (zs ++ [t])) := by
  subst hx
  simpa [cells] using h
theorem cell_new (w : World) (x : Value) (t : TypeId) : ∀ j u, [x][j]? = some u → (w.alloc (.cells #[x] t)).cell? ((⟨w.heap.size, 0, none⟩ : Addr).add j) = some u := by
  intro j u hj
  match j, hj with
  | 0, hj =>
    simp at hj; subst hj
    rw [Addr.add_lit, cell_of_row _ _ _ _ _ _ (heap_alloc_new w _)]
    rfl
set_option maxHeartbeats 4000000 in
set_option maxRecDepth 100000 in
theorem radd_any (A B : Option Addr) (c d : Nat) (xs ys : List Nat) (w : World) (h : Dg w A c xs) (h' : Dg w B d ys) (hl : xs.length ≤ 1048576) (hl' : ys.length ≤ 1048576) :
    Calls Tryd.prog 117 #[.slice A xs.length c, .slice B ys.length d] w fun e w' => ∃ A' c', e = .returned (.slice A' (digs (val xs + val ys)).length c') ∧ Dg w' A' c' (digs (val xs + val ys)) ∧ Below w.heap.size w w' := by
  have hN : ∃ N : Nat, max (xs.length : Int) (ys.length : Int) = (N : Int) ∧ xs.length ≤ N ∧ ys.length ≤ N ∧ N ≤ 1048576 := ⟨max xs.length ys.length, by omega, by omega, by omega, by omega⟩
  obtain ⟨N, eN, n1, n2, n3⟩ := hN
  obtain ⟨i0, hinf, hz0, hz1, hz2⟩ := info_parts elem_info
  have H := Lib.hid h
  have H' := Lib.hid h'
  have O1 := Lib.hid h.2.1
  have O2 := Lib.hid h'.2.1
  clear h h'
  go_enter Tryd.func117, Tryd.ntmps117
  go_wp2
  go_loopw [5, 6, 7] (fun v cy i wr => ∃ (k z : Nat) (zs : List Nat), k ≤ N + 1 ∧ i = .int .i64 k ∧ cy = .int .u64 z ∧ z ≤ 1 ∧ wr.ownsRow w.heap.size 67 1 v k (cells zs) ∧ Hid (zs.length = k) ∧ ok32 zs ∧
    Hid (val zs + 4294967296 ^ k * z = val (xs.take k) + val (ys.take k)) ∧ Below w.heap.size w wr) (fun _ _ i _ => N + 1 - (intOf i).toNat)
  case atStart => exact ⟨0, 0, [], Nat.zero_le _, rfl, rfl, by omega, World.ownsRow_nil _ _ _ _, by simp [Hid], by intro x hx; simp at hx, by simp [Hid, val], Below.refl _ _⟩
  case round =>
    obtain ⟨k, z, zs, hk, rfl, rfl, hz, hown, HL, hok, HE, hbel⟩ := hrel
    by_cases hlt : k < N + 1
    · have d0 : decide ((k : Int) < max (xs.length : Int) (ys.length : Int) + 1) = true := by rw [eN]; simp; omega
      have rx := Lib.hid (rat_any A c xs k wr (H.out.keep hbel.size (fun b o h => hbel.cell (p := ⟨b, o, none⟩) h)) (by omega))
      have ry := Lib.hid (rat_any B d ys k wr (H'.out.keep hbel.size (fun b o h => hbel.cell (p := ⟨b, o, none⟩) h)) (by omega))
      have hX := getD_lt O1.out k
      have hY := getD_lt O2.out k
      generalize ex : xs[k]?.getD 0 = x at *
      generalize ey : ys[k]?.getD 0 = y at *
      have HX := Lib.hid ex
      have HY := Lib.hid ey
      clear ex ey eN
      go_wp2_with fail
      refine rx.out.mono ?_
      rintro e w' ⟨rfl, rfl⟩
      go_wp2_with fail
      refine ry.out.mono ?_
      rintro e w' ⟨rfl, rfl⟩
      go_wp2_with (at_builtin; refine wpList_append_own _ rfl _ _ 22 rfl w.heap.size 67 i0 (.int .u32 0) 1 4 Tryd.underlying22 hinf hz0 hz1 hz2 rfl (by decide) _ _ _ rfl (hown.alloc _) ⟨wr.heap.size, 0, none⟩ 1 1 [.int .u32 (((x : Int) + y + z) % 4294967296)] rfl rfl (cell_new _ _ _) (fun u hu => by simp at hu; subst hu; rfl) (by unfold maxLen; omega) (by omega) (by have := hbel.size; simp; omega) ?_)
      intro v' w1 hown1 hgrow hnil
      have e1 : ((x : Int) + y + z) % 4294967296 = (lo (x + y + z) : Nat) := by unfold lo; omega
      have hown2 := Lib.hid (own_snoc hown1 e1)
      have hb1 := Lib.hid ((hbel.alloc hbel.size _).grown hgrow (by simp; have := hbel.size; omega) (fun g hg => (hown.lt g hg).1))
      clear hown1 hgrow hnil hown e1
      go_wp2
      go_roundw
      case rel =>
        have hp := lo_hi (x + y + z)
        have hq := lo_lt (x + y + z)
        have e2 : ((x : Int) + y + z) / 4294967296 = (hi (x + y + z) : Nat) := by unfold hi; omega
        exact ⟨k + 1, hi (x + y + z), zs ++ [lo (x + y + z)], hlt, by go_num, by rw [e2], by omega, hown2.out, by have := HL.out; simp [Hid]; omega, ok_snoc hok hq,
          rsum_step HL.out HE.out (by rw [HX.out, HY.out]; exact hp) rfl, hb1.out⟩
      case measure => simp [intOf]; omega
    · have hk' : k = N + 1 := by omega
      have d0 : decide ((k : Int) < max (xs.length : Int) (ys.length : Int) + 1) = false := by rw [eN]; simp; omega
      obtain ⟨A2, c2, hv, hd⟩ := dg_of_own hown hok
      have HV := Lib.hid (show val zs = val xs + val ys from by
        have h1 := HE.out
        rw [hk'] at h1
        exact rsum_end O1.out O2.out n1 n2 h1)
      have HD := Lib.hid (rtrim_any A2 c2 zs wr hd (by have := HL.out; omega))
      rw [HV.out] at HD
      subst hv
      clear hown hd eN hlt
      go_wp2_with fail
      refine HD.out.mono ?_
      rintro e w2 ⟨A3, c3, rfl, h3, hb3⟩
      have H3 := Lib.hid h3
      have HB3 := Lib.hid hb3
      clear h3 hb3
      go_wp2
      go_ret
      exact ⟨A3, c3, rfl, H3.out, hbel.trans (HB3.out.mono hbel.size)⟩
end Go.Proofs.YtnfafgpnnpapdaaDoor
end

section
/-
  The reference's own text (astrolaberef01): Sub, Mul.
-/
namespace Go.Proofs.YtnfafgpnnpapdaaDoor
open Go.RowKit
theorem rsub_step {xs ys zs : List Nat} {k s d c t : Nat} (hz : zs.length = k) (h : val (xs.take k) + 4294967296 ^ k * c = val zs + val (ys.take k))
    (hs : s + ys[k]?.getD 0 + c = xs[k]?.getD 0 + 4294967296 * d) (ht : t = s) : val (xs.take (k + 1)) + 4294967296 ^ (k + 1) * d = val (zs ++ [t]) + val (ys.take (k + 1)) := by
  subst ht
  rw [val_take_step, val_take_step, val_snoc, hz, Nat.pow_succ]
  have : 4294967296 ^ k * (xs[k]?.getD 0) + 4294967296 ^ k * 4294967296 * d = 4294967296 ^ k * t + 4294967296 ^ k * (ys[k]?.getD 0) + 4294967296 ^ k * c := by
    rw [Nat.mul_assoc, ← Nat.mul_add, ← hs, Nat.mul_add, Nat.mul_add]
  omega
theorem rsub_end {xs ys zs : List Nat} {d : Nat} (o1 : ok32 xs) (o2 : ok32 ys) (o3 : ok32 zs) (hz : zs.length = xs.length) (hle : val ys ≤ val xs) (h : val (xs.take xs.length) + 4294967296 ^ xs.length * d = val zs + val (ys.take xs.length)) : val zs = val xs - val ys := by
  have hy : val (ys.take xs.length) = val ys := by
    rw [val_take_mod o2, Nat.mod_eq_of_lt (Nat.lt_of_le_of_lt hle (val_lt o1))]
  rw [List.take_of_length_le (Nat.le_refl _), hy] at h
  exact sub_end h (by rw [← hz]; exact val_lt o3) hle
set_option maxHeartbeats 1000000 in
set_option maxRecDepth 100000 in
theorem rsub_no (A B : Option Addr) (c d : Nat) (xs ys : List Nat) (w : World) (h : Dg w A c xs) (h' : Dg w B d ys) (hl : xs.length ≤ 1048576) (hl' : ys.length ≤ 1048576) (hlt : val xs < val ys) :
    Calls Tryd.prog 118 #[.slice A xs.length c, .slice B ys.length d] w fun e w' => e = .returned (.tuple #[.slice none 0 0, .bool false]) ∧ w = w' := by
  have HC := Lib.hid (rcmp_any A B c d xs ys w h h' (by omega) (by omega))
  rw [cmpi_lt hlt] at HC
  clear h h' hlt
  go_enter Tryd.func118, Tryd.ntmps118
  go_wp2_with fail
  refine HC.out.mono ?_
  rintro e w' ⟨rfl, rfl⟩
  go_wp2
  go_ret2
  exact ⟨rfl, rfl⟩
set_option maxHeartbeats 4000000 in
set_option maxRecDepth 100000 in
theorem rsub_f (A B : Option Addr) (c d : Nat) (xs ys : List Nat) (w : World) (h : Dg w A c xs) (h' : Dg w B d ys) (hl : xs.length ≤ 1048576) (hl' : ys.length ≤ 1048576) (hge : val ys ≤ val xs) :
    Calls Tryd.prog 118 #[.slice A xs.length c, .slice B ys.length d] w fun e w' => ∃ A' c', e = .returned (.tuple #[.slice A' (digs (val xs - val ys)).length c', .bool true]) ∧ Dg w' A' c' (digs (val xs - val ys)) ∧ Below w.heap.size w w' ∧ Fr w.heap.size A' := by
  obtain ⟨i0, hinf, hz0, hz1, hz2⟩ := info_parts elem_info
  have HC := Lib.hid (rcmp_any A B c d xs ys w h h' (by omega) (by omega))
  have H := Lib.hid h
  have H' := Lib.hid h'
  have O1 := Lib.hid h.2.1
  have O2 := Lib.hid h'.2.1
  have HG := Lib.hid hge
  have hc0 : 0 ≤ cmpi (val xs) (val ys) := by
    rcases Nat.lt_or_ge (val ys) (val xs) with h | h
    · rw [cmpi_gt h]; omega
    · rw [cmpi_eq (by omega)]; omega
  clear h h' hge
  generalize cmpi (val xs) (val ys) = q at *
  have hq : decide (q < 0) = false := by simp; omega
  go_enter Tryd.func118, Tryd.ntmps118
  go_wp2_with fail
  refine HC.out.mono ?_
  rintro e w' ⟨rfl, rfl⟩
  go_wp2
  go_loopw [6, 7, 8] (fun v cy i wr => ∃ (k z : Nat) (zs : List Nat), k ≤ xs.length ∧ i = .int .i64 k ∧ cy = .int .u64 z ∧ z ≤ 1 ∧ wr.ownsRow w.heap.size 67 1 v k (cells zs) ∧ Hid (zs.length = k) ∧ ok32 zs ∧
    Hid (val (xs.take k) + 4294967296 ^ k * z = val zs + val (ys.take k)) ∧ Below w.heap.size w wr) (fun _ _ i _ => xs.length - (intOf i).toNat)
  case atStart => exact ⟨0, 0, [], Nat.zero_le _, rfl, rfl, by omega, World.ownsRow_nil _ _ _ _, by simp [Hid], by intro x hx; simp at hx, by simp [Hid, val], Below.refl _ _⟩
  case round =>
    obtain ⟨k, z, zs, hk, rfl, rfl, hz, hown, HL, hok, HE, hbel⟩ := hrel
    by_cases hlt : k < xs.length
    · have rx := Lib.hid (rat_any A c xs k wr (H.out.keep hbel.size (fun b o h => hbel.cell (p := ⟨b, o, none⟩) h)) (by omega))
      have ry := Lib.hid (rat_any B d ys k wr (H'.out.keep hbel.size (fun b o h => hbel.cell (p := ⟨b, o, none⟩) h)) (by omega))
      have hX := getD_lt O1.out k
      have hY := getD_lt O2.out k
      generalize ex : xs[k]?.getD 0 = x at *
      generalize ey : ys[k]?.getD 0 = y at *
      have HX := Lib.hid ex
      have HY := Lib.hid ey
      clear ex ey
      go_wp2_with fail
      refine rx.out.mono ?_
      rintro e w' ⟨rfl, rfl⟩
      go_wp2_with fail
      refine ry.out.mono ?_
      rintro e w' ⟨rfl, rfl⟩
      go_wp2_with (at_builtin; refine wpList_append_own _ rfl _ _ 22 rfl w.heap.size 67 i0 (.int .u32 0) 1 4 Tryd.underlying22 hinf hz0 hz1 hz2 rfl (by decide) _ _ _ rfl (hown.alloc _) ⟨wr.heap.size, 0, none⟩ 1 1 [.int .u32 (((x : Int) + 4294967296 - y - z) % 4294967296)] rfl rfl (cell_new _ _ _) (fun u hu => by simp at hu; subst hu; rfl) (by unfold maxLen; omega) (by omega) (by have := hbel.size; simp; omega) ?_)
      intro v' w1 hown1 hgrow hnil
      obtain ⟨hp, hq1, hq2⟩ := sub_parts hX hY hz
      have e1 : ((x : Int) + 4294967296 - y - z) % 4294967296 = (sublo x y z : Nat) := by unfold sublo; omega
      have e2 : 1 - ((x : Int) + 4294967296 - y - z) / 4294967296 = (subhi x y z : Nat) := by unfold subhi; split <;> omega
      have hown2 := Lib.hid (own_snoc hown1 e1)
      have HE2 := Lib.hid e2
      have HP := Lib.hid hp
      have hb1 := Lib.hid ((hbel.alloc hbel.size _).grown hgrow (by simp; have := hbel.size; omega) (fun g hg => (hown.lt g hg).1))
      clear hown1 hgrow hnil hown e1 e2 hp
      go_wp2
      go_roundw
      case rel =>
        exact ⟨k + 1, subhi x y z, zs ++ [sublo x y z], hlt, by go_num, by rw [HE2.out], by omega, hown2.out, by have := HL.out; simp [Hid]; omega, ok_snoc hok hq1,
          rsub_step HL.out HE.out (by rw [HX.out, HY.out]; exact HP.out) rfl, hb1.out⟩
      case measure => simp [intOf]; omega
    · have hk' : k = xs.length := by omega
      subst hk'
      obtain ⟨A2, c2, hv, hd⟩ := dg_of_own hown hok
      have HV := Lib.hid (rsub_end O1.out O2.out hok HL.out HG.out HE.out)
      have HD := Lib.hid (rtrim_f A2 c2 zs wr hd (by have := HL.out; omega))
      rw [HV.out] at HD
      subst hv
      clear hown hd hlt
      go_wp2_with fail
      refine HD.out.mono ?_
      rintro e w2 ⟨A3, c3, rfl, h3, hb3, hf3⟩
      have HF3 := Lib.hid hf3
      have H3 := Lib.hid h3
      have HB3 := Lib.hid hb3
      clear h3 hb3 hf3
      go_wp2
      go_ret2
      exact ⟨A3, c3, rfl, H3.out, hbel.trans (HB3.out.mono hbel.size), fun b o e => Nat.le_trans hbel.size (HF3.out b o e)⟩
theorem rsub_yes (A B : Option Addr) (c d : Nat) (xs ys : List Nat) (w : World) (h : Dg w A c xs) (h' : Dg w B d ys) (hl : xs.length ≤ 1048576) (hl' : ys.length ≤ 1048576) (hge : val ys ≤ val xs) :
    Calls Tryd.prog 118 #[.slice A xs.length c, .slice B ys.length d] w fun e w' => ∃ A' c', e = .returned (.tuple #[.slice A' (digs (val xs - val ys)).length c', .bool true]) ∧ Dg w' A' c' (digs (val xs - val ys)) ∧ Below w.heap.size w w' :=
  (rsub_f A B c d xs ys w h h' hl hl' hge).mono fun _ _ ⟨A', c', h1, h2, h3, _⟩ => ⟨A', c', h1, h2, h3⟩
end Go.Proofs.YtnfafgpnnpapdaaDoor
end

section
/-
  The reference's own text (astrolaberef01): Mul.
-/
namespace Go.Proofs.YtnfafgpnnpapdaaDoor
open Go.RowKit
theorem Row.new_zeros (w : World) (n : Nat) : Row (w.alloc (.cells (madeCells #[.int .u32 0] n) 67)) w.heap.size (List.replicate n 0) := Row.made w n
set_option maxHeartbeats 4000000 in
set_option maxRecDepth 100000 in
theorem rmul_any (A B : Option Addr) (c d : Nat) (xs ys : List Nat) (w : World) (h : Dg w A c xs) (h' : Dg w B d ys) (hl : xs.length ≤ 1048576) (hl' : ys.length ≤ 1048576) :
    Calls Tryd.prog 120 #[.slice A xs.length c, .slice B ys.length d] w fun e w' => ∃ A' c', e = .returned (.slice A' (digs (val xs * val ys)).length c') ∧ Dg w' A' c' (digs (val xs * val ys)) ∧ Below w.heap.size w w' := by
  have H := Lib.hid h
  have H' := Lib.hid h'
  have O1 := Lib.hid h.2.1
  have O2 := Lib.hid h'.2.1
  clear h h'
  have hmk := run_make_row' (P := Tryd.prog) 22 67 (.int .u32 0) 4 Tryd.underlying22 elem_info rfl .i64 .i64 (xs.length + ys.length) (by omega) (by omega)
  rw [show ((xs.length + ys.length : Nat) : Int) = (xs.length : Int) + (ys.length : Int) by omega] at hmk
  go_enter Tryd.func120, Tryd.ntmps120
  go_wp2
  go_loopw [6] (fun i wr => ∃ (k : Nat) (zs : List Nat), k ≤ xs.length ∧ i = .int .i64 k ∧ Row wr w.heap.size zs ∧ Hid (zs.length = xs.length + ys.length) ∧ ok32 zs ∧
    Hid (val (zs.take (k + ys.length)) = val (xs.take k) * val ys) ∧ Below w.heap.size w wr) (fun i _ => xs.length - (intOf i).toNat)
  case atStart => exact ⟨0, List.replicate (xs.length + ys.length) 0, Nat.zero_le _, rfl, Row.made _ _, by simp [Hid], ok_zeros _, by simp [Hid, val, List.take_replicate, val_zeros], (Below.refl _ _).alloc (Nat.le_refl _) _⟩
  case round =>
    obtain ⟨i, z0, hix, rfl, hrow0, HL0, hok0, HE0, hbel0⟩ := hrel
    by_cases hlt : i < xs.length
    · obtain ⟨b, off, hA, hb, hcx⟩ := H.out.2.2 (by omega)
      have hx0 := hcx i (by omega)
      have hX := getD_lt O1.out i
      generalize ex : xs[i]?.getD 0 = x at *
      have HX := Lib.hid ex
      clear ex hcx
      subst hA
      have HR0 := Lib.hid hrow0
      have HB0 := Lib.hid hbel0
      have hsz := hbel0.size
      clear hrow0 hbel0
      obtain ⟨wo, rfl⟩ : ∃ wo : World, wo = wr := ⟨_, rfl⟩
      go_wp2
      go_loopw [7, 8] (fun cy kk wr => ∃ (k cc : Nat) (zs : List Nat), k ≤ ys.length ∧ kk = .int .i64 k ∧ cy = .int .u64 cc ∧ cc < 4294967296 ∧ Row wr w.heap.size zs ∧ Hid (zs.length = z0.length) ∧ ok32 zs ∧ Hid (∀ j, i + k ≤ j → zs[j]? = z0[j]?) ∧
        Hid (val (zs.take (i + k)) + 4294967296 ^ (i + k) * cc = val (z0.take (i + k)) + 4294967296 ^ i * (val (ys.take k) * x)) ∧ Below w.heap.size wo wr) (fun _ kk _ => ys.length - (intOf kk).toNat)
      case atStart => exact ⟨0, 0, z0, Nat.zero_le _, rfl, rfl, by omega, HR0.out, by simp [Hid], hok0, by simp [Hid], by simp [Hid, val], Below.refl _ _⟩
      case round =>
        obtain ⟨k, cc, zs, hk, rfl, rfl, hc, hrow, HL, hok, HJ, HE, hbel⟩ := hrel
        have hx := ((HB0.out.trans hbel).cell (p := ⟨b, off + i, none⟩) hb).trans hx0
        by_cases hlk : k < ys.length
        · obtain ⟨b', off', hB, hb', hcy⟩ := H'.out.2.2 (by omega)
          have hy := ((HB0.out.trans hbel).cell (p := ⟨b', off' + k, none⟩) hb').trans (hcy k (by omega))
          have hY := getD_lt O2.out k
          have hcell := hrow.cell (i := i + k) (by have := HL.out; have := HL0.out; omega)
          have hfr := hrow.frozen (i + k)
          have hZ := getD_lt hok (i + k)
          generalize ez : zs[i + k]?.getD 0 = z at *
          generalize ey : ys[k]?.getD 0 = y at *
          have HZ := Lib.hid ez
          have HY := Lib.hid ey
          have hp0 : 0 ≤ (x : Int) * (y : Int) := by rw [← Int.natCast_mul]; omega
          have hpn : x * y ≤ 18446744065119617025 := Nat.le_trans (Nat.mul_le_mul (Nat.le_of_lt_succ hX) (Nat.le_of_lt_succ hY)) (by decide)
          have hp1 : (x : Int) * (y : Int) ≤ 18446744065119617025 := by rw [← Int.natCast_mul]; omega
          have hki : (i : Int) + (k : Int) < (xs.length : Int) + (ys.length : Int) := by omega
          have hk0 : (0 : Int) ≤ (i : Int) + (k : Int) := by omega
          have hw : IntKind.i64.wrap ((i : Int) + (k : Int)) = (i : Int) + (k : Int) := IntWalk.i64_in _ (by omega)
          clear ez ey hcy hpn
          subst hB
          go_wp2
          go_quiet (fail)
          go_wp2
          go_roundw
          case rel =>
            have ep : (x : Int) * (y : Int) = ((y * x : Nat) : Int) := by rw [← Int.natCast_mul, Nat.mul_comm]
            have e1 : ((x : Int) * (y : Int) + (z : Int) + (cc : Int)) % 4294967296 = (lo (z + y * x + cc) : Nat) := by rw [ep]; unfold lo; omega
            have e2 : ((x : Int) * (y : Int) + (z : Int) + (cc : Int)) / 4294967296 = (hi (z + y * x + cc) : Nat) := by rw [ep]; unfold hi; omega
            have hlh := lo_hi (z + y * x + cc)
            have hlo := lo_lt (z + y * x + cc)
            have hyx : y * x ≤ 18446744065119617025 := by have : ((y * x : Nat) : Int) ≤ 18446744065119617025 := by rw [← ep]; exact hp1
                                                          omega
            have hhi : hi (z + y * x + cc) < 4294967296 := by unfold hi; omega
            have hl1 := HL.out
            have hl0 := HL0.out
            refine ⟨k + 1, hi (z + y * x + cc), zs.set (i + k) (lo (z + y * x + cc)), hlk, by go_num, by rw [e2], hhi, (hrow.drewN _).set_int e1, by simp only [List.length_set]; exact HL, ok_set hok hlo _, fun j hj => ?_, ?_, ?_⟩
            · rw [get_set_other (by omega)]; exact HJ.out j (by omega)
            · refine row_step (by omega) (by omega) hlk hl1 HE.out ?_ rfl
              rw [← HJ.out _ (Nat.le_refl _), HZ.out, HY.out]
              exact hlh
            · exact (below_drewN hbel _).setCell (by simp) _
          case measure => simp [intOf]; omega
        · have hk' : k = ys.length := by omega
          subst hk'
          have hcell := hrow.cell (i := i + ys.length) (by have := HL.out; have := HL0.out; omega)
          have hfr := hrow.frozen (i + ys.length)
          have hki : (i : Int) + (ys.length : Int) < (xs.length : Int) + (ys.length : Int) := by omega
          have hk0 : (0 : Int) ≤ (i : Int) + (ys.length : Int) := by omega
          clear hlk
          go_wp2
          go_roundw
          case rel =>
            have hl1 := HL.out
            have hl0 := HL0.out
            have hE := HE.out
            rw [List.take_of_length_le (Nat.le_refl ys.length)] at hE
            have e1 : (cc : Int) % 4294967296 = (cc : Nat) := by omega
            exact ⟨i + 1, zs.set (i + ys.length) cc, hlt, by go_num, by first | exact hrow.set_ _ _ | exact hrow.set_int e1, by simp only [List.length_set]; exact hl1.trans hl0, ok_set hok hc _,
              mul_step (by omega) hl1 hlt HE0.out (by rw [HX.out]; exact hE), (HB0.out.trans hbel).setCell (by simp) _⟩
          case measure => simp [intOf]; omega
    · have hk' : i = xs.length := by omega
      subst hk'
      have HV := Lib.hid (show val z0 = val xs * val ys from by
        have := HE0.out
        rw [List.take_of_length_le (Nat.le_refl xs.length), List.take_of_length_le (by have := HL0.out; omega : z0.length ≤ xs.length + ys.length)] at this
        exact this)
      have HD := Lib.hid (rtrim_any (some ⟨w.heap.size, 0, none⟩) (xs.length + ys.length) z0 wr (hrow0.dg hok0 (by have := HL0.out; omega)) (by have := HL0.out; omega))
      rw [HV.out] at HD
      have HLZ := HL0.out
      rw [HLZ] at HD
      clear hlt HLZ
      go_wp2_with fail
      refine HD.out.mono ?_
      rintro e w2 ⟨A3, c3, rfl, h3, hb3⟩
      have H3 := Lib.hid h3
      have HB3 := Lib.hid hb3
      clear h3 hb3
      go_wp2
      go_ret
      exact ⟨A3, c3, rfl, H3.out, hbel0.trans (HB3.out.mono hbel0.size)⟩
end Go.Proofs.YtnfafgpnnpapdaaDoor
end

section
/-
  The reference's own text (astrolaberef01): Shl, Shr.
-/
namespace Go.Proofs.YtnfafgpnnpapdaaDoor
open Go.RowKit
theorem rshl_or (x c p : Nat) (hx : x < 4294967296) (hc : c < 2 ^ p) (hp : p < 32) :
    bits BinOp.or IntKind.u64 (IntKind.u64.wrap ((x : Int) * 2 ^ p)) (c : Int) = ((x * 2 ^ p + c : Nat) : Int) ∧ x * 2 ^ p + c < 18446744073709551616 := by
  have hpl : 2 ^ p < 4294967296 := Nat.pow_lt_pow_right (by omega) (by omega : p < 32)
  have hm : x * 2 ^ p ≤ 4294967295 * 4294967295 := Nat.mul_le_mul (by omega) (by omega)
  have e : IntKind.u64.wrap ((x : Int) * 2 ^ p) = ((x * 2 ^ p : Nat) : Int) := by
    have e1 : (x : Int) * 2 ^ p = ((x * 2 ^ p : Nat) : Int) := by rw [Int.natCast_mul, Int.natCast_pow]; rfl
    have e2 : ∀ m : Int, IntKind.u64.wrap m = m % 18446744073709551616 := fun m => by simp [IntKind.wrap, IntKind.bits, IntKind.signed]
    rw [e1, e2]; omega
  refine ⟨?_, by omega⟩
  rw [e, u64_or_nat _ _ (by omega) (by omega), nat_join p _ _ (Nat.mul_mod_left _ _) hc]
theorem rshl_step {zs xs : List Nat} {k W p c t d : Nat} (hz : zs.length = W + k) (h : val zs + 4294967296 ^ (W + k) * c = 4294967296 ^ W * (val (xs.take k) * 2 ^ p))
    (hs : t + 4294967296 * d = (xs[k]?.getD 0) * 2 ^ p + c) : val (zs ++ [t]) + 4294967296 ^ (W + (k + 1)) * d = 4294967296 ^ W * (val (xs.take (k + 1)) * 2 ^ p) := by
  rw [← Nat.add_assoc, val_take_step, val_snoc, hz, Nat.pow_succ, Nat.add_mul, Nat.mul_add, ← h]
  have e1 : 4294967296 ^ W * (4294967296 ^ k * (xs[k]?.getD 0) * 2 ^ p) = 4294967296 ^ (W + k) * (xs[k]?.getD 0 * 2 ^ p) := by
    rw [Nat.pow_add, Nat.mul_assoc, Nat.mul_assoc]
  have e2 : 4294967296 ^ (W + k) * t + 4294967296 ^ (W + k) * 4294967296 * d = 4294967296 ^ (W + k) * (xs[k]?.getD 0 * 2 ^ p) + 4294967296 ^ (W + k) * c := by
    rw [Nat.mul_assoc, ← Nat.mul_add, hs, Nat.mul_add]
  rw [e1]
  omega
theorem own_zeros {w : World} {e : TypeId} (n : Nat) (hm : n ≤ maxLen) : (w.alloc (.cells (madeCells #[.int .u32 0] n) e)).ownsRow w.heap.size e 1 (.slice (some ⟨w.heap.size, 0, none⟩) n n) n (cells (List.replicate n 0)) := by
  refine ⟨by simp [cells], .inr ⟨w.heap.size, n, madeCells #[.int .u32 0] n, rfl, Nat.le_refl _, heap_alloc_new w _, Nat.le_refl _, hm, by simp [size_madeCells], ?_⟩⟩
  apply List.ext_getElem
  · simp [madeCells, cells]
  · intro i h1 h2
    simp [madeCells, cells, Nat.mod_one]
set_option maxHeartbeats 1000000 in
set_option maxRecDepth 100000 in
theorem rshl_no (A : Option Addr) (c : Nat) (xs : List Nat) (n : Int) (w : World) (hn : n < 0 ∨ 100000 < n) :
    Calls Tryd.prog 122 #[.slice A xs.length c, .int .i64 n] w fun e w' => e = .returned (.tuple #[.slice none 0 0, .bool false]) ∧ w = w' := by
  by_cases h : n < 0
  · have d0 : decide (n < 0) = true := by simp [h]
    go_enter Tryd.func122, Tryd.ntmps122
    go_wp2
    go_ret2
    exact ⟨rfl, rfl⟩
  · have d0 : decide (n < 0) = false := by simp; omega
    have d1 : decide (100000 < n) = true := by simp; omega
    clear h hn
    go_enter Tryd.func122, Tryd.ntmps122
    go_wp2
    go_ret2
    exact ⟨rfl, rfl⟩
set_option maxHeartbeats 4000000 in
set_option maxRecDepth 100000 in
theorem rshl_any (A : Option Addr) (c : Nat) (xs : List Nat) (n : Nat) (w : World) (h : Dg w A c xs) (hl : xs.length ≤ 1048576) (hn : n ≤ 100000) :
    Calls Tryd.prog 122 #[.slice A xs.length c, .int .i64 n] w fun e w' => ∃ A' c', e = .returned (.tuple #[.slice A' (digs (val xs * 2 ^ n)).length c', .bool true]) ∧ Dg w' A' c' (digs (val xs * 2 ^ n)) ∧ Below w.heap.size w w' := by
  obtain ⟨i0, hinf, hz0, hz1, hz2⟩ := info_parts elem_info
  have H := Lib.hid h
  have O1 := Lib.hid h.2.1
  have HP := Lib.hid (pow_parts n)
  clear h
  have d0 : decide ((n : Int) < 0) = false := by simp
  have d1 : decide (100000 < (n : Int)) = false := by simp; omega
  have hmk := run_make_row' (P := Tryd.prog) 22 67 (.int .u32 0) 4 Tryd.underlying22 elem_info rfl .i64 .i64 (n / 32) (by omega) (by omega)
  rw [show ((n / 32 : Nat) : Int) = (n : Int) / 32 by omega] at hmk
  go_enter Tryd.func122, Tryd.ntmps122
  go_wp2
  go_loopw [6, 7, 8] (fun v cy i wr => ∃ (k z : Nat) (zs : List Nat), k ≤ xs.length ∧ i = .int .i64 k ∧ cy = .int .u64 z ∧ Hid (z < 2 ^ (n % 32)) ∧ z < 4294967296 ∧ wr.ownsRow w.heap.size 67 1 v (n / 32 + k) (cells zs) ∧ Hid (zs.length = n / 32 + k) ∧ ok32 zs ∧
    Hid (val zs + 4294967296 ^ (n / 32 + k) * z = 4294967296 ^ (n / 32) * (val (xs.take k) * 2 ^ (n % 32))) ∧ Below w.heap.size w wr) (fun _ _ i _ => xs.length - (intOf i).toNat)
  case atStart => exact ⟨0, 0, List.replicate (n / 32) 0, Nat.zero_le _, rfl, rfl, Nat.pow_pos (by omega), by omega, own_zeros _ (by unfold maxLen; omega), by simp [Hid], ok_zeros _, by simp [Hid, val, val_zeros], (Below.refl _ _).alloc (Nat.le_refl _) _⟩
  case round =>
    obtain ⟨k, z, zs, hk, rfl, rfl, hz, hz', hown, HL, hok, HE, hbel⟩ := hrel
    by_cases hlt : k < xs.length
    · obtain ⟨b, off, hA, hb, hcx⟩ := H.out.2.2 (by omega)
      have hx := (hbel.cell (p := ⟨b, off + k, none⟩) hb).trans (hcx k (by omega))
      have hX := getD_lt O1.out k
      generalize ex : xs[k]?.getD 0 = x at *
      have HX := Lib.hid ex
      clear ex hcx
      subst hA
      obtain ⟨ho, hs64⟩ := rshl_or x z (n % 32) hX hz (by omega)
      have hcd : x * 2 ^ (n % 32) + z < 4294967296 * 2 ^ (n % 32) := by
        have : x * 2 ^ (n % 32) + 2 ^ (n % 32) ≤ 4294967296 * 2 ^ (n % 32) := by
          calc x * 2 ^ (n % 32) + 2 ^ (n % 32) = (x + 1) * 2 ^ (n % 32) := by rw [Nat.add_mul, Nat.one_mul]
            _ ≤ 4294967296 * 2 ^ (n % 32) := Nat.mul_le_mul_right _ hX
        have := hz
        unfold Hid at this
        omega
      obtain ⟨s, hs⟩ : ∃ s, s = x * 2 ^ (n % 32) + z := ⟨_, rfl⟩
      rw [← hs] at ho hs64 hcd
      have HS := Lib.hid hs
      have HO := Lib.hid ho
      have HCD := Lib.hid hcd
      clear hs ho hcd
      go_upto_region 9 with fail
      rw [HO.out]
      go_wp2_with (at_builtin; refine wpList_append_own _ rfl _ _ 22 rfl w.heap.size 67 i0 (.int .u32 0) 1 4 Tryd.underlying22 hinf hz0 hz1 hz2 rfl (by decide) _ _ _ rfl (hown.alloc _) ⟨wr.heap.size, 0, none⟩ 1 1 [.int .u32 ((s : Int) % 4294967296)] rfl rfl (cell_new _ _ _) (fun u hu => by simp at hu; subst hu; rfl) (by unfold maxLen; omega) (by omega) (by have := hbel.size; simp; omega) ?_)
      intro v' w1 hown1 hgrow hnil
      have e1 : (s : Int) % 4294967296 = (lo s : Nat) := by unfold lo; omega
      have hown2 := Lib.hid (own_snoc hown1 e1)
      have hb1 := Lib.hid ((hbel.alloc hbel.size _).grown hgrow (by simp; have := hbel.size; omega) (fun g hg => (hown.lt g hg).1))
      clear hown1 hgrow hnil hown e1
      go_wp2
      go_roundw
      case rel =>
        have hp := lo_hi s
        have hq := lo_lt s
        have e2 : (s : Int) / 4294967296 = (hi s : Nat) := by unfold hi; omega
        have hh : hi s < 2 ^ (n % 32) := by unfold hi; rw [Nat.div_lt_iff_lt_mul (by omega), Nat.mul_comm]; exact HCD.out
        exact ⟨k + 1, hi s, zs ++ [lo s], hlt, by go_num, by rw [e2], hh, by unfold hi; omega, hown2.out, by have := HL.out; simp [Hid]; omega, ok_snoc hok hq,
          rshl_step HL.out HE.out (by rw [HX.out, hp, HS.out]), hb1.out⟩
      case measure => simp [intOf]; omega
    · have hk' : k = xs.length := by omega
      subst hk'
      clear hlt
      go_wp2_with (at_builtin; refine wpList_append_own _ rfl _ _ 22 rfl w.heap.size 67 i0 (.int .u32 0) 1 4 Tryd.underlying22 hinf hz0 hz1 hz2 rfl (by decide) _ _ _ rfl (hown.alloc _) ⟨wr.heap.size, 0, none⟩ 1 1 [.int .u32 (z : Int)] rfl rfl (cell_new _ _ _) (fun u hu => by simp at hu; subst hu; rfl) (by unfold maxLen; omega) (by omega) (by have := hbel.size; simp; omega) ?_)
      intro v' w1 hown1 hgrow hnil
      have hown2 := own_snoc hown1 (t := z) rfl
      have hb1 := (hbel.alloc hbel.size (.cells #[.int .u32 (z : Int)] 67)).grown hgrow (by simp; have := hbel.size; omega) (fun g hg => (hown.lt g hg).1)
      have hok' := ok_snoc hok hz'
      obtain ⟨A2, c2, hv, hd⟩ := dg_of_own hown2 hok'
      have HV := Lib.hid (show val (zs ++ [z]) = val xs * 2 ^ n from by
        have := HE.out
        rw [List.take_of_length_le (Nat.le_refl xs.length)] at this
        rw [val_snoc, HL.out, this, ← HP.out, Nat.mul_left_comm])
      have HD := Lib.hid (rtrim_any A2 c2 (zs ++ [z]) w1 hd (by have := HL.out; simp; omega))
      rw [HV.out] at HD
      have HB1 := Lib.hid hb1
      clear hown hown1 hown2 hd hgrow hnil hok' hb1 HV
      generalize zs ++ [z] = ZS at *
      rw [hv]
      clear hv
      go_wp2_with fail
      refine HD.out.mono ?_
      rintro e w2 ⟨A3, c3, rfl, h3, hb3⟩
      have H3 := Lib.hid h3
      have HB3 := Lib.hid hb3
      clear h3 hb3
      go_wp2
      go_ret2
      exact ⟨A3, c3, rfl, H3.out, HB1.out.trans (HB3.out.mono HB1.out.size)⟩
end Go.Proofs.YtnfafgpnnpapdaaDoor
end

section
/-
  The reference's own text (astrolaberef01): Shr.
-/
namespace Go.Proofs.YtnfafgpnnpapdaaDoor
open Go.RowKit
theorem rshr_step {zs ys : List Nat} {k p s : Nat} (hz : zs.length = k) (hk : k < ys.length) (hok : ok32 ys) (hp : p < 32) (h : val zs + 4294967296 ^ k * (val (ys.drop k) / 2 ^ p) = val ys / 2 ^ p)
    (hs : s = ys[k]?.getD 0 + 4294967296 * (ys[k + 1]?.getD 0)) : val (zs ++ [s / 2 ^ p % 4294967296]) + 4294967296 ^ (k + 1) * (val (ys.drop (k + 1)) / 2 ^ p) = val ys / 2 ^ p := by
  have hss := two_pow_split p (by omega)
  have hP : 0 < 2 ^ p := Nat.pow_pos (by omega)
  have e1 : s / 2 ^ p % 4294967296 = val (ys.drop k) / 2 ^ p % 4294967296 := by
    rw [hs, val_drop_cons hk, shr_math _ _ _ _ hss hP, shr_math _ _ _ _ hss hP, Nat.add_mul_mod_self_left, Nat.add_mul_mod_self_left]
    congr 2
    rw [← val_mod hok (k + 1), Nat.mod_mul_mod]
  have e2 : val (ys.drop k) / 2 ^ p / 4294967296 = val (ys.drop (k + 1)) / 2 ^ p := by
    rw [Nat.div_div_eq_div_mul, Nat.mul_comm, ← Nat.div_div_eq_div_mul, val_drop_cons hk]
    congr 1
    have := getD_lt hok k
    omega
  rw [val_snoc, hz, e1, ← e2, Nat.pow_succ, Nat.mul_assoc, Nat.add_assoc, ← Nat.mul_add, Nat.mod_add_div]
  exact h
set_option maxHeartbeats 1000000 in
set_option maxRecDepth 100000 in
theorem rshr_neg (A : Option Addr) (c : Nat) (xs : List Nat) (n : Int) (w : World) (h : Dg w A c xs) (hl : xs.length ≤ 1048576) (hn : n < 0) :
    Calls Tryd.prog 108 #[.slice A xs.length c, .int .i64 n] w fun e w' => ∃ A' c', e = .returned (.slice A' (digs (val xs)).length c') ∧ Dg w' A' c' (digs (val xs)) ∧ Below w.heap.size w w' := by
  have HT := Lib.hid (rtrim_any A c xs w h (by omega))
  clear h
  have d0 : decide (n < 0) = true := by simp [hn]
  go_enter Tryd.func108, Tryd.ntmps108
  go_wp2_with fail
  refine HT.out.mono ?_
  rintro e w' ⟨A1, c1, rfl, h1, hb⟩
  have H1 := Lib.hid h1
  clear h1
  go_wp2
  go_ret
  exact ⟨A1, c1, rfl, H1.out, hb⟩
set_option maxHeartbeats 4000000 in
set_option maxRecDepth 100000 in
theorem rshr_any (A : Option Addr) (c : Nat) (xs : List Nat) (n : Nat) (w : World) (h : Dg w A c xs) (hl : xs.length ≤ 1048576) (hn : n ≤ 9223372036854775807) :
    Calls Tryd.prog 108 #[.slice A xs.length c, .int .i64 n] w fun e w' => ∃ A' c', e = .returned (.slice A' (digs (val xs / 2 ^ n)).length c') ∧ Dg w' A' c' (digs (val xs / 2 ^ n)) ∧ Below w.heap.size w w' := by
  obtain ⟨i0, hinf, hz0, hz1, hz2⟩ := info_parts elem_info
  have H := Lib.hid h
  have O1 := Lib.hid h.2.1
  clear h
  have d0 : decide ((n : Int) < 0) = false := by simp
  have HN := Lib.hid hn
  by_cases hw : xs.length ≤ n / 32
  · have d1 : decide ((xs.length : Int) ≤ (n : Int) / 32) = true := by simp; omega
    have HF := Lib.hid (show val xs / 2 ^ n = 0 from by
      rw [← shr_pow, ← val_drop xs O1.out, List.drop_eq_nil_of_le hw]; simp [val])
    clear hw
    go_enter Tryd.func108, Tryd.ntmps108
    go_wp2
    go_ret
    rw [HF.out, digs_zero]
    exact ⟨none, 0, rfl, Dg.nil_ _ _, Below.refl _ _⟩
  · have d1 : decide ((xs.length : Int) ≤ (n : Int) / 32) = false := by simp; omega
    have HVY := Lib.hid (show val (xs.drop (n / 32)) / 2 ^ (n % 32) = val xs / 2 ^ n from by rw [val_drop xs O1.out, shr_pow])
    have hyl : (xs.drop (n / 32)).length = xs.length - n / 32 := List.length_drop
    have HG := Lib.hid (fun j => show (xs.drop (n / 32))[j]?.getD 0 = xs[n / 32 + j]?.getD 0 from by rw [List.getElem?_drop])
    have OY := Lib.hid (show ok32 (xs.drop (n / 32)) from fun x hx => O1.out x (List.mem_of_mem_drop hx))
    have HYL := Lib.hid hyl
    clear hyl
    generalize xs.drop (n / 32) = Y at *
    go_enter Tryd.func108, Tryd.ntmps108
    go_wp2
    go_loopw [5, 6] (fun v i wr => ∃ (k : Nat) (zs : List Nat), n / 32 + k ≤ xs.length ∧ i = .int .i64 ((n : Int) / 32 + k) ∧ wr.ownsRow w.heap.size 67 1 v k (cells zs) ∧ Hid (zs.length = k) ∧ ok32 zs ∧
      Hid (val zs + 4294967296 ^ k * (val (Y.drop k) / 2 ^ (n % 32)) = val Y / 2 ^ (n % 32)) ∧ Below w.heap.size w wr) (fun _ i _ => xs.length - (intOf i).toNat)
    case atStart => exact ⟨0, [], by omega, by go_num, World.ownsRow_nil _ _ _ _, by simp [Hid], by intro x hx; simp at hx, by simp [Hid, val], Below.refl _ _⟩
    case round =>
      obtain ⟨k, zs, hk, rfl, hown, HL, hok, HE, hbel⟩ := hrel
      by_cases hlt : n / 32 + k < xs.length
      · have dlt : decide ((n : Int) / 32 + (k : Int) < (xs.length : Int)) = true := by simp; omega
        have rx := Lib.hid (rat_any A c xs (n / 32 + k) wr (H.out.keep hbel.size (fun b o h => hbel.cell (p := ⟨b, o, none⟩) h)) (by omega))
        have ry := Lib.hid (rat_any A c xs (n / 32 + k + 1) wr (H.out.keep hbel.size (fun b o h => hbel.cell (p := ⟨b, o, none⟩) h)) (by omega))
        have hX := getD_lt O1.out (n / 32 + k)
        have hY := getD_lt O1.out (n / 32 + k + 1)
        have g0 := HG.out k
        have g1 := HG.out (k + 1)
        rw [← Nat.add_assoc] at g1
        have HG0 := Lib.hid g0
        have HG1 := Lib.hid g1
        clear g0 g1
        generalize xs[n / 32 + k]?.getD 0 = x at *
        generalize xs[n / 32 + k + 1]?.getD 0 = y at *
        have ho := or_join' x y hX hY
        obtain ⟨s, hs⟩ : ∃ s, s = x + 4294967296 * y := ⟨_, rfl⟩
        have hs64 : s < 18446744073709551616 := by omega
        rw [← hs] at ho
        have HS := Lib.hid hs
        have HO := Lib.hid ho
        clear hs ho
        rw [show ((n / 32 + k : Nat) : Int) = (n : Int) / 32 + (k : Int) by omega] at rx
        rw [show ((n / 32 + k + 1 : Nat) : Int) = (n : Int) / 32 + (k : Int) + 1 by omega] at ry
        have hp0 : (0 : Int) ≤ (n : Int) / 32 + (k : Int) := by omega
        go_wp2_with fail
        refine rx.out.mono ?_
        rintro e w' ⟨rfl, rfl⟩
        go_wp2_with fail
        refine ry.out.mono ?_
        rintro e w' ⟨rfl, rfl⟩
        go_upto_region 10 with fail
        rw [HO.out]
        have hd0 : 0 ≤ (s : Int) / 2 ^ (n % 32) := Int.ediv_nonneg (by omega) (Int.le_of_lt (Int.pow_pos (by omega)))
        go_wp2_with (at_builtin; refine wpList_append_own _ rfl _ _ 22 rfl w.heap.size 67 i0 (.int .u32 0) 1 4 Tryd.underlying22 hinf hz0 hz1 hz2 rfl (by decide) _ _ _ rfl (hown.alloc _) ⟨wr.heap.size, 0, none⟩ 1 1 [.int .u32 (((s : Int) / 2 ^ (n % 32)) % 4294967296)] rfl rfl (cell_new _ _ _) (fun u hu => by simp at hu; subst hu; rfl) (by unfold maxLen; omega) (by omega) (by have := hbel.size; simp; omega) ?_)
        intro v' w1 hown1 hgrow hnil
        have e1 : ((s : Int) / 2 ^ (n % 32)) % 4294967296 = (s / 2 ^ (n % 32) % 4294967296 : Nat) := by rw [Int.natCast_emod, Int.natCast_ediv, Int.natCast_pow]; rfl
        have hown2 := Lib.hid (own_snoc hown1 e1)
        have hb1 := Lib.hid ((hbel.alloc hbel.size _).grown hgrow (by simp; have := hbel.size; omega) (fun g hg => (hown.lt g hg).1))
        clear hown1 hgrow hnil hown e1
        go_wp2
        go_roundw
        case rel =>
          have hyl := HYL.out
          exact ⟨k + 1, zs ++ [s / 2 ^ (n % 32) % 4294967296], by omega, by go_num, hown2.out, by have := HL.out; simp [Hid]; omega, ok_snoc hok (Nat.mod_lt _ (by omega)),
            rshr_step HL.out (by omega) OY.out (by omega) HE.out (by rw [HG0.out, HG1.out]; exact HS.out), hb1.out⟩
        case measure => simp [intOf]; omega
      · have dlt : decide ((n : Int) / 32 + (k : Int) < (xs.length : Int)) = false := by simp; omega
        obtain ⟨A2, c2, hv, hd⟩ := dg_of_own hown hok
        have HV := Lib.hid (show val zs = val xs / 2 ^ n from by
          have := HE.out
          rw [List.drop_eq_nil_of_le (by have := HYL.out; omega), HVY.out] at this
          simpa [val] using this)
        have HD := Lib.hid (rtrim_any A2 c2 zs wr hd (by have := HL.out; omega))
        rw [HV.out] at HD
        subst hv
        clear hown hd hlt
        go_wp2_with fail
        refine HD.out.mono ?_
        rintro e w2 ⟨A3, c3, rfl, h3, hb3⟩
        have H3 := Lib.hid h3
        have HB3 := Lib.hid hb3
        clear h3 hb3
        go_wp2
        go_ret
        exact ⟨A3, c3, rfl, H3.out, hbel.trans (HB3.out.mono hbel.size)⟩
end Go.Proofs.YtnfafgpnnpapdaaDoor
end
