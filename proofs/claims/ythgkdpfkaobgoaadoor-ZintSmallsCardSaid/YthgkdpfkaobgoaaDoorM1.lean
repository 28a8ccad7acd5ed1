import Derived.Test.YthgkdpfkaobgoaaDoorM0
import Derived.BigRegion
import Derived.RegionTactic
import Derived.Deep.DeepCutAuto
import Derived.Orders
import Derived.Laws.Rows
section
/-
  nat.Shr.
-/
namespace Go.Proofs.YthgkdpfkaobgoaaDoor
open Go.RowKit
theorem val_drop (xs : List Nat) (h : ok32 xs) (W : Nat) : val (xs.drop W) = val xs / 4294967296 ^ W := by
  rcases Nat.lt_or_ge xs.length W with hl | hl
  · rw [List.drop_eq_nil_of_le (by omega)]
    have h1 := val_lt h
    have h2 := Nat.pow_le_pow_right (n := 4294967296) (by omega) (show xs.length ≤ W by omega)
    rw [Nat.div_eq_of_lt (by omega)]; rfl
  · have e : val xs = val (xs.take W) + 4294967296 ^ W * val (xs.drop W) := by
      conv => lhs; rw [← List.take_append_drop W xs, val_append]
      rw [List.length_take, Nat.min_eq_left hl]
    have h1 : val (xs.take W) < 4294967296 ^ W := by
      have := val_lt (xs := xs.take W) (fun x hx => h x (List.mem_of_mem_take hx))
      rwa [List.length_take, Nat.min_eq_left hl] at this
    rw [e, Nat.add_mul_div_left _ _ (Nat.pow_pos (by omega)), Nat.div_eq_of_lt h1, Nat.zero_add]
theorem val_drop_cons {xs : List Nat} {k : Nat} (h : k < xs.length) : val (xs.drop k) = xs[k]?.getD 0 + 4294967296 * val (xs.drop (k + 1)) := by
  rw [List.drop_eq_getElem_cons h, List.getElem?_eq_getElem h]; rfl
theorem val_mod {xs : List Nat} (h : ok32 xs) (k : Nat) : val (xs.drop k) % 4294967296 = xs[k]?.getD 0 := by
  rcases Nat.lt_or_ge k xs.length with hk | hk
  · rw [val_drop_cons hk]; have := getD_lt h k; omega
  · rw [List.drop_eq_nil_of_le hk, List.getElem?_eq_none hk]; rfl
/-- Moved down by p bits: the next digit lends its lower ones. -/
theorem shr_math (y R P Q : Nat) (hs : P * Q = 4294967296) (hP : 0 < P) : (y + 4294967296 * R) / P = (y / P + R * Q % 4294967296) + 4294967296 * (R / P) := by
  have e1 : (y + 4294967296 * R) / P = y / P + Q * R := by
    rw [← hs, Nat.mul_assoc, Nat.add_mul_div_left _ _ hP]
  have e2 : R * Q = 4294967296 * (R / P) + R * Q % 4294967296 := by
    have hq : R * Q / 4294967296 = R / P := by
      have hQ : 0 < Q := Nat.pos_of_ne_zero (by rintro rfl; simp at hs)
      rw [← hs, Nat.mul_div_mul_right _ _ hQ]
    have := Nat.div_add_mod (R * Q) 4294967296
    rw [hq] at this
    exact this.symm
  rw [e1, Nat.mul_comm Q R]
  omega
theorem shr_digit (y z p : Nat) (hy : y < 4294967296) (hp : p < 32) : y / 2 ^ p + z * 2 ^ (32 - p) % 4294967296 < 4294967296 ∧ z * 2 ^ (32 - p) % 4294967296 % 2 ^ (32 - p) = 0 ∧ y / 2 ^ p < 2 ^ (32 - p) := by
  have hs := two_pow_split p (by omega)
  have hpp : 0 < 2 ^ p := Nat.pow_pos (by omega)
  have hqq : 0 < 2 ^ (32 - p) := Nat.pow_pos (by omega)
  generalize 2 ^ p = P at *
  generalize 2 ^ (32 - p) = Q at *
  have e1 : z * Q % 4294967296 = z % P * Q := by rw [← hs, Nat.mul_mod_mul_right]
  have h3 : z % P < P := Nat.mod_lt _ hpp
  have h4 : y / P < Q := by rw [Nat.div_lt_iff_lt_mul hpp, Nat.mul_comm, hs]; exact hy
  rw [e1]
  refine ⟨?_, Nat.mul_mod_left _ _, h4⟩
  have : z % P * Q + Q ≤ P * Q := by
    calc z % P * Q + Q = (z % P + 1) * Q := by rw [Nat.add_mul, Nat.one_mul]
      _ ≤ P * Q := Nat.mul_le_mul_right _ h3
  omega
theorem shr_or (y z p : Nat) (hy : y < 4294967296) (hp : p < 32) :
    bits BinOp.or IntKind.u32 ((y : Int) / 2 ^ p) (((z : Int) * 2 ^ (32 - p)) % 4294967296) = ((y / 2 ^ p + z * 2 ^ (32 - p) % 4294967296 : Nat) : Int) := by
  obtain ⟨h1, h2, h3⟩ := shr_digit y z p hy hp
  have e : ((z : Int) * 2 ^ (32 - p)) % 4294967296 = ((z * 2 ^ (32 - p) % 4294967296 : Nat) : Int) := by
    rw [Int.natCast_emod, Int.natCast_mul, Int.natCast_pow]; rfl
  have e' : (y : Int) / 2 ^ p = ((y / 2 ^ p : Nat) : Int) := by rw [Int.natCast_ediv, Int.natCast_pow]; rfl
  rw [e, e', u32_or_nat _ _ (Nat.lt_of_le_of_lt (Nat.div_le_self _ _) hy) (Nat.mod_lt _ (by omega)), Nat.or_comm, nat_join (32 - p) _ _ h2 h3, Nat.add_comm]
theorem shr_step {zs ys : List Nat} {k p t : Nat} (hz : k < zs.length) (hk : k < ys.length) (hok : ok32 ys) (hp : p < 32) (h : val (zs.take k) + 4294967296 ^ k * (val (ys.drop k) / 2 ^ p) = val ys / 2 ^ p)
    (ht : t = ys[k]?.getD 0 / 2 ^ p + (ys[k + 1]?.getD 0) * 2 ^ (32 - p) % 4294967296) : val ((zs.set k t).take (k + 1)) + 4294967296 ^ (k + 1) * (val (ys.drop (k + 1)) / 2 ^ p) = val ys / 2 ^ p := by
  have hs := two_pow_split p (by omega)
  rw [take_set hz, val_snoc, List.length_take, Nat.min_eq_left (by omega), ← h, val_drop_cons hk, shr_math _ _ _ _ hs (Nat.pow_pos (by omega)), ht]
  have hm : val (ys.drop (k + 1)) * 2 ^ (32 - p) % 4294967296 = ys[k + 1]?.getD 0 * 2 ^ (32 - p) % 4294967296 := by
    rw [Nat.mul_mod, val_mod hok, ← Nat.mod_eq_of_lt (getD_lt hok (k + 1)), ← Nat.mul_mod, Nat.mod_eq_of_lt (getD_lt hok (k + 1))]
  rw [hm, Nat.pow_succ]
  simp only [Nat.mul_add, Nat.mul_assoc, Nat.add_assoc]
theorem shr_pow (v n : Nat) : v / 4294967296 ^ (n / 32) / 2 ^ (n % 32) = v / 2 ^ n := by
  rw [Nat.div_div_eq_div_mul, pow_parts]
theorem Dg.drop {w : World} {b off c : Nat} {xs : List Nat} {k : Nat} (h : Dg w (some ⟨b, off, none⟩) c xs) (hk : k < xs.length) : Dg w (some ⟨b, off + k, none⟩) (c - k) (xs.drop k) := by
  refine ⟨by rw [List.length_drop]; have := h.1; omega, fun x hx => h.2.1 x (List.mem_of_mem_drop hx), fun _ => ?_⟩
  obtain ⟨b', off', e, hb, hc⟩ := h.2.2 (by omega)
  injection e with e
  injection e with e1 e2 _
  subst e1 e2
  refine ⟨b, off + k, rfl, hb, fun j hj => ?_⟩
  rw [List.length_drop] at hj
  rw [Nat.add_assoc, hc (k + j) (by omega), List.getElem?_drop]
set_option maxHeartbeats 1000000 in
set_option maxRecDepth 100000 in
theorem shr_neg (A : Option Addr) (c : Nat) (xs : List Nat) (n : Int) (w : World) (h : Dg w A c xs) (hl : xs.length ≤ 1048576) (hn : n < 0) :
    Calls Tryd.prog 66 #[.slice A xs.length c, .int .i64 n] w fun e w' => ∃ A' c', e = .returned (.slice A' (digs (val xs)).length c') ∧ Dg w' A' c' (digs (val xs)) ∧ Below w.heap.size w w' := by
  have l1 := digs_len_le h.2.1
  have H := Lib.hid h
  clear h
  have d0 : decide (n < 0) = true := by simp [hn]
  go_enter Tryd.func66, Tryd.ntmps66
  go_wp2_with fail
  refine (short_any A c xs _ H.out (by omega)).mono ?_
  rintro e w' ⟨A1, c1, rfl, h1, rfl⟩
  have H1 := Lib.hid h1
  clear h1
  go_wp2_with fail
  refine (clone_any A1 c1 _ _ H1.out (by omega)).mono ?_
  rintro e w' ⟨A2, c2, rfl, h2, hb⟩
  have H2 := Lib.hid h2
  clear h2
  go_wp2
  go_ret
  exact ⟨A2, c2, rfl, H2.out, hb⟩
set_option maxHeartbeats 2000000 in
set_option maxRecDepth 100000 in
theorem shr_any (A : Option Addr) (c : Nat) (xs : List Nat) (n : Nat) (w : World) (h : Dg w A c xs) (hl : xs.length ≤ 1048576) (hn : n ≤ 9223372036854775807) :
    Calls Tryd.prog 66 #[.slice A xs.length c, .int .i64 n] w fun e w' => ∃ A' c', e = .returned (.slice A' (digs (val xs / 2 ^ n)).length c') ∧ Dg w' A' c' (digs (val xs / 2 ^ n)) ∧ Below w.heap.size w w' := by
  have l1 := digs_len_le h.2.1
  have H := Lib.hid h
  clear h
  have d0 : decide ((n : Int) < 0) = false := by simp
  have HN := Lib.hid hn
  go_enter Tryd.func66, Tryd.ntmps66
  go_wp2_with fail
  refine (short_any A c xs _ H.out (by omega)).mono ?_
  rintro e w' ⟨A1, c1, rfl, h1, rfl⟩
  have H1 := Lib.hid h1
  clear h1
  have V1 := Lib.hid (val_digs (val xs))
  have O1 := Lib.hid (ok_digs (val xs))
  generalize digs (val xs) = X at *
  by_cases hw : X.length ≤ n / 32
  · have d1 : decide ((X.length : Int) ≤ (n : Int) / 32) = true := by simp; omega
    have HF := Lib.hid (show val xs / 2 ^ n = 0 from by
      rw [← V1.out, ← shr_pow, ← val_drop X O1.out, List.drop_eq_nil_of_le hw]; simp [val])
    clear hw
    go_wp2
    go_ret
    rw [HF.out, digs_zero]
    exact ⟨none, 0, rfl, Dg.nil_ _ _, Below.refl _ _⟩
  · have d1 : decide ((X.length : Int) ≤ (n : Int) / 32) = false := by simp; omega
    obtain ⟨b, off, rfl, hb, hcx⟩ := H1.out.2.2 (by omega)
    have hcap := H1.out.1
    have hw0 : (0 : Int) ≤ (n : Int) / 32 := by omega
    have hw1 : (n : Int) / 32 ≤ (X.length : Int) := by omega
    have hwc : ¬ (c1 = n / 32) := by omega
    go_upto_region 8 with fail
    have hdy := H1.out.drop (show n / 32 < X.length by omega)
    have hyl : (X.drop (n / 32)).length = X.length - n / 32 := List.length_drop
    have HVY := Lib.hid (show val (X.drop (n / 32)) / 2 ^ (n % 32) = val xs / 2 ^ n from by rw [val_drop X O1.out, shr_pow, V1.out])
    have OY := Lib.hid hdy.2.1
    have hm1 : X.length - n / 32 ≤ 1048576 := by omega
    have hm0 : 0 < X.length - n / 32 := by omega
    clear hw d1 hw0 hw1 hwc hcx hcap
    generalize X.drop (n / 32) = Y at *
    generalize X.length - n / 32 = m at *
    generalize off + n / 32 = o at *
    generalize c1 - n / 32 = cy at *
    have HL0 := Lib.hid hyl
    have HDY := Lib.hid hdy
    clear hyl hdy
    have hmk := run_make_row' (P := Tryd.prog) 22 75 (.int .u32 0) 4 Tryd.underlying22 elem_info rfl .i64 .i64 m (by omega) (by omega)
    go_wp2
    go_loopw [31] (fun i wr => ∃ (k : Nat) (zs : List Nat), k ≤ m ∧ i = .int .i64 k ∧ Row wr w.heap.size zs ∧ Hid (zs.length = m) ∧ ok32 zs ∧
      Hid (val (zs.take k) + 4294967296 ^ k * (val (Y.drop k) / 2 ^ (n % 32)) = val Y / 2 ^ (n % 32)) ∧ Below w.heap.size w wr) (fun i _ => m - (intOf i).toNat)
    case atStart => exact ⟨0, List.replicate m 0, Nat.zero_le _, rfl, Row.made _ _, by simp [Hid], ok_zeros _, by simp [Hid, val], (Below.refl _ _).alloc (Nat.le_refl _) _⟩
    case round =>
      obtain ⟨k, zs, hk, rfl, hrow, HL, hok, HE, hbel⟩ := hrel
      by_cases hlt : k < m
      · obtain ⟨b', o', e, hbk, hcx⟩ := HDY.out.2.2 (by have := HL0.out; omega)
        injection e with e
        injection e with e1 e2 _
        subst e1 e2
        have hx := (hbel.cell (p := ⟨b, o + k, none⟩) hb).trans (hcx k (by have := HL0.out; omega))
        have hX := getD_lt OY.out k
        have hZ := getD_lt OY.out (k + 1)
        have hcell := hrow.cell (i := k) (by have := HL.out; omega)
        have hfr := hrow.frozen k
        by_cases hlast : k + 1 < m
        · have hx2 := (hbel.cell (p := ⟨b, o + (k + 1), none⟩) hb).trans (hcx (k + 1) (by have := HL0.out; omega))
          have d2 : decide ((k : Int) + 1 < (m : Int)) = true := by simp; omega
          have hki : (k : Int) + 1 < (m : Int) := by omega
          generalize ex : Y[k]?.getD 0 = x at *
          generalize ey : Y[k + 1]?.getD 0 = y at *
          have HX := Lib.hid ex
          have HY := Lib.hid ey
          clear ex ey hcx
          go_wp2
          have hdiv : (x : Int) / 2 ^ (n % 32) = ((x / 2 ^ (n % 32) : Nat) : Int) := by rw [Int.natCast_ediv, Int.natCast_pow]; rfl
          have hdl : x / 2 ^ (n % 32) < 4294967296 := Nat.lt_of_le_of_lt (Nat.div_le_self _ _) hX
          have hr1 := hrow.set_int (i := k) hdiv
          have hb1 := hbel.setCell (p := ⟨w.heap.size, k, none⟩) (Nat.le_refl _) (.int .u32 ((x : Int) / 2 ^ (n % 32)))
          have hx3 := (World.cell?_setCell_other wr ⟨w.heap.size, k, none⟩ ⟨b, o + (k + 1), none⟩ (.int .u32 ((x : Int) / 2 ^ (n % 32))) (by intro e; injection e with e1 _ _; omega)).trans hx2
          generalize wr.setCell ⟨w.heap.size, k, none⟩ (.int .u32 ((x : Int) / 2 ^ (n % 32))) = W1 at *
          have hc1 := hr1.cell (i := k) (by simp; have := HL.out; omega)
          rw [List.getElem?_set_self (by have := HL.out; omega), Option.getD_some, ← hdiv] at hc1
          have hf1 := hr1.frozen k
          have HDV := Lib.hid hdiv
          have HR1 := Lib.hid hr1
          have HB1 := Lib.hid hb1
          clear hdiv hr1 hb1 hrow hbel
          clear hx hx2 hcell hfr
          have hw1 : IntKind.i64.wrap ((k : Int) + 1) = (k : Int) + 1 := IntWalk.i64_in _ (by omega)
          have hw2 : IntKind.i64.wrap (32 - (n : Int) % 32) = 32 - (n : Int) % 32 := IntWalk.i64_in _ (by omega)
          have hs0 : (0 : Int) ≤ 32 - (n : Int) % 32 := by omega
          have hs1 : (32 - (n : Int) % 32).toNat = 32 - n % 32 := by omega
          have hs2 : (32 - (n : Int) % 32) < 64 := by omega
          have hk0 : (0 : Int) ≤ (k : Int) + 1 := by omega
          have hk1 : ((k : Int) + 1).toNat = k + 1 := by omega
          refine wp_region_still_tail 14 (by kernel_rfl) (by kernel_rfl) ?_
          simp only [List.take_succ_cons, List.take_zero, List.drop_succ_cons, List.drop_zero]
          repeat still_step
          refine wpStill_nil ?_
          change wpList _ _ _ _ _ W1.drew
          go_wp2
          go_roundw
          case rel =>
            obtain ⟨g1, _, _⟩ := shr_digit x y (n % 32) hX (by omega)
            have e1 := shr_or x y (n % 32) hX (by omega)
            have hss := shr_step (zs := zs) (ys := Y) (k := k) (p := n % 32) (by have := HL.out; omega) (by have := HL0.out; omega) OY.out (by omega) HE.out rfl
            rw [HX.out, HY.out] at hss
            refine ⟨k + 1, (zs.set k (x / 2 ^ (n % 32))).set k (x / 2 ^ (n % 32) + y * 2 ^ (32 - n % 32) % 4294967296), hlt, by go_num, HR1.out.drew.set_int e1, by simp only [List.length_set]; exact HL, ok_set (ok_set hok hdl k) g1 k, ?_, (HB1.out.drew).setCell (by simp) _⟩
            rw [List.set_set]
            exact hss
          case measure => simp [intOf]; omega
        · have d2 : decide ((k : Int) + 1 < (m : Int)) = false := by simp; omega
          have HY := Lib.hid (show Y[k + 1]?.getD 0 = 0 from by rw [List.getElem?_eq_none (by have := HL0.out; omega)]; rfl)
          generalize ex : Y[k]?.getD 0 = x at *
          have HX := Lib.hid ex
          have hml : (m : Int) ≤ (k : Int) + 1 := by omega
          clear ex hcx hlast
          go_wp2
          go_roundw
          case rel =>
            have hdiv : (x : Int) / 2 ^ (n % 32) = ((x / 2 ^ (n % 32) : Nat) : Int) := by rw [Int.natCast_ediv, Int.natCast_pow]; rfl
            have hdl : x / 2 ^ (n % 32) < 4294967296 := Nat.lt_of_le_of_lt (Nat.div_le_self _ _) hX
            have hss := shr_step (zs := zs) (ys := Y) (k := k) (p := n % 32) (by have := HL.out; omega) (by have := HL0.out; omega) OY.out (by omega) HE.out rfl
            rw [HX.out, HY.out, Nat.zero_mul, Nat.zero_mod, Nat.add_zero] at hss
            exact ⟨k + 1, zs.set k (x / 2 ^ (n % 32)), hlt, by go_num, hrow.set_int hdiv, by simp only [List.length_set]; exact HL, ok_set hok hdl k, hss, hbel.setCell (by simp) _⟩
          case measure => simp [intOf]; omega
      · have hk' : k = m := by omega
        subst hk'
        clear hlt
        go_wp2_with fail
        have HV := Lib.hid (show val zs = val xs / 2 ^ n from by
          have := HE.out
          rw [List.take_of_length_le (by have := HL.out; omega : zs.length ≤ k), List.drop_eq_nil_of_le (by have := HL0.out; omega), HVY.out] at this
          simpa [val] using this)
        have HD := Lib.hid (hrow.dg hok (c := k) (by have := HL.out; omega))
        refine (short_n HD.out (by have := HL.out; omega) HL.out.symm).mono ?_
        rintro e w' ⟨A2, c2, rfl, h2, rfl⟩
        rw [HV.out] at h2
        rw [HV.out]
        have HR := Lib.hid h2
        clear h2
        go_wp2
        go_ret
        exact ⟨A2, c2, rfl, HR.out, hbel⟩
end Go.Proofs.YthgkdpfkaobgoaaDoor
end

section
/-
  nat.Shl, Shr, Bit over what a law carries along.
-/
namespace Go.Proofs.YthgkdpfkaobgoaaDoor
open Go.RowKit
section
variable {w0 w w' : World} {L : List (Option Addr × Nat × List Nat)} {A B : Option Addr} {c d n m : Nat} {xs ys : List Nat} {x y : Nat}
theorem shl_l {i : Int} {k : Nat} (hL : Live w0 w L) (h1 : (A, c, xs) ∈ L) (hn : n = xs.length) (hx : val xs = x) (b1 : xs.length ≤ 1048576) (hi : i = (k : Int)) (hk : k ≤ 100000) :
    Calls Tryd.prog 65 #[.slice A n c, .int .i64 i] w fun e w' => ∃ A' c', e = .returned (.tuple #[.slice A' (digs (x * 2 ^ k)).length c', .bool true]) ∧ Live w0 w' ((A', c', digs (x * 2 ^ k)) :: L) := by
  subst hn hx hi
  exact (shl_any A c xs k w (hL.get h1) b1 hk).mono fun e w' ⟨A', c', he, hd, hb⟩ => ⟨A', c', he, (hL.step hb).add hd⟩
theorem shr_l {i : Int} {k : Nat} (hL : Live w0 w L) (h1 : (A, c, xs) ∈ L) (hn : n = xs.length) (hx : val xs = x) (b1 : xs.length ≤ 1048576) (hi : i = (k : Int)) (hk : k ≤ 9223372036854775807) :
    Calls Tryd.prog 66 #[.slice A n c, .int .i64 i] w fun e w' => ∃ A' c', e = .returned (.slice A' (digs (x / 2 ^ k)).length c') ∧ Live w0 w' ((A', c', digs (x / 2 ^ k)) :: L) := by
  subst hn hx hi
  exact (shr_any A c xs k w (hL.get h1) b1 hk).mono fun e w' ⟨A', c', he, hd, hb⟩ => ⟨A', c', he, (hL.step hb).add hd⟩
end
theorem pow_digs_len (k : Nat) : (digs (2 ^ k)).length ≤ k / 32 + 1 := by
  apply digs_len_lt
  have e : (4294967296 : Nat) = 2 ^ 32 := rfl
  rw [e, ← Nat.pow_mul]
  exact Nat.pow_lt_pow_right (by omega) (by omega)
theorem digs_shl_len (x k : Nat) : (digs (x * 2 ^ k)).length ≤ (digs x).length + (k / 32 + 1) := by
  have h1 := digs_mul_len x (2 ^ k)
  have h2 := pow_digs_len k
  omega
theorem digs_shr_len (x k : Nat) : (digs (x / 2 ^ k)).length ≤ (digs x).length := digs_len_mono _ _ (Nat.div_le_self _ _)
theorem blen_shl {x : Nat} (k : Nat) (h : x ≠ 0) : blen (x * 2 ^ k) = blen x + k := by
  have hp : 0 < 2 ^ k := Nat.pow_pos (by omega)
  rw [blen_shift k _ (Nat.le_mul_of_pos_left _ (by omega)), Nat.mul_div_cancel _ hp, Nat.add_comm]
theorem blen_lt (x : Nat) : x < 2 ^ blen x := by
  induction x using Nat.strongRecOn with
  | ind x ih =>
    by_cases h : x = 0
    · subst h; rw [blen_zero]; omega
    · have := ih (x / 2) (by omega)
      rw [blen_pos h, Nat.add_comm, Nat.pow_succ]; omega
theorem bit_shl (x k i : Nat) : bitAt (x * 2 ^ k) ((i : Int) + (k : Int)) = bitAt x (i : Int) := by
  unfold bitAt
  rw [decide_eq_true (by omega), decide_eq_true (by omega), show ((i : Int) + (k : Int)).toNat = i + k by omega, Int.toNat_natCast, Nat.testBit_mul_two_pow]
  simp
theorem bit_past (x i : Nat) : bitAt x ((blen x : Int) + (i : Int)) = false := by
  unfold bitAt
  rw [show ((blen x : Int) + (i : Int)).toNat = blen x + i by omega, Nat.testBit_lt_two_pow (Nat.lt_of_lt_of_le (blen_lt x) (Nat.pow_le_pow_right (by omega) (by omega)))]
  simp
end Go.Proofs.YthgkdpfkaobgoaaDoor
end

section
/-
  The law's own 'digits': are two lists the same?
-/
namespace Go.Proofs.YthgkdpfkaobgoaaDoor
open Go.RowKit
section
variable {w0 w w' : World} {L : List (Option Addr × Nat × List Nat)} {A B : Option Addr} {c d n m : Nat} {xs ys : List Nat} {x y : Nat}
end
end Go.Proofs.YthgkdpfkaobgoaaDoor
end

section
/-
  Slices of digits that are written out in a text; inputs that are cut to so many digits.
-/
namespace Go.Proofs.YthgkdpfkaobgoaaDoor
open Go.RowKit
theorem Live.new {w0 w : World} {L : List (Option Addr × Nat × List Nat)} (h : Live w0 w L) (cs : Array Value) {xs : List Nat} (hk : ok32 xs) (hc : ∀ j, j < xs.length → cs[j]? = some (.int .u32 (xs[j]?.getD 0 : Nat))) :
    Live w0 (w.alloc (.cells cs 75)) ((some ⟨w.heap.size, 0, none⟩, xs.length, xs) :: L) :=
  (h.step ((Below.refl _ _).alloc (Nat.le_refl _) _)).add (dg_new w cs _ hk hc (Nat.le_refl _))
theorem Live.new1 {w0 w : World} {L : List (Option Addr × Nat × List Nat)} (h : Live w0 w L) (x : Int) (a : Nat) (hx : x = (a : Int)) (ha : a < 4294967296) :
    Live w0 (w.alloc (.cells #[.int .u32 x] 75)) ((some ⟨w.heap.size, 0, none⟩, 1, [a]) :: L) := by
  subst hx
  exact h.new #[.int .u32 (a : Int)] (xs := [a]) (by intro z hz; simp at hz; omega) (by intro j hj; simp at hj; subst hj; rfl)
theorem Live.new2 {w0 w : World} {L : List (Option Addr × Nat × List Nat)} (h : Live w0 w L) (x y : Int) (a b : Nat) (hx : x = (a : Int)) (hy : y = (b : Int)) (ha : a < 4294967296) (hb : b < 4294967296) :
    Live w0 (w.alloc (.cells #[.int .u32 x, .int .u32 y] 75)) ((some ⟨w.heap.size, 0, none⟩, 2, [a, b]) :: L) := by
  subst hx hy
  exact h.new #[.int .u32 (a : Int), .int .u32 (b : Int)] (xs := [a, b]) (by intro z hz; simp at hz; omega)
    (by intro j hj; simp at hj; rcases (show j = 0 ∨ j = 1 by omega) with rfl | rfl <;> rfl)
theorem Live.new3 {w0 w : World} {L : List (Option Addr × Nat × List Nat)} (h : Live w0 w L) (x y z : Int) (a b c : Nat) (hx : x = (a : Int)) (hy : y = (b : Int)) (hz : z = (c : Int)) (ha : a < 4294967296) (hb : b < 4294967296) (hc : c < 4294967296) :
    Live w0 (w.alloc (.cells #[.int .u32 x, .int .u32 y, .int .u32 z] 75)) ((some ⟨w.heap.size, 0, none⟩, 3, [a, b, c]) :: L) := by
  subst hx hy hz
  exact h.new #[.int .u32 (a : Int), .int .u32 (b : Int), .int .u32 (c : Int)] (xs := [a, b, c]) (by intro z hz; simp at hz; omega)
    (by intro j hj; simp at hj; rcases (show j = 0 ∨ j = 1 ∨ j = 2 by omega) with rfl | rfl | rfl <;> rfl)
theorem digs_two {a b : Nat} (ha : a < 4294967296) (hb : b < 4294967296) (h : b ≠ 0) : digs (a + 4294967296 * b) = [a, b] := by
  rw [digs_pos (by omega), show (a + 4294967296 * b) % 4294967296 = a by omega, show (a + 4294967296 * b) / 4294967296 = b by omega, digs_pos h, show b % 4294967296 = b by omega, show b / 4294967296 = 0 by omega, digs_zero]
theorem digs_one {a : Nat} (ha : a < 4294967296) (h : a ≠ 0) : digs a = [a] := by
  rw [digs_pos h, show a % 4294967296 = a by omega, show a / 4294967296 = 0 by omega, digs_zero]
theorem live_start (w : World) : Live w w [] := ⟨Below.refl _ _, fun t ht => by simp at ht⟩
theorem Dg.take {w : World} {A : Option Addr} {c : Nat} {xs : List Nat} (h : Dg w A c xs) (k : Nat) : Dg w A c (xs.take k) :=
  ⟨by rw [List.length_take]; have := h.1; omega, fun x hx => h.2.1 x (List.mem_of_mem_take hx), fun h0 => by
    rw [List.length_take] at h0
    obtain ⟨b, off, e, hb, hc⟩ := h.2.2 (by omega)
    refine ⟨b, off, e, hb, fun j hj => ?_⟩
    rw [List.length_take] at hj
    rw [hc j (by omega), List.getElem?_take, if_pos (by omega)]⟩
theorem blen_ne {v : Nat} (h : v ≠ 0) : ((blen v : Int) == 0) = false := by rw [blen_pos h]; exact beq_eq_false_iff_ne.2 (by omega)
end Go.Proofs.YthgkdpfkaobgoaaDoor
end

section
/-
  zint's sizes: against, with, without, times, more.
-/
namespace Go.Proofs.YthgkdpfkaobgoaaDoor
open Go.RowKit
theorem bcell {W w1 : World} (hb : Below W.heap.size W w1) : (∀ b o, b < W.heap.size → w1.cell? ⟨b, o, none⟩ = W.cell? ⟨b, o, none⟩) ∧ (∀ b o, b < W.heap.size → w1.frozen? ⟨b, o, none⟩ = W.frozen? ⟨b, o, none⟩) :=
  ⟨fun b o h => hb.cell (p := ⟨b, o, none⟩) h, fun b o h => hb.frozen (p := ⟨b, o, none⟩) h⟩
theorem below1 (w : World) (o1 : Obj) : Below w.heap.size w (w.alloc o1) := (Below.refl _ _).alloc (Nat.le_refl _) _
theorem below2 (w : World) (o1 o2 : Obj) : Below w.heap.size w ((w.alloc o1).alloc o2) := (below1 w o1).alloc (by simp) _
theorem below3 (w : World) (o1 o2 o3 : Obj) : Below w.heap.size w (((w.alloc o1).alloc o2).alloc o3) := (below2 w o1 o2).alloc (by simp; omega) _
/-- The digits do not lie in block g. -/
def Off (g : Nat) (A : Option Addr) (xs : List Nat) : Prop := 0 < xs.length → ∀ o, A ≠ some ⟨g, o, none⟩
theorem Dg.set_off {w : World} {A : Option Addr} {c g : Nat} {xs : List Nat} (h : Dg w A c xs) (hA : Off g A xs) (i : Nat) (v : Value) : Dg (w.setCell ⟨g, i, none⟩ v) A c xs :=
  ⟨h.1, h.2.1, fun h0 => by
    obtain ⟨b, off, e, hb, hc⟩ := h.2.2 h0
    have hne : b ≠ g := fun e' => hA h0 off (by rw [e, e'])
    refine ⟨b, off, e, by simpa using hb, fun j hj => ?_⟩
    rw [World.cell?_setCell_other _ _ _ _ (by intro h; simp only [Addr.mk.injEq] at h; omega)]
    exact hc j hj⟩
/-- Digits do not lie where a result of another kind is kept. -/
theorem off_box {W w1 : World} {A : Option Addr} {c g : Nat} {xs : List Nat} {cs : Array Value} {t : TypeId} (hd : Dg w1 A c xs) (hb : Below (W.alloc (.cells cs t)).heap.size (W.alloc (.cells cs t)) w1) (hg : g = W.heap.size) (hcs : ∀ (o : Nat) (n : Int), cs[o]? ≠ some (.int .u32 n)) : Off g A xs := by
  intro h0 o e
  obtain ⟨b, off, e', _, hc⟩ := hd.2.2 h0
  rw [e] at e'
  simp only [Option.some.injEq, Addr.mk.injEq, and_true] at e'
  obtain ⟨rfl, rfl⟩ := e'
  have h1 := hc 0 h0
  rw [hb.cell (p := ⟨g, o + 0, none⟩) (by rw [hg]; simp), hg, cell_of_row _ _ _ _ _ _ (heap_alloc_new W _)] at h1
  exact hcs _ _ h1
theorem noint1 {A : Option Addr} {n c : Nat} : ∀ (o : Nat) (m : Int), (#[Value.slice A n c])[o]? ≠ some (.int .u32 m) := by
  intro o m; rcases o with _ | o <;> simp
theorem noint2 {A : Option Addr} {n c : Nat} {b : Bool} : ∀ (o : Nat) (m : Int), (#[Value.slice A n c, .bool b])[o]? ≠ some (.int .u32 m) := by
  intro o m; rcases o with _ | _ | o <;> simp
theorem noint2' {A : Option Addr} {n c : Nat} {b : Bool} : ∀ (o : Nat) (m : Int), (#[Value.bool b, .slice A n c])[o]? ≠ some (.int .u32 m) := by
  intro o m; rcases o with _ | _ | o <;> simp
set_option maxHeartbeats 1000000 in
set_option maxRecDepth 100000 in
theorem against_any (A B : Option Addr) (c d x y : Nat) (q : Int) (w : World) (h : Dg w A c (digs x)) (h' : Dg w B d (digs y)) (hl : (digs x).length ≤ 1048576) (hl' : (digs y).length ≤ 1048576) (hq : cmpi x y = q) :
    Calls Tryd.prog 58 #[.agg #[.slice A (digs x).length c], .agg #[.slice B (digs y).length d]] w fun e w' => e = .returned (.int .i64 q) ∧ Below w.heap.size w w' := by
  have HC := Lib.hid (cmp_any A B c d (digs x) (digs y))
  rw [val_digs, val_digs, hq] at HC
  go_enter Tryd.func58, Tryd.ntmps58
  go_wp2_with fail
  refine (HC.out _ (h.below (below2 _ _ _)) (h'.below (below2 _ _ _)) (by omega) (by omega)).mono ?_
  rintro e w1 ⟨rfl, k, rfl⟩
  go_wp2
  go_ret
  exact ⟨rfl, below_drewN (below2 _ _ _) _⟩
set_option maxHeartbeats 1000000 in
set_option maxRecDepth 100000 in
theorem with_any (A B : Option Addr) (c d x y : Nat) (w : World) (h : Dg w A c (digs x)) (h' : Dg w B d (digs y)) (hl : (digs x).length ≤ 1048576) (hl' : (digs y).length ≤ 1048576) :
    Calls Tryd.prog 74 #[.agg #[.slice A (digs x).length c], .agg #[.slice B (digs y).length d]] w fun e w' => ∃ A' c', e = .returned (.agg #[.slice A' (digs (x + y)).length c']) ∧ Dg w' A' c' (digs (x + y)) ∧ Below w.heap.size w w' := by
  have HC := Lib.hid (add_any A B c d (digs x) (digs y))
  rw [val_digs, val_digs] at HC
  go_enter Tryd.func74, Tryd.ntmps74
  go_wp2_with fail
  refine (HC.out _ (h.below (below3 _ _ _ _)) (h'.below (below3 _ _ _ _)) hl hl').mono ?_
  rintro e w1 ⟨A1, c1, rfl, hd, hb⟩
  obtain ⟨hc, hf⟩ := bcell hb
  have HO := Lib.hid (off_box (g := w.heap.size + 1 + 1) hd hb (by simp) noint1)
  have HB := Lib.hid ((below3 w _ _ _).trans (hb.mono (by simp; omega)))
  have HD := Lib.hid hd
  clear hb hd
  go_wp2
  refine bodyPost_ret (v := .agg #[.slice A1 (digs (x + y)).length c1]) (by simp [results, Tryd.results74, go_sem, hc]) rfl ⟨A1, c1, rfl, ?_, ?_⟩
  · exact HD.out.set_off HO.out _ _
  · exact HB.out.setCell (by simp; omega) _
set_option maxHeartbeats 1000000 in
set_option maxRecDepth 100000 in
theorem times_any (A B : Option Addr) (c d x y : Nat) (w : World) (h : Dg w A c (digs x)) (h' : Dg w B d (digs y)) (hl : (digs x).length ≤ 1048576) (hl' : (digs y).length ≤ 1048576) :
    Calls Tryd.prog 49 #[.agg #[.slice A (digs x).length c], .agg #[.slice B (digs y).length d]] w fun e w' => ∃ A' c', e = .returned (.agg #[.slice A' (digs (x * y)).length c']) ∧ Dg w' A' c' (digs (x * y)) ∧ Below w.heap.size w w' := by
  have HC := Lib.hid (mul_any A B c d (digs x) (digs y))
  rw [val_digs, val_digs] at HC
  go_enter Tryd.func49, Tryd.ntmps49
  go_wp2_with fail
  refine (HC.out _ (h.below (below3 _ _ _ _)) (h'.below (below3 _ _ _ _)) hl hl').mono ?_
  rintro e w1 ⟨A1, c1, rfl, hd, hb⟩
  obtain ⟨hc, hf⟩ := bcell hb
  have HO := Lib.hid (off_box (g := w.heap.size + 1 + 1) hd hb (by simp) noint1)
  have HB := Lib.hid ((below3 w _ _ _).trans (hb.mono (by simp; omega)))
  have HD := Lib.hid hd
  clear hb hd
  go_wp2
  refine bodyPost_ret (v := .agg #[.slice A1 (digs (x * y)).length c1]) (by simp [results, Tryd.results49, go_sem, hc]) rfl ⟨A1, c1, rfl, ?_, ?_⟩
  · exact HD.out.set_off HO.out _ _
  · exact HB.out.setCell (by simp; omega) _
set_option maxHeartbeats 1000000 in
set_option maxRecDepth 100000 in
theorem without_any (A B : Option Addr) (c d x y : Nat) (w : World) (h : Dg w A c (digs x)) (h' : Dg w B d (digs y)) (hl : (digs x).length ≤ 1048576) (hl' : (digs y).length ≤ 1048576) (hle : y ≤ x) :
    Calls Tryd.prog 63 #[.agg #[.slice A (digs x).length c], .agg #[.slice B (digs y).length d]] w fun e w' => ∃ A' c', e = .returned (.agg #[.slice A' (digs (x - y)).length c']) ∧ Dg w' A' c' (digs (x - y)) ∧ Below w.heap.size w w' := by
  have HC := Lib.hid (sub_yes A B c d (digs x) (digs y))
  rw [val_digs, val_digs] at HC
  go_enter Tryd.func63, Tryd.ntmps63
  go_wp2_with fail
  refine (HC.out _ (h.below (below3 _ _ _ _)) (h'.below (below3 _ _ _ _)) hl hl' hle).mono ?_
  rintro e w1 ⟨A1, c1, rfl, hd, hb⟩
  obtain ⟨hc, hf⟩ := bcell hb
  have HO := Lib.hid (off_box (g := w.heap.size + 1 + 1) hd hb (by simp) noint1)
  have HB := Lib.hid ((below3 w _ _ _).trans (hb.mono (by simp; omega)))
  have HD := Lib.hid hd
  clear hb hd
  go_wp2
  refine bodyPost_ret (v := .agg #[.slice A1 (digs (x - y)).length c1]) (by simp [results, Tryd.results63, go_sem, hc]) rfl ⟨A1, c1, rfl, ?_, ?_⟩
  · exact HD.out.set_off HO.out _ _
  · exact HB.out.setCell (by simp; omega) _
set_option maxHeartbeats 1000000 in
set_option maxRecDepth 100000 in
theorem more_any (A : Option Addr) (c x : Nat) (w : World) (h : Dg w A c (digs x)) (hl : (digs x).length ≤ 1048576) :
    Calls Tryd.prog 62 #[.agg #[.slice A (digs x).length c]] w fun e w' => ∃ A' c', e = .returned (.agg #[.slice A' (digs (x + 1)).length c']) ∧ Dg w' A' c' (digs (x + 1)) ∧ Below w.heap.size w w' := by
  have d1 := digs_one (a := 1) (by omega) (by omega)
  have HC := Lib.hid (fun (B : Option Addr) (d : Nat) (W : World) (h1 : Dg W A c (digs x)) (h2 : Dg W B d [1]) => with_any A B c d x 1 W h1 (by rw [d1]; exact h2) hl (by rw [d1]; simp))
  rw [d1] at HC
  clear d1
  go_enter Tryd.func62, Tryd.ntmps62
  go_wp2_with fail
  have HN := Lib.hid (((live_start _).add (h.below (below2 w (.cells #[.slice A (digs x).length c] 57) (.cells #[.slice none 0 0] 57)))).new1 1 1 rfl (by omega))
  refine (HC.out _ _ _ (HN.out.get (by simp)) (HN.out.get (by simp))).mono ?_
  rintro e w1 ⟨A1, c1, rfl, hd, hb⟩
  obtain ⟨hc, hf⟩ := bcell hb
  have HO := Lib.hid (off_box (g := w.heap.size + 1) hd ((below1 _ _).trans (hb.mono (by simp))) (by simp) noint1)
  have HB := Lib.hid ((below3 w _ _ _).trans (hb.mono (by simp; omega)))
  have HD := Lib.hid hd
  clear hb hd
  go_wp2
  refine bodyPost_ret (v := .agg #[.slice A1 (digs (x + 1)).length c1]) (by simp [results, Tryd.results62, go_sem, hc]) rfl ⟨A1, c1, rfl, ?_, ?_⟩
  · exact HD.out.set_off HO.out _ _
  · exact HB.out.setCell (by simp) _
/-- A whole number as an answer: its sign, its digits. -/
def sg (s : Bool) (m : Nat) : Int := if s then -(m : Int) else (m : Int)
set_option maxHeartbeats 1000000 in
set_option maxRecDepth 100000 in
theorem give_any (A : Option Addr) (c x : Nat) (s : Bool) (w : World) (h : Dg w A c (digs x)) (hl : (digs x).length ≤ 1048576) :
    Calls Tryd.prog 46 #[.agg #[.slice A (digs x).length c, .bool s]] w fun e w' => ∃ A' c', e = .returned (.agg #[.bool (s && decide (x ≠ 0)), .slice A' (digs x).length c']) ∧ Dg w' A' c' (digs x) ∧ Below w.heap.size w w' := by
  by_cases h0 : x = 0
  · subst h0
    have HZ := Lib.hid (zero_any A (digs 0).length c)
    rw [digs_zero] at HZ
    rw [digs_zero]
    go_enter Tryd.func46, Tryd.ntmps46
    go_wp2_with fail
    refine (HZ.out _ true rfl).mono ?_
    rintro e w1 ⟨rfl, hb⟩
    obtain ⟨hc, hf⟩ := bcell hb
    have HB := Lib.hid ((below2 w _ _).trans (hb.mono (by simp; omega)))
    clear hb
    go_wp2
    refine bodyPost_ret (v := .agg #[.bool false, .slice none 0 0]) (by simp [results, Tryd.results46, go_sem, hc]) rfl ⟨none, 0, by simp, Dg.nil_ _ _, ?_⟩
    exact (HB.out.setCell (by simp) _).setCell (by simp) _
  · have hz : (((digs x).length : Int) == 0) = false := beq_eq_false_iff_ne.2 (by have : (digs x).length ≠ 0 := fun e => h0 (digs_nil.1 e); omega)
    have HZ := Lib.hid hz
    have HS := Lib.hid (show (s && decide (x ≠ 0)) = s by rw [decide_eq_true h0, Bool.and_true])
    clear hz h0
    go_enter Tryd.func46, Tryd.ntmps46
    go_wp2_with fail
    refine (zero_any A (digs x).length c _ false HZ.out).mono ?_
    rintro e w1 ⟨rfl, hb⟩
    obtain ⟨hc, hf⟩ := bcell hb
    have HD := Lib.hid (h.below ((below2 w _ _).trans (hb.mono (by simp; omega))))
    have HO := Lib.hid (off_box (g := w.heap.size + 1) HD.out hb (by simp) noint2')
    have HB := Lib.hid ((below2 w _ _).trans (hb.mono (by simp; omega)))
    clear hb h
    go_wp2
    refine bodyPost_ret (v := .agg #[.bool s, .slice A (digs x).length c]) (by simp [results, Tryd.results46, go_sem, hc]) rfl ⟨A, c, by rw [HS.out], ?_, ?_⟩
    · exact (HD.out.set_off HO.out _ _).set_off HO.out _ _
    · exact (HB.out.setCell (by simp) _).setCell (by simp) _
end Go.Proofs.YthgkdpfkaobgoaaDoor
end

section
/-
  zint.sum, Add.
-/
namespace Go.Proofs.YthgkdpfkaobgoaaDoor
open Go.RowKit
theorem bcellN {W w1 : World} {N : Nat} (hb : Below W.heap.size W w1) (hN : N ≤ W.heap.size) : (∀ b o, b < N → w1.cell? ⟨b, o, none⟩ = W.cell? ⟨b, o, none⟩) ∧ (∀ b o, b < N → w1.frozen? ⟨b, o, none⟩ = W.frozen? ⟨b, o, none⟩) :=
  ⟨fun b o h => hb.cell (p := ⟨b, o, none⟩) (by simpa using Nat.lt_of_lt_of_le h hN), fun b o h => hb.frozen (p := ⟨b, o, none⟩) (by simpa using Nat.lt_of_lt_of_le h hN)⟩
theorem bcellB {W w1 : World} {N : Nat} (hb : Below N W w1) : (∀ b o, b < N → w1.cell? ⟨b, o, none⟩ = W.cell? ⟨b, o, none⟩) ∧ (∀ b o, b < N → w1.frozen? ⟨b, o, none⟩ = W.frozen? ⟨b, o, none⟩) :=
  ⟨fun b o h => hb.cell (p := ⟨b, o, none⟩) h, fun b o h => hb.frozen (p := ⟨b, o, none⟩) h⟩
theorem undrew {w w1 : World} (hb : Below w.drew.heap.size w.drew w1) : Below w.heap.size w w1 := ⟨hb.os, hb.tape, hb.output, hb.size, hb.block⟩
theorem N2 (w : World) (o1 o2 o3 : Obj) : w.heap.size + 2 ≤ (((w.alloc o1).alloc o2).alloc o3).heap.size := by simp
theorem size1 (w : World) (o1 : Obj) : w.heap.size + 1 ≤ (w.alloc o1).heap.size := by simp
theorem size2 (w : World) (o1 o2 : Obj) : w.heap.size + 2 ≤ ((w.alloc o1).alloc o2).heap.size := by simp
theorem size3 (w : World) (o1 o2 o3 : Obj) : w.heap.size + 3 ≤ (((w.alloc o1).alloc o2).alloc o3).heap.size := by simp
set_option maxHeartbeats 4000000 in
set_option maxRecDepth 100000 in
theorem sum_same (A B : Option Addr) (c d x y : Nat) (s : Bool) (w : World) (h : Dg w A c (digs x)) (h' : Dg w B d (digs y)) (hl : (digs x).length ≤ 1048576) (hl' : (digs y).length ≤ 1048576) :
    Calls Tryd.prog 44 #[.agg #[.slice A (digs x).length c, .bool s], .agg #[.slice B (digs y).length d, .bool s]] w fun e w' => ∃ A' c', e = .returned (.agg #[.slice A' (digs (x + y)).length c', .bool s]) ∧ Dg w' A' c' (digs (x + y)) ∧ Below w.heap.size w w' := by
  have HW := Lib.hid (with_any A B c d x y)
  have hs : (s == s) = true := by simp
  go_enter Tryd.func44, Tryd.ntmps44
  go_wp2
  go_region_held3 (fun w' => (∀ b o, b < w.heap.size + 2 → w'.cell? ⟨b, o, none⟩ = (((w.alloc (.cells #[.slice A (digs x).length c, .bool s] 59)).alloc (.cells #[.slice B (digs y).length d, .bool s] 59)).alloc (.cells #[.slice none 0 0, .bool false] 59)).cell? ⟨b, o, none⟩) ∧ (∀ b o, b < w.heap.size + 2 → w'.frozen? ⟨b, o, none⟩ = (((w.alloc (.cells #[.slice A (digs x).length c, .bool s] 59)).alloc (.cells #[.slice B (digs y).length d, .bool s] 59)).alloc (.cells #[.slice none 0 0, .bool false] 59)).frozen? ⟨b, o, none⟩))
    (first | exact ⟨fun _ _ _ => rfl, fun _ _ _ => rfl⟩ | exact bcellB HB1.out | exact bcellB ((HB1.out.setCell (by simp) _).setCell (by simp) _))
    (first | (go_at_call 74; refine (HW.out _ (h.below (below_drew (below3 _ _ _ _))) (h'.below (below_drew (below3 _ _ _ _))) hl hl').mono ?_; rintro e w1 ⟨A1, c1, rfl, hd, hb⟩; (have HB1 := Lib.hid ((undrew hb).mono (N2 _ _ _ _))); (obtain ⟨hc1, hf1⟩ := bcell (undrew hb)); (have HO1 := Lib.hid (off_box (g := w.heap.size + 1 + 1) hd (undrew hb) (by simp) noint2)); (have HD1 := Lib.hid hd); clear hb hd))
  go_wp2
  refine bodyPost_ret (v := .agg #[.slice A1 (digs (x + y)).length c1, .bool s]) (by simp [results, Tryd.results44, go_sem, hc1]) rfl ⟨A1, c1, rfl, ?_, ?_⟩
  · exact (HD1.out.set_off HO1.out _ _).set_off HO1.out _ _
  · exact (((below3 w _ _ _).trans (HB1.out.mono (by omega))).setCell (by simp; omega) _).setCell (by simp; omega) _
set_option maxHeartbeats 4000000 in
set_option maxRecDepth 100000 in
theorem sum_less (A B : Option Addr) (c d x y : Nat) (s r : Bool) (w : World) (h : Dg w A c (digs x)) (h' : Dg w B d (digs y)) (hl : (digs x).length ≤ 1048576) (hl' : (digs y).length ≤ 1048576) (hsr : (s == r) = false) (hlt : x < y) :
    Calls Tryd.prog 44 #[.agg #[.slice A (digs x).length c, .bool s], .agg #[.slice B (digs y).length d, .bool r]] w fun e w' => ∃ A' c', e = .returned (.agg #[.slice A' (digs (y - x)).length c', .bool r]) ∧ Dg w' A' c' (digs (y - x)) ∧ Below w.heap.size w w' := by
  have HA := Lib.hid (fun W h1 h2 => against_any A B c d x y (-1) W h1 h2 hl hl' (cmpi_lt hlt))
  have HW := Lib.hid (fun W h1 h2 => without_any B A d c y x W h1 h2 hl' hl (Nat.le_of_lt hlt))
  clear hlt
  go_enter Tryd.func44, Tryd.ntmps44
  go_wp2_with fail
  refine (HA.out _ (h.below (below3 _ _ _ _)) (h'.below (below3 _ _ _ _))).mono ?_
  rintro e w0 ⟨rfl, hb0⟩
  have HB0 := Lib.hid hb0
  have H1 := Lib.hid (h.below ((below3 w _ _ _).trans (hb0.mono (by simp; omega))))
  have H2 := Lib.hid (h'.below ((below3 w _ _ _).trans (hb0.mono (by simp; omega))))
  obtain ⟨hc0, hf0⟩ := bcell hb0
  clear hb0 h h'
  go_wp2
  go_region_held3 (fun w' => (∀ b o, b < w.heap.size + 2 → w'.cell? ⟨b, o, none⟩ = (((w.alloc (.cells #[.slice A (digs x).length c, .bool s] 59)).alloc (.cells #[.slice B (digs y).length d, .bool r] 59)).alloc (.cells #[.slice none 0 0, .bool false] 59)).cell? ⟨b, o, none⟩))
    (first | exact (bcellB (HB0.out.mono (N2 _ _ _ _))).1 | exact (bcellB HB1.out).1 | exact (bcellB ((HB1.out.setCell (by simp) _).setCell (by simp) _)).1)
    (first | (go_at_call 63; refine (HW.out _ (H2.out.below (below_drew (Below.refl _ _))) (H1.out.below (below_drew (Below.refl _ _)))).mono ?_; rintro e w1 ⟨A1, c1, rfl, hd, hb⟩; (have HB2 := Lib.hid (HB0.out.trans ((undrew hb).mono HB0.out.size))); (have HB1 := Lib.hid (HB2.out.mono (N2 _ _ _ _))); (obtain ⟨hc1, hf1⟩ := bcell HB2.out); (have HO1 := Lib.hid (off_box (g := w.heap.size + 1 + 1) hd HB2.out (by simp) noint2)); (have HD1 := Lib.hid hd); clear hb hd))
  go_wp2
  refine bodyPost_ret (v := .agg #[.slice A1 (digs (y - x)).length c1, .bool r]) (by simp [results, Tryd.results44, go_sem, hc1]) rfl ⟨A1, c1, rfl, ?_, ?_⟩
  · exact (HD1.out.set_off HO1.out _ _).set_off HO1.out _ _
  · exact (((below3 w _ _ _).trans (HB1.out.mono (by omega))).setCell (by simp; omega) _).setCell (by simp; omega) _
set_option maxHeartbeats 4000000 in
set_option maxRecDepth 100000 in
theorem sum_more (A B : Option Addr) (c d x y : Nat) (s r : Bool) (w : World) (h : Dg w A c (digs x)) (h' : Dg w B d (digs y)) (hl : (digs x).length ≤ 1048576) (hl' : (digs y).length ≤ 1048576) (hsr : (s == r) = false) (q : Int) (hq0 : decide (q < 0) = false) (hq : cmpi x y = q) (hle : y ≤ x) :
    Calls Tryd.prog 44 #[.agg #[.slice A (digs x).length c, .bool s], .agg #[.slice B (digs y).length d, .bool r]] w fun e w' => ∃ A' c', e = .returned (.agg #[.slice A' (digs (x - y)).length c', .bool s]) ∧ Dg w' A' c' (digs (x - y)) ∧ Below w.heap.size w w' := by
  have HA := Lib.hid (fun W h1 h2 => against_any A B c d x y q W h1 h2 hl hl' hq)
  have HW := Lib.hid (fun W h1 h2 => without_any A B c d x y W h1 h2 hl hl' hle)
  clear hq hle
  go_enter Tryd.func44, Tryd.ntmps44
  go_wp2_with fail
  refine (HA.out _ (h.below (below3 _ _ _ _)) (h'.below (below3 _ _ _ _))).mono ?_
  rintro e w0 ⟨rfl, hb0⟩
  have HB0 := Lib.hid hb0
  have H1 := Lib.hid (h.below ((below3 w _ _ _).trans (hb0.mono (by simp; omega))))
  have H2 := Lib.hid (h'.below ((below3 w _ _ _).trans (hb0.mono (by simp; omega))))
  obtain ⟨hc0, hf0⟩ := bcell hb0
  clear hb0 h h'
  go_wp2
  go_region_held3 (fun w' => (∀ b o, b < w.heap.size + 2 → w'.cell? ⟨b, o, none⟩ = (((w.alloc (.cells #[.slice A (digs x).length c, .bool s] 59)).alloc (.cells #[.slice B (digs y).length d, .bool r] 59)).alloc (.cells #[.slice none 0 0, .bool false] 59)).cell? ⟨b, o, none⟩))
    (first | exact (bcellB (HB0.out.mono (N2 _ _ _ _))).1 | exact (bcellB HB1.out).1 | exact (bcellB ((HB1.out.setCell (by simp) _).setCell (by simp) _)).1)
    (first | (go_at_call 63; refine (HW.out _ (H1.out.below (below_drew (Below.refl _ _))) (H2.out.below (below_drew (Below.refl _ _)))).mono ?_; rintro e w1 ⟨A1, c1, rfl, hd, hb⟩; (have HB2 := Lib.hid (HB0.out.trans ((undrew hb).mono HB0.out.size))); (have HB1 := Lib.hid (HB2.out.mono (N2 _ _ _ _))); (obtain ⟨hc1, hf1⟩ := bcell HB2.out); (have HO1 := Lib.hid (off_box (g := w.heap.size + 1 + 1) hd HB2.out (by simp) noint2)); (have HD1 := Lib.hid hd); clear hb hd))
  go_wp2
  refine bodyPost_ret (v := .agg #[.slice A1 (digs (x - y)).length c1, .bool s]) (by simp [results, Tryd.results44, go_sem, hc1]) rfl ⟨A1, c1, rfl, ?_, ?_⟩
  · exact (HD1.out.set_off HO1.out _ _).set_off HO1.out _ _
  · exact (((below3 w _ _ _).trans (HB1.out.mono (by omega))).setCell (by simp; omega) _).setCell (by simp; omega) _
theorem sg_same (s : Bool) (x y : Nat) : sg s (x + y) = sg s x + sg s y := by unfold sg; cases s <;> simp <;> omega
theorem sg_less {s r : Bool} (h : (s == r) = false) {x y : Nat} (hlt : x < y) : sg r (y - x) = sg s x + sg r y := by unfold sg; cases s <;> cases r <;> simp at h ⊢ <;> omega
theorem sg_more {s r : Bool} (h : (s == r) = false) {x y : Nat} (hlt : y ≤ x) : sg s (x - y) = sg s x + sg r y := by unfold sg; cases s <;> cases r <;> simp at h ⊢ <;> omega
theorem sum_any (A B : Option Addr) (c d x y : Nat) (s r : Bool) (w : World) (h : Dg w A c (digs x)) (h' : Dg w B d (digs y)) (hl : (digs x).length ≤ 1000000) (hl' : (digs y).length ≤ 1000000) :
    Calls Tryd.prog 44 #[.agg #[.slice A (digs x).length c, .bool s], .agg #[.slice B (digs y).length d, .bool r]] w fun e w' => ∃ A' c' m t, e = .returned (.agg #[.slice A' (digs m).length c', .bool t]) ∧ sg t m = sg s x + sg r y ∧ (digs m).length ≤ max (digs x).length (digs y).length + 1 ∧ Dg w' A' c' (digs m) ∧ Below w.heap.size w w' := by
  cases hsr : (s == r)
  · rcases Nat.lt_or_ge x y with hlt | hge
    · exact (sum_less A B c d x y s r w h h' (by omega) (by omega) hsr hlt).mono fun _ _ ⟨A', c', he, hd, hb⟩ => ⟨A', c', y - x, r, he, sg_less hsr hlt, by have := digs_sub_len y x; omega, hd, hb⟩
    · have hq : decide (cmpi x y < 0) = false := by
        rcases Nat.eq_or_lt_of_le hge with e | e
        · rw [cmpi_eq e.symm]; rfl
        · rw [cmpi_gt e]; rfl
      exact (sum_more A B c d x y s r w h h' (by omega) (by omega) hsr _ hq rfl hge).mono fun _ _ ⟨A', c', he, hd, hb⟩ => ⟨A', c', x - y, s, he, sg_more hsr hge, by have := digs_sub_len x y; omega, hd, hb⟩
  · have e : s = r := by simpa using hsr
    subst e
    exact (sum_same A B c d x y s w h h' (by omega) (by omega)).mono fun _ _ ⟨A', c', he, hd, hb⟩ => ⟨A', c', x + y, s, he, sg_same s x y, digs_add_len x y, hd, hb⟩
end Go.Proofs.YthgkdpfkaobgoaaDoor
end

section
/-
  zint.Add, Sub, Neg, Mul, Make.
-/
namespace Go.Proofs.YthgkdpfkaobgoaaDoor
open Go.RowKit
theorem sg_neg (s : Bool) (m : Nat) : (s && decide (m ≠ 0)) = decide (sg s m < 0) := by
  cases s
  · rw [Bool.false_and]; exact (decide_eq_false (by unfold sg; simp)).symm
  · rw [Bool.true_and, decide_eq_decide]; unfold sg; simp; omega
theorem sg_not (s : Bool) (m : Nat) : sg (!s) m = -sg s m := by unfold sg; cases s <;> simp
theorem sg_abs (s : Bool) (m : Nat) : (sg s m).natAbs = m := by unfold sg; cases s <;> simp
theorem sg_take (s : Bool) (m : Nat) : sg (s && decide (0 < m)) m = sg s m := by
  unfold sg; cases s
  · simp
  · rcases Nat.eq_zero_or_pos m with h | h
    · subst h; rfl
    · simp [h]
/-- A whole number as an answer. -/
def Zr (z : Int) (w : World) (e : Ending) (w' : World) : Prop := ∃ A' c', e = .returned (.agg #[.bool (decide (z < 0)), .slice A' (digs z.natAbs).length c']) ∧ Dg w' A' c' (digs z.natAbs) ∧ Below w.heap.size w w'
theorem zr_give {w w' : World} {A : Option Addr} {c m : Nat} {t : Bool} {z : Int} (hz : sg t m = z) (hd : Dg w' A c (digs m)) (hb : Below w.heap.size w w') : Zr z w (.returned (.agg #[.bool (t && decide (m ≠ 0)), .slice A (digs m).length c])) w' := by
  have e1 := sg_neg t m
  have e2 := sg_abs t m
  rw [hz] at e1 e2
  rw [e1]
  subst e2
  exact ⟨A, c, rfl, hd, hb⟩
set_option maxHeartbeats 4000000 in
set_option maxRecDepth 100000 in
theorem zadd_any (A B : Option Addr) (c d : Nat) (s r : Bool) (xs ys : List Nat) (w : World) (h : Dg w A c xs) (h' : Dg w B d ys) (hl : xs.length ≤ 1000000) (hl' : ys.length ≤ 1000000) :
    Calls Tryd.prog 15 #[.agg #[.bool s, .slice A xs.length c], .agg #[.bool r, .slice B ys.length d]] w fun e w' => Zr (sg s (val xs) + sg r (val ys)) w e w' := by
  have l1 := digs_len_le h.2.1
  have l2 := digs_len_le h'.2.1
  go_enter Tryd.func15, Tryd.ntmps15
  go_wp2
  have HB0 := Lib.hid (Below.refl (((w.alloc (.cells #[.bool s, .slice A xs.length c] 24)).alloc (.cells #[.bool r, .slice B ys.length d] 24)).alloc (.cells #[.bool false, .slice none 0 0] 24)).heap.size (((w.alloc (.cells #[.bool s, .slice A xs.length c] 24)).alloc (.cells #[.bool r, .slice B ys.length d] 24)).alloc (.cells #[.bool false, .slice none 0 0] 24)))
  have HD1 := Lib.hid (below_drew HB0.out)
  have H1 := Lib.hid (h.below (below3 _ (.cells #[.bool s, .slice A xs.length c] 24) (.cells #[.bool r, .slice B ys.length d] 24) (.cells #[.bool false, .slice none 0 0] 24)))
  have H2 := Lib.hid (h'.below (below3 _ (.cells #[.bool s, .slice A xs.length c] 24) (.cells #[.bool r, .slice B ys.length d] 24) (.cells #[.bool false, .slice none 0 0] 24)))
  clear h h'
  go_region_held3 (fun w' => (∀ b o, b < w.heap.size + 2 → w'.cell? ⟨b, o, none⟩ = (((w.alloc (.cells #[.bool s, .slice A xs.length c] 24)).alloc (.cells #[.bool r, .slice B ys.length d] 24)).alloc (.cells #[.bool false, .slice none 0 0] 24)).cell? ⟨b, o, none⟩))
    (first | exact fun _ _ _ => rfl | exact (bcellB (K1.out.mono (N2 _ _ _ _))).1 | exact (bcellB (K2.out.mono (N2 _ _ _ _))).1 | exact (bcellB (K3.out.mono (N2 _ _ _ _))).1 | exact (bcellB (K4.out.mono (N2 _ _ _ _))).1 | exact (bcellB (((K4.out.mono (N2 _ _ _ _)).setCell (by simp) _).setCell (by simp) _)).1)
    (first
      | (go_at_call_of 45 A; refine (take_any A c s xs _ (H1.out.below HD1.out) (by omega)).mono ?_; rintro e w1 ⟨A1, c1, rfl, hd, hb⟩; (have K1 := Lib.hid (HD1.out.trans (hb.mono HD1.out.size))); (have G1 := Lib.hid hd); clear hb hd)
      | (go_at_call_of 45 B; refine (take_any B d r ys _ (H2.out.below K1.out) (by omega)).mono ?_; rintro e w2 ⟨A2, c2, rfl, hd, hb⟩; (have K2 := Lib.hid (K1.out.trans (hb.mono K1.out.size))); (have G2 := Lib.hid hd); (have F1 := Lib.hid (G1.out.below hb)); clear hb hd)
      | (go_at_call 44; refine (sum_any A1 A2 c1 c2 (val xs) (val ys) _ _ _ F1.out G2.out (by omega) (by omega)).mono ?_; rintro e w3 ⟨A3, c3, m, t, rfl, hm, hlm, hd, hb⟩; (have K3 := Lib.hid (K2.out.trans (hb.mono K2.out.size))); (have G3 := Lib.hid hd); (have M := Lib.hid hm); clear hb hd hm)
      | (go_at_call 46; refine (give_any A3 c3 m t _ G3.out (by omega)).mono ?_; rintro e w4 ⟨A4, c4, rfl, hd, hb⟩; (have K4 := Lib.hid (K3.out.trans (hb.mono K3.out.size))); (obtain ⟨hc4, hf4⟩ := bcell K4.out); (have HO4 := Lib.hid (off_box (g := w.heap.size + 1 + 1) hd K4.out (by simp) noint2')); (have G4 := Lib.hid hd); clear hb hd))
  go_wp2
  refine bodyPost_ret (v := .agg #[.bool (t && decide (m ≠ 0)), .slice A4 (digs m).length c4]) (by simp [results, Tryd.results15, go_sem, hc4]) rfl ?_
  exact zr_give (by rw [M.out, sg_take, sg_take]) ((G4.out.set_off HO4.out _ _).set_off HO4.out _ _) ((((below3 w _ _ _).trans (K4.out.mono (by simp; omega))).setCell (by simp; omega) _).setCell (by simp; omega) _)
set_option maxHeartbeats 2000000 in
set_option maxRecDepth 100000 in
theorem zneg_any (A : Option Addr) (c : Nat) (s : Bool) (xs : List Nat) (w : World) (h : Dg w A c xs) (hl : xs.length ≤ 1000000) :
    Calls Tryd.prog 21 #[.agg #[.bool s, .slice A xs.length c]] w fun e w' => Zr (-sg s (val xs)) w e w' := by
  have l1 := digs_len_le h.2.1
  have HS := Lib.hid (sg_take s (val xs))
  go_enter Tryd.func21, Tryd.ntmps21
  go_wp2_with fail
  refine (take_any A c s xs _ (h.below (below2 _ _ _)) (by omega)).mono ?_
  rintro e w1 ⟨A1, c1, rfl, hd, hb⟩
  generalize (s && decide (0 < val xs)) = t at *
  have hz : w.heap.size + 1 < w1.heap.size := by have := hb.size; simp at this; omega
  have K1 := Lib.hid hb
  have G1 := Lib.hid hd
  obtain ⟨hc1, hf1⟩ := bcell hb
  clear hb hd h
  go_wp2_with fail
  refine (give_any A1 c1 (val xs) (!t) _ (G1.out.below (below1 _ _)) (by omega)).mono ?_
  rintro e w2 ⟨A2, c2, rfl, hd, hb⟩
  have K2 := Lib.hid (K1.out.trans (((below1 _ _).trans (hb.mono (by simp))).mono K1.out.size))
  have G2 := Lib.hid hd
  have HO2 := Lib.hid (off_box (g := w.heap.size + 1) hd K2.out (by simp) noint2')
  obtain ⟨hc2, hf2⟩ := bcell K2.out
  clear hb hd
  go_wp2
  refine bodyPost_ret (v := .agg #[.bool (!t && decide (val xs ≠ 0)), .slice A2 (digs (val xs)).length c2]) (by simp [results, Tryd.results21, go_sem, hc2]) rfl ?_
  exact zr_give (by rw [sg_not, HS.out]) ((G2.out.set_off HO2.out _ _).set_off HO2.out _ _) ((((below2 w _ _).trans (K2.out.mono (by simp; omega))).setCell (by simp) _).setCell (by simp) _)
set_option maxHeartbeats 2000000 in
set_option maxRecDepth 100000 in
theorem zmake_any (A : Option Addr) (c : Nat) (s : Bool) (xs : List Nat) (w : World) (h : Dg w A c xs) (hl : xs.length ≤ 1000000) :
    Calls Tryd.prog 25 #[.bool s, .slice A xs.length c] w fun e w' => Zr (sg s (val xs)) w e w' := by
  have l1 := digs_len_le h.2.1
  go_enter Tryd.func25, Tryd.ntmps25
  go_wp2_with fail
  refine (trim_any A c xs _ (h.below (below1 _ _)) (by omega)).mono ?_
  rintro e w1 ⟨A1, c1, rfl, hd, hb⟩
  have K1 := Lib.hid hb
  have G1 := Lib.hid hd
  obtain ⟨hc1, hf1⟩ := bcell hb
  clear hb hd h
  go_wp2_with fail
  refine (give_any A1 c1 (val xs) s _ G1.out (by omega)).mono ?_
  rintro e w2 ⟨A2, c2, rfl, hd, hb⟩
  have K2 := Lib.hid (K1.out.trans (hb.mono K1.out.size))
  have G2 := Lib.hid hd
  have HO2 := Lib.hid (off_box (g := w.heap.size) hd K2.out rfl noint2')
  obtain ⟨hc2, hf2⟩ := bcell K2.out
  clear hb hd
  go_wp2
  refine bodyPost_ret (v := .agg #[.bool (s && decide (val xs ≠ 0)), .slice A2 (digs (val xs)).length c2]) (by simp [results, Tryd.results25, go_sem, hc2]) rfl ?_
  exact zr_give rfl ((G2.out.set_off HO2.out _ _).set_off HO2.out _ _) ((((below1 w _).trans (K2.out.mono (by simp))).setCell (by simp) _).setCell (by simp) _)
theorem wrap_u64_eq (x : Int) : IntKind.u64.wrap x = x % 18446744073709551616 := by simp [IntKind.wrap, IntKind.signed, IntKind.bits]
set_option maxHeartbeats 2000000 in
set_option maxRecDepth 100000 in
theorem zfrom_any (n : Int) (w : World) (h0 : -9223372036854775808 ≤ n) (h1 : n ≤ 9223372036854775807) :
    Calls Tryd.prog 23 #[.int .i64 n] w fun e w' => Zr n w e w' := by
  have lf := digs_small (n := n.natAbs) (by omega)
  by_cases hn : n < 0
  · have d0 : decide (n < 0) = true := by simp [hn]
    have HS := Lib.hid (show sg true n.natAbs = n by unfold sg; simp; omega)
    have HW := Lib.hid (show IntKind.u64.wrap (-IntKind.u64.wrap n) = ((n.natAbs : Nat) : Int) by rw [wrap_u64_eq, wrap_u64_eq]; omega)
    go_enter Tryd.func23, Tryd.ntmps23
    go_wp2_with fail
    refine (from_l (i := _) (k := n.natAbs) (live_start _) HW.out (by omega)).mono ?_
    rintro e w1 ⟨A1, c1, rfl, hL⟩
    have K1 := Lib.hid hL.1
    have G1 := Lib.hid (hL.get (A := A1) (c := c1) (xs := digs n.natAbs) (by simp))
    clear hL
    go_wp2_with fail
    refine (give_any A1 c1 n.natAbs true _ G1.out (by omega)).mono ?_
    rintro e w2 ⟨A2, c2, rfl, hd, hb⟩
    have K2 := Lib.hid (K1.out.trans (hb.mono K1.out.size))
    have G2 := Lib.hid hd
    have HO2 := Lib.hid (off_box (g := w.heap.size) hd K2.out rfl noint2')
    obtain ⟨hc2, hf2⟩ := bcell K2.out
    clear hb hd
    go_wp2
    refine bodyPost_ret (v := .agg #[.bool (true && decide (n.natAbs ≠ 0)), .slice A2 (digs n.natAbs).length c2]) (by simp [results, Tryd.results23, go_sem, hc2]) rfl ?_
    exact zr_give HS.out ((G2.out.set_off HO2.out _ _).set_off HO2.out _ _) ((((below1 w _).trans (K2.out.mono (by simp))).setCell (by simp) _).setCell (by simp) _)
  · have d0 : decide (n < 0) = false := by simp; omega
    have HS := Lib.hid (show sg false n.natAbs = n by unfold sg; simp; omega)
    have HW := Lib.hid (show n = ((n.natAbs : Nat) : Int) by omega)
    go_enter Tryd.func23, Tryd.ntmps23
    go_wp2_with fail
    refine (from_l (i := _) (k := n.natAbs) (live_start _) HW.out (by omega)).mono ?_
    rintro e w1 ⟨A1, c1, rfl, hL⟩
    have K1 := Lib.hid hL.1
    have G1 := Lib.hid (hL.get (A := A1) (c := c1) (xs := digs n.natAbs) (by simp))
    clear hL
    go_wp2_with fail
    refine (give_any A1 c1 n.natAbs false _ G1.out (by omega)).mono ?_
    rintro e w2 ⟨A2, c2, rfl, hd, hb⟩
    have K2 := Lib.hid (K1.out.trans (hb.mono K1.out.size))
    have G2 := Lib.hid hd
    have HO2 := Lib.hid (off_box (g := w.heap.size) hd K2.out rfl noint2')
    obtain ⟨hc2, hf2⟩ := bcell K2.out
    clear hb hd
    go_wp2
    refine bodyPost_ret (v := .agg #[.bool (false && decide (n.natAbs ≠ 0)), .slice A2 (digs n.natAbs).length c2]) (by simp [results, Tryd.results23, go_sem, hc2]) rfl ?_
    exact zr_give HS.out ((G2.out.set_off HO2.out _ _).set_off HO2.out _ _) ((((below1 w _).trans (K2.out.mono (by simp))).setCell (by simp) _).setCell (by simp) _)
end Go.Proofs.YthgkdpfkaobgoaaDoor
end

section
/-
  zint.Sub, Mul.
-/
namespace Go.Proofs.YthgkdpfkaobgoaaDoor
open Go.RowKit
theorem chain {W v w1 : World} (h0 : Below W.heap.size W v) (hb : Below v.heap.size v w1) : Below W.heap.size W w1 := h0.trans (hb.mono h0.size)
theorem bal1 {W v : World} (h : Below W.heap.size W v) (o : Obj) : Below W.heap.size W (v.alloc o) := h.alloc h.size _
theorem bal2 {W v : World} (h : Below W.heap.size W v) (o o' : Obj) : Below W.heap.size W ((v.alloc o).alloc o') := (h.alloc h.size _).alloc (by have := h.size; simp; omega) _
theorem Dg.set_at {w : World} {A : Option Addr} {c g i : Nat} {xs : List Nat} {v0 : Value} (h : Dg w A c xs) (h0 : w.cell? ⟨g, i, none⟩ = some v0) (hv : ∀ n : Int, v0 ≠ .int .u32 n) (v : Value) : Dg (w.setCell ⟨g, i, none⟩ v) A c xs :=
  ⟨h.1, h.2.1, fun h1 => by
    obtain ⟨b, off, e, hb, hc⟩ := h.2.2 h1
    refine ⟨b, off, e, by simpa using hb, fun j hj => ?_⟩
    by_cases he : (⟨g, i, none⟩ : Addr) = ⟨b, off + j, none⟩
    · have h2 := hc j hj
      rw [← he, h0] at h2
      exact absurd (Option.some.inj h2) (hv _)
    · rw [World.cell?_setCell_other _ _ _ _ (fun e => he e)]
      exact hc j hj⟩
theorem Dg.set2 {w : World} {A B : Option Addr} {c g n m : Nat} {b : Bool} {xs : List Nat} (h : Dg w A c xs) (h0 : w.cell? ⟨g, 0, none⟩ = some (.slice B n m)) (h1 : w.cell? ⟨g, 1, none⟩ = some (.bool b)) (v v' : Value) : Dg ((w.setCell ⟨g, 0, none⟩ v).setCell ⟨g, 1, none⟩ v') A c xs :=
  (h.set_at h0 (by intro n h; cases h) v).set_at (v0 := .bool b) (by rw [World.cell?_setCell_other _ _ _ _ (by simp)]; exact h1) (by intro n h; cases h) v'
theorem bset2 {W v : World} (h : Below W.heap.size W v) {g : Nat} (hg : W.heap.size ≤ g) (a b : Value) : Below W.heap.size W ((v.setCell ⟨g, 0, none⟩ a).setCell ⟨g, 1, none⟩ b) := (h.setCell (by simpa using hg) _).setCell (by simpa using hg) _
theorem bd0 (W : World) : Below W.heap.size W W.drew := below_drew (Below.refl _ _)
theorem bd1 (W : World) (o : Obj) : Below W.heap.size W (W.alloc o).drew := below_drew (bal1 (Below.refl _ _) _)
theorem bd2 (W : World) (o o' : Obj) : Below W.heap.size W ((W.alloc o).alloc o').drew := below_drew (bal2 (Below.refl _ _) _ _)
theorem carry4 {W w' : World} (hb : Below W.heap.size W w') {p1 p2 p3 p4 : Addr} {v1 v2 v3 v4 : Value} (h : W.cell? p1 = some v1 ∧ W.cell? p2 = some v2 ∧ W.cell? p3 = some v3 ∧ W.cell? p4 = some v4)
    (b1 : p1.block < W.heap.size) (b2 : p2.block < W.heap.size) (b3 : p3.block < W.heap.size) (b4 : p4.block < W.heap.size) : w'.cell? p1 = some v1 ∧ w'.cell? p2 = some v2 ∧ w'.cell? p3 = some v3 ∧ w'.cell? p4 = some v4 :=
  ⟨(hb.cell b1).trans h.1, (hb.cell b2).trans h.2.1, (hb.cell b3).trans h.2.2.1, (hb.cell b4).trans h.2.2.2⟩
theorem set4 {w : World} {p1 p2 p3 p4 q : Addr} {v1 v2 v3 v4 v : Value} (h : w.cell? p1 = some v1 ∧ w.cell? p2 = some v2 ∧ w.cell? p3 = some v3 ∧ w.cell? p4 = some v4)
    (b1 : p1.block ≠ q.block) (b2 : p2.block ≠ q.block) (b3 : p3.block ≠ q.block) (b4 : p4.block ≠ q.block) : (w.setCell q v).cell? p1 = some v1 ∧ (w.setCell q v).cell? p2 = some v2 ∧ (w.setCell q v).cell? p3 = some v3 ∧ (w.setCell q v).cell? p4 = some v4 :=
  ⟨(World.cell?_setCell_other _ _ _ _ (fun e => b1 (by rw [e]))).trans h.1, (World.cell?_setCell_other _ _ _ _ (fun e => b2 (by rw [e]))).trans h.2.1, (World.cell?_setCell_other _ _ _ _ (fun e => b3 (by rw [e]))).trans h.2.2.1, (World.cell?_setCell_other _ _ _ _ (fun e => b4 (by rw [e]))).trans h.2.2.2⟩
set_option maxHeartbeats 4000000 in
set_option maxRecDepth 100000 in
theorem zsub_any (A B : Option Addr) (c d : Nat) (s r : Bool) (xs ys : List Nat) (w : World) (h : Dg w A c xs) (h' : Dg w B d ys) (hl : xs.length ≤ 1000000) (hl' : ys.length ≤ 1000000) :
    Calls Tryd.prog 17 #[.agg #[.bool s, .slice A xs.length c], .agg #[.bool r, .slice B ys.length d]] w fun e w' => Zr (sg s (val xs) - sg r (val ys)) w e w' := by
  have l1 := digs_len_le h.2.1
  have l2 := digs_len_le h'.2.1
  have HS := Lib.hid (sg_take r (val ys))
  go_enter Tryd.func17, Tryd.ntmps17
  go_wp2_with fail
  refine (take_any B d r ys _ (h'.below (below3 _ _ _ _)) (by omega)).mono ?_
  rintro e w1 ⟨A1, c1, rfl, hd, hb⟩
  generalize (r && decide (0 < val ys)) = t at *
  have hz : w.heap.size + 2 < w1.heap.size := by have := hb.size; simp at this; omega
  have K1 := Lib.hid hb
  have G1 := Lib.hid hd
  have H1 := Lib.hid (h.below ((below3 w _ _ _).trans (hb.mono (by simp; omega))))
  obtain ⟨hc1, hf1⟩ := bcell hb
  clear hb hd h h'
  go_wp2
  obtain ⟨W, hW⟩ : ∃ W : World, W = w1.alloc (.cells #[.slice A1 (digs (val ys)).length c1, .bool (!t)] 59) := ⟨_, rfl⟩
  have hsz : W.heap.size = w1.heap.size + 1 := by rw [hW]; simp
  have F0 := Lib.hid (show W.cell? ⟨w.heap.size, 0, none⟩ = some (.bool s) ∧ W.cell? ⟨w.heap.size, 1, none⟩ = some (.slice A xs.length c) ∧ W.cell? ⟨w1.heap.size, 0, none⟩ = some (.slice A1 (digs (val ys)).length c1) ∧ W.cell? ⟨w1.heap.size, 1, none⟩ = some (.bool (!t)) by
    rw [hW]
    refine ⟨?_, ?_, cell_of_row _ _ _ _ _ _ (heap_alloc_new w1 _), cell_of_row _ _ _ _ _ _ (heap_alloc_new w1 _)⟩
    · rw [World.cell?_alloc_lt _ _ _ (by simp; omega), hc1 _ _ (by simp; omega)]; go_simp
    · rw [World.cell?_alloc_lt _ _ _ (by simp; omega), hc1 _ _ (by simp; omega)]; go_simp)
  have KW := Lib.hid (show Below w1.heap.size w1 W by rw [hW]; exact below1 _ _)
  rw [← hW]
  have HW := Lib.hid hW
  have HZ := Lib.hid hsz
  have S0 : w.heap.size < W.heap.size := by omega
  have S1 : w1.heap.size < W.heap.size := by omega
  clear hW hc1 hf1 hsz
  have N1 := Lib.hid (show w.heap.size ≠ w.heap.size + 1 + 1 by omega)
  have N2 := Lib.hid (show w1.heap.size ≠ w.heap.size + 1 + 1 by omega)
  have D0 := Lib.hid (below_drew (Below.refl W.heap.size W))
  go_region_held3 (fun w' => w'.cell? ⟨w.heap.size, 0, none⟩ = some (.bool s) ∧ w'.cell? ⟨w.heap.size, 1, none⟩ = some (.slice A xs.length c) ∧ w'.cell? ⟨w1.heap.size, 0, none⟩ = some (.slice A1 (digs (val ys)).length c1) ∧ w'.cell? ⟨w1.heap.size, 1, none⟩ = some (.bool (!t)))
    (first | exact F0.out | exact carry4 K2.out F0.out S0 S0 S1 S1 | exact carry4 K3.out F0.out S0 S0 S1 S1 | exact carry4 K4.out F0.out S0 S0 S1 S1 | exact set4 (set4 (carry4 K4.out F0.out S0 S0 S1 S1) N1.out N1.out N2.out N2.out) N1.out N1.out N2.out N2.out)
    (first
      | (go_at_call 45; refine (take_any A c s xs _ (H1.out.below (KW.out.trans (D0.out.mono KW.out.size))) (by omega)).mono ?_; rintro e w2 ⟨A2, c2, rfl, hd, hb⟩; (have K2 := Lib.hid (D0.out.trans (hb.mono D0.out.size))); (have G2 := Lib.hid hd); clear hb hd)
      | (go_at_call 44; refine (sum_any A2 A1 c2 c1 (val xs) (val ys) _ _ _ G2.out (G1.out.below (KW.out.trans (K2.out.mono KW.out.size))) (by omega) (by omega)).mono ?_; rintro e w3 ⟨A3, c3, m, q, rfl, hm, hlm, hd, hb⟩; (have K3 := Lib.hid (K2.out.trans (hb.mono K2.out.size))); (have G3 := Lib.hid hd); (have M := Lib.hid hm); clear hb hd hm)
      | (go_at_call 46; refine (give_any A3 c3 m q _ G3.out (by omega)).mono ?_; rintro e w4 ⟨A4, c4, rfl, hd, hb⟩; (have K4 := Lib.hid (K3.out.trans (hb.mono K3.out.size))); (have KA := Lib.hid (K1.out.trans ((KW.out.trans (K4.out.mono KW.out.size)).mono K1.out.size))); (obtain ⟨hc4, hf4⟩ := bcell KA.out); (have HO4 := Lib.hid (off_box (g := w.heap.size + 1 + 1) hd KA.out (by simp) noint2')); (have G4 := Lib.hid hd); clear hb hd))
  go_wp2
  refine bodyPost_ret (v := .agg #[.bool (q && decide (m ≠ 0)), .slice A4 (digs m).length c4]) (by simp [results, Tryd.results17, go_sem, hc4]) rfl ?_
  exact zr_give (by rw [M.out, sg_take, sg_not, HS.out]; omega) ((G4.out.set_off HO4.out _ _).set_off HO4.out _ _) ((((below3 w _ _ _).trans (KA.out.mono (by simp; omega))).setCell (by simp; omega) _).setCell (by simp; omega) _)
end Go.Proofs.YthgkdpfkaobgoaaDoor
end

section
/-
  A region that draws its order, by what holds behind each of its operations (an invariant): no order is walked.
-/
namespace Go.Proofs.YthgkdpfkaobgoaaDoor
open Go.RowKit
section
variable {P : Program} {ops : Array Oper} {Q : Exit → Act → World → Prop} {md : Region.Mode}
/-- How many have not come up. -/
def still (l : Array Bool) : Nat := l.toList.count false
theorem still_set {l : Array Bool} {i : Nat} (h : l.getD i true = false) : still (l.setIfInBounds i true) + 1 = still l := by
  have hlt : i < l.size := by
    rcases Nat.lt_or_ge i l.size with h' | h'
    · exact h'
    · simp [Array.getElem?_eq_none h'] at h
  obtain ⟨l⟩ := l
  simp only [still, List.setIfInBounds_toArray] at *
  simp at hlt
  simp [hlt] at h
  have : ∀ (l : List Bool) (i : Nat) (h : i < l.length), l[i] = false → (l.set i true).count false + 1 = l.count false := by
    intro l
    induction l with
    | nil => intro i h; simp at h
    | cons x xs ih =>
      intro i hi hx
      cases i with
      | zero => simp at hx; subst hx; simp
      | succ i =>
        simp at hx hi
        have := ih i hi hx
        simp only [List.set_cons_succ, List.count_cons]
        omega
  exact this l i hlt h
/-- What holds at the start, and stands behind each operation that may come up, holds at the end. -/
theorem wpAny_inv (I : Array Bool → Act → World → Prop)
    (step : ∀ l a w i, I l a w → i ∈ Region.ready md ops l → wpOp P ops Q i (fun a' w' => I (l.setIfInBounds i true) a' w') a w)
    (done : ∀ l a w, I l a w → Region.ready md ops l = [] → Q .normal a w) :
    ∀ (fuel : Nat) (l : Array Bool) (a : Act) (w : World), I l a w → still l ≤ fuel → wpAny P md ops Q fuel l a w
  | 0, l, a, w, h, hf => by
    have hr : Region.ready md ops l = [] := by
      rcases hr : Region.ready md ops l with _ | ⟨i, is⟩
      · rfl
      · have := still_set (mem_ready.1 (show i ∈ Region.ready md ops l by rw [hr]; simp)).1
        omega
    exact ⟨hr, done l a w h hr⟩
  | fuel + 1, l, a, w, h, hf => by
    refine ⟨fun hr => done l a w h hr, fun i hi => ?_⟩
    refine wpOp_mono (fun a' w' h' => wpAny_inv I step done fuel _ a' w' h' ?_) (step l a w i h hi)
    have := still_set (mem_ready.1 hi).1
    omega
/-- Every edge leads back. -/
def backB (md : Region.Mode) (ops : Array Oper) : Bool := (List.range ops.size).all fun i => ((ops[i]?).map fun o => o.after.all fun e => !Region.binds md e || decide (e.on < i)).getD true
theorem all_of_back (hb : backB md ops = true) {l : Array Bool} (hs : l.size = ops.size) (hr : Region.ready md ops l = []) : ∀ i, i < ops.size → l.getD i false = true := by
  intro i
  induction i using Nat.strongRecOn with
  | ind i ih =>
    intro hi
    cases hg : l.getD i false with
    | true => rfl
    | false =>
      have hmem : i ∈ Region.ready md ops l := by
        refine mem_ready.2 ⟨?_, ops[i], by simp [hi], fun e he hbi => ?_⟩
        · have : i < l.size := by omega
          simp [this] at hg ⊢
          exact hg
        · simp only [backB, List.all_eq_true, List.mem_range] at hb
          have h1 := hb i hi
          simp only [Array.getElem?_eq_getElem hi, Option.map_some, Option.getD_some, Array.all_eq_true_iff_forall_mem] at h1
          have h2 := h1 e he
          simp only [hbi, Bool.not_true, Bool.false_or, decide_eq_true_eq] at h2
          exact ih e.on h2 (by omega)
      rw [hr] at hmem; cases hmem
/-- Number i waits for number k. -/
def waitsB (md : Region.Mode) (ops : Array Oper) (i k : Nat) : Bool := ((ops[i]?).map fun o => o.after.any fun e => Region.binds md e && e.on == k).getD false
theorem waits_spec {i k : Nat} (h : waitsB md ops i k = true) {l : Array Bool} (hr : i ∈ Region.ready md ops l) : l.getD k false = true := by
  obtain ⟨_, o, ho, hall⟩ := mem_ready.1 hr
  simp only [waitsB, ho, Option.map_some, Option.getD_some, Array.any_eq_true'] at h
  obtain ⟨e, he, h1⟩ := h
  simp only [Bool.and_eq_true, beq_iff_eq] at h1
  have := hall e he h1.1
  rw [h1.2] at this
  exact this
end
theorem wpOp_one {P : Program} {ops : Array Oper} {Q : Exit → Act → World → Prop} {i : Nat} {o : Oper} {K : Act → World → Prop} {a : Act} {w : World} (hi : ops[i]? = some o) (hg : o.guard = none) (h : o.wp P a w K Q) : wpOp P ops Q i K a w := by
  unfold wpOp
  rw [hi]
  simp only [Region.wanted, hg, if_true]
  exact .inl h
/-! ### What stays -/
/-- Every digit stays. -/
def Kept (w w' : World) : Prop := w.heap.size ≤ w'.heap.size ∧ ∀ (b o : Nat) (n : Int), w.cell? ⟨b, o, none⟩ = some (.int .u32 n) → w'.cell? ⟨b, o, none⟩ = some (.int .u32 n)
theorem Kept.refl (w : World) : Kept w w := ⟨Nat.le_refl _, fun _ _ _ h => h⟩
theorem Kept.trans {a b c : World} (h : Kept a b) (k : Kept b c) : Kept a c := ⟨Nat.le_trans h.1 k.1, fun b o n e => k.2 b o n (h.2 b o n e)⟩
theorem cell_lt {w : World} {b o : Nat} {v : Value} (h : w.cell? ⟨b, o, none⟩ = some v) : b < w.heap.size := by
  rcases Nat.lt_or_ge b w.heap.size with h' | h'
  · exact h'
  · simp [World.cell?, Array.getElem?_eq_none h'] at h
theorem Kept.below {w w' : World} (h : Below w.heap.size w w') : Kept w w' := ⟨h.size, fun b o _n e => (h.cell (p := ⟨b, o, none⟩) (cell_lt e)).trans e⟩
theorem Dg.kept {w w' : World} {A : Option Addr} {c : Nat} {xs : List Nat} (h : Dg w A c xs) (hk : Kept w w') : Dg w' A c xs :=
  ⟨h.1, h.2.1, fun h0 => by
    obtain ⟨b, off, e, hb, hc⟩ := h.2.2 h0
    exact ⟨b, off, e, Nat.lt_of_lt_of_le hb hk.1, fun j hj => hk.2 _ _ _ (hc j hj)⟩⟩
/-- Block g alone may be another one. -/
structure Only (g : Nat) (w w' : World) : Prop where
  os : w'.os = w.os
  tape : w'.tape = w.tape
  output : w'.output = w.output
  size : w'.heap.size = w.heap.size
  block : ∀ k, k ≠ g → w'.heap[k]? = w.heap[k]?
theorem Only.setCell {g : Nat} {w w' : World} (h : Only g w w') (i : Nat) (v : Value) : Only g w (w'.setCell ⟨g, i, none⟩ v) :=
  ⟨h.os, h.tape, h.output, by simpa using h.size, fun k hk => (heap_setCell_other _ _ _ _ (by simpa using hk)).trans (h.block k hk)⟩
theorem Only.refl (g : Nat) (w : World) : Only g w w := ⟨rfl, rfl, rfl, rfl, fun _ _ => rfl⟩
theorem Only.below {g N : Nat} {W w w' : World} (h : Only g w w') (hb : Below N W w) (hg : N ≤ g) : Below N W w' :=
  ⟨h.os.trans hb.os, h.tape.trans hb.tape, h.output.trans hb.output, by rw [h.size]; exact hb.size, fun k hk => (h.block k (by omega)).trans (hb.block k hk)⟩
theorem Only.kept {g : Nat} {w w' : World} (h : Only g w w') {zs : Array Value} {T : TypeId} {fr : Nat × Nat} (hg : w.heap[g]? = some (.cells zs T fr)) (hz : ∀ (i : Nat) (n : Int), zs[i]? ≠ some (.int .u32 n)) : Kept w w' := by
  refine ⟨by rw [h.size]; exact Nat.le_refl _, fun b o _n e => ?_⟩
  by_cases hb : b = g
  · subst hb
    rw [cell_of_row _ _ _ _ _ _ hg] at e
    exact absurd e (hz _ _)
  · rw [← e]
    simp only [World.cell?, h.block b hb]
/-! ### Two calls whose results go into two new boxes -/
/-- One half: loaded, called, made, stored. -/
def Half (W : World) (lt ct xt : Tmp) (v : Value) (R : Value → World → Prop) (zs : Array Value) (T : TypeId) (full : Value → Array Value) (bl bc ba bs : Bool) (a : Act) (w : World) (g : Nat) (u : Value) : Prop :=
  (bl = true → a.tmps.getD lt undef = v) ∧ (bc = true → a.tmps.getD ct undef = u ∧ R u w) ∧
  (ba = true → a.tmps.getD xt undef = .pointer (some ⟨g, 0, none⟩) ∧ W.heap.size ≤ g ∧ g < w.heap.size ∧ w.heap[g]? = some (.cells (if bs then full u else zs) T (0, 0)))
section
variable {W : World} {lt ct xt : Tmp} {v : Value} {R : Value → World → Prop} {zs : Array Value} {T : TypeId} {full : Value → Array Value} {bl bc ba bs : Bool} {a a' : Act} {w w' : World} {g : Nat} {u : Value}
theorem Half.step (h : Half W lt ct xt v R zs T full bl bc ba bs a w g u) (hR : ∀ u w w', R u w → Kept w w' → R u w') (hk : Kept w w')
    (h1 : a'.tmps.getD lt undef = a.tmps.getD lt undef) (h2 : a'.tmps.getD ct undef = a.tmps.getD ct undef) (h3 : a'.tmps.getD xt undef = a.tmps.getD xt undef)
    (hg : ba = true → w'.heap[g]? = w.heap[g]?) : Half W lt ct xt v R zs T full bl bc ba bs a' w' g u :=
  ⟨fun e => h1.trans (h.1 e), fun e => ⟨h2.trans (h.2.1 e).1, hR _ _ _ (h.2.1 e).2 hk⟩, fun e => ⟨h3.trans (h.2.2 e).1, (h.2.2 e).2.1, Nat.lt_of_lt_of_le (h.2.2 e).2.2.1 hk.1, (hg e).trans (h.2.2 e).2.2.2⟩⟩
theorem put_same (a : Act) (t : Tmp) (v : Value) (h : t < a.tmps.size) : (a.put (some t) v).tmps.getD t undef = v := by simp [Act.put, h]
theorem put_other (a : Act) (t s : Tmp) (v : Value) (h : t ≠ s) : (a.put (some t) v).tmps.getD s undef = a.tmps.getD s undef := by simp [Act.put, Array.getElem?_setIfInBounds_ne h]
/-- The frame: all slots but six are as they were. -/
def Fr6 (D : List Tmp) (a0 a : Act) : Prop := a.defers = a0.defers ∧ a.tmps.size = a0.tmps.size ∧ ∀ j, j ∉ D → a.tmps.getD j undef = a0.tmps.getD j undef
theorem Fr6.put {D : List Tmp} {a0 a : Act} (h : Fr6 D a0 a) {t : Tmp} (ht : t ∈ D) (v : Value) : Fr6 D a0 (a.put (some t) v) :=
  ⟨h.1, by simp [Act.put, h.2.1], fun j hj => (put_other a t j v (fun e => hj (e ▸ ht))).trans (h.2.2 j hj)⟩
end
theorem act_ext {a b : Act} (hd : a.defers = b.defers) (hs : a.tmps.size = b.tmps.size) (h : ∀ j, a.tmps.getD j undef = b.tmps.getD j undef) : a = b := by
  obtain ⟨S, D⟩ := a
  obtain ⟨T, E⟩ := b
  simp only at hd hs h
  subst hd
  congr 1
  refine Array.ext hs (fun j h1 h2 => ?_)
  have := h j
  simpa [h1, h2] using this
theorem put_size (a : Act) (t : Tmp) (v : Value) : (a.put (some t) v).tmps.size = a.tmps.size := by simp [Act.put]
theorem put_defers (a : Act) (t : Tmp) (v : Value) : (a.put (some t) v).defers = a.defers := rfl
theorem put_at {a b : Act} {t : Tmp} {v : Value} (j : Tmp) (ht : t < b.tmps.size) (he : a.tmps.getD t undef = v) (h : j ≠ t → a.tmps.getD j undef = b.tmps.getD j undef) : a.tmps.getD j undef = (b.put (some t) v).tmps.getD j undef := by
  by_cases hj : t = j
  · subst hj; rw [put_same _ _ _ ht]; exact he
  · rw [put_other _ _ _ _ hj]; exact h (Ne.symm hj)
theorem Fr6.eq {l1 c1 l2 c2 x y : Tmp} {a0 a : Act} (h : Fr6 [l1, c1, l2, c2, x, y] a0 a) {v1 u1 v2 u2 p1 p2 : Value}
    (hin : ([l1, c1, l2, c2, x, y].all fun t => decide (t < a0.tmps.size)) = true)
    (e1 : a.tmps.getD l1 undef = v1) (e2 : a.tmps.getD c1 undef = u1) (e3 : a.tmps.getD l2 undef = v2) (e4 : a.tmps.getD c2 undef = u2) (e5 : a.tmps.getD x undef = p1) (e6 : a.tmps.getD y undef = p2) :
    a = (((((a0.put (some l1) v1).put (some c1) u1).put (some l2) v2).put (some c2) u2).put (some x) p1).put (some y) p2 := by
  simp only [List.all_cons, List.all_nil, Bool.and_true, Bool.and_eq_true, decide_eq_true_eq] at hin
  obtain ⟨i1, i2, i3, i4, i5, i6⟩ := hin
  refine act_ext (by simp only [put_defers]; exact h.1) (by simp only [put_size]; exact h.2.1) (fun j => ?_)
  refine put_at j (by simp only [put_size]; exact i6) e6 (fun n6 => put_at j (by simp only [put_size]; exact i5) e5 (fun n5 => put_at j (by simp only [put_size]; exact i4) e4 (fun n4 => put_at j (by simp only [put_size]; exact i3) e3 (fun n3 => put_at j (by simp only [put_size]; exact i2) e2 (fun n2 => put_at j i1 e1 (fun n1 => h.2.2 j ?_))))))
  simp only [List.mem_cons, List.not_mem_nil, or_false, not_or]
  exact ⟨n1, n2, n3, n4, n5, n6⟩
theorem getD_set (l : Array Bool) (i j : Nat) (hi : i < l.size) : (l.setIfInBounds i true).getD j false = (if i = j then true else l.getD j false) := by
  by_cases h : i = j
  · subst h; simp [hi]
  · rw [if_neg h]; exact getD_set_ne false h
theorem Half.flags {W : World} {lt ct xt : Tmp} {v : Value} {R : Value → World → Prop} {zs : Array Value} {T : TypeId} {full : Value → Array Value} {bl bc ba bs bl' bc' ba' bs' : Bool} {a : Act} {w : World} {g : Nat} {u : Value}
    (h : Half W lt ct xt v R zs T full bl bc ba bs a w g u) (e1 : bl' = bl) (e2 : bc' = bc) (e3 : ba' = ba) (e4 : bs' = bs) : Half W lt ct xt v R zs T full bl' bc' ba' bs' a w g u := by
  subst e1 e2 e3 e4; exact h
/-- x, y := f(p), g(q): two loads, two calls, two boxes, two stores, in whatever order. -/
theorem two_calls {P : Program} {ops : Array Oper} {Q : Exit → Act → World → Prop} {id : Nat} {a0 : Act} {W : World} (hm : P.follows .mixedOrders = true)
    (l1 c1 l2 c2 x y : Tmp) (v1 v2 : Value) (R1 R2 : Value → World → Prop) (zs : Array Value) (T : TypeId) (full : Value → Array Value)
    (hsz : ops.size = 8) (hback : backB .any ops = true)
    (hw : (waitsB .any ops 1 0 && waitsB .any ops 3 2 && waitsB .any ops 6 1 && waitsB .any ops 6 4 && waitsB .any ops 7 3 && waitsB .any ops 7 5) = true)
    (hnd : [l1, c1, l2, c2, x, y].Nodup) (hin : ([l1, c1, l2, c2, x, y].all fun t => decide (t < a0.tmps.size)) = true)
    (hz : ∀ (i : Nat) (n : Int), zs[i]? ≠ some (.int .u32 n))
    (k1 : ∀ u w w', R1 u w → Kept w w' → R1 u w') (k2 : ∀ u w w', R2 u w → Kept w w' → R2 u w')
    (s0 : ∀ a w K, Fr6 [l1, c1, l2, c2, x, y] a0 a → Below W.heap.size W w → K (a.put (some l1) v1) w → wpOp P ops Q 0 K a w)
    (s2 : ∀ a w K, Fr6 [l1, c1, l2, c2, x, y] a0 a → Below W.heap.size W w → K (a.put (some l2) v2) w → wpOp P ops Q 2 K a w)
    (s1 : ∀ a w K, Fr6 [l1, c1, l2, c2, x, y] a0 a → Below W.heap.size W w → a.tmps.getD l1 undef = v1 → (∀ u w', R1 u w' → Below w.heap.size w w' → K (a.put (some c1) u) w') → wpOp P ops Q 1 K a w)
    (s3 : ∀ a w K, Fr6 [l1, c1, l2, c2, x, y] a0 a → Below W.heap.size W w → a.tmps.getD l2 undef = v2 → (∀ u w', R2 u w' → Below w.heap.size w w' → K (a.put (some c2) u) w') → wpOp P ops Q 3 K a w)
    (s4 : ∀ a w K, Fr6 [l1, c1, l2, c2, x, y] a0 a → K (a.put (some x) (.pointer (some ⟨w.heap.size, 0, none⟩))) (w.alloc (.cells zs T)) → wpOp P ops Q 4 K a w)
    (s5 : ∀ a w K, Fr6 [l1, c1, l2, c2, x, y] a0 a → K (a.put (some y) (.pointer (some ⟨w.heap.size, 0, none⟩))) (w.alloc (.cells zs T)) → wpOp P ops Q 5 K a w)
    (s6 : ∀ a w K g u, Fr6 [l1, c1, l2, c2, x, y] a0 a → a.tmps.getD x undef = .pointer (some ⟨g, 0, none⟩) → a.tmps.getD c1 undef = u → R1 u w → w.heap[g]? = some (.cells zs T (0, 0)) → (∀ w', w'.heap[g]? = some (.cells (full u) T (0, 0)) → Only g w w' → K a w') → wpOp P ops Q 6 K a w)
    (s7 : ∀ a w K g u, Fr6 [l1, c1, l2, c2, x, y] a0 a → a.tmps.getD y undef = .pointer (some ⟨g, 0, none⟩) → a.tmps.getD c2 undef = u → R2 u w → w.heap[g]? = some (.cells zs T (0, 0)) → (∀ w', w'.heap[g]? = some (.cells (full u) T (0, 0)) → Only g w w' → K a w') → wpOp P ops Q 7 K a w)
    (hB : Below W.heap.size W { (W : World) with drawn := W.drawn + 1 })
    (fin : ∀ a w g1 g2 u1 u2, Fr6 [l1, c1, l2, c2, x, y] a0 a → Below W.heap.size W w → Half W l1 c1 x v1 R1 zs T full true true true true a w g1 u1 → Half W l2 c2 y v2 R2 zs T full true true true true a w g2 u2 → g1 ≠ g2 → Q .normal a w) :
    (Code.region id ops true).wp P Q a0 W := by
  simp only [Bool.and_eq_true] at hw
  obtain ⟨⟨⟨⟨⟨w10, w32⟩, w61⟩, w64⟩, w73⟩, w75⟩ := hw
  simp only [List.all_cons, List.all_nil, Bool.and_true, Bool.and_eq_true, decide_eq_true_eq] at hin
  obtain ⟨i1, i2, i3, i4, i5, i6⟩ := hin
  simp only [List.nodup_cons, List.mem_cons, List.not_mem_nil, or_false, not_or, not_false_eq_true, List.nodup_nil, and_true] at hnd
  obtain ⟨⟨n12, n13, n14, n15, n16⟩, ⟨n23, n24, n25, n26⟩, ⟨n34, n35, n36⟩, ⟨n45, n46⟩, n56⟩ := hnd
  generalize hD : [l1, c1, l2, c2, x, y] = D at *
  have m1 : l1 ∈ D := by rw [← hD]; simp
  have m2 : c1 ∈ D := by rw [← hD]; simp
  have m3 : l2 ∈ D := by rw [← hD]; simp
  have m4 : c2 ∈ D := by rw [← hD]; simp
  have m5 : x ∈ D := by rw [← hD]; simp
  have m6 : y ∈ D := by rw [← hD]; simp
  refine wp_region_any hm (wpAny_inv (fun l a w => l.size = 8 ∧ Fr6 D a0 a ∧ Below W.heap.size W w ∧ ∃ g1 g2 u1 u2,
    Half W l1 c1 x v1 R1 zs T full (l.getD 0 false) (l.getD 1 false) (l.getD 4 false) (l.getD 6 false) a w g1 u1 ∧
    Half W l2 c2 y v2 R2 zs T full (l.getD 2 false) (l.getD 3 false) (l.getD 5 false) (l.getD 7 false) a w g2 u2 ∧
    (l.getD 4 false = true → l.getD 5 false = true → g1 ≠ g2) ∧ (l.getD 6 false = true → l.getD 4 false = true) ∧ (l.getD 7 false = true → l.getD 5 false = true) ∧
    (l.getD 6 false = true → l.getD 1 false = true) ∧ (l.getD 7 false = true → l.getD 3 false = true)) ?_ ?_ _ _ _ _ ?_ ?_)
  · rintro l a w i ⟨hl, hF, hbw, g1, g2, u1, u2, h1, h2, hne, h64, h75, h61, h73⟩ hi
    have hiu := (mem_ready.1 hi).1
    have hi8 : i < 8 := by
      rcases Nat.lt_or_ge i l.size with h' | h'
      · omega
      · simp [Array.getElem?_eq_none h'] at hiu
    have hif : l.getD i false = false := by
      have : i < l.size := by omega
      simp [this] at hiu ⊢; exact hiu
    have sz : ∀ j, (l.setIfInBounds i true).getD j false = (if i = j then true else l.getD j false) := fun j => getD_set l i j (by omega)
    have hl' : (l.setIfInBounds i true).size = 8 := by simp [hl]
    have ps : a.tmps.size = a0.tmps.size := hF.2.1
    have hi' : i = 0 ∨ i = 1 ∨ i = 2 ∨ i = 3 ∨ i = 4 ∨ i = 5 ∨ i = 6 ∨ i = 7 := by omega
    rcases hi' with rfl | rfl | rfl | rfl | rfl | rfl | rfl | rfl
    · refine s0 a w _ hF hbw ⟨hl', hF.put m1 _, hbw, g1, g2, u1, u2, ?_, ?_, by simpa [sz] using hne, by simpa [sz] using h64, by simpa [sz] using h75, by simpa [sz] using h61, by simpa [sz] using h73⟩
      · exact ⟨fun _ => put_same _ _ _ (by rw [ps]; exact i1), fun e => ⟨(put_other _ _ _ _ n12).trans (h1.2.1 (by simpa [sz] using e)).1, (h1.2.1 (by simpa [sz] using e)).2⟩, fun e => ⟨(put_other _ _ _ _ n15).trans (h1.2.2 (by simpa [sz] using e)).1, (h1.2.2 (by simpa [sz] using e)).2.1, (h1.2.2 (by simpa [sz] using e)).2.2.1, by simpa [sz] using (h1.2.2 (by simpa [sz] using e)).2.2.2⟩⟩
      · exact (h2.step k2 (Kept.refl _) (put_other _ _ _ _ n13) (put_other _ _ _ _ n14) (put_other _ _ _ _ n16) (fun _ => rfl)).flags (by simp [sz]) (by simp [sz]) (by simp [sz]) (by simp [sz])
    · have hnot : l.getD 6 false = false := by cases h6 : l.getD 6 false with | false => rfl | true => exact absurd (h61 h6) (by rw [hif]; simp)
      refine s1 a w _ hF hbw (h1.1 (waits_spec w10 hi)) (fun u w' hu hb => ⟨hl', hF.put m2 _, hbw.trans (hb.mono hbw.size), g1, g2, u, u2, ?_, ?_, by simpa [sz] using hne, by simpa [sz] using h64, by simpa [sz] using h75, by simp [sz], by simpa [sz] using h73⟩)
      · exact ⟨fun e => (put_other _ _ _ _ (Ne.symm n12)).trans (h1.1 (by simpa [sz] using e)), fun _ => ⟨put_same _ _ _ (by rw [ps]; exact i2), hu⟩, fun e => ⟨(put_other _ _ _ _ n25).trans (h1.2.2 (by simpa [sz] using e)).1, (h1.2.2 (by simpa [sz] using e)).2.1, Nat.lt_of_lt_of_le (h1.2.2 (by simpa [sz] using e)).2.2.1 hb.size, by simpa [sz, hnot] using (hb.block _ (h1.2.2 (by simpa [sz] using e)).2.2.1).trans (h1.2.2 (by simpa [sz] using e)).2.2.2⟩⟩
      · exact (h2.step k2 (Kept.below hb) (put_other _ _ _ _ n23) (put_other _ _ _ _ n24) (put_other _ _ _ _ n26) (fun e => hb.block _ (h2.2.2 e).2.2.1)).flags (by simp [sz]) (by simp [sz]) (by simp [sz]) (by simp [sz])
    · refine s2 a w _ hF hbw ⟨hl', hF.put m3 _, hbw, g1, g2, u1, u2, ?_, ?_, by simpa [sz] using hne, by simpa [sz] using h64, by simpa [sz] using h75, by simpa [sz] using h61, by simpa [sz] using h73⟩
      · exact (h1.step k1 (Kept.refl _) (put_other _ _ _ _ (Ne.symm n13)) (put_other _ _ _ _ (Ne.symm n23)) (put_other _ _ _ _ n35) (fun _ => rfl)).flags (by simp [sz]) (by simp [sz]) (by simp [sz]) (by simp [sz])
      · exact ⟨fun _ => put_same _ _ _ (by rw [ps]; exact i3), fun e => ⟨(put_other _ _ _ _ n34).trans (h2.2.1 (by simpa [sz] using e)).1, (h2.2.1 (by simpa [sz] using e)).2⟩, fun e => ⟨(put_other _ _ _ _ n36).trans (h2.2.2 (by simpa [sz] using e)).1, (h2.2.2 (by simpa [sz] using e)).2.1, (h2.2.2 (by simpa [sz] using e)).2.2.1, by simpa [sz] using (h2.2.2 (by simpa [sz] using e)).2.2.2⟩⟩
    · have hnot : l.getD 7 false = false := by cases h6 : l.getD 7 false with | false => rfl | true => exact absurd (h73 h6) (by rw [hif]; simp)
      refine s3 a w _ hF hbw (h2.1 (waits_spec w32 hi)) (fun u w' hu hb => ⟨hl', hF.put m4 _, hbw.trans (hb.mono hbw.size), g1, g2, u1, u, ?_, ?_, by simpa [sz] using hne, by simpa [sz] using h64, by simpa [sz] using h75, by simpa [sz] using h61, by simp [sz]⟩)
      · exact (h1.step k1 (Kept.below hb) (put_other _ _ _ _ (Ne.symm n14)) (put_other _ _ _ _ (Ne.symm n24)) (put_other _ _ _ _ n45) (fun e => hb.block _ (h1.2.2 e).2.2.1)).flags (by simp [sz]) (by simp [sz]) (by simp [sz]) (by simp [sz])
      · exact ⟨fun e => (put_other _ _ _ _ (Ne.symm n34)).trans (h2.1 (by simpa [sz] using e)), fun _ => ⟨put_same _ _ _ (by rw [ps]; exact i4), hu⟩, fun e => ⟨(put_other _ _ _ _ n46).trans (h2.2.2 (by simpa [sz] using e)).1, (h2.2.2 (by simpa [sz] using e)).2.1, Nat.lt_of_lt_of_le (h2.2.2 (by simpa [sz] using e)).2.2.1 hb.size, by simpa [sz, hnot] using (hb.block _ (h2.2.2 (by simpa [sz] using e)).2.2.1).trans (h2.2.2 (by simpa [sz] using e)).2.2.2⟩⟩
    · have hal : Below w.heap.size w (w.alloc (.cells zs T)) := (Below.refl _ _).alloc (Nat.le_refl _) _
      have hnot : l.getD 6 false = false := by cases h6 : l.getD 6 false with | false => rfl | true => exact absurd (h64 h6) (by rw [hif]; simp)
      refine s4 a w _ hF ⟨hl', hF.put m5 _, hbw.alloc hbw.size _, w.heap.size, g2, u1, u2, ?_, ?_, fun _ e => Nat.ne_of_gt (h2.2.2 (by simpa [sz] using e)).2.2.1, by simp [sz], by simpa [sz] using h75, by simpa [sz] using h61, by simpa [sz] using h73⟩
      · exact ⟨fun e => (put_other _ _ _ _ (Ne.symm n15)).trans (h1.1 (by simpa [sz] using e)), fun e => ⟨(put_other _ _ _ _ (Ne.symm n25)).trans (h1.2.1 (by simpa [sz] using e)).1, k1 _ _ _ (h1.2.1 (by simpa [sz] using e)).2 (Kept.below hal)⟩, fun _ => ⟨put_same _ _ _ (by rw [ps]; exact i5), hbw.size, by simp, by simpa [sz, hnot] using heap_alloc_new w _⟩⟩
      · exact (h2.step k2 (Kept.below hal) (put_other _ _ _ _ (Ne.symm n35)) (put_other _ _ _ _ (Ne.symm n45)) (put_other _ _ _ _ n56) (fun e => hal.block _ (h2.2.2 e).2.2.1)).flags (by simp [sz]) (by simp [sz]) (by simp [sz]) (by simp [sz])
    · have hal : Below w.heap.size w (w.alloc (.cells zs T)) := (Below.refl _ _).alloc (Nat.le_refl _) _
      have hnot : l.getD 7 false = false := by cases h6 : l.getD 7 false with | false => rfl | true => exact absurd (h75 h6) (by rw [hif]; simp)
      refine s5 a w _ hF ⟨hl', hF.put m6 _, hbw.alloc hbw.size _, g1, w.heap.size, u1, u2, ?_, ?_, fun e _ => Nat.ne_of_lt (h1.2.2 (by simpa [sz] using e)).2.2.1, by simpa [sz] using h64, by simp [sz], by simpa [sz] using h61, by simpa [sz] using h73⟩
      · exact (h1.step k1 (Kept.below hal) (put_other _ _ _ _ (Ne.symm n16)) (put_other _ _ _ _ (Ne.symm n26)) (put_other _ _ _ _ (Ne.symm n56)) (fun e => hal.block _ (h1.2.2 e).2.2.1)).flags (by simp [sz]) (by simp [sz]) (by simp [sz]) (by simp [sz])
      · exact ⟨fun e => (put_other _ _ _ _ (Ne.symm n36)).trans (h2.1 (by simpa [sz] using e)), fun e => ⟨(put_other _ _ _ _ (Ne.symm n46)).trans (h2.2.1 (by simpa [sz] using e)).1, k2 _ _ _ (h2.2.1 (by simpa [sz] using e)).2 (Kept.below hal)⟩, fun _ => ⟨put_same _ _ _ (by rw [ps]; exact i6), hbw.size, by simp, by simpa [sz, hnot] using heap_alloc_new w _⟩⟩
    · have hc := h1.2.1 (waits_spec w61 hi)
      have ha := h1.2.2 (waits_spec w64 hi)
      have hz0 : w.heap[g1]? = some (.cells zs T (0, 0)) := by simpa [hif] using ha.2.2.2
      refine s6 a w _ g1 u1 hF ha.1 hc.1 hc.2 hz0 (fun w' hg' ho => ?_)
      have hk : Kept w w' := ho.kept hz0 hz
      refine ⟨hl', hF, ho.below hbw ha.2.1, g1, g2, u1, u2, ?_, ?_, by simpa [sz] using hne, fun _ => by simpa [sz] using waits_spec w64 hi, by simpa [sz] using h75, fun _ => by simpa [sz] using waits_spec w61 hi, by simpa [sz] using h73⟩
      · exact ⟨fun e => h1.1 (by simpa [sz] using e), fun e => ⟨hc.1, k1 _ _ _ hc.2 hk⟩, fun _ => ⟨ha.1, ha.2.1, by rw [ho.size]; exact ha.2.2.1, by simpa [sz] using hg'⟩⟩
      · exact (h2.step k2 hk rfl rfl rfl (fun e => ho.block _ (Ne.symm (hne (waits_spec w64 hi) e)))).flags (by simp [sz]) (by simp [sz]) (by simp [sz]) (by simp [sz])
    · have hc := h2.2.1 (waits_spec w73 hi)
      have ha := h2.2.2 (waits_spec w75 hi)
      have hz0 : w.heap[g2]? = some (.cells zs T (0, 0)) := by simpa [hif] using ha.2.2.2
      refine s7 a w _ g2 u2 hF ha.1 hc.1 hc.2 hz0 (fun w' hg' ho => ?_)
      have hk : Kept w w' := ho.kept hz0 hz
      refine ⟨hl', hF, ho.below hbw ha.2.1, g1, g2, u1, u2, ?_, ?_, by simpa [sz] using hne, by simpa [sz] using h64, fun _ => by simpa [sz] using waits_spec w75 hi, by simpa [sz] using h61, fun _ => by simpa [sz] using waits_spec w73 hi⟩
      · exact (h1.step k1 hk rfl rfl rfl (fun e => ho.block _ (hne e (waits_spec w75 hi)))).flags (by simp [sz]) (by simp [sz]) (by simp [sz]) (by simp [sz])
      · exact ⟨fun e => h2.1 (by simpa [sz] using e), fun e => ⟨hc.1, k2 _ _ _ hc.2 hk⟩, fun _ => ⟨ha.1, ha.2.1, by rw [ho.size]; exact ha.2.2.1, by simpa [sz] using hg'⟩⟩
  · rintro l a w ⟨hl, hF, hbw, g1, g2, u1, u2, h1, h2, hne, _⟩ hr
    have hall := all_of_back hback (by omega) hr
    have e := fun i (h : i < 8) => hall i (by omega)
    rw [e 0 (by omega), e 1 (by omega), e 4 (by omega), e 6 (by omega)] at h1
    rw [e 2 (by omega), e 3 (by omega), e 5 (by omega), e 7 (by omega)] at h2
    exact fin a w g1 g2 u1 u2 hF hbw h1 h2 (hne (e 4 (by omega)) (e 5 (by omega)))
  · have z : ∀ j, (Array.replicate ops.size false).getD j false = false := by intro j; simp [Array.getElem?_replicate]; split <;> rfl
    refine ⟨by simp [hsz], ⟨rfl, rfl, fun _ _ => rfl⟩, hB, 0, 0, undef, undef, ?_, ?_, ?_⟩
    · rw [z, z, z, z]; exact ⟨(fun h => by cases h), (fun h => by cases h), (fun h => by cases h)⟩
    · rw [z, z, z, z]; exact ⟨(fun h => by cases h), (fun h => by cases h), (fun h => by cases h)⟩
    · rw [z, z, z, z]; exact ⟨(fun h => by cases h), (fun h => by cases h), (fun h => by cases h), (fun h => by cases h), (fun h => by cases h)⟩
  · simp [still]
end Go.Proofs.YthgkdpfkaobgoaaDoor
end

section
/-
  zint.Mul.
-/
namespace Go.Proofs.YthgkdpfkaobgoaaDoor
open Go.RowKit
theorem heap_lt {w : World} {g : Nat} {o : Obj} (h : w.heap[g]? = some o) : g < w.heap.size := by
  rcases Nat.lt_or_ge g w.heap.size with h' | h'
  · exact h'
  · rw [Array.getElem?_eq_none h'] at h; cases h
/-- Digits do not lie in a block that held another thing, and still does. -/
theorem off_row {W w1 : World} {A : Option Addr} {c g : Nat} {xs : List Nat} {cs : Array Value} {t : TypeId} {fr : Nat × Nat} (hd : Dg w1 A c xs) (hb : Below W.heap.size W w1) (hg : W.heap[g]? = some (.cells cs t fr)) (hcs : ∀ (o : Nat) (n : Int), cs[o]? ≠ some (.int .u32 n)) : Off g A xs := by
  intro h0 o e
  obtain ⟨b, off, e', _, hc⟩ := hd.2.2 h0
  rw [e] at e'
  simp only [Option.some.injEq, Addr.mk.injEq, and_true] at e'
  obtain ⟨rfl, rfl⟩ := e'
  have h1 := hc 0 h0
  rw [hb.cell (p := ⟨g, o + 0, none⟩) (heap_lt hg), cell_of_row _ _ _ _ _ _ hg] at h1
  exact hcs _ _ h1
theorem row_cell {W w1 : World} {g : Nat} {cs : Array Value} {t : TypeId} {fr : Nat × Nat} (hg : W.heap[g]? = some (.cells cs t fr)) (hb : Below W.heap.size W w1) (o : Nat) : w1.cell? ⟨g, o, none⟩ = cs[o]? :=
  (hb.cell (p := ⟨g, o, none⟩) (heap_lt hg)).trans (cell_of_row _ _ _ _ _ _ hg)
theorem row_frozen {W w1 : World} {g : Nat} {cs : Array Value} {t : TypeId} (hg : W.heap[g]? = some (.cells cs t (0, 0))) (hb : Below W.heap.size W w1) (o : Nat) : w1.frozen? ⟨g, o, none⟩ = false :=
  (hb.frozen (p := ⟨g, o, none⟩) (heap_lt hg)).trans (frozen_of_row _ _ _ _ _ hg)
theorem sg_mulx (s r : Bool) (x y : Nat) : sg (s != r) (x * y) = sg s x * sg r y := by
  unfold sg; cases s <;> cases r <;> simp [Int.neg_mul, Int.mul_neg]
set_option maxHeartbeats 4000000 in
set_option maxRecDepth 100000 in
theorem zmul_any (A B : Option Addr) (c d : Nat) (s r : Bool) (xs ys : List Nat) (w : World) (h : Dg w A c xs) (h' : Dg w B d ys) (hl : xs.length ≤ 500000) (hl' : ys.length ≤ 500000) :
    Calls Tryd.prog 19 #[.agg #[.bool s, .slice A xs.length c], .agg #[.bool r, .slice B ys.length d]] w fun e w' => Zr (sg s (val xs) * sg r (val ys)) w e w' := by
  have l1 := digs_len_le h.2.1
  have l2 := digs_len_le h'.2.1
  obtain ⟨t1, ht1⟩ : ∃ t, (s && decide (0 < val xs)) = t := ⟨_, rfl⟩
  obtain ⟨t2, ht2⟩ : ∃ t, (r && decide (0 < val ys)) = t := ⟨_, rfl⟩
  have TA := Lib.hid (fun W h => take_any A c s xs W h (by omega))
  have TB := Lib.hid (fun W h => take_any B d r ys W h (by omega))
  have E1 := Lib.hid (sg_take s (val xs))
  have E2 := Lib.hid (sg_take r (val ys))
  rw [ht1] at TA E1
  rw [ht2] at TB E2
  clear ht1 ht2
  go_enter Tryd.func19, Tryd.ntmps19
  go_upto_region 1 with fail
  have HB0 := Lib.hid (below3 w (.cells #[.bool s, .slice A xs.length c] 24) (.cells #[.bool r, .slice B ys.length d] 24) (.cells #[.bool false, .slice none 0 0] 24))
  obtain ⟨W, hW⟩ : ∃ W : World, W = ((w.alloc (.cells #[.bool s, .slice A xs.length c] 24)).alloc (.cells #[.bool r, .slice B ys.length d] 24)).alloc (.cells #[.bool false, .slice none 0 0] 24) := ⟨_, rfl⟩
  have F0 : W.cell? ⟨w.heap.size, 0, none⟩ = some (.bool s) ∧ W.cell? ⟨w.heap.size, 1, none⟩ = some (.slice A xs.length c) ∧ W.cell? ⟨w.heap.size + 1, 0, none⟩ = some (.bool r) ∧ W.cell? ⟨w.heap.size + 1, 1, none⟩ = some (.slice B ys.length d) := by
    rw [hW]
    refine ⟨?_, ?_, ?_, ?_⟩ <;> go_simp
  rw [← hW] at HB0
  rw [← hW]
  have HW := Lib.hid hW
  have H1 := Lib.hid (h.below HB0.out)
  have H2 := Lib.hid (h'.below HB0.out)
  have hsz : W.heap.size = w.heap.size + 3 := by rw [hW]; simp
  have HR := Lib.hid (show W.heap[w.heap.size + 1 + 1]? = some (.cells #[.bool false, .slice none 0 0] 24 (0, 0)) by rw [hW]; have := heap_alloc_new ((w.alloc (.cells #[.bool s, .slice A xs.length c] 24)).alloc (.cells #[.bool r, .slice B ys.length d] 24)) (.cells #[.bool false, .slice none 0 0] 24); simpa using this)
  clear hW h h'
  have S0 : w.heap.size < W.heap.size := by omega
  have S1 : w.heap.size + 1 < W.heap.size := by omega
  have HZ := Lib.hid hsz
  clear hsz
  refine two_calls (W := W) rfl 7 8 9 10 5 6 (.agg #[.bool s, .slice A xs.length c]) (.agg #[.bool r, .slice B ys.length d])
    (fun u w' => ∃ A' c', u = .agg #[.slice A' (digs (val xs)).length c', .bool t1] ∧ Dg w' A' c' (digs (val xs)))
    (fun u w' => ∃ A' c', u = .agg #[.slice A' (digs (val ys)).length c', .bool t2] ∧ Dg w' A' c' (digs (val ys)))
    #[.slice none 0 0, .bool false] 59 (fun | .agg us => us | _ => #[])
    rfl (by kernel_rfl) (by kernel_rfl) (by decide) (by kernel_rfl) noint2 ?_ ?_ ?_ ?_ ?_ ?_ ?_ ?_ ?_ ?_ (bd0 W) ?_
  · rintro u w1 w2 ⟨A', c', rfl, hd⟩ hk; exact ⟨A', c', rfl, hd.kept hk⟩
  · rintro u w1 w2 ⟨A', c', rfl, hd⟩ hk; exact ⟨A', c', rfl, hd.kept hk⟩
  · intro a v K hF hb hK
    simp only [wpOp, List.getElem?_toArray, List.getElem?_cons_zero, Region.wanted, if_true]
    refine Or.inl ?_
    have e : a.eval (.tmp 2) = .pointer (some ⟨w.heap.size, 0, none⟩) := hF.2.2 2 (by decide)
    obtain ⟨hc, _⟩ := bcell hb
    simp only [Oper.wp, execOp]
    rw [e]
    go_simp
    exact hK
  · intro a v K hF hb hK
    simp only [wpOp, List.getElem?_toArray, List.getElem?_cons_succ, List.getElem?_cons_zero, Region.wanted, if_true]
    refine Or.inl ?_
    have e : a.eval (.tmp 3) = .pointer (some ⟨w.heap.size + 1, 0, none⟩) := hF.2.2 3 (by decide)
    obtain ⟨hc, _⟩ := bcell hb
    simp only [Oper.wp, execOp]
    rw [e]
    go_simp
    exact hK
  · intro a v K hF hb h1 hK
    simp only [wpOp, List.getElem?_toArray, List.getElem?_cons_succ, List.getElem?_cons_zero, Region.wanted, if_true]
    refine Or.inl ?_
    have e : a.eval (.tmp 7) = .agg #[.bool s, .slice A xs.length c] := h1
    simp only [Oper.wp, execOp]
    go_simp
    refine (TA.out v (H1.out.below hb)).mono ?_
    rintro e w1 ⟨A', c', rfl, hd, hbb⟩
    exact hK _ _ ⟨A', c', rfl, hd⟩ hbb
  · intro a v K hF hb h1 hK
    simp only [wpOp, List.getElem?_toArray, List.getElem?_cons_succ, List.getElem?_cons_zero, Region.wanted, if_true]
    refine Or.inl ?_
    have e : a.eval (.tmp 9) = .agg #[.bool r, .slice B ys.length d] := h1
    simp only [Oper.wp, execOp]
    go_simp
    refine (TB.out v (H2.out.below hb)).mono ?_
    rintro e w1 ⟨A', c', rfl, hd, hbb⟩
    exact hK _ _ ⟨A', c', rfl, hd⟩ hbb
  · intro a v K hF hK
    simp only [wpOp, List.getElem?_toArray, List.getElem?_cons_succ, List.getElem?_cons_zero, Region.wanted, if_true]
    refine Or.inl ?_
    simp only [Oper.wp, execOp]
    go_simp
    exact hK
  · intro a v K hF hK
    simp only [wpOp, List.getElem?_toArray, List.getElem?_cons_succ, List.getElem?_cons_zero, Region.wanted, if_true]
    refine Or.inl ?_
    simp only [Oper.wp, execOp]
    go_simp
    exact hK
  · intro a v K g u hF hx hc hR hg hK
    simp only [wpOp, List.getElem?_toArray, List.getElem?_cons_succ, List.getElem?_cons_zero, Region.wanted, if_true]
    refine Or.inl ?_
    obtain ⟨A', c', rfl, hd⟩ := hR
    have e : a.eval (.tmp 5) = .pointer (some ⟨g, 0, none⟩) := hx
    have e' : a.eval (.tmp 8) = _ := hc
    simp only [Oper.wp, execOp]
    rw [e, e']
    have f0 := cell_of_row v g 0 _ _ _ hg
    have f1 := cell_of_row v g 1 _ _ _ hg
    have z0 := frozen_of_row v g 0 _ _ hg
    have z1 := frozen_of_row v g 1 _ _ hg
    go_simp
    exact hK _ (heap_setCell_same _ _ 1 _ _ _ (heap_setCell_same _ _ 0 _ _ _ hg)) (((Only.refl g v).setCell 0 _).setCell 1 _)
  · intro a v K g u hF hx hc hR hg hK
    simp only [wpOp, List.getElem?_toArray, List.getElem?_cons_succ, List.getElem?_cons_zero, Region.wanted, if_true]
    refine Or.inl ?_
    obtain ⟨A', c', rfl, hd⟩ := hR
    have e : a.eval (.tmp 6) = .pointer (some ⟨g, 0, none⟩) := hx
    have e' : a.eval (.tmp 10) = _ := hc
    simp only [Oper.wp, execOp]
    rw [e, e']
    have f0 := cell_of_row v g 0 _ _ _ hg
    have f1 := cell_of_row v g 1 _ _ _ hg
    have z0 := frozen_of_row v g 0 _ _ hg
    have z1 := frozen_of_row v g 1 _ _ hg
    go_simp
    exact hK _ (heap_setCell_same _ _ 1 _ _ _ (heap_setCell_same _ _ 0 _ _ _ hg)) (((Only.refl g v).setCell 0 _).setCell 1 _)
  · intro a v g1 g2 u1 u2 hF hb h1 h2 hne
    obtain ⟨hl1, hc1, hx1⟩ := h1
    obtain ⟨hl2, hc2, hx2⟩ := h2
    obtain ⟨ec1, A1, c1, rfl, hd1⟩ := hc1 rfl
    obtain ⟨ec2, A2, c2, rfl, hd2⟩ := hc2 rfl
    obtain ⟨ex1, hg1, hs1, hh1⟩ := hx1 rfl
    obtain ⟨ex2, hg2, hs2, hh2⟩ := hx2 rfl
    rw [hF.eq (by kernel_rfl) (hl1 rfl) ec1 (hl2 rfl) ec2 ex1 ex2]
    simp only [if_true] at hh1 hh2
    have HF := Lib.hid (And.intro (cell_of_row v g1 0 _ _ _ hh1) (And.intro (cell_of_row v g1 1 _ _ _ hh1) (And.intro (cell_of_row v g2 0 _ _ _ hh2) (cell_of_row v g2 1 _ _ _ hh2))))
    have KB := Lib.hid hb
    have D1 := Lib.hid hd1
    have D2 := Lib.hid hd2
    clear hF hb hl1 hc1 hx1 hl2 hc2 hx2 ec1 ec2 ex1 ex2 hh1 hh2 hd1 hd2 hne
    simp only [Act.put, List.setIfInBounds_toArray, List.set_cons_zero, List.set_cons_succ]
    have n1 := Lib.hid (show g1 ≠ w.heap.size + 1 + 1 by have := HZ.out; omega)
    have n2 := Lib.hid (show g2 ≠ w.heap.size + 1 + 1 by have := HZ.out; omega)
    have KD := Lib.hid (below_drew (Below.refl v.heap.size v))
    clear TA TB
    go_wp2_with fail
    go_region_held3 (fun w' => w'.cell? ⟨g1, 0, none⟩ = some (.slice A1 (digs (val xs)).length c1) ∧ w'.cell? ⟨g1, 1, none⟩ = some (.bool t1) ∧ w'.cell? ⟨g2, 0, none⟩ = some (.slice A2 (digs (val ys)).length c2) ∧ w'.cell? ⟨g2, 1, none⟩ = some (.bool t2))
      (first | exact HF.out | exact carry4 K3.out HF.out hs1 hs1 hs2 hs2 | exact carry4 K4.out HF.out hs1 hs1 hs2 hs2 | exact set4 (set4 (carry4 K4.out HF.out hs1 hs1 hs2 hs2) n1.out n1.out n2.out n2.out) n1.out n1.out n2.out n2.out)
      (first
        | (go_at_call 49; refine (times_any A1 A2 c1 c2 (val xs) (val ys) _ (D1.out.below KD.out) (D2.out.below KD.out) (by omega) (by omega)).mono ?_; rintro e w3 ⟨A3, c3, rfl, hd, hb⟩; (have K3 := Lib.hid (KD.out.trans (hb.mono KD.out.size))); (have G3 := Lib.hid hd); clear hb hd)
        | (go_at_call 46; refine (give_any A3 c3 (val xs * val ys) (t1 != t2) _ G3.out (by have := digs_mul_len (val xs) (val ys); omega)).mono ?_; rintro e w4 ⟨A4, c4, rfl, hd, hb⟩; (have K4 := Lib.hid (K3.out.trans (hb.mono K3.out.size))); (have KA := Lib.hid (KB.out.trans (K4.out.mono KB.out.size))); (have q0 := row_cell HR.out KA.out 0); (have q1 := row_cell HR.out KA.out 1); (have q2 := row_frozen HR.out KA.out 0); (have q3 := row_frozen HR.out KA.out 1); (simp only [List.getElem?_toArray, List.getElem?_cons_zero, List.getElem?_cons_succ] at q0 q1); (have HO4 := Lib.hid (off_row (g := w.heap.size + 1 + 1) hd KA.out HR.out noint2')); (have G4 := Lib.hid hd); clear hb hd))
    go_wp2
    refine bodyPost_ret (v := .agg #[.bool ((t1 != t2) && decide (val xs * val ys ≠ 0)), .slice A4 (digs (val xs * val ys)).length c4]) (by simp [results, Tryd.results19, go_sem, q0, q1]) rfl ?_
    exact zr_give (by rw [sg_mulx, E1.out, E2.out]) ((G4.out.set_off HO4.out _ _).set_off HO4.out _ _) ((((HB0.out.trans (KA.out.mono HB0.out.size)).setCell (by simp; omega) _).setCell (by simp; omega) _))
end Go.Proofs.YthgkdpfkaobgoaaDoor
end

section
/-
  zint.sign, Cmp.
-/
namespace Go.Proofs.YthgkdpfkaobgoaaDoor
open Go.RowKit
set_option maxHeartbeats 1000000 in
set_option maxRecDepth 100000 in
theorem sign_n (A : Option Addr) (n c : Nat) (t : Bool) (q : Int) (w : World) (h0 : n = 0 → q = 0) (h1 : n ≠ 0 → q = if t then -1 else 1) :
    Calls Tryd.prog 57 #[.agg #[.slice A n c, .bool t]] w fun e w' => e = .returned (.int .i64 q) ∧ Below w.heap.size w w' := by
  by_cases hn : n = 0
  · obtain rfl := h0 hn
    have hq : ((n : Int) == 0) = true := by rw [hn]; rfl
    clear h0 h1 hn
    go_enter Tryd.func57, Tryd.ntmps57
    go_wp2_with fail
    refine (zero_any A n c _ true hq).mono ?_
    rintro e w1 ⟨rfl, hb⟩
    have HB := Lib.hid ((below1 w _).trans (hb.mono (by simp)))
    obtain ⟨hc, hf⟩ := bcell hb
    clear hb
    go_wp2
    go_ret
    exact ⟨rfl, HB.out⟩
  · obtain rfl := h1 hn
    have hq : ((n : Int) == 0) = false := by simp [hn]
    clear h0 h1 hn
    cases t
    all_goals
      go_enter Tryd.func57, Tryd.ntmps57
      go_wp2_with fail
      refine (zero_any A n c _ false hq).mono ?_
      rintro e w1 ⟨rfl, hb⟩
      have HB := Lib.hid ((below1 w _).trans (hb.mono (by simp)))
      obtain ⟨hc, hf⟩ := bcell hb
      clear hb
      go_wp2
      go_ret
      exact ⟨rfl, HB.out⟩
theorem sign_sg {s t : Bool} {x : Nat} (h : (s && decide (0 < x)) = t) : ((digs x).length = 0 → Int.sign (sg s x) = 0) ∧ ((digs x).length ≠ 0 → Int.sign (sg s x) = if t then -1 else 1) := by
  subst h
  rcases Nat.eq_zero_or_pos x with h0 | h0
  · subst h0
    refine ⟨fun _ => ?_, fun h => absurd (by rw [digs_zero]; rfl) h⟩
    unfold sg; cases s <;> rfl
  · refine ⟨fun h => absurd (digs_nil.1 h) (by omega), fun _ => ?_⟩
    unfold sg
    cases s
    · simp [h0]
    · simp [h0]
theorem sign_bd (z : Int) : -1 ≤ Int.sign z ∧ Int.sign z ≤ 1 := by
  rcases Int.lt_trichotomy z 0 with h | h | h
  · rw [Int.sign_eq_neg_one_of_neg h]; omega
  · subst h; decide
  · rw [Int.sign_eq_one_of_pos h]; omega
theorem sign_three (z : Int) : (z < 0 ∧ Int.sign z = -1) ∨ (z = 0 ∧ Int.sign z = 0) ∨ (0 < z ∧ Int.sign z = 1) := by
  rcases Int.lt_trichotomy z 0 with h | h | h
  · exact .inl ⟨h, Int.sign_eq_neg_one_of_neg h⟩
  · subst h; exact .inr (.inl ⟨rfl, rfl⟩)
  · exact .inr (.inr ⟨h, Int.sign_eq_one_of_pos h⟩)
theorem sign_lt {X Y : Int} (h : Int.sign X < Int.sign Y) : -1 = Int.sign (X - Y) := by
  have := sign_three X; have := sign_three Y; have := sign_three (X - Y); omega
theorem sign_gt {X Y : Int} (h : Int.sign Y < Int.sign X) : 1 = Int.sign (X - Y) := by
  have := sign_three X; have := sign_three Y; have := sign_three (X - Y); omega
theorem cmpi_three (x y : Nat) : (x < y ∧ cmpi x y = -1) ∨ (x = y ∧ cmpi x y = 0) ∨ (y < x ∧ cmpi x y = 1) := by
  rcases Nat.lt_trichotomy x y with h | h | h
  · exact .inl ⟨h, cmpi_lt h⟩
  · exact .inr (.inl ⟨h, cmpi_eq h⟩)
  · exact .inr (.inr ⟨h, cmpi_gt h⟩)
theorem sign_eq {s r : Bool} {x y : Nat} (h : Int.sign (sg s x) = Int.sign (sg r y)) : Int.sign (sg s x) * cmpi x y = Int.sign (sg s x - sg r y) := by
  have h3 := cmpi_three x y
  have h1 := sign_three (sg s x - sg r y)
  have h2 := sign_three (sg s x)
  have h4 := sign_three (sg r y)
  have e1 : sg s x = (x : Int) ∨ sg s x = -(x : Int) := by unfold sg; cases s <;> simp
  have e2 : sg r y = (y : Int) ∨ sg r y = -(y : Int) := by unfold sg; cases r <;> simp
  rcases h2 with ⟨ha, hb⟩ | ⟨ha, hb⟩ | ⟨ha, hb⟩ <;> rw [hb] at h ⊢ <;> omega
set_option maxHeartbeats 4000000 in
set_option maxRecDepth 100000 in
theorem zcmp_any (A B : Option Addr) (c d : Nat) (s r : Bool) (xs ys : List Nat) (w : World) (h : Dg w A c xs) (h' : Dg w B d ys) (hl : xs.length ≤ 1000000) (hl' : ys.length ≤ 1000000) :
    Calls Tryd.prog 29 #[.agg #[.bool s, .slice A xs.length c], .agg #[.bool r, .slice B ys.length d]] w fun e w' => e = .returned (.int .i64 (Int.sign (sg s (val xs) - sg r (val ys)))) ∧ Below w.heap.size w w' := by
  have l1 := digs_len_le h.2.1
  have l2 := digs_len_le h'.2.1
  obtain ⟨t1, ht1⟩ : ∃ t, (s && decide (0 < val xs)) = t := ⟨_, rfl⟩
  obtain ⟨t2, ht2⟩ : ∃ t, (r && decide (0 < val ys)) = t := ⟨_, rfl⟩
  have TA := Lib.hid (fun W h => take_any A c s xs W h (by omega))
  have TB := Lib.hid (fun W h => take_any B d r ys W h (by omega))
  have E1 := Lib.hid (sg_take s (val xs))
  have E2 := Lib.hid (sg_take r (val ys))
  rw [ht1] at TA E1
  rw [ht2] at TB E2
  have HT1 := Lib.hid ht1
  have HT2 := Lib.hid ht2
  clear ht1 ht2
  go_enter Tryd.func29, Tryd.ntmps29
  go_upto_region 1 with fail
  have HB0 := Lib.hid (below2 w (.cells #[.bool s, .slice A xs.length c] 24) (.cells #[.bool r, .slice B ys.length d] 24))
  obtain ⟨W, hW⟩ : ∃ W : World, W = ((w.alloc (.cells #[.bool s, .slice A xs.length c] 24)).alloc (.cells #[.bool r, .slice B ys.length d] 24)) := ⟨_, rfl⟩
  have F0 : W.cell? ⟨w.heap.size, 0, none⟩ = some (.bool s) ∧ W.cell? ⟨w.heap.size, 1, none⟩ = some (.slice A xs.length c) ∧ W.cell? ⟨w.heap.size + 1, 0, none⟩ = some (.bool r) ∧ W.cell? ⟨w.heap.size + 1, 1, none⟩ = some (.slice B ys.length d) := by
    rw [hW]
    refine ⟨?_, ?_, ?_, ?_⟩ <;> go_simp
  rw [← hW] at HB0
  rw [← hW]
  have H1 := Lib.hid (h.below HB0.out)
  have H2 := Lib.hid (h'.below HB0.out)
  have hsz : W.heap.size = w.heap.size + 2 := by rw [hW]; simp
  have HW := Lib.hid hW
  clear hW h h'
  have S0 : w.heap.size < W.heap.size := by omega
  have S1 : w.heap.size + 1 < W.heap.size := by omega
  have HZ := Lib.hid hsz
  clear hsz
  refine two_calls (W := W) rfl 8 9 10 11 5 6 (.agg #[.bool s, .slice A xs.length c]) (.agg #[.bool r, .slice B ys.length d])
    (fun u w' => ∃ A' c', u = .agg #[.slice A' (digs (val xs)).length c', .bool t1] ∧ Dg w' A' c' (digs (val xs)))
    (fun u w' => ∃ A' c', u = .agg #[.slice A' (digs (val ys)).length c', .bool t2] ∧ Dg w' A' c' (digs (val ys)))
    #[.slice none 0 0, .bool false] 59 (fun | .agg us => us | _ => #[])
    rfl (by kernel_rfl) (by kernel_rfl) (by decide) (by kernel_rfl) noint2 ?_ ?_ ?_ ?_ ?_ ?_ ?_ ?_ ?_ ?_ (bd0 W) ?_
  · rintro u w1 w2 ⟨A', c', rfl, hd⟩ hk; exact ⟨A', c', rfl, hd.kept hk⟩
  · rintro u w1 w2 ⟨A', c', rfl, hd⟩ hk; exact ⟨A', c', rfl, hd.kept hk⟩
  · intro a v K hF hb hK
    simp only [wpOp, List.getElem?_toArray, List.getElem?_cons_zero, Region.wanted, if_true]
    refine Or.inl ?_
    have e : a.eval (.tmp 2) = .pointer (some ⟨w.heap.size, 0, none⟩) := hF.2.2 2 (by decide)
    obtain ⟨hc, _⟩ := bcell hb
    simp only [Oper.wp, execOp]
    rw [e]
    go_simp
    exact hK
  · intro a v K hF hb hK
    simp only [wpOp, List.getElem?_toArray, List.getElem?_cons_succ, List.getElem?_cons_zero, Region.wanted, if_true]
    refine Or.inl ?_
    have e : a.eval (.tmp 3) = .pointer (some ⟨w.heap.size + 1, 0, none⟩) := hF.2.2 3 (by decide)
    obtain ⟨hc, _⟩ := bcell hb
    simp only [Oper.wp, execOp]
    rw [e]
    go_simp
    exact hK
  · intro a v K hF hb h1 hK
    simp only [wpOp, List.getElem?_toArray, List.getElem?_cons_succ, List.getElem?_cons_zero, Region.wanted, if_true]
    refine Or.inl ?_
    have e : a.eval (.tmp 8) = .agg #[.bool s, .slice A xs.length c] := h1
    simp only [Oper.wp, execOp]
    go_simp
    refine (TA.out v (H1.out.below hb)).mono ?_
    rintro e w1 ⟨A', c', rfl, hd, hbb⟩
    exact hK _ _ ⟨A', c', rfl, hd⟩ hbb
  · intro a v K hF hb h1 hK
    simp only [wpOp, List.getElem?_toArray, List.getElem?_cons_succ, List.getElem?_cons_zero, Region.wanted, if_true]
    refine Or.inl ?_
    have e : a.eval (.tmp 10) = .agg #[.bool r, .slice B ys.length d] := h1
    simp only [Oper.wp, execOp]
    go_simp
    refine (TB.out v (H2.out.below hb)).mono ?_
    rintro e w1 ⟨A', c', rfl, hd, hbb⟩
    exact hK _ _ ⟨A', c', rfl, hd⟩ hbb
  · intro a v K hF hK
    simp only [wpOp, List.getElem?_toArray, List.getElem?_cons_succ, List.getElem?_cons_zero, Region.wanted, if_true]
    refine Or.inl ?_
    simp only [Oper.wp, execOp]
    go_simp
    exact hK
  · intro a v K hF hK
    simp only [wpOp, List.getElem?_toArray, List.getElem?_cons_succ, List.getElem?_cons_zero, Region.wanted, if_true]
    refine Or.inl ?_
    simp only [Oper.wp, execOp]
    go_simp
    exact hK
  · intro a v K g u hF hx hc hR hg hK
    simp only [wpOp, List.getElem?_toArray, List.getElem?_cons_succ, List.getElem?_cons_zero, Region.wanted, if_true]
    refine Or.inl ?_
    obtain ⟨A', c', rfl, hd⟩ := hR
    have e : a.eval (.tmp 5) = .pointer (some ⟨g, 0, none⟩) := hx
    have e' : a.eval (.tmp 9) = _ := hc
    simp only [Oper.wp, execOp]
    rw [e, e']
    have f0 := cell_of_row v g 0 _ _ _ hg
    have f1 := cell_of_row v g 1 _ _ _ hg
    have z0 := frozen_of_row v g 0 _ _ hg
    have z1 := frozen_of_row v g 1 _ _ hg
    go_simp
    exact hK _ (heap_setCell_same _ _ 1 _ _ _ (heap_setCell_same _ _ 0 _ _ _ hg)) (((Only.refl g v).setCell 0 _).setCell 1 _)
  · intro a v K g u hF hx hc hR hg hK
    simp only [wpOp, List.getElem?_toArray, List.getElem?_cons_succ, List.getElem?_cons_zero, Region.wanted, if_true]
    refine Or.inl ?_
    obtain ⟨A', c', rfl, hd⟩ := hR
    have e : a.eval (.tmp 6) = .pointer (some ⟨g, 0, none⟩) := hx
    have e' : a.eval (.tmp 11) = _ := hc
    simp only [Oper.wp, execOp]
    rw [e, e']
    have f0 := cell_of_row v g 0 _ _ _ hg
    have f1 := cell_of_row v g 1 _ _ _ hg
    have z0 := frozen_of_row v g 0 _ _ hg
    have z1 := frozen_of_row v g 1 _ _ hg
    go_simp
    exact hK _ (heap_setCell_same _ _ 1 _ _ _ (heap_setCell_same _ _ 0 _ _ _ hg)) (((Only.refl g v).setCell 0 _).setCell 1 _)
  · intro a v g1 g2 u1 u2 hF hb h1 h2 hne
    obtain ⟨hl1, hc1, hx1⟩ := h1
    obtain ⟨hl2, hc2, hx2⟩ := h2
    obtain ⟨ec1, A1, c1, rfl, hd1⟩ := hc1 rfl
    obtain ⟨ec2, A2, c2, rfl, hd2⟩ := hc2 rfl
    obtain ⟨ex1, hg1, hs1, hh1⟩ := hx1 rfl
    obtain ⟨ex2, hg2, hs2, hh2⟩ := hx2 rfl
    rw [hF.eq (by kernel_rfl) (hl1 rfl) ec1 (hl2 rfl) ec2 ex1 ex2]
    simp only [if_true] at hh1 hh2
    have HF := Lib.hid (And.intro (cell_of_row v g1 0 _ _ _ hh1) (And.intro (cell_of_row v g1 1 _ _ _ hh1) (And.intro (cell_of_row v g2 0 _ _ _ hh2) (cell_of_row v g2 1 _ _ _ hh2))))
    have KB := Lib.hid hb
    have D1 := Lib.hid hd1
    have D2 := Lib.hid hd2
    clear hF hb hl1 hc1 hx1 hl2 hc2 hx2 ec1 ec2 ex1 ex2 hh1 hh2 hd1 hd2 hne
    simp only [Act.put, List.setIfInBounds_toArray, List.set_cons_zero, List.set_cons_succ]
    clear TA TB
    have P1 := Lib.hid (sign_sg HT1.out)
    have P2 := Lib.hid (sign_sg HT2.out)
    have Q1 := sign_bd (sg s (val xs))
    have Q2 := sign_bd (sg r (val ys))
    have X1 := Lib.hid (fun h => @sign_lt (sg s (val xs)) (sg r (val ys)) h)
    have X2 := Lib.hid (fun h => @sign_gt (sg s (val xs)) (sg r (val ys)) h)
    have X3 := Lib.hid (fun h => @sign_eq s r (val xs) (val ys) h)
    generalize Int.sign (sg s (val xs)) = q1 at *
    generalize Int.sign (sg r (val ys)) = q2 at *
    have HFX := HF
    obtain ⟨f1, f2, f3, f4⟩ := HF.out
    simp only [List.getElem?_toArray, List.getElem?_cons_zero, List.getElem?_cons_succ] at f1 f2 f3 f4
    have S2 := Lib.hid (HB0.out.trans (KB.out.mono HB0.out.size))
    go_wp2_with fail
    refine (sign_n A1 _ c1 t1 q1 _ P1.out.1 P1.out.2).mono ?_
    rintro e v1 ⟨rfl, hb⟩
    have K1 := Lib.hid hb
    clear hb f1 f2 f3 f4
    have f1 := (K1.out.cell (p := ⟨g1, 0, none⟩) hs1).trans HFX.out.1
    have f2 := (K1.out.cell (p := ⟨g1, 1, none⟩) hs1).trans HFX.out.2.1
    have f3 := (K1.out.cell (p := ⟨g2, 0, none⟩) hs2).trans HFX.out.2.2.1
    have f4 := (K1.out.cell (p := ⟨g2, 1, none⟩) hs2).trans HFX.out.2.2.2
    simp only [List.getElem?_toArray, List.getElem?_cons_zero, List.getElem?_cons_succ] at f1 f2 f3 f4
    go_wp2_with fail
    refine (sign_n A2 _ c2 t2 q2 _ P2.out.1 P2.out.2).mono ?_
    rintro e v2 ⟨rfl, hb⟩
    have K2 := Lib.hid (K1.out.trans (hb.mono K1.out.size))
    clear hb f1 f2 f3 f4
    have f1 := (K2.out.cell (p := ⟨g1, 0, none⟩) hs1).trans HFX.out.1
    have f2 := (K2.out.cell (p := ⟨g1, 1, none⟩) hs1).trans HFX.out.2.1
    have f3 := (K2.out.cell (p := ⟨g2, 0, none⟩) hs2).trans HFX.out.2.2.1
    have f4 := (K2.out.cell (p := ⟨g2, 1, none⟩) hs2).trans HFX.out.2.2.2
    simp only [List.getElem?_toArray, List.getElem?_cons_zero, List.getElem?_cons_succ] at f1 f2 f3 f4
    by_cases hlt : q1 < q2
    · have dd : decide (q1 < q2) = true := by simp [hlt]
      go_wp2
      go_ret
      exact ⟨ret_i (X1.out hlt), S2.out.trans (K2.out.mono S2.out.size)⟩
    · have dd : decide (q1 < q2) = false := by simp; omega
      go_wp2_with fail
      refine (sign_n A2 _ c2 t2 q2 _ P2.out.1 P2.out.2).mono ?_
      rintro e v3 ⟨rfl, hb⟩
      have K3 := Lib.hid (K2.out.trans (hb.mono K2.out.size))
      clear hb f1 f2 f3 f4
      have f1 := (K3.out.cell (p := ⟨g1, 0, none⟩) hs1).trans HFX.out.1
      have f2 := (K3.out.cell (p := ⟨g1, 1, none⟩) hs1).trans HFX.out.2.1
      have f3 := (K3.out.cell (p := ⟨g2, 0, none⟩) hs2).trans HFX.out.2.2.1
      have f4 := (K3.out.cell (p := ⟨g2, 1, none⟩) hs2).trans HFX.out.2.2.2
      simp only [List.getElem?_toArray, List.getElem?_cons_zero, List.getElem?_cons_succ] at f1 f2 f3 f4
      by_cases hgt : q2 < q1
      · have dd2 : decide (q2 < q1) = true := by simp [hgt]
        go_wp2
        go_ret
        exact ⟨ret_i (X2.out hgt), S2.out.trans (K3.out.mono S2.out.size)⟩
      · have dd2 : decide (q2 < q1) = false := by simp; omega
        have X4 := Lib.hid (X3.out (by omega))
        have Y := cmpi_three (val xs) (val ys)
        have Y1 : -1 ≤ cmpi (val xs) (val ys) ∧ cmpi (val xs) (val ys) ≤ 1 := by omega
        clear Y
        generalize hqq : cmpi (val xs) (val ys) = q3 at *
        have HQ := Lib.hid hqq
        clear hqq
        have Y2 : q1 * q3 = -1 ∨ q1 * q3 = 0 ∨ q1 * q3 = 1 := by
          have : q1 = -1 ∨ q1 = 0 ∨ q1 = 1 := by omega
          rcases this with e | e | e <;> rw [e] <;> omega
        have Y3 : -1 ≤ q1 * q3 ∧ q1 * q3 ≤ 1 := by omega
        clear Y2
        obtain ⟨Y4, Y5⟩ := Y3
        go_wp2_with fail
        refine (against_any A1 A2 c1 c2 (val xs) (val ys) q3 _ (D1.out.below K3.out) (D2.out.below K3.out) (by omega) (by omega) HQ.out).mono ?_
        rintro e v4 ⟨rfl, hb⟩
        have K4 := Lib.hid (K3.out.trans (hb.mono K3.out.size))
        clear hb f1 f2 f3 f4
        go_wp2
        go_ret
        exact ⟨ret_i X4.out, S2.out.trans (K4.out.mono S2.out.size)⟩
end Go.Proofs.YthgkdpfkaobgoaaDoor
end
