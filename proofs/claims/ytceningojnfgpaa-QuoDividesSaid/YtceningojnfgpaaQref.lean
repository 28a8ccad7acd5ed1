/-
  The reference's own text (astrolaberef03): short, guess.
-/
import Derived.Test.YtceningojnfgpaaApp
import Derived.Test.YtceningojnfgpaaSqrt2
import Derived.Test.YtceningojnfgpaaLive3
namespace Go.Proofs.Ytceningojnfgpaa
open Go.RowKit
set_option maxHeartbeats 2000000 in
theorem rshort_any (A : Option Addr) (c d : Nat) (xs : List Nat) (w : World) (h : Dg w A c xs) (hl : xs.length ≤ 1048576) (hd0 : 0 < d) (hd : d < 4294967296) :
    Calls Try.prog 30 #[.slice A xs.length c, .int .u64 d] w fun e w' => ∃ A' c' B' d', e = .returned (.tuple #[.slice A' (digs (val xs / d)).length c', .slice B' (digs (val xs % d)).length d']) ∧ Dg w' A' c' (digs (val xs / d)) ∧ Dg w' B' d' (digs (val xs % d)) ∧ Below w.heap.size w w' := by
  have H := Lib.hid h
  clear h
  have hmk := run_make_row' (P := Try.prog) 22 37 (.int .u32 0) 4 Try.underlying22 elem_info rfl .i64 .i64 xs.length (by omega) (by omega)
  have f1 : ((d : Int) == 0) = false := beq_eq_false_iff_ne.2 (by omega)
  have f3 : ((d : Int) != 0) = true := by simp; omega
  go_enter Try.func30, Try.ntmps30
  go_wp2
  go_loopw [7, 8] (fun rv i wr => ∃ (k r : Nat) (z : Int) (zs : List Nat), k ≤ xs.length ∧ i = .int .i64 z ∧ z = (k : Int) - 1 ∧ rv = .int .u64 r ∧ r < d ∧ Row wr w.heap.size zs ∧ Hid (zs.length = xs.length) ∧ ok32 zs ∧
    Hid (val (xs.drop k) = val (zs.drop k) * d + r) ∧ Below w.heap.size w wr) (fun _ i _ => (intOf i + 1).toNat)
  case atStart => exact ⟨xs.length, 0, (xs.length : Int) - 1, List.replicate xs.length 0, Nat.le_refl _, rfl, rfl, rfl, hd0, Row.made _ _, by simp [Hid], ok_zeros _, by simp [Hid, val], (Below.refl _ _).alloc (Nat.le_refl _) _⟩
  case round =>
    obtain ⟨k, r, z, zs, hk, rfl, hz, rfl, hr, hrow, HL, hok, HE, hbel⟩ := hrel
    rcases k with _ | k
    · obtain rfl : z = -1 := by omega
      clear hz hk
      have HV : Hid (val xs / d = val zs ∧ val xs % d = r) := by
        have e := HE.out
        rw [List.drop_zero, List.drop_zero] at e
        rw [e, Nat.mul_comm, Nat.mul_add_div hd0, Nat.mul_add_mod, Nat.div_eq_of_lt hr, Nat.mod_eq_of_lt hr]
        exact ⟨Nat.add_zero _, rfl⟩
      have L0 := Lib.hid ((live_start wr).add (hrow.dg hok (c := xs.length) (by have := HL.out; omega)))
      have hl' := HL.out
      go_wp2_with fail
      refine Calls.mono (rtrim_l (xs := zs) (x := val xs / d) L0.out (by simp) hl'.symm (by rw [HV.out.1]) (by omega)) ?_
      rintro e w2 ⟨A2, c2, rfl, h2⟩
      have L2 := Lib.hid h2
      clear h2
      have hr64 : r < 18446744073709551616 := by omega
      go_wp2_with fail
      refine Calls.mono (rfrom_l L2.out (i := (r : Int)) (k := r) rfl hr64) ?_
      rintro e w3 ⟨A3, c3, rfl, h3⟩
      have L3 := Lib.hid h3
      clear h3
      go_wp2
      go_ret2
      rw [HV.out.2]
      exact ⟨A2, c2, A3, c3, rfl, L3.out.get (by simp), L3.out.get (by simp), hbel.trans (L3.out.1.mono hbel.size)⟩
    · obtain rfl : z = (k : Int) := by omega
      clear hz
      obtain ⟨b, o, hA, hbk, hcx⟩ := H.out.2.2 (by omega)
      have hy := (hbel.cell (p := ⟨b, o + k, none⟩) hbk).trans (hcx k (by omega))
      have hY := getD_lt H.out.2.1 k
      have hcell := hrow.cell (i := k) (by have := HL.out; omega)
      have hfr := hrow.frozen k
      have hki : (k : Int) < (xs.length : Int) := by omega
      have hki' : k < xs.length := by omega
      generalize ey : xs[k]?.getD 0 = y at *
      have HY := Lib.hid ey
      clear ey hcx
      subst hA
      obtain ⟨t, ht⟩ : ∃ t : Nat, y + 4294967296 * r = t := ⟨_, rfl⟩
      have hO : bits BinOp.or IntKind.u64 ((r : Int) * 4294967296) (y : Int) = (t : Int) := by rw [or_join _ _ (by omega) hY, ht]
      obtain ⟨q, hq⟩ : ∃ q : Nat, t / d = q := ⟨_, rfl⟩
      obtain ⟨r', hr'⟩ : ∃ r' : Nat, t % d = r' := ⟨_, rfl⟩
      have hw0 : (t : Int) / (d : Int) = (q : Int) := by rw [← hq, ← Int.natCast_ediv]
      have hw1 : (t : Int) % (d : Int) = (r' : Int) := by rw [← hr', Int.natCast_emod]
      have bq : q < 4294967296 := by rw [← hq, Nat.div_lt_iff_lt_mul hd0, ← ht]; have := Nat.mul_le_mul_left 4294967296 hr; omega
      have br : r' < d := by rw [← hr']; exact Nat.mod_lt _ hd0
      have bt : t < 18446744073709551616 := by omega
      have HQ := Lib.hid (show (y + 4294967296 * r) / d = q by rw [ht, hq])
      have HR := Lib.hid (show (y + 4294967296 * r) % d = r' by rw [ht, hr'])
      clear hq hr' ht
      go_wp2
      go_roundw
      case rel =>
        have hl' := HL.out
        exact ⟨k, r', (k : Int) - 1, zs.set k q, by omega, rfl, rfl, by rw [hw1], br, hrow.set_int rfl, by simp only [List.length_set]; exact HL, ok_set hok bq _, digit_step hki' (by omega) HE.out (by rw [HY.out]; exact HQ.out) (by rw [HY.out]; exact HR.out), hbel.setCell (by simp) _⟩
      case measure => simp [intOf]
theorem top_ne {D n : Nat} (hn : (digs D).length = n + 1) : (digs D)[n]?.getD 0 ≠ 0 := by
  have hl : (digs D).getLast? = (digs D)[n]? := by rw [List.getLast?_eq_getElem?, hn, Nat.add_sub_cancel]
  rcases hx : (digs D)[n]? with _ | x
  · rw [List.getElem?_eq_none_iff] at hx; omega
  · rw [hx] at hl; exact last_digs hl
theorem pow_le {D n : Nat} (hn : (digs D).length = n + 1) : 4294967296 ^ n ≤ D := by
  have := val_seen1 (ok_digs D) hn
  rw [val_digs] at this
  have := Nat.mul_le_mul_right (4294967296 ^ n) (show 1 ≤ (digs D)[n]?.getD 0 by have := top_ne hn; omega)
  omega
theorem guess_up {R D g n : Nat} (hlt : R < D * 4294967296) (hn : (digs D).length = n + 1) (hg : ∀ t, t * 4294967296 ^ n ≤ R → t < 18446744073709551616 → t / (digs D)[n]?.getD 0 ≤ g ∨ 4294967295 ≤ g) : R / D ≤ g := by
  have v1 := val_seen1 (ok_digs D) hn
  rw [val_digs] at v1
  have hD : D ≠ 0 := fun e => by rw [e, Nat.zero_mul] at hlt; omega
  have hf := top_ne hn
  have hp : 0 < 4294967296 ^ n := Nat.pow_pos (by omega)
  have hq : R / D < 4294967296 := by rw [Nat.div_lt_iff_lt_mul (by omega), Nat.mul_comm]; exact hlt
  have ht : R / 4294967296 ^ n < 18446744073709551616 := by
    rw [Nat.div_lt_iff_lt_mul hp]
    have h1 := val_lt (ok_digs D)
    rw [val_digs, hn, Nat.pow_succ] at h1
    omega
  rcases hg (R / 4294967296 ^ n) (Nat.div_mul_le_self _ _) ht with h | h
  · refine Nat.le_trans (kn_start (u := R) (v := D) (p := 4294967296 ^ n) (by omega) ?_ v1.1 (Nat.div_mul_le_self _ _)) h
    have := Nat.div_add_mod R (4294967296 ^ n)
    have := Nat.mod_lt R hp
    rw [Nat.add_mul, Nat.mul_comm (_ / _)]; omega
  · omega
theorem min_nat (q : Nat) (h : q < 18446744073709551616) : ∃ g : Nat, min (q : Int) 4294967295 = (g : Int) ∧ g < 4294967296 ∧ (q ≤ g ∨ 4294967295 ≤ g) := ⟨min q 4294967295, by omega, by omega, by omega⟩
theorem seen_one {R n : Nat} (hl : (digs R).length = n + 1) : R / 4294967296 ^ n = (digs R)[n]?.getD 0 := by
  have r1 := val_seen1 (ok_digs R) hl
  rw [val_digs] at r1
  have hp : 0 < 4294967296 ^ n := Nat.pow_pos (by omega)
  refine Nat.le_antisymm (Nat.le_of_lt_succ ?_) ?_
  · rw [Nat.div_lt_iff_lt_mul hp]; exact r1.2
  · rw [Nat.le_div_iff_mul_le hp]; exact r1.1
theorem seen_two {R n : Nat} (hl : (digs R).length = n + 2) : R / 4294967296 ^ n = (digs R)[n + 1]?.getD 0 * 4294967296 + (digs R)[n]?.getD 0 := by
  have r1 := val_seen2 (ok_digs R) hl
  rw [val_digs] at r1
  have hp : 0 < 4294967296 ^ n := Nat.pow_pos (by omega)
  refine Nat.le_antisymm (Nat.le_of_lt_succ ?_) ?_
  · rw [Nat.div_lt_iff_lt_mul hp]; exact r1.2
  · rw [Nat.le_div_iff_mul_le hp]; exact r1.1
/-- What guess answers. -/
def Gss (l : Nat) (e : Ending) : Prop := ∃ g : Nat, e = .returned (.int .u64 g) ∧ l ≤ g ∧ g < 4294967296
set_option maxHeartbeats 2000000 in
theorem rguess_any (A B : Option Addr) (c d R D : Nat) (w : World) (h : Dg w A c (digs R)) (h' : Dg w B d (digs D)) (hD : D ≠ 0) (hlt : R < D * 4294967296) (hl : (digs D).length ≤ 1048576) :
    Calls Try.prog 33 #[.slice A (digs R).length c, .slice B (digs D).length d] w fun e w' => Gss (R / D) e ∧ w = w' := by
  obtain ⟨n, hn⟩ : ∃ n, (digs D).length = n + 1 := ⟨(digs D).length - 1, by have : (digs D).length ≠ 0 := fun e => hD (digs_nil.1 e); omega⟩
  have hR : (digs R).length ≤ n + 2 := by
    apply digs_len_lt
    have h1 := val_lt (ok_digs D)
    rw [val_digs, hn] at h1
    have e : 4294967296 ^ (n + 2) = 4294967296 ^ (n + 1) * 4294967296 := Nat.pow_succ _ _
    rw [e]
    exact Nat.lt_trans hlt (Nat.mul_lt_mul_of_pos_right h1 (by omega))
  have nb : n ≤ 1048576 := by omega
  have hf := top_ne hn
  have HG := Lib.hid (fun g => guess_up (g := g) hlt hn)
  have bf := getD_lt (ok_digs D) n
  obtain ⟨b, p, hB, hb, hcb⟩ := h'.2.2 (by omega)
  have q0 := hcb n (by omega)
  generalize (digs D)[n]?.getD 0 = f at *
  have f1 : ((f : Int) == 0) = false := beq_eq_false_iff_ne.2 (by omega)
  have f3 : ((f : Int) != 0) = true := by simp; omega
  have f0 : 0 < f := by omega
  rw [hn]
  by_cases h0 : (digs R).length < n + 1
  · have t0 : decide ((digs R).length < n + 1) = true := by simp [h0]
    have HZ : Hid (R / D ≤ 0) := by
      have h1 : R < 4294967296 ^ n := by
        have := val_lt (ok_digs R)
        rw [val_digs] at this
        exact Nat.lt_of_lt_of_le this (Nat.pow_le_pow_right (by omega) (by omega))
      have h3 := pow_le hn
      show R / D ≤ 0
      rw [Nat.div_eq_of_lt (by omega)]
      exact Nat.le_refl _
    clear h h' hcb q0 hf HG
    go_enter Try.func33, Try.ntmps33
    go_wp2
    go_ret
    exact ⟨⟨0, rfl, HZ.out, by omega⟩, rfl⟩
  · obtain ⟨a, o, hA, ha, hca⟩ := h.2.2 (by omega)
    have c0 := hca n (by omega)
    have bx := getD_lt (ok_digs R) n
    have t0 : decide ((digs R).length < n + 1) = false := by simp; omega
    by_cases h1 : (digs R).length = n + 1
    · have es := seen_one h1
      have hq := Nat.div_le_self ((digs R)[n]?.getD 0) f
      obtain ⟨g, hg, bg, hgq⟩ := min_nat ((digs R)[n]?.getD 0 / f) (by omega)
      have hw : IntKind.u64.wrap ((((digs R)[n]?.getD 0 : Nat) : Int) / (f : Int)) = (((digs R)[n]?.getD 0 / f : Nat) : Int) := by rw [← Int.natCast_ediv]; exact IntWalk.u64_in _ ⟨by omega, by omega⟩
      have HS : Hid (R / D ≤ g) := by
        refine HG.out g fun t ht _ => ?_
        have h2 : t ≤ (digs R)[n]?.getD 0 := by rw [← es, Nat.le_div_iff_mul_le (Nat.pow_pos (by omega))]; exact ht
        have := Nat.div_le_div_right (c := f) h2
        omega
      generalize (digs R)[n]?.getD 0 = x at *
      generalize x / f = q at *
      rw [h1]
      have d0 : decide (n + 1 < n + 1) = false := by simp
      subst hA hB
      clear h h' hcb hca h0 hf HG es h1 hgq hq t0 hR hn hl hlt hD
      go_enter Try.func33, Try.ntmps33
      go_wp2
      go_ret
      exact ⟨⟨g, rfl, HS.out, bg⟩, rfl⟩
    · have h2 : (digs R).length = n + 2 := by omega
      have es := seen_two h2
      have c1 := hca (n + 1) (by omega)
      have by1 := getD_lt (ok_digs R) (n + 1)
      have hq := Nat.div_le_self ((digs R)[n + 1]?.getD 0 * 4294967296 + (digs R)[n]?.getD 0) f
      obtain ⟨g, hg, bg, hgq⟩ := min_nat (((digs R)[n + 1]?.getD 0 * 4294967296 + (digs R)[n]?.getD 0) / f) (by omega)
      have HS : Hid (R / D ≤ g) := by
        refine HG.out g fun t ht _ => ?_
        have h2 : t ≤ (digs R)[n + 1]?.getD 0 * 4294967296 + (digs R)[n]?.getD 0 := by rw [← es, Nat.le_div_iff_mul_le (Nat.pow_pos (by omega))]; exact ht
        have := Nat.div_le_div_right (c := f) h2
        omega
      generalize (digs R)[n]?.getD 0 = x at *
      generalize (digs R)[n + 1]?.getD 0 = y at *
      obtain ⟨t, ht⟩ : ∃ t : Nat, y * 4294967296 + x = t := ⟨_, rfl⟩
      have hO : bits BinOp.or IntKind.u64 (x : Int) ((y : Int) * 4294967296) = (t : Int) := by rw [or_join' _ _ bx by1]; congr 1; omega
      have bt : t < 18446744073709551616 := by omega
      rw [ht] at hg hgq hq
      have hw : IntKind.u64.wrap ((t : Int) / (f : Int)) = ((t / f : Nat) : Int) := by rw [← Int.natCast_ediv]; exact IntWalk.u64_in _ ⟨by omega, by omega⟩
      generalize t / f = q at *
      rw [h2]
      have d0 : decide (n + 2 < n + 1) = false := by simp
      have d1 : decide (n + 1 < n + 2) = true := by simp
      subst hA hB
      clear h h' hcb hca h0 h1 hf HG es h2 hgq hq t0 hR hn hl hlt hD ht
      go_enter Try.func33, Try.ntmps33
      go_wp2
      go_ret
      exact ⟨⟨g, rfl, HS.out, bg⟩, rfl⟩
end Go.Proofs.Ytceningojnfgpaa
