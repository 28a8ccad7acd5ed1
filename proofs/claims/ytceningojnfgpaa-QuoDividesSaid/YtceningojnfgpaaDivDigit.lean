/-
  math/bits.Div32; quo.divDigit.
-/
import Derived.Test.YtceningojnfgpaaGuess
import Derived.Test.YtceningojnfgpaaKnuth3
import Derived.Test.YtceningojnfgpaaNew
namespace Go.Proofs.Ytceningojnfgpaa
open Go.RowKit
set_option maxHeartbeats 1000000 in
theorem div32_any (x y d : Nat) (w : World) (hx : x < d) (hy : y < 4294967296) (hd : d < 4294967296) :
    Calls Try.prog 47 #[.int .u32 x, .int .u32 y, .int .u32 d] w fun e w' => e = .returned (.tuple #[.int .u32 ((y + 4294967296 * x) / d : Nat), .int .u32 ((y + 4294967296 * x) % d : Nat)]) ∧ ∃ n, w' = w.drewN n := by
  have f1 : ((d : Int) == 0) = false := beq_eq_false_iff_ne.2 (by omega)
  have f3 : ((d : Int) != 0) = true := by simp; omega
  have f2 : decide (d ≤ x) = false := by simp; omega
  have f0 : 0 < d := by omega
  have hx' : x < 4294967296 := by omega
  obtain ⟨t, ht⟩ : ∃ t : Nat, y + 4294967296 * x = t := ⟨_, rfl⟩
  have hO : bits BinOp.or IntKind.u64 ((x : Int) * 4294967296) (y : Int) = (t : Int) := by rw [or_join _ _ hx' hy, ht]
  obtain ⟨q, hq⟩ : ∃ q : Nat, t / d = q := ⟨_, rfl⟩
  obtain ⟨r, hr⟩ : ∃ r : Nat, t % d = r := ⟨_, rfl⟩
  have hw0 : IntKind.u64.wrap ((t : Int) / (d : Int)) = (q : Int) := by rw [← hq, ← Int.natCast_ediv]; exact IntWalk.u64_in _ ⟨by omega, by have := Nat.div_le_self t d; omega⟩
  have hw1 : (t : Int) % (d : Int) = (r : Int) := by rw [← hr, Int.natCast_emod]
  have bq : q < 4294967296 := by rw [← hq, Nat.div_lt_iff_lt_mul f0, ← ht]; have := Nat.mul_le_mul_left 4294967296 hx; omega
  have br : r < 4294967296 := by rw [← hr]; exact Nat.lt_trans (Nat.mod_lt t f0) hd
  have bt : t < 18446744073709551616 := by omega
  rw [ht, hq, hr]
  clear ht hq hr hx
  go_enter Try.func47, Try.ntmps47
  go_wp2
  go_quiet (fail)
  go_wp2
  go_ret2
  exact ⟨ret2 (by omega) (by omega), _, rfl⟩
theorem digit_step {xs zs : List Nat} {k d r q r' : Nat} (hx : k < xs.length) (hz : k < zs.length) (h : val (xs.drop (k + 1)) = val (zs.drop (k + 1)) * d + r) (hq : (xs[k]?.getD 0 + 4294967296 * r) / d = q) (hr : (xs[k]?.getD 0 + 4294967296 * r) % d = r') :
    val (xs.drop k) = val ((zs.set k q).drop k) * d + r' := by
  have e1 : xs.drop k = xs[k]?.getD 0 :: xs.drop (k + 1) := by rw [List.drop_eq_getElem_cons hx, List.getElem?_eq_getElem hx]; rfl
  have e2 : (zs.set k q).drop k = q :: zs.drop (k + 1) := by
    rw [List.drop_eq_getElem_cons (by simpa using hz), List.drop_set_of_lt (by omega)]; simp
  have e3 := Nat.div_add_mod (xs[k]?.getD 0 + 4294967296 * r) d
  rw [hq, hr, Nat.mul_comm] at e3
  rw [e1, e2]
  simp only [val]
  rw [h, Nat.add_mul, Nat.mul_add, Nat.mul_assoc]
  omega
set_option maxHeartbeats 2000000 in
theorem divdigit_any (A : Option Addr) (c d : Nat) (xs : List Nat) (w : World) (h : Dg w A c xs) (hl : xs.length ≤ 1048576) (hd0 : 0 < d) (hd : d < 4294967296) :
    Calls Try.prog 27 #[.slice A xs.length c, .int .u32 d] w fun e w' => ∃ A' c' B' d', e = .returned (.tuple #[.slice A' (digs (val xs / d)).length c', .slice B' (digs (val xs % d)).length d']) ∧ Dg w' A' c' (digs (val xs / d)) ∧ Dg w' B' d' (digs (val xs % d)) ∧ Below w.heap.size w w' := by
  have H := Lib.hid h
  clear h
  have hmk := run_make_row' (P := Try.prog) 22 37 (.int .u32 0) 4 Try.underlying22 elem_info rfl .i64 .i64 xs.length (by omega) (by omega)
  go_enter Try.func27, Try.ntmps27
  go_wp2
  go_loopw [6, 7] (fun rv i wr => ∃ (k r : Nat) (z : Int) (zs : List Nat), k ≤ xs.length ∧ i = .int .i64 z ∧ z = (k : Int) - 1 ∧ rv = .int .u32 r ∧ r < d ∧ Row wr w.heap.size zs ∧ Hid (zs.length = xs.length) ∧ ok32 zs ∧
    Hid (val (xs.drop k) = val (zs.drop k) * d + r) ∧ Below w.heap.size w wr) (fun _ i _ => (intOf i + 1).toNat)
  case atStart => exact ⟨xs.length, 0, (xs.length : Int) - 1, List.replicate xs.length 0, Nat.le_refl _, rfl, rfl, rfl, hd0, Row.made _ _, by simp [Hid], ok_zeros _, by simp [Hid, val], (Below.refl _ _).alloc (Nat.le_refl _) _⟩
  case round =>
    obtain ⟨k, r, z, zs, hk, rfl, hz, rfl, hr, hrow, HL, hok, HE, hbel⟩ := hrel
    rcases k with _ | k
    · obtain rfl : z = -1 := by omega
      clear hz hk
      have HV : Hid (val xs / d = val zs ∧ val xs % d = r) := by
        have e := HE.out
        rw [List.drop_zero, List.drop_zero] at e
        rw [e, Nat.mul_comm, Nat.mul_add_div hd0, Nat.mul_add_mod, Nat.div_eq_of_lt hr, Nat.mod_eq_of_lt hr]
        exact ⟨Nat.add_zero _, rfl⟩
      have L0 := Lib.hid ((live_start wr).add (hrow.dg hok (c := xs.length) (by have := HL.out; omega)))
      have hl' := HL.out
      go_wp2_with fail
      refine Calls.mono (trim_l (xs := zs) (x := val xs / d) L0.out (by simp) hl'.symm (by rw [HV.out.1]) (by omega)) ?_
      rintro e w2 ⟨A2, c2, rfl, h2⟩
      have L2 := Lib.hid h2
      clear h2
      have hr64 : r < 18446744073709551616 := by omega
      go_wp2_with fail
      refine Calls.mono (from_l L2.out (i := (r : Int)) (k := r) rfl hr64) ?_
      rintro e w3 ⟨A3, c3, rfl, h3⟩
      have L3 := Lib.hid h3
      clear h3
      go_wp2
      go_ret2
      rw [HV.out.2]
      exact ⟨A2, c2, A3, c3, rfl, L3.out.get (by simp), L3.out.get (by simp), hbel.trans (L3.out.1.mono hbel.size)⟩
    · obtain rfl : z = (k : Int) := by omega
      clear hz
      obtain ⟨b, o, hA, hbk, hcx⟩ := H.out.2.2 (by omega)
      have hy := (hbel.cell (p := ⟨b, o + k, none⟩) hbk).trans (hcx k (by omega))
      have hY := getD_lt H.out.2.1 k
      have hcell := hrow.cell (i := k) (by have := HL.out; omega)
      have hfr := hrow.frozen k
      have hki : (k : Int) < (xs.length : Int) := by omega
      have hki' : k < xs.length := by omega
      generalize ey : xs[k]?.getD 0 = y at *
      have HY := Lib.hid ey
      clear ey hcx
      subst hA
      go_wp2_with fail
      refine (div32_any r y d _ hr hY hd).mono ?_
      rintro e w' ⟨rfl, n, rfl⟩
      obtain ⟨q, hq⟩ : ∃ q : Nat, (y + 4294967296 * r) / d = q := ⟨_, rfl⟩
      obtain ⟨r', hr'⟩ : ∃ r' : Nat, (y + 4294967296 * r) % d = r' := ⟨_, rfl⟩
      have bq : q < 4294967296 := by rw [← hq, Nat.div_lt_iff_lt_mul hd0]; have := Nat.mul_le_mul_left 4294967296 hr; omega
      have br : r' < d := by rw [← hr']; exact Nat.mod_lt _ hd0
      rw [hq, hr']
      have HQ := Lib.hid hq
      have HR := Lib.hid hr'
      clear hq hr'
      go_wp2
      go_roundw
      case rel =>
        have hl' := HL.out
        exact ⟨k, r', (k : Int) - 1, zs.set k q, by omega, rfl, rfl, rfl, br, (hrow.drewN n).set_ _ _, by simp only [List.length_set]; exact HL, ok_set hok bq _, digit_step hki' (by omega) HE.out (by rw [HY.out]; exact HQ.out) (by rw [HY.out]; exact HR.out), (below_drewN hbel n).setCell (by simp) _⟩
      case measure => simp [intOf]
end Go.Proofs.Ytceningojnfgpaa
