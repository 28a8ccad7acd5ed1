/-
  nat.addRow, Mul.
-/
import Derived.Test.YtceningojnfgpaaSub
namespace Go.Proofs.Ytceningojnfgpaa
open Go.RowKit
theorem row_step {zs z0 ys : List Nat} {off k s d c x t : Nat} (hz : off + k < zs.length) (hz0 : off + k < z0.length) (hy : k < ys.length) (hlen : zs.length = z0.length)
    (h : val (zs.take (off + k)) + 4294967296 ^ (off + k) * c = val (z0.take (off + k)) + 4294967296 ^ off * (val (ys.take k) * x))
    (hs : s + 4294967296 * d = z0[off + k]?.getD 0 + ys[k]?.getD 0 * x + c) (ht : t = s) :
    val ((zs.set (off + k) t).take (off + (k + 1))) + 4294967296 ^ (off + (k + 1)) * d = val (z0.take (off + (k + 1))) + 4294967296 ^ off * (val (ys.take (k + 1)) * x) := by
  subst ht
  rw [← Nat.add_assoc, take_set hz, take_one hz0, take_one hy, val_snoc, val_snoc, val_snoc, List.length_take, List.length_take, List.length_take, Nat.min_eq_left (by omega), Nat.min_eq_left (by omega), Nat.min_eq_left (by omega), Nat.pow_succ]
  have e1 : 4294967296 ^ off * ((val (ys.take k) + 4294967296 ^ k * (ys[k]?.getD 0)) * x) = 4294967296 ^ off * (val (ys.take k) * x) + 4294967296 ^ (off + k) * (ys[k]?.getD 0 * x) := by
    rw [Nat.add_mul, Nat.mul_add, Nat.pow_add]; congr 1; simp only [Nat.mul_assoc]
  have e2 : 4294967296 ^ (off + k) * t + 4294967296 ^ (off + k) * 4294967296 * d = 4294967296 ^ (off + k) * (z0[off + k]?.getD 0) + 4294967296 ^ (off + k) * (ys[k]?.getD 0 * x) + 4294967296 ^ (off + k) * c := by
    rw [Nat.mul_assoc, ← Nat.mul_add, hs, Nat.mul_add, Nat.mul_add]
  rw [e1]
  omega
theorem Row.set_int {w : World} {g : Nat} {ys : List Nat} (h : Row w g ys) {i x : Nat} {v : Int} (hv : v = (x : Int)) : Row (w.setCell ⟨g, i, none⟩ (.int .u32 v)) g (ys.set i x) := by rw [hv]; exact h.set_ i x
theorem get_set_other {zs : List Nat} {i j t : Nat} (h : i ≠ j) : (zs.set i t)[j]? = zs[j]? := by rw [List.getElem?_set]; simp [h]
set_option maxHeartbeats 2000000 in
theorem row_any (B : Option Addr) (g off m cap d : Nat) (x : Nat) (ys z0 : List Nat) (w : World) (hrow : Row w g z0) (hok : ok32 z0) (h : Dg w B d ys) (hb : ∀ b o, B = some ⟨b, o, none⟩ → b < g) (hm : m = ys.length)
    (hl : z0.length ≤ 4194304) (hoff : off + ys.length ≤ z0.length) (hx : x < 4294967296) :
    Calls Try.prog 43 #[.slice (some ⟨g, off, none⟩) m cap, .slice B ys.length d, .int .u32 x] w fun e w' => ∃ (c : Nat) (zs : List Nat), e = .returned (.int .u32 c) ∧ c < 4294967296 ∧ Row w' g zs ∧ ok32 zs ∧ zs.length = z0.length ∧
      val (zs.take (off + ys.length)) + 4294967296 ^ (off + ys.length) * c = val (z0.take (off + ys.length)) + 4294967296 ^ off * (val ys * x) ∧ Below g w w' := by
  subst hm
  have H := Lib.hid h
  have HB := Lib.hid hb
  have HR := Lib.hid hrow
  have HO := Lib.hid hok
  clear h hb hrow hok
  go_enter Try.func43, Try.ntmps43
  go_wp2
  go_loopw [7, 11] (fun cy i wr => ∃ (k c : Nat) (zs : List Nat), k ≤ ys.length ∧ i = .int .i64 k ∧ cy = .int .u64 c ∧ c < 4294967296 ∧ Row wr g zs ∧ Hid (zs.length = z0.length) ∧ ok32 zs ∧ Hid (∀ j, off + k ≤ j → zs[j]? = z0[j]?) ∧
    Hid (val (zs.take (off + k)) + 4294967296 ^ (off + k) * c = val (z0.take (off + k)) + 4294967296 ^ off * (val (ys.take k) * x)) ∧ Below g w wr) (fun _ i _ => ys.length - (intOf i).toNat)
  case atStart => exact ⟨0, 0, z0, Nat.zero_le _, rfl, rfl, by omega, HR.out, by simp [Hid], HO.out, by simp [Hid], by simp [Hid, val], Below.refl _ _⟩
  case round =>
    obtain ⟨k, c, zs, hk, rfl, rfl, hc, hrow, HL, hok, HJ, HE, hbel⟩ := hrel
    by_cases hlt : k < ys.length
    · obtain ⟨b, o, hB, hbk, hcx⟩ := H.out.2.2 (by omega)
      have hbg := HB.out _ _ hB
      have hy := (hbel.cell (p := ⟨b, o + k, none⟩) hbg).trans (hcx k (by omega))
      have hY := getD_lt H.out.2.1 k
      have hcell := hrow.cell (i := off + k) (by have := HL.out; omega)
      have hfr := hrow.frozen (off + k)
      have hZ := getD_lt hok (off + k)
      generalize ez : zs[off + k]?.getD 0 = z at *
      generalize ey : ys[k]?.getD 0 = y at *
      have HZ := Lib.hid ez
      have HY := Lib.hid ey
      have hp0 : 0 ≤ (y : Int) * (x : Int) := by rw [← Int.natCast_mul]; omega
      have hpn : y * x ≤ 18446744065119617025 := Nat.le_trans (Nat.mul_le_mul (Nat.le_of_lt_succ hY) (Nat.le_of_lt_succ hx)) (by decide)
      have hp1 : (y : Int) * (x : Int) ≤ 18446744065119617025 := by rw [← Int.natCast_mul]; omega
      clear ez ey hcx
      subst hB
      go_wp2
      go_quiet (fail)
      go_wp2
      go_roundw
      case rel =>
        have ep : (y : Int) * (x : Int) = ((y * x : Nat) : Int) := (Int.natCast_mul y x).symm
        have e1 : ((c : Int) + ((z : Int) + (y : Int) * (x : Int))) % 4294967296 = (lo (z + y * x + c) : Nat) := by rw [ep]; unfold lo; omega
        have e2 : ((c : Int) + ((z : Int) + (y : Int) * (x : Int))) / 4294967296 = (hi (z + y * x + c) : Nat) := by rw [ep]; unfold hi; omega
        have hlh := lo_hi (z + y * x + c)
        have hlo := lo_lt (z + y * x + c)
        have hhi : hi (z + y * x + c) < 4294967296 := by unfold hi; omega
        have hl' := HL.out
        refine ⟨k + 1, hi (z + y * x + c), zs.set (off + k) (lo (z + y * x + c)), hlt, by go_num, by rw [e2], hhi, (hrow.drewN _).set_int e1, by simp only [List.length_set]; exact HL, ok_set hok hlo _, fun j hj => ?_, ?_, ?_⟩
        · rw [get_set_other (by omega)]; exact HJ.out j (by omega)
        · refine row_step (by omega) (by omega) hlt hl' HE.out ?_ rfl
          rw [← HJ.out _ (Nat.le_refl _), HZ.out, HY.out]
          exact hlh
        · exact (below_drewN hbel _).setCell (by simp) _
      case measure => simp [intOf]; omega
    · have hk' : k = ys.length := by omega
      subst hk'
      clear hlt
      go_wp2
      go_ret
      have hE := HE.out
      rw [List.take_of_length_le (Nat.le_refl ys.length)] at hE
      exact ⟨c, zs, rfl, hc, hrow, hok, HL.out, hE, hbel⟩
theorem run_cut {P : Program} {t e : TypeId} {i : TypeInfo} (ht : P.underlying t = some (.slice e)) (hi : P.info? e = some i) (hs : i.size = 1) (g N k m : Nat) (h : k + m ≤ N) (h0 : k < N) (W : World) :
    (Instr.slice t (.slice (some ⟨g, 0, none⟩) N N) (some (.int .i64 (k : Int))) (some (.int .i64 ((k : Int) + (m : Int)))) none).run P W = .ok (.slice (some ⟨g, k, none⟩) m (N - k)) W := by
  have h1 : (0 : Int) ≤ (k : Int) + (m : Int) := by omega
  have h2 : (k : Int) + (m : Int) ≤ (N : Int) := by omega
  have h3 : ((k : Int) + (m : Int)).toNat = k + m := by omega
  have h5 : ¬ (N = k) := by omega
  simp [Instr.slice, Instr.sliceBounds, run_underlying ht, go_sem, h1, h2, h3, h5, sizeOf, typeInfo, hi, hs]
theorem mul_step {zs z0 xs ys : List Nat} {k c : Nat} (hz : k + ys.length < zs.length) (hlen : zs.length = z0.length) (hk : k < xs.length)
    (hE : val (z0.take (k + ys.length)) = val (xs.take k) * val ys)
    (h : val (zs.take (k + ys.length)) + 4294967296 ^ (k + ys.length) * c = val (z0.take (k + ys.length)) + 4294967296 ^ k * (val ys * (xs[k]?.getD 0))) :
    val ((zs.set (k + ys.length) c).take (k + 1 + ys.length)) = val (xs.take (k + 1)) * val ys := by
  rw [show k + 1 + ys.length = k + ys.length + 1 by omega, take_set hz, val_snoc, List.length_take, Nat.min_eq_left (by omega), h, hE, take_one hk, val_snoc, List.length_take, Nat.min_eq_left (by omega), Nat.add_mul]
  congr 1
  rw [Nat.mul_assoc, Nat.mul_comm (val ys)]
set_option maxHeartbeats 2000000 in
theorem mul_any (A B : Option Addr) (c d : Nat) (xs ys : List Nat) (w : World) (h : Dg w A c xs) (h' : Dg w B d ys) (hl : xs.length ≤ 1048576) (hl' : ys.length ≤ 1048576) :
    Calls Try.prog 21 #[.slice A xs.length c, .slice B ys.length d] w fun e w' => ∃ A' c', e = .returned (.slice A' (digs (val xs * val ys)).length c') ∧ Dg w' A' c' (digs (val xs * val ys)) ∧ Below w.heap.size w w' := by
  have l1 := digs_len_le h.2.1
  have l2 := digs_len_le h'.2.1
  have H := Lib.hid h
  have H' := Lib.hid h'
  clear h h'
  go_enter Try.func21, Try.ntmps21
  go_wp2_with fail
  refine (short_any A c xs _ H.out (by omega)).mono ?_
  rintro e w' ⟨A1, c1, rfl, h1, rfl⟩
  have H1 := Lib.hid h1
  clear h1
  go_wp2_with fail
  refine (short_any B d ys _ H'.out (by omega)).mono ?_
  rintro e w' ⟨B1, d1, rfl, h2, rfl⟩
  have H2 := Lib.hid h2
  clear h2
  by_cases h0 : val xs = 0 ∨ val ys = 0
  · have HR : Hid (digs (val xs * val ys) = digs 0) := by rcases h0 with h | h <;> rw [h] <;> simp [Hid]
    have hn : (digs (val xs)).length = 0 ∨ (digs (val ys)).length = 0 := h0.imp digs_nil.2 digs_nil.2
    generalize digs (val xs) = X at *
    generalize digs (val ys) = Y at *
    clear h0
    by_cases hx : X.length = 0
    · have t1 : ((X.length : Int) == 0) = true := by simp; exact List.eq_nil_of_length_eq_zero hx
      clear hx hn
      go_wp2
      go_ret
      rw [HR.out, digs_zero]
      exact ⟨none, 0, rfl, Dg.nil_ _ _, Below.refl _ _⟩
    · have t1 : ((X.length : Int) == 0) = false := beq_eq_false_iff_ne.2 (by omega)
      have t2 : ((Y.length : Int) == 0) = true := by simp; exact List.eq_nil_of_length_eq_zero (by omega)
      clear hx hn
      go_wp2
      go_ret
      rw [HR.out, digs_zero]
      exact ⟨none, 0, rfl, Dg.nil_ _ _, Below.refl _ _⟩
  · have hnx : (digs (val xs)).length ≠ 0 := fun h => h0 (.inl (digs_nil.1 h))
    have hny : (digs (val ys)).length ≠ 0 := fun h => h0 (.inr (digs_nil.1 h))
    have V1 := Lib.hid (val_digs (val xs))
    have V2 := Lib.hid (val_digs (val ys))
    have O1 := Lib.hid (ok_digs (val xs))
    have O2 := Lib.hid (ok_digs (val ys))
    generalize digs (val xs) = X at *
    generalize digs (val ys) = Y at *
    obtain ⟨i0, hi0, _, hz1, _⟩ := info_parts elem_info
    have hmk := run_make_row' (P := Try.prog) 22 37 (.int .u32 0) 4 Try.underlying22 elem_info rfl .i64 .i64 (X.length + Y.length) (by omega) (by omega)
    rw [show ((X.length + Y.length : Nat) : Int) = (X.length : Int) + (Y.length : Int) by omega] at hmk
    have t1 : ((X.length : Int) == 0) = false := beq_eq_false_iff_ne.2 (by omega)
    have t2 : ((Y.length : Int) == 0) = false := beq_eq_false_iff_ne.2 (by omega)
    have hx1 : 0 < X.length := by omega
    have hy1 : 0 < Y.length := by omega
    clear h0 hnx hny
    go_wp2
    go_loopw [27] (fun i wr => ∃ (k : Nat) (zs : List Nat), k ≤ X.length ∧ i = .int .i64 k ∧ Row wr w.heap.size zs ∧ Hid (zs.length = X.length + Y.length) ∧ ok32 zs ∧
      Hid (val (zs.take (k + Y.length)) = val (X.take k) * val Y) ∧ Below w.heap.size w wr) (fun i _ => X.length - (intOf i).toNat)
    case atStart => exact ⟨0, List.replicate (X.length + Y.length) 0, Nat.zero_le _, rfl, Row.made _ _, by simp [Hid], ok_zeros _, by simp [Hid, val, List.take_replicate, val_zeros], (Below.refl _ _).alloc (Nat.le_refl _) _⟩
    case round =>
      obtain ⟨k, zs, hk, rfl, hrow, HL, hok, HE, hbel⟩ := hrel
      by_cases hlt : k < X.length
      · obtain ⟨b, off, hA, hb, hcx⟩ := H1.out.2.2 (by omega)
        have hx := (hbel.cell (p := ⟨b, off + k, none⟩) hb).trans (hcx k (by omega))
        have hX := getD_lt O1.out k
        generalize ex : X[k]?.getD 0 = x at *
        have HX := Lib.hid ex
        have hki : (k : Int) + (Y.length : Int) < (X.length : Int) + (Y.length : Int) := by omega
        have hcut := fun W => run_cut (P := Try.prog) Try.underlying22 hi0 hz1 w.heap.size (X.length + Y.length) k Y.length (by omega) (by omega) W
        have hw : IntKind.i64.wrap ((k : Int) + (Y.length : Int)) = (k : Int) + (Y.length : Int) := IntWalk.i64_in _ (by omega)
        have hw0 : (0 : Int) ≤ (k : Int) + (Y.length : Int) := by omega
        have hwt : ((k : Int) + (Y.length : Int)).toNat = k + Y.length := by omega
        clear ex hcx
        subst hA
        have HC := Lib.hid (row_any B1 w.heap.size k Y.length (X.length + Y.length - k) d1 x Y zs wr.drew hrow.drew hok ((H2.out).keep hbel.size (fun b o h => hbel.cell (p := ⟨b, o, none⟩) h)).drew (by intro b o e; obtain ⟨b', o', e', hlt, _⟩ := H2.out.2.2 hy1; rw [e] at e'; injection e' with e'; injection e' with e1 _ _; omega) rfl (by have := HL.out; omega) (by have := HL.out; omega) hX)
        have HRow := Lib.hid hrow
        have HX0 := Lib.hid hx
        clear hrow
        go_wp2
        go_region_held3 (fun w' => w'.cell? ⟨b, off + k, none⟩ = some (.int .u32 x)) (first | assumption | (refine (World.cell?_setCell_other _ _ _ _ (by intro e; injection e with e1 _ _; omega)).trans ?_; assumption) | go_keep) ((go_at_call 43; refine (HC.out).mono ?_; rintro e w' ⟨cc, zs', rfl, hcc, hrow', hok', hlen', hval', hbel'⟩; (have hx' := (hbel'.cell (p := ⟨b, off + k, none⟩) hb).trans HX0.out); (have hcell' := hrow'.cell (i := k + Y.length) (by have := HL.out; omega)); (have hfr' := hrow'.frozen (k + Y.length)); (have HV' := Lib.hid hval'); (have HL' := Lib.hid hlen'); clear hval' hlen'))
        go_wp2
        go_roundw
        case rel =>
          have hl1 := HL.out
          have hl2 := HL'.out
          exact ⟨k + 1, zs'.set (k + Y.length) cc, hlt, by go_num, hrow'.set_ _ _, by simp only [List.length_set]; exact hl2.trans hl1, ok_set hok' hcc _,
            mul_step (by omega) hl2 hlt HE.out (by rw [HX.out]; exact HV'.out), (hbel.drew.trans hbel').setCell (by simp) _⟩
        case measure => simp [intOf]; omega
      · have hk' : k = X.length := by omega
        subst hk'
        clear hlt
        go_wp2_with fail
        have HV := Lib.hid (show val zs = val xs * val ys from by
          have := HE.out
          rw [List.take_of_length_le (Nat.le_refl X.length), List.take_of_length_le (by have := HL.out; omega : zs.length ≤ X.length + Y.length), V1.out, V2.out] at this
          exact this)
        have HD := Lib.hid (hrow.dg hok (c := X.length + Y.length) (by have := HL.out; omega))
        refine (short_n HD.out (by have := HL.out; omega) HL.out.symm).mono ?_
        rintro e w' ⟨A2, c2, rfl, h2, rfl⟩
        rw [HV.out] at h2
        rw [HV.out]
        have HR := Lib.hid h2
        clear h2
        go_wp2
        go_ret
        exact ⟨A2, c2, rfl, HR.out, hbel⟩
end Go.Proofs.Ytceningojnfgpaa
