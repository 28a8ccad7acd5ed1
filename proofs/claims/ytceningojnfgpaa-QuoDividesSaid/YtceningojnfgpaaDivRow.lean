/-
  quo.takeOff, giveBack: a row of the long division.
-/
import Derived.Test.YtceningojnfgpaaKnuth2
namespace Go.Proofs.Ytceningojnfgpaa
open Go.RowKit
/-- All blocks but one are as they were. -/
def Rest (g : Nat) (w w' : World) : Prop := w'.heap.size = w.heap.size ∧ ∀ b, b ≠ g → w'.heap[b]? = w.heap[b]?
theorem Rest.refl (g : Nat) (w : World) : Rest g w w := ⟨rfl, fun _ _ => rfl⟩
theorem Rest.set_ {g : Nat} {w w' : World} (h : Rest g w w') (i : Nat) (v : Value) : Rest g w (w'.setCell ⟨g, i, none⟩ v) := by
  refine ⟨by rw [← h.1]; simp [World.setCell], fun b hb => ?_⟩
  rw [← h.2 b hb]
  simp [World.setCell, Array.getElem?_modify]
  intro e; exact absurd e.symm hb
theorem Rest.drewN {g : Nat} {w w' : World} (h : Rest g w w') (n : Nat) : Rest g w (w'.drewN n) := h
theorem Rest.row {g q : Nat} {w w' : World} {ys : List Nat} (h : Rest g w w') (hr : Row w q ys) (hq : q ≠ g) : Row w' q ys := (h.2 q hq).trans hr
theorem add_last {zs z0 : List Nat} {k c d t E : Nat} (hz : k < zs.length) (hz0 : k < z0.length)
    (h : val (zs.take k) + 4294967296 ^ k * c = val (z0.take k) + E) (hs : t + 4294967296 * d = z0[k]?.getD 0 + c) :
    val ((zs.set k t).take (k + 1)) + 4294967296 ^ (k + 1) * d = val (z0.take (k + 1)) + E := by
  rw [take_set hz, take_one hz0, val_snoc, val_snoc, List.length_take, List.length_take, Nat.min_eq_left (by omega), Nat.min_eq_left (by omega), Nat.pow_succ]
  have e2 : 4294967296 ^ k * t + 4294967296 ^ k * 4294967296 * d = 4294967296 ^ k * (z0[k]?.getD 0) + 4294967296 ^ k * c := by
    rw [Nat.mul_assoc, ← Nat.mul_add, hs, ← Nat.mul_add]
  omega
set_option maxHeartbeats 2000000 in
theorem takeoff_any (B : Option Addr) (g off m cap d : Nat) (x : Nat) (ys z0 : List Nat) (w : World) (hrow : Row w g z0) (hok : ok32 z0) (h : Dg w B d ys) (hb : ∀ b o, B = some ⟨b, o, none⟩ → b < g) (hm : m = ys.length + 1)
    (hl : z0.length ≤ 4194304) (hoff : off + ys.length < z0.length) (hx : x < 4294967296) :
    Calls Try.prog 50 #[.slice (some ⟨g, off, none⟩) m cap, .slice B ys.length d, .int .u32 x] w fun e w' => ∃ (b : Nat) (zs : List Nat), e = .returned (.bool ((b : Int) == 1)) ∧ b ≤ 1 ∧ Row w' g zs ∧ ok32 zs ∧ zs.length = z0.length ∧
      zs.drop (off + (ys.length + 1)) = z0.drop (off + (ys.length + 1)) ∧ val z0 + 4294967296 ^ (off + (ys.length + 1)) * b = val zs + 4294967296 ^ off * (val ys * x) ∧ Below g w w' ∧ Rest g w w' := by
  have H := Lib.hid h
  have HB := Lib.hid hb
  have HR := Lib.hid hrow
  have HO := Lib.hid hok
  have HM := Lib.hid hm
  clear h hb hrow hok hm
  go_enter Try.func50, Try.ntmps50
  go_wp2
  go_loopw [7, 8, 13] (fun cy bw i wr => ∃ (k c b : Nat) (zs : List Nat), k ≤ ys.length ∧ i = .int .i64 k ∧ cy = .int .u64 c ∧ c < 4294967296 ∧ bw = .int .u32 b ∧ b ≤ 1 ∧ Row wr g zs ∧ Hid (zs.length = z0.length) ∧ ok32 zs ∧ Hid (∀ j, off + k ≤ j → zs[j]? = z0[j]?) ∧
    Hid (val (z0.take (off + k)) + 4294967296 ^ (off + k) * (c + b) = val (zs.take (off + k)) + 4294967296 ^ off * (val (ys.take k) * x)) ∧ Below g w wr ∧ Hid (Rest g w wr)) (fun _ _ i _ => ys.length - (intOf i).toNat)
  case atStart => exact ⟨0, 0, 0, z0, Nat.zero_le _, rfl, rfl, by omega, rfl, by omega, HR.out, by simp [Hid], HO.out, by simp [Hid], by simp [Hid, val], Below.refl _ _, Rest.refl _ _⟩
  case round =>
    obtain ⟨k, c, b, zs, hk, rfl, rfl, hc, rfl, hbw, hrow, HL, hok, HJ, HE, hbel, HS⟩ := hrel
    by_cases hlt : k < ys.length
    · obtain ⟨bb, o, hB, hbk, hcx⟩ := H.out.2.2 (by omega)
      have hbg := HB.out _ _ hB
      have hy := (hbel.cell (p := ⟨bb, o + k, none⟩) hbg).trans (hcx k (by omega))
      have hY := getD_lt H.out.2.1 k
      have hcell := hrow.cell (i := off + k) (by have := HL.out; omega)
      have hfr := hrow.frozen (off + k)
      have hZ := getD_lt hok (off + k)
      have hkm : k < m := by have := HM.out; omega
      have hkm' : (k : Int) < (m : Int) := by omega
      generalize ez : zs[off + k]?.getD 0 = z at *
      generalize ey : ys[k]?.getD 0 = y at *
      have HZ := Lib.hid ez
      have HY := Lib.hid ey
      have hp0 : 0 ≤ (y : Int) * (x : Int) := by rw [← Int.natCast_mul]; omega
      have hpn : y * x ≤ 18446744065119617025 := Nat.le_trans (Nat.mul_le_mul (Nat.le_of_lt_succ hY) (Nat.le_of_lt_succ hx)) (by decide)
      have hp1 : (y : Int) * (x : Int) ≤ 18446744065119617025 := by rw [← Int.natCast_mul]; omega
      have ep : (y : Int) * (x : Int) = ((y * x : Nat) : Int) := (Int.natCast_mul y x).symm
      have e1 : ((c : Int) + (y : Int) * (x : Int)) % 4294967296 = (lo (y * x + c) : Nat) := by rw [ep]; unfold lo; omega
      have e2 : ((c : Int) + (y : Int) * (x : Int)) / 4294967296 = (hi (y * x + c) : Nat) := by rw [ep]; unfold hi; omega
      have hlh := lo_hi (y * x + c)
      have hlo := lo_lt (y * x + c)
      have hhi : hi (y * x + c) < 4294967296 := by unfold hi; omega
      have E1 := Lib.hid e1
      have E2 := Lib.hid e2
      have HLH := Lib.hid hlh
      clear ez ey hcx ep e1 e2 hlh hpn
      subst hB
      go_wp2_with fail
      rw [E1.out]
      refine (sub32_fn z (lo (y * x + c)) b _ hZ hlo hbw).mono ?_
      rintro e w' ⟨rfl, rfl⟩
      go_wp2
      go_roundw
      case rel =>
        obtain ⟨hq0, hq1, hq2⟩ := sub_parts hZ hlo hbw
        have hl' := HL.out
        refine ⟨k + 1, hi (y * x + c), subhi z (lo (y * x + c)) b, zs.set (off + k) (sublo z (lo (y * x + c)) b), hlt, by go_num, by rw [E2.out], hhi, rfl, hq2, hrow.set_ _ _, by simp only [List.length_set]; exact HL, ok_set hok hq1 _, fun j hj => ?_, ?_, ?_, HS.out.set_ _ _⟩
        · rw [get_set_other (by omega)]; exact HJ.out j (by omega)
        · refine take_step (by omega) (by omega) hlt HE.out ?_
          rw [← HJ.out _ (Nat.le_refl _), HZ.out, HY.out]
          have := HLH.out
          omega
        · exact hbel.setCell (by simp) _
      case measure => simp [intOf]; omega
    · have hk' : k = ys.length := by omega
      subst hk'
      have hcell := hrow.cell (i := off + ys.length) (by have := HL.out; omega)
      have hfr := hrow.frozen (off + ys.length)
      have hZ := getD_lt hok (off + ys.length)
      have hkm : ys.length < m := by have := HM.out; omega
      have hkm' : (ys.length : Int) < (m : Int) := by omega
      generalize ez : zs[off + ys.length]?.getD 0 = z at *
      have HZ := Lib.hid ez
      clear hlt ez
      go_wp2_with fail
      refine (sub32_fn z c b _ hZ hc hbw).mono ?_
      rintro e w' ⟨rfl, rfl⟩
      go_wp2
      go_ret
      obtain ⟨hq0, hq1, hq2⟩ := sub_parts hZ hc hbw
      have hl' := HL.out
      have hE := HE.out
      rw [List.take_of_length_le (Nat.le_refl ys.length)] at hE
      have hE' := take_last (by omega) (by omega) hE (t := sublo z c b) (b' := subhi z c b) (by rw [← HJ.out _ (Nat.le_refl _), HZ.out]; omega)
      rw [Nat.add_assoc] at hE'
      have hd : (zs.set (off + ys.length) (sublo z c b)).drop (off + (ys.length + 1)) = z0.drop (off + (ys.length + 1)) := drop_of_get fun j hj => by rw [get_set_other (by omega)]; exact HJ.out j (by omega)
      exact ⟨subhi z c b, _, rfl, hq2, hrow.set_ _ _, ok_set hok hq1 _, by simp only [List.length_set]; exact hl', hd, whole_of_take (by omega) (by simp only [List.length_set]; exact hl') hd hE', hbel.setCell (by simp) _, HS.out.set_ _ _⟩
set_option maxHeartbeats 2000000 in
theorem giveback_any (B : Option Addr) (g off m cap d : Nat) (ys z0 : List Nat) (w : World) (hrow : Row w g z0) (hok : ok32 z0) (h : Dg w B d ys) (hb : ∀ b o, B = some ⟨b, o, none⟩ → b < g) (hm : m = ys.length + 1)
    (hl : z0.length ≤ 4194304) (hoff : off + ys.length < z0.length) :
    Calls Try.prog 51 #[.slice (some ⟨g, off, none⟩) m cap, .slice B ys.length d] w fun e w' => ∃ (c : Nat) (zs : List Nat), e = .returned (.tuple #[]) ∧ Row w' g zs ∧ ok32 zs ∧ zs.length = z0.length ∧
      zs.drop (off + (ys.length + 1)) = z0.drop (off + (ys.length + 1)) ∧ val zs + 4294967296 ^ (off + (ys.length + 1)) * c = val z0 + 4294967296 ^ off * val ys ∧ Below g w w' ∧ Rest g w w' := by
  have H := Lib.hid h
  have HB := Lib.hid hb
  have HR := Lib.hid hrow
  have HO := Lib.hid hok
  have HM := Lib.hid hm
  clear h hb hrow hok hm
  go_enter Try.func51, Try.ntmps51
  go_wp2
  go_loopw [4, 9] (fun bw i wr => ∃ (k c : Nat) (zs : List Nat), k ≤ ys.length ∧ i = .int .i64 k ∧ bw = .int .u32 c ∧ c ≤ 1 ∧ Row wr g zs ∧ Hid (zs.length = z0.length) ∧ ok32 zs ∧ Hid (∀ j, off + k ≤ j → zs[j]? = z0[j]?) ∧
    Hid (val (zs.take (off + k)) + 4294967296 ^ (off + k) * c = val (z0.take (off + k)) + 4294967296 ^ off * (val (ys.take k) * 1)) ∧ Below g w wr ∧ Hid (Rest g w wr)) (fun _ i _ => ys.length - (intOf i).toNat)
  case atStart => exact ⟨0, 0, z0, Nat.zero_le _, rfl, rfl, by omega, HR.out, by simp [Hid], HO.out, by simp [Hid], by simp [Hid, val], Below.refl _ _, Rest.refl _ _⟩
  case round =>
    obtain ⟨k, c, zs, hk, rfl, rfl, hc, hrow, HL, hok, HJ, HE, hbel, HS⟩ := hrel
    by_cases hlt : k < ys.length
    · obtain ⟨bb, o, hB, hbk, hcx⟩ := H.out.2.2 (by omega)
      have hbg := HB.out _ _ hB
      have hy := (hbel.cell (p := ⟨bb, o + k, none⟩) hbg).trans (hcx k (by omega))
      have hY := getD_lt H.out.2.1 k
      have hcell := hrow.cell (i := off + k) (by have := HL.out; omega)
      have hfr := hrow.frozen (off + k)
      have hZ := getD_lt hok (off + k)
      have hkm : k < m := by have := HM.out; omega
      have hkm' : (k : Int) < (m : Int) := by omega
      generalize ez : zs[off + k]?.getD 0 = z at *
      generalize ey : ys[k]?.getD 0 = y at *
      have HZ := Lib.hid ez
      have HY := Lib.hid ey
      clear ez ey hcx
      subst hB
      go_wp2_with fail
      refine (add32_fn z y c _ hZ hY hc).mono ?_
      rintro e w' ⟨rfl, rfl⟩
      go_wp2
      go_roundw
      case rel =>
        have hp := lo_hi (z + y + c)
        have hq := lo_lt (z + y + c)
        have hl' := HL.out
        refine ⟨k + 1, hi (z + y + c), zs.set (off + k) (lo (z + y + c)), hlt, by go_num, rfl, by unfold hi; omega, hrow.set_ _ _, by simp only [List.length_set]; exact HL, ok_set hok hq _, fun j hj => ?_, ?_, ?_, HS.out.set_ _ _⟩
        · rw [get_set_other (by omega)]; exact HJ.out j (by omega)
        · refine row_step (by omega) (by omega) hlt hl' HE.out ?_ rfl
          rw [← HJ.out _ (Nat.le_refl _), HZ.out, HY.out]
          omega
        · exact hbel.setCell (by simp) _
      case measure => simp [intOf]; omega
    · have hk' : k = ys.length := by omega
      subst hk'
      have hcell := hrow.cell (i := off + ys.length) (by have := HL.out; omega)
      have hfr := hrow.frozen (off + ys.length)
      have hZ := getD_lt hok (off + ys.length)
      have hkm : ys.length < m := by have := HM.out; omega
      have hkm' : (ys.length : Int) < (m : Int) := by omega
      generalize ez : zs[off + ys.length]?.getD 0 = z at *
      have HZ := Lib.hid ez
      clear hlt ez
      go_wp2
      go_end0
      have e1 : ((z : Int) + (c : Int)) % 4294967296 = (lo (z + c) : Nat) := by unfold lo; omega
      have hp := lo_hi (z + c)
      have hq := lo_lt (z + c)
      have hl' := HL.out
      have hE := HE.out
      rw [List.take_of_length_le (Nat.le_refl ys.length), Nat.mul_one] at hE
      have hE' := add_last (by omega) (by omega) hE (t := lo (z + c)) (d := hi (z + c)) (by rw [← HJ.out _ (Nat.le_refl _), HZ.out]; omega)
      rw [Nat.add_assoc] at hE'
      have hd : (zs.set (off + ys.length) (lo (z + c))).drop (off + (ys.length + 1)) = z0.drop (off + (ys.length + 1)) := drop_of_get fun j hj => by rw [get_set_other (by omega)]; exact HJ.out j (by omega)
      refine ⟨hi (z + c), zs.set (off + ys.length) (lo (z + c)), rfl, hrow.set_int e1, ok_set hok hq _, by simp only [List.length_set]; exact hl', hd, ?_, hbel.setCell (by simp) _, HS.out.set_ _ _⟩
      rw [val_split (zs.set (off + ys.length) (lo (z + c))) (k := off + (ys.length + 1)) (by simp only [List.length_set]; omega), val_split z0 (k := off + (ys.length + 1)) (by omega), hd]
      omega
end Go.Proofs.Ytceningojnfgpaa
