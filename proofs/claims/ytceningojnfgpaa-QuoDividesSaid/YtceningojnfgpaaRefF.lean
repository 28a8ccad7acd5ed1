/-
  The reference's own text (astrolaberef01): Shl, Shr.
-/
import Derived.Test.YtceningojnfgpaaRefE
import Derived.Test.YtceningojnfgpaaShr
namespace Go.Proofs.Ytceningojnfgpaa
open Go.RowKit
theorem rshl_or (x c p : Nat) (hx : x < 4294967296) (hc : c < 2 ^ p) (hp : p < 32) :
    bits BinOp.or IntKind.u64 (IntKind.u64.wrap ((x : Int) * 2 ^ p)) (c : Int) = ((x * 2 ^ p + c : Nat) : Int) ∧ x * 2 ^ p + c < 18446744073709551616 := by
  have hpl : 2 ^ p < 4294967296 := Nat.pow_lt_pow_right (by omega) (by omega : p < 32)
  have hm : x * 2 ^ p ≤ 4294967295 * 4294967295 := Nat.mul_le_mul (by omega) (by omega)
  have e : IntKind.u64.wrap ((x : Int) * 2 ^ p) = ((x * 2 ^ p : Nat) : Int) := by
    have e1 : (x : Int) * 2 ^ p = ((x * 2 ^ p : Nat) : Int) := by rw [Int.natCast_mul, Int.natCast_pow]; rfl
    have e2 : ∀ m : Int, IntKind.u64.wrap m = m % 18446744073709551616 := fun m => by simp [IntKind.wrap, IntKind.bits, IntKind.signed]
    rw [e1, e2]; omega
  refine ⟨?_, by omega⟩
  rw [e, u64_or_nat _ _ (by omega) (by omega), nat_join p _ _ (Nat.mul_mod_left _ _) hc]
theorem rshl_step {zs xs : List Nat} {k W p c t d : Nat} (hz : zs.length = W + k) (h : val zs + 4294967296 ^ (W + k) * c = 4294967296 ^ W * (val (xs.take k) * 2 ^ p))
    (hs : t + 4294967296 * d = (xs[k]?.getD 0) * 2 ^ p + c) : val (zs ++ [t]) + 4294967296 ^ (W + (k + 1)) * d = 4294967296 ^ W * (val (xs.take (k + 1)) * 2 ^ p) := by
  rw [← Nat.add_assoc, val_take_step, val_snoc, hz, Nat.pow_succ, Nat.add_mul, Nat.mul_add, ← h]
  have e1 : 4294967296 ^ W * (4294967296 ^ k * (xs[k]?.getD 0) * 2 ^ p) = 4294967296 ^ (W + k) * (xs[k]?.getD 0 * 2 ^ p) := by
    rw [Nat.pow_add, Nat.mul_assoc, Nat.mul_assoc]
  have e2 : 4294967296 ^ (W + k) * t + 4294967296 ^ (W + k) * 4294967296 * d = 4294967296 ^ (W + k) * (xs[k]?.getD 0 * 2 ^ p) + 4294967296 ^ (W + k) * c := by
    rw [Nat.mul_assoc, ← Nat.mul_add, hs, Nat.mul_add]
  rw [e1]
  omega
theorem own_zeros {w : World} {e : TypeId} (n : Nat) (hm : n ≤ maxLen) : (w.alloc (.cells (madeCells #[.int .u32 0] n) e)).ownsRow w.heap.size e 1 (.slice (some ⟨w.heap.size, 0, none⟩) n n) n (cells (List.replicate n 0)) := by
  refine ⟨by simp [cells], .inr ⟨w.heap.size, n, madeCells #[.int .u32 0] n, rfl, Nat.le_refl _, heap_alloc_new w _, Nat.le_refl _, hm, by simp [size_madeCells], ?_⟩⟩
  apply List.ext_getElem
  · simp [madeCells, cells]
  · intro i h1 h2
    simp [madeCells, cells, Nat.mod_one]
set_option maxHeartbeats 1000000 in
theorem rshl_no (A : Option Addr) (c : Nat) (xs : List Nat) (n : Int) (w : World) (hn : n < 0 ∨ 100000 < n) :
    Calls Try.prog 32 #[.slice A xs.length c, .int .i64 n] w fun e w' => e = .returned (.tuple #[.slice none 0 0, .bool false]) ∧ w = w' := by
  by_cases h : n < 0
  · have d0 : decide (n < 0) = true := by simp [h]
    go_enter Try.func32, Try.ntmps32
    go_wp2
    go_ret2
    exact ⟨rfl, rfl⟩
  · have d0 : decide (n < 0) = false := by simp; omega
    have d1 : decide (100000 < n) = true := by simp; omega
    clear h hn
    go_enter Try.func32, Try.ntmps32
    go_wp2
    go_ret2
    exact ⟨rfl, rfl⟩
set_option maxHeartbeats 4000000 in
set_option maxRecDepth 100000 in
theorem rshl_any (A : Option Addr) (c : Nat) (xs : List Nat) (n : Nat) (w : World) (h : Dg w A c xs) (hl : xs.length ≤ 1048576) (hn : n ≤ 100000) :
    Calls Try.prog 32 #[.slice A xs.length c, .int .i64 n] w fun e w' => ∃ A' c', e = .returned (.tuple #[.slice A' (digs (val xs * 2 ^ n)).length c', .bool true]) ∧ Dg w' A' c' (digs (val xs * 2 ^ n)) ∧ Below w.heap.size w w' := by
  obtain ⟨i0, hinf, hz0, hz1, hz2⟩ := info_parts elem_info
  have H := Lib.hid h
  have O1 := Lib.hid h.2.1
  have HP := Lib.hid (pow_parts n)
  clear h
  have d0 : decide ((n : Int) < 0) = false := by simp
  have d1 : decide (100000 < (n : Int)) = false := by simp; omega
  have hmk := run_make_row' (P := Try.prog) 22 37 (.int .u32 0) 4 Try.underlying22 elem_info rfl .i64 .i64 (n / 32) (by omega) (by omega)
  rw [show ((n / 32 : Nat) : Int) = (n : Int) / 32 by omega] at hmk
  go_enter Try.func32, Try.ntmps32
  go_wp2
  go_loopw [6, 7, 8] (fun v cy i wr => ∃ (k z : Nat) (zs : List Nat), k ≤ xs.length ∧ i = .int .i64 k ∧ cy = .int .u64 z ∧ Hid (z < 2 ^ (n % 32)) ∧ z < 4294967296 ∧ wr.ownsRow w.heap.size 37 1 v (n / 32 + k) (cells zs) ∧ Hid (zs.length = n / 32 + k) ∧ ok32 zs ∧
    Hid (val zs + 4294967296 ^ (n / 32 + k) * z = 4294967296 ^ (n / 32) * (val (xs.take k) * 2 ^ (n % 32))) ∧ Below w.heap.size w wr) (fun _ _ i _ => xs.length - (intOf i).toNat)
  case atStart => exact ⟨0, 0, List.replicate (n / 32) 0, Nat.zero_le _, rfl, rfl, Nat.pow_pos (by omega), by omega, own_zeros _ (by unfold maxLen; omega), by simp [Hid], ok_zeros _, by simp [Hid, val, val_zeros], (Below.refl _ _).alloc (Nat.le_refl _) _⟩
  case round =>
    obtain ⟨k, z, zs, hk, rfl, rfl, hz, hz', hown, HL, hok, HE, hbel⟩ := hrel
    by_cases hlt : k < xs.length
    · obtain ⟨b, off, hA, hb, hcx⟩ := H.out.2.2 (by omega)
      have hx := (hbel.cell (p := ⟨b, off + k, none⟩) hb).trans (hcx k (by omega))
      have hX := getD_lt O1.out k
      generalize ex : xs[k]?.getD 0 = x at *
      have HX := Lib.hid ex
      clear ex hcx
      subst hA
      obtain ⟨ho, hs64⟩ := rshl_or x z (n % 32) hX hz (by omega)
      have hcd : x * 2 ^ (n % 32) + z < 4294967296 * 2 ^ (n % 32) := by
        have : x * 2 ^ (n % 32) + 2 ^ (n % 32) ≤ 4294967296 * 2 ^ (n % 32) := by
          calc x * 2 ^ (n % 32) + 2 ^ (n % 32) = (x + 1) * 2 ^ (n % 32) := by rw [Nat.add_mul, Nat.one_mul]
            _ ≤ 4294967296 * 2 ^ (n % 32) := Nat.mul_le_mul_right _ hX
        have := hz
        unfold Hid at this
        omega
      obtain ⟨s, hs⟩ : ∃ s, s = x * 2 ^ (n % 32) + z := ⟨_, rfl⟩
      rw [← hs] at ho hs64 hcd
      have HS := Lib.hid hs
      have HO := Lib.hid ho
      have HCD := Lib.hid hcd
      clear hs ho hcd
      go_upto_region 9 with fail
      rw [HO.out]
      go_wp2_with (at_builtin; refine wpList_append_own _ rfl _ _ 22 rfl w.heap.size 37 i0 (.int .u32 0) 1 4 Try.underlying22 hinf hz0 hz1 hz2 rfl (by decide) _ _ _ rfl (hown.alloc _) ⟨wr.heap.size, 0, none⟩ 1 1 [.int .u32 ((s : Int) % 4294967296)] rfl rfl (cell_new _ _ _) (fun u hu => by simp at hu; subst hu; rfl) (by unfold maxLen; omega) (by omega) (by have := hbel.size; simp; omega) ?_)
      intro v' w1 hown1 hgrow hnil
      have e1 : (s : Int) % 4294967296 = (lo s : Nat) := by unfold lo; omega
      have hown2 := Lib.hid (own_snoc hown1 e1)
      have hb1 := Lib.hid ((hbel.alloc hbel.size _).grown hgrow (by simp; have := hbel.size; omega) (fun g hg => (hown.lt g hg).1))
      clear hown1 hgrow hnil hown e1
      go_wp2
      go_roundw
      case rel =>
        have hp := lo_hi s
        have hq := lo_lt s
        have e2 : (s : Int) / 4294967296 = (hi s : Nat) := by unfold hi; omega
        have hh : hi s < 2 ^ (n % 32) := by unfold hi; rw [Nat.div_lt_iff_lt_mul (by omega), Nat.mul_comm]; exact HCD.out
        exact ⟨k + 1, hi s, zs ++ [lo s], hlt, by go_num, by rw [e2], hh, by unfold hi; omega, hown2.out, by have := HL.out; simp [Hid]; omega, ok_snoc hok hq,
          rshl_step HL.out HE.out (by rw [HX.out, hp, HS.out]), hb1.out⟩
      case measure => simp [intOf]; omega
    · have hk' : k = xs.length := by omega
      subst hk'
      clear hlt
      go_wp2_with (at_builtin; refine wpList_append_own _ rfl _ _ 22 rfl w.heap.size 37 i0 (.int .u32 0) 1 4 Try.underlying22 hinf hz0 hz1 hz2 rfl (by decide) _ _ _ rfl (hown.alloc _) ⟨wr.heap.size, 0, none⟩ 1 1 [.int .u32 (z : Int)] rfl rfl (cell_new _ _ _) (fun u hu => by simp at hu; subst hu; rfl) (by unfold maxLen; omega) (by omega) (by have := hbel.size; simp; omega) ?_)
      intro v' w1 hown1 hgrow hnil
      have hown2 := own_snoc hown1 (t := z) rfl
      have hb1 := (hbel.alloc hbel.size (.cells #[.int .u32 (z : Int)] 37)).grown hgrow (by simp; have := hbel.size; omega) (fun g hg => (hown.lt g hg).1)
      have hok' := ok_snoc hok hz'
      obtain ⟨A2, c2, hv, hd⟩ := dg_of_own hown2 hok'
      have HV := Lib.hid (show val (zs ++ [z]) = val xs * 2 ^ n from by
        have := HE.out
        rw [List.take_of_length_le (Nat.le_refl xs.length)] at this
        rw [val_snoc, HL.out, this, ← HP.out, Nat.mul_left_comm])
      have HD := Lib.hid (rtrim_any A2 c2 (zs ++ [z]) w1 hd (by have := HL.out; simp; omega))
      rw [HV.out] at HD
      have HB1 := Lib.hid hb1
      clear hown hown1 hown2 hd hgrow hnil hok' hb1 HV
      generalize zs ++ [z] = ZS at *
      rw [hv]
      clear hv
      go_wp2_with fail
      refine HD.out.mono ?_
      rintro e w2 ⟨A3, c3, rfl, h3, hb3⟩
      have H3 := Lib.hid h3
      have HB3 := Lib.hid hb3
      clear h3 hb3
      go_wp2
      go_ret2
      exact ⟨A3, c3, rfl, H3.out, HB1.out.trans (HB3.out.mono HB1.out.size)⟩
end Go.Proofs.Ytceningojnfgpaa
