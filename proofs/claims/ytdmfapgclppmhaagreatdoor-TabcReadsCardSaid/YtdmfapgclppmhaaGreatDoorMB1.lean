import Derived.Test.YtdmfapgclppmhaaGreatDoorMB0
import Derived.Lib.LaidTab
import Derived.Lib.TrailingZeros
import Derived.Lib.AppendIntMem
import Derived.Deep.DeepCutAuto
import Derived.Orders
import Derived.Laws.Rows
import Derived.WalkMore
import Derived.Deep.LoopGhost
import Derived.Laws.CopyOwn
import Derived.Laws.OwnMore
set_option maxHeartbeats 16000000
set_option maxRecDepth 100000
section
namespace Go.Proofs.YtdmfapgclppmhaaGreatDoor
open Go.RowKit
theorem rshl_or (x c p : Nat) (hx : x < 4294967296) (hc : c < 2 ^ p) (hp : p < 32) :
    bits BinOp.or IntKind.u64 (IntKind.u64.wrap ((x : Int) * 2 ^ p)) (c : Int) = ((x * 2 ^ p + c : Nat) : Int) ∧ x * 2 ^ p + c < 18446744073709551616 := by
  have hpl : 2 ^ p < 4294967296 := Nat.pow_lt_pow_right (by omega) (by omega : p < 32)
  have hm : x * 2 ^ p ≤ 4294967295 * 4294967295 := Nat.mul_le_mul (by omega) (by omega)
  have e : IntKind.u64.wrap ((x : Int) * 2 ^ p) = ((x * 2 ^ p : Nat) : Int) := by
    have e1 : (x : Int) * 2 ^ p = ((x * 2 ^ p : Nat) : Int) := by rw [Int.natCast_mul, Int.natCast_pow]; rfl
    have e2 : ∀ m : Int, IntKind.u64.wrap m = m % 18446744073709551616 := fun m => by simp [IntKind.wrap, IntKind.bits, IntKind.signed]
    rw [e1, e2]; omega
  refine ⟨?_, by omega⟩
  rw [e, u64_or_nat _ _ (by omega) (by omega), nat_join p _ _ (Nat.mul_mod_left _ _) hc]
theorem rshl_step {zs xs : List Nat} {k W p c t d : Nat} (hz : zs.length = W + k) (h : val zs + 4294967296 ^ (W + k) * c = 4294967296 ^ W * (val (xs.take k) * 2 ^ p))
    (hs : t + 4294967296 * d = (xs[k]?.getD 0) * 2 ^ p + c) : val (zs ++ [t]) + 4294967296 ^ (W + (k + 1)) * d = 4294967296 ^ W * (val (xs.take (k + 1)) * 2 ^ p) := by
  rw [← Nat.add_assoc, val_take_step, val_snoc, hz, Nat.pow_succ, Nat.add_mul, Nat.mul_add, ← h]
  have e1 : 4294967296 ^ W * (4294967296 ^ k * (xs[k]?.getD 0) * 2 ^ p) = 4294967296 ^ (W + k) * (xs[k]?.getD 0 * 2 ^ p) := by
    rw [Nat.pow_add, Nat.mul_assoc, Nat.mul_assoc]
  have e2 : 4294967296 ^ (W + k) * t + 4294967296 ^ (W + k) * 4294967296 * d = 4294967296 ^ (W + k) * (xs[k]?.getD 0 * 2 ^ p) + 4294967296 ^ (W + k) * c := by
    rw [Nat.mul_assoc, ← Nat.mul_add, hs, Nat.mul_add]
  rw [e1]
  omega
theorem own_zeros {w : World} {e : TypeId} (n : Nat) (hm : n ≤ maxLen) : (w.alloc (.cells (madeCells #[.int .u32 0] n) e)).ownsRow w.heap.size e 1 (.slice (some ⟨w.heap.size, 0, none⟩) n n) n (cells (List.replicate n 0)) := by
  refine ⟨by simp [cells], .inr ⟨w.heap.size, n, madeCells #[.int .u32 0] n, rfl, Nat.le_refl _, heap_alloc_new w _, Nat.le_refl _, hm, by simp [size_madeCells], ?_⟩⟩
  apply List.ext_getElem
  · simp [madeCells, cells]
  · intro i h1 h2
    simp [madeCells, cells, Nat.mod_one]
theorem rshl_any (A : Option Addr) (c : Nat) (xs : List Nat) (n : Nat) (w : World) (h : Dg w A c xs) (hl : xs.length ≤ 1048576) (hn : n ≤ 100000) :
    Calls Tryz.prog 108 #[.slice A xs.length c, .int .i64 n] w fun e w' => ∃ A' c', e = .returned (.tuple #[.slice A' (digs (val xs * 2 ^ n)).length c', .bool true]) ∧ Dg w' A' c' (digs (val xs * 2 ^ n)) ∧ Below w.heap.size w w' := by
  obtain ⟨i0, hinf, hz0, hz1, hz2⟩ := info_parts elem_info
  have H := qH h
  have O1 := qH h.2.1
  have HP := qH (pow_parts n)
  clear h
  have d0 : decide ((n : Int) < 0) = false := by simp
  have d1 : decide (100000 < (n : Int)) = false := by simp; omega
  have hmk := run_make_row' (P := Tryz.prog) 22 67 (.int .u32 0) 4 Tryz.underlying22 elem_info rfl .i64 .i64 (n / 32) (by omega) (by omega)
  rw [show ((n / 32 : Nat) : Int) = (n : Int) / 32 by omega] at hmk
  go_enter Tryz.func108, Tryz.ntmps108
  go_wp2
  go_loopw [6, 7, 8] (fun v cy i wr => ∃ (k z : Nat) (zs : List Nat), k ≤ xs.length ∧ i = .int .i64 k ∧ cy = .int .u64 z ∧ Hid (z < 2 ^ (n % 32)) ∧ z < 4294967296 ∧ wr.ownsRow w.heap.size 67 1 v (n / 32 + k) (cells zs) ∧ Hid (zs.length = n / 32 + k) ∧ ok32 zs ∧
    Hid (val zs + 4294967296 ^ (n / 32 + k) * z = 4294967296 ^ (n / 32) * (val (xs.take k) * 2 ^ (n % 32))) ∧ Below w.heap.size w wr) (fun _ _ i _ => xs.length - (intOf i).toNat)
  case atStart => exact ⟨0, 0, List.replicate (n / 32) 0, Nat.zero_le _, rfl, rfl, Nat.pow_pos (by omega), by omega, own_zeros _ (by unfold maxLen; omega), by simp [Hid], ok_zeros _, by simp [Hid, val, val_zeros], (Below.refl _ _).alloc (Nat.le_refl _) _⟩
  case round =>
    obtain ⟨k, z, zs, hk, rfl, rfl, hz, hz', hown, HL, hok, HE, hbel⟩ := hrel
    by_cases hlt : k < xs.length
    · obtain ⟨b, off, hA, hb, hcx⟩ := H.out.2.2 (by omega)
      have hx := (hbel.cell (p := ⟨b, off + k, none⟩) hb).trans (hcx k (by omega))
      have hX := getD_lt O1.out k
      generalize ex : xs[k]?.getD 0 = x at *
      have HX := qH ex
      clear ex hcx
      subst hA
      obtain ⟨ho, hs64⟩ := rshl_or x z (n % 32) hX hz (by omega)
      have hcd : x * 2 ^ (n % 32) + z < 4294967296 * 2 ^ (n % 32) := by
        have : x * 2 ^ (n % 32) + 2 ^ (n % 32) ≤ 4294967296 * 2 ^ (n % 32) := by
          calc x * 2 ^ (n % 32) + 2 ^ (n % 32) = (x + 1) * 2 ^ (n % 32) := by rw [Nat.add_mul, Nat.one_mul]
            _ ≤ 4294967296 * 2 ^ (n % 32) := Nat.mul_le_mul_right _ hX
        have := hz
        unfold Hid at this
        omega
      obtain ⟨s, hs⟩ : ∃ s, s = x * 2 ^ (n % 32) + z := ⟨_, rfl⟩
      rw [← hs] at ho hs64 hcd
      have HS := qH hs
      have HO := qH ho
      have HCD := qH hcd
      clear hs ho hcd
      go_upto_region 9 with fail
      rw [HO.out]
      go_wp2_with (at_builtin; refine wpList_append_own _ rfl _ _ 22 rfl w.heap.size 67 i0 (.int .u32 0) 1 4 Tryz.underlying22 hinf hz0 hz1 hz2 rfl (by decide) _ _ _ rfl (hown.alloc _) ⟨wr.heap.size, 0, none⟩ 1 1 [.int .u32 ((s : Int) % 4294967296)] rfl rfl (cell_new _ _ _) (fun u hu => by simp at hu; subst hu; rfl) (by unfold maxLen; omega) (by omega) (by have := hbel.size; simp; omega) ?_)
      intro v' w1 hown1 hgrow hnil
      have e1 : (s : Int) % 4294967296 = (lo s : Nat) := by unfold lo; omega
      have hown2 := qH (own_snoc hown1 e1)
      have hb1 := qH ((hbel.alloc hbel.size _).grown hgrow (by simp; have := hbel.size; omega) (fun g hg => (hown.lt g hg).1))
      clear hown1 hgrow hnil hown e1
      go_wp2
      go_roundw
      case rel =>
        have hp := lo_hi s
        have hq := lo_lt s
        have e2 : (s : Int) / 4294967296 = (hi s : Nat) := by unfold hi; omega
        have hh : hi s < 2 ^ (n % 32) := by unfold hi; rw [Nat.div_lt_iff_lt_mul (by omega), Nat.mul_comm]; exact HCD.out
        exact ⟨k + 1, hi s, zs ++ [lo s], hlt, by go_num, by rw [e2], hh, by unfold hi; omega, hown2.out, by have := HL.out; simp [Hid]; omega, ok_snoc hok hq,
          rshl_step HL.out HE.out (by rw [HX.out, hp, HS.out]), hb1.out⟩
      case measure => simp [intOf]; omega
    · have hk' : k = xs.length := by omega
      subst hk'
      clear hlt
      go_wp2_with (at_builtin; refine wpList_append_own _ rfl _ _ 22 rfl w.heap.size 67 i0 (.int .u32 0) 1 4 Tryz.underlying22 hinf hz0 hz1 hz2 rfl (by decide) _ _ _ rfl (hown.alloc _) ⟨wr.heap.size, 0, none⟩ 1 1 [.int .u32 (z : Int)] rfl rfl (cell_new _ _ _) (fun u hu => by simp at hu; subst hu; rfl) (by unfold maxLen; omega) (by omega) (by have := hbel.size; simp; omega) ?_)
      intro v' w1 hown1 hgrow hnil
      have hown2 := own_snoc hown1 (t := z) rfl
      have hb1 := (hbel.alloc hbel.size (.cells #[.int .u32 (z : Int)] 67)).grown hgrow (by simp; have := hbel.size; omega) (fun g hg => (hown.lt g hg).1)
      have hok' := ok_snoc hok hz'
      obtain ⟨A2, c2, hv, hd⟩ := dg_of_own hown2 hok'
      have HV := qH (show val (zs ++ [z]) = val xs * 2 ^ n from by
        have := HE.out
        rw [List.take_of_length_le (Nat.le_refl xs.length)] at this
        rw [val_snoc, HL.out, this, ← HP.out, Nat.mul_left_comm])
      have HD := qH (rtrim_any A2 c2 (zs ++ [z]) w1 hd (by have := HL.out; simp; omega))
      rw [HV.out] at HD
      have HB1 := qH hb1
      clear hown hown1 hown2 hd hgrow hnil hok' hb1 HV
      generalize zs ++ [z] = ZS at *
      rw [hv]
      clear hv
      go_wp2_with fail
      refine HD.out.mono ?_
      rintro e w2 ⟨A3, c3, rfl, h3, hb3⟩
      have H3 := qH h3
      have HB3 := qH hb3
      clear h3 hb3
      go_wp2
      go_ret2
      exact ⟨A3, c3, rfl, H3.out, HB1.out.trans (HB3.out.mono HB1.out.size)⟩
theorem rshr_step {zs ys : List Nat} {k p s : Nat} (hz : zs.length = k) (hk : k < ys.length) (hok : ok32 ys) (hp : p < 32) (h : val zs + 4294967296 ^ k * (val (ys.drop k) / 2 ^ p) = val ys / 2 ^ p)
    (hs : s = ys[k]?.getD 0 + 4294967296 * (ys[k + 1]?.getD 0)) : val (zs ++ [s / 2 ^ p % 4294967296]) + 4294967296 ^ (k + 1) * (val (ys.drop (k + 1)) / 2 ^ p) = val ys / 2 ^ p := by
  have hss := two_pow_split p (by omega)
  have hP : 0 < 2 ^ p := Nat.pow_pos (by omega)
  have e1 : s / 2 ^ p % 4294967296 = val (ys.drop k) / 2 ^ p % 4294967296 := by
    rw [hs, val_drop_cons hk, shr_math _ _ _ _ hss hP, shr_math _ _ _ _ hss hP, Nat.add_mul_mod_self_left, Nat.add_mul_mod_self_left]
    congr 2
    rw [← val_mod hok (k + 1), Nat.mod_mul_mod]
  have e2 : val (ys.drop k) / 2 ^ p / 4294967296 = val (ys.drop (k + 1)) / 2 ^ p := by
    rw [Nat.div_div_eq_div_mul, Nat.mul_comm, ← Nat.div_div_eq_div_mul, val_drop_cons hk]
    congr 1
    have := getD_lt hok k
    omega
  rw [val_snoc, hz, e1, ← e2, Nat.pow_succ, Nat.mul_assoc, Nat.add_assoc, ← Nat.mul_add, Nat.mod_add_div]
  exact h
theorem rshr_any (A : Option Addr) (c : Nat) (xs : List Nat) (n : Nat) (w : World) (h : Dg w A c xs) (hl : xs.length ≤ 1048576) (hn : n ≤ 9223372036854775807) :
    Calls Tryz.prog 86 #[.slice A xs.length c, .int .i64 n] w fun e w' => ∃ A' c', e = .returned (.slice A' (digs (val xs / 2 ^ n)).length c') ∧ Dg w' A' c' (digs (val xs / 2 ^ n)) ∧ Below w.heap.size w w' := by
  obtain ⟨i0, hinf, hz0, hz1, hz2⟩ := info_parts elem_info
  have H := qH h
  have O1 := qH h.2.1
  clear h
  have d0 : decide ((n : Int) < 0) = false := by simp
  have HN := qH hn
  by_cases hw : xs.length ≤ n / 32
  · have d1 : decide ((xs.length : Int) ≤ (n : Int) / 32) = true := by simp; omega
    have HF := qH (show val xs / 2 ^ n = 0 from by
      rw [← shr_pow, ← val_drop xs O1.out, List.drop_eq_nil_of_le hw]; simp [val])
    clear hw
    go_enter Tryz.func86, Tryz.ntmps86
    go_wp2
    go_ret
    rw [HF.out, digs_zero]
    exact ⟨none, 0, rfl, Dg.nil_ _ _, Below.refl _ _⟩
  · have d1 : decide ((xs.length : Int) ≤ (n : Int) / 32) = false := by simp; omega
    have HVY := qH (show val (xs.drop (n / 32)) / 2 ^ (n % 32) = val xs / 2 ^ n from by rw [val_drop xs O1.out, shr_pow])
    have hyl : (xs.drop (n / 32)).length = xs.length - n / 32 := List.length_drop
    have HG := qH (fun j => show (xs.drop (n / 32))[j]?.getD 0 = xs[n / 32 + j]?.getD 0 from by rw [List.getElem?_drop])
    have OY := qH (show ok32 (xs.drop (n / 32)) from fun x hx => O1.out x (List.mem_of_mem_drop hx))
    have HYL := qH hyl
    clear hyl
    generalize xs.drop (n / 32) = Y at *
    go_enter Tryz.func86, Tryz.ntmps86
    go_wp2
    go_loopw [5, 6] (fun v i wr => ∃ (k : Nat) (zs : List Nat), n / 32 + k ≤ xs.length ∧ i = .int .i64 ((n : Int) / 32 + k) ∧ wr.ownsRow w.heap.size 67 1 v k (cells zs) ∧ Hid (zs.length = k) ∧ ok32 zs ∧
      Hid (val zs + 4294967296 ^ k * (val (Y.drop k) / 2 ^ (n % 32)) = val Y / 2 ^ (n % 32)) ∧ Below w.heap.size w wr) (fun _ i _ => xs.length - (intOf i).toNat)
    case atStart => exact ⟨0, [], by omega, by go_num, World.ownsRow_nil _ _ _ _, by simp [Hid], by intro x hx; simp at hx, by simp [Hid, val], Below.refl _ _⟩
    case round =>
      obtain ⟨k, zs, hk, rfl, hown, HL, hok, HE, hbel⟩ := hrel
      by_cases hlt : n / 32 + k < xs.length
      · have dlt : decide ((n : Int) / 32 + (k : Int) < (xs.length : Int)) = true := by simp; omega
        have rx := qH (rat_any A c xs (n / 32 + k) wr (H.out.keep hbel.size (fun b o h => hbel.cell (p := ⟨b, o, none⟩) h)) (by omega))
        have ry := qH (rat_any A c xs (n / 32 + k + 1) wr (H.out.keep hbel.size (fun b o h => hbel.cell (p := ⟨b, o, none⟩) h)) (by omega))
        have hX := getD_lt O1.out (n / 32 + k)
        have hY := getD_lt O1.out (n / 32 + k + 1)
        have g0 := HG.out k
        have g1 := HG.out (k + 1)
        rw [← Nat.add_assoc] at g1
        have HG0 := qH g0
        have HG1 := qH g1
        clear g0 g1
        generalize xs[n / 32 + k]?.getD 0 = x at *
        generalize xs[n / 32 + k + 1]?.getD 0 = y at *
        have ho := or_join' x y hX hY
        obtain ⟨s, hs⟩ : ∃ s, s = x + 4294967296 * y := ⟨_, rfl⟩
        have hs64 : s < 18446744073709551616 := by omega
        rw [← hs] at ho
        have HS := qH hs
        have HO := qH ho
        clear hs ho
        rw [show ((n / 32 + k : Nat) : Int) = (n : Int) / 32 + (k : Int) by omega] at rx
        rw [show ((n / 32 + k + 1 : Nat) : Int) = (n : Int) / 32 + (k : Int) + 1 by omega] at ry
        have hp0 : (0 : Int) ≤ (n : Int) / 32 + (k : Int) := by omega
        go_wp2_with fail
        refine rx.out.mono ?_
        rintro e w' ⟨rfl, rfl⟩
        go_wp2_with fail
        refine ry.out.mono ?_
        rintro e w' ⟨rfl, rfl⟩
        go_upto_region 10 with fail
        rw [HO.out]
        have hd0 : 0 ≤ (s : Int) / 2 ^ (n % 32) := Int.ediv_nonneg (by omega) (Int.le_of_lt (Int.pow_pos (by omega)))
        go_wp2_with (at_builtin; refine wpList_append_own _ rfl _ _ 22 rfl w.heap.size 67 i0 (.int .u32 0) 1 4 Tryz.underlying22 hinf hz0 hz1 hz2 rfl (by decide) _ _ _ rfl (hown.alloc _) ⟨wr.heap.size, 0, none⟩ 1 1 [.int .u32 (((s : Int) / 2 ^ (n % 32)) % 4294967296)] rfl rfl (cell_new _ _ _) (fun u hu => by simp at hu; subst hu; rfl) (by unfold maxLen; omega) (by omega) (by have := hbel.size; simp; omega) ?_)
        intro v' w1 hown1 hgrow hnil
        have e1 : ((s : Int) / 2 ^ (n % 32)) % 4294967296 = (s / 2 ^ (n % 32) % 4294967296 : Nat) := by rw [Int.natCast_emod, Int.natCast_ediv, Int.natCast_pow]; rfl
        have hown2 := qH (own_snoc hown1 e1)
        have hb1 := qH ((hbel.alloc hbel.size _).grown hgrow (by simp; have := hbel.size; omega) (fun g hg => (hown.lt g hg).1))
        clear hown1 hgrow hnil hown e1
        go_wp2
        go_roundw
        case rel =>
          have hyl := HYL.out
          exact ⟨k + 1, zs ++ [s / 2 ^ (n % 32) % 4294967296], by omega, by go_num, hown2.out, by have := HL.out; simp [Hid]; omega, ok_snoc hok (Nat.mod_lt _ (by omega)),
            rshr_step HL.out (by omega) OY.out (by omega) HE.out (by rw [HG0.out, HG1.out]; exact HS.out), hb1.out⟩
        case measure => simp [intOf]; omega
      · have dlt : decide ((n : Int) / 32 + (k : Int) < (xs.length : Int)) = false := by simp; omega
        obtain ⟨A2, c2, hv, hd⟩ := dg_of_own hown hok
        have HV := qH (show val zs = val xs / 2 ^ n from by
          have := HE.out
          rw [List.drop_eq_nil_of_le (by have := HYL.out; omega), HVY.out] at this
          simpa [val] using this)
        have HD := qH (rtrim_any A2 c2 zs wr hd (by have := HL.out; omega))
        rw [HV.out] at HD
        subst hv
        clear hown hd hlt
        go_wp2_with fail
        refine HD.out.mono ?_
        rintro e w2 ⟨A3, c3, rfl, h3, hb3⟩
        have H3 := qH h3
        have HB3 := qH hb3
        clear h3 hb3
        go_wp2
        go_ret
        exact ⟨A3, c3, rfl, H3.out, hbel.trans (HB3.out.mono hbel.size)⟩
end Go.Proofs.YtdmfapgclppmhaaGreatDoor
end
section
namespace Go.Proofs.YtdmfapgclppmhaaGreatDoor
open Go.RowKit
section
variable {w0 w w' : World} {L : List (Option Addr × Nat × List Nat)} {A B : Option Addr} {c d n m : Nat} {xs ys : List Nat} {x y : Nat}
theorem rfrom_l {i : Int} {k : Nat} (hL : Live w0 w L) (hi : i = (k : Int)) (hk : k < 18446744073709551616) :
    Calls Tryz.prog 72 #[.int .u64 i] w fun e w' => ∃ A' c', e = .returned (.slice A' (digs k).length c') ∧ Live w0 w' ((A', c', digs k) :: L) := by
  subst hi
  exact (rfrom_any k w hk).mono fun e w' ⟨A', c', he, hd, hb⟩ => ⟨A', c', he, (hL.step hb).add hd⟩
end
end Go.Proofs.YtdmfapgclppmhaaGreatDoor
end
section
namespace Go.Proofs.YtdmfapgclppmhaaGreatDoor
open Go.RowKit
theorem Same_any (A B : Option Addr) (c d : Nat) (s : Bool) (xs : List Nat) (w : World) (h : Dg w A c xs) (h' : Dg w B d xs) (hl : xs.length ≤ 16777216) :
    Calls Tryz.prog 67 #[.agg #[.bool s, .slice A xs.length c], .agg #[.bool s, .slice B xs.length d]] w fun e w' => e = .returned (.bool true) ∧ Below w.heap.size w w' := by
  have hne : ((xs.length : Int) != (xs.length : Int)) = false := by simp
  have hns : (s != s) = false := by simp
  have H1 := qH (h.below (below2 w (.cells #[.bool s, .slice A xs.length c] 24) (.cells #[.bool s, .slice B xs.length d] 24)))
  have H2 := qH (h'.below (below2 w (.cells #[.bool s, .slice A xs.length c] 24) (.cells #[.bool s, .slice B xs.length d] 24)))
  clear h h'
  go_enter Tryz.func67, Tryz.ntmps67
  go_wp2
  go_loopw [5] (fun i wr => (∃ k : Nat, k ≤ xs.length ∧ i = .int .i64 k) ∧ ∃ m, wr = ((w.alloc (.cells #[.bool s, .slice A xs.length c] 24)).alloc (.cells #[.bool s, .slice B xs.length d] 24)).drewN m) (fun i _ => xs.length - (intOf i).toNat)
  case atStart => exact ⟨⟨0, Nat.zero_le _, rfl⟩, 0, rfl⟩
  case round =>
    obtain ⟨⟨k, hk, rfl⟩, m, rfl⟩ := hrel
    by_cases hlt : k < xs.length
    · obtain ⟨b, off, hA, hb, hcx⟩ := H1.out.2.2 (by omega)
      obtain ⟨b', off', hB, hb', hcy⟩ := H2.out.2.2 (by omega)
      have hx := hcx k hlt
      have hy := hcy k hlt
      generalize xs[k]?.getD 0 = x at *
      have t1 : ((x : Int) != (x : Int)) = false := by simp
      clear hcx hcy H1 H2
      subst hA hB
      go_wp2_with fail
      go_quiet (fail)
      go_wp2_with fail
      go_roundw
      case rel => exact ⟨⟨k + 1, hlt, by go_num⟩, _, rfl⟩
      case measure => simp [intOf]; omega
    · go_wp2
      go_ret
      exact ⟨rfl, below_drewN (below2 _ _ _) m⟩
def rightB (s : Bool) (xs : List Nat) : Bool := if xs.length = 0 then !s else decide (xs[xs.length - 1]?.getD 0 ≠ 0)
theorem right_any (A : Option Addr) (c : Nat) (s : Bool) (xs : List Nat) (w : World) (h : Dg w A c xs) (q : Bool) (hq : rightB s xs = q) (hl : xs.length ≤ 9223372036854775807) :
    Calls Tryz.prog 90 #[.agg #[.bool s, .slice A xs.length c]] w fun e w' => e = .returned (.bool q) ∧ Below w.heap.size w w' := by
  by_cases h0 : xs.length = 0
  · have t0 : ((xs.length : Int) == 0) = true := by rw [h0]; rfl
    have hq2 : (!s) = q := by rw [← hq]; unfold rightB; rw [if_pos h0]
    clear h h0 hq
    go_enter Tryz.func90, Tryz.ntmps90
    go_wp2
    go_ret
    exact ⟨rfl, below1 _ _⟩
  · have t0 : ((xs.length : Int) == 0) = false := beq_eq_false_iff_ne.2 (by omega)
    obtain ⟨b, off, hA, hb, hc⟩ := h.2.2 (by omega)
    have hx := hc (xs.length - 1) (by omega)
    have hp : 0 < xs.length := by omega
    have hq' : decide (xs[xs.length - 1]?.getD 0 ≠ 0) = q := by rw [← hq]; unfold rightB; rw [if_neg h0]
    generalize xs[xs.length - 1]?.getD 0 = x at *
    have hxq : ((x : Int) != 0) = q := by
      rw [← hq', Bool.eq_iff_iff]; simp
    have HX := qH hxq
    clear h h0 hq hc hq' hxq
    subst hA
    go_enter Tryz.func90, Tryz.ntmps90
    go_wp2
    go_ret
    refine ⟨?_, below1 _ _⟩
    rw [← HX.out]
    rfl
end Go.Proofs.YtdmfapgclppmhaaGreatDoor
end
section
namespace Go.Proofs.YtdmfapgclppmhaaGreatDoor
def tz (n : Nat) : Nat := if h : n = 0 then 0 else if n % 2 = 1 then 0 else 1 + tz (n / 2)
termination_by n
decreasing_by omega
theorem tz_odd {n : Nat} (h : n % 2 = 1) : tz n = 0 := by
  rw [tz]
  by_cases h0 : n = 0
  · rw [dif_pos h0]
  · rw [dif_neg h0, if_pos h]
theorem tz_even {n : Nat} (h0 : n ≠ 0) (h : n % 2 = 0) : tz n = 1 + tz (n / 2) := by rw [tz]; simp [h0, h]
theorem tz_spec (n : Nat) (h : n ≠ 0) : (n / 2 ^ tz n) % 2 = 1 ∧ n = n / 2 ^ tz n * 2 ^ tz n := by
  induction n using Nat.strongRecOn with
  | ind n ih =>
    by_cases h1 : n % 2 = 1
    · rw [tz_odd h1]; simp [h1]
    · have h2 : n % 2 = 0 := by omega
      have ⟨a, b⟩ := ih (n / 2) (by omega) (by omega)
      rw [tz_even h h2, Nat.pow_add, Nat.pow_one, ← Nat.div_div_eq_div_mul]
      refine ⟨a, ?_⟩
      have : n = 2 * (n / 2) := by omega
      rw [Nat.mul_comm 2, ← Nat.mul_assoc, ← b]; omega
theorem tz_uniq {n k q : Nat} (hq : q % 2 = 1) (h : n = q * 2 ^ k) : tz n = k := by
  induction k generalizing n with
  | zero => simp at h; subst h; exact tz_odd hq
  | succ k ih =>
    have h2 : n = 2 * (q * 2 ^ k) := by rw [h, Nat.pow_succ]; grind
    have hp : 0 < q * 2 ^ k := Nat.mul_pos (by omega) (Nat.pow_pos (by omega))
    rw [tz_even (by omega) (by omega), ih (n := n / 2) (by omega)]; omega
theorem tz_lt {n : Nat} {k : Nat} (h0 : n ≠ 0) (h : n < 2 ^ k) : tz n < k := by
  have ⟨a, b⟩ := tz_spec n h0
  generalize n / 2 ^ tz n = q at a b
  rcases Nat.lt_or_ge (tz n) k with h1 | h1
  · exact h1
  · have h2 : 2 ^ k ≤ 2 ^ tz n := Nat.pow_le_pow_right (by omega) h1
    have h4 := Nat.mul_le_mul_right (2 ^ tz n) (show 1 ≤ q by omega)
    rw [Nat.one_mul, ← b] at h4
    exact absurd (Nat.lt_of_lt_of_le h (Nat.le_trans h2 h4)) (Nat.lt_irrefl _)
theorem val_getD {xs : List Nat} (h : val xs = 0) (i : Nat) : xs[i]?.getD 0 = 0 := by
  induction xs generalizing i with
  | nil => simp
  | cons y s ih =>
    simp only [val] at h
    rcases i with _ | i
    · simp only [gZy, Option.getD_some]; omega
    · rw [gSy]; exact ih (by omega) i
theorem tz_val : ∀ (xs : List Nat) (i : Nat), (∀ j, j < i → xs[j]?.getD 0 = 0) → i < xs.length → xs[i]?.getD 0 ≠ 0 → ok32 xs → tz (val xs) = 32 * i + tz (xs[i]?.getD 0) := by
  intro xs
  induction xs with
  | nil => intro i _ h; simp at h
  | cons x r ih =>
    intro i hz hi hne hk
    rcases i with _ | i
    · simp at hne ⊢
      have ⟨a, b⟩ := tz_spec x hne
      have hx : x < 4294967296 := hk x (by simp)
      have hlt := tz_lt hne (show x < 2 ^ 32 by omega)
      refine tz_uniq (q := x / 2 ^ tz x + 2 ^ (32 - tz x) * val r) ?_ ?_
      · have : 2 ^ (32 - tz x) = 2 * 2 ^ (31 - tz x) := by rw [← Nat.pow_succ']; congr 1; omega
        rw [this, Nat.mul_assoc]; omega
      · have e : 2 ^ (32 - tz x) * 2 ^ tz x = 4294967296 := by rw [← Nat.pow_add, show 32 - tz x + tz x = 32 by omega]
        simp only [val]
        rw [Nat.add_mul, ← b, Nat.mul_right_comm, e]
    · have h0 : x = 0 := by simpa using hz 0 (by omega)
      rw [gSy] at hne ⊢
      simp only [List.length_cons] at hi
      subst h0
      have := ih i (fun j hj => by simpa using hz (j + 1) (by omega)) (by omega) hne (fun y hy => hk y (by simp [hy]))
      have hv : val r ≠ 0 := fun h0 => hne (val_getD h0 i)
      have ⟨a, b⟩ := tz_spec (val r) hv
      have e : tz (val (0 :: r)) = tz (val r) + 32 := by
        refine tz_uniq a ?_
        simp only [val]
        rw [Nat.pow_add, ← Nat.mul_assoc, ← b]; omega
      rw [e, this]; omega
def Nf (m e : Int) : Prop := (m = 0 ∧ e = 0) ∨ m % 2 = 1
def nm (m : Int) : Int := if m = 0 then 0 else m / 2 ^ tz m.natAbs
def nx (m e : Int) : Int := if m = 0 then 0 else e + tz m.natAbs
theorem nm_zero : nm 0 = 0 := rfl
theorem nx_zero (e : Int) : nx 0 e = 0 := rfl
theorem nm_back {m : Int} (h : m ≠ 0) : m = nm m * 2 ^ tz m.natAbs ∧ nm m % 2 = 1 ∧ (nm m).natAbs = m.natAbs / 2 ^ tz m.natAbs := by
  have ⟨a, b⟩ := tz_spec m.natAbs (by omega)
  unfold nm
  rw [if_neg h]
  have hd : ((2 : Int) ^ tz m.natAbs) ∣ m := by
    refine Int.natAbs_dvd_natAbs.1 ?_
    rw [Int.natAbs_pow]
    exact ⟨_, by rw [Nat.mul_comm]; exact b⟩
  have e : m / 2 ^ tz m.natAbs * 2 ^ tz m.natAbs = m := Int.ediv_mul_cancel hd
  have e2 : (m / 2 ^ tz m.natAbs).natAbs = m.natAbs / 2 ^ tz m.natAbs := by
    rw [Int.natAbs_ediv_of_dvd hd, Int.natAbs_pow]; rfl
  refine ⟨e.symm, ?_, e2⟩
  rw [← e2] at a
  omega
theorem nf_n (m e : Int) : Nf (nm m) (nx m e) := by
  by_cases h : m = 0
  · subst h; exact .inl ⟨rfl, rfl⟩
  · exact .inr (nm_back h).2.1
theorem nm_neg_iff (m : Int) : decide (nm m < 0) = decide (m < 0) := by
  by_cases h : m = 0
  · subst h; rfl
  · have ⟨a, b, _⟩ := nm_back h
    have hp : (0 : Int) < 2 ^ tz m.natAbs := Int.pow_pos (by omega)
    rw [decide_eq_decide]
    constructor
    · intro h1
      have := Int.mul_le_mul_of_nonneg_right (a := nm m) (b := -1) (by omega) (Int.le_of_lt hp)
      omega
    · intro h1
      by_cases h2 : nm m < 0
      · exact h2
      · have := Int.mul_nonneg (a := nm m) (by omega) (Int.le_of_lt hp); omega
def dv (m e : Int) : Rat := (m : Rat) * 2 ^ e
theorem two_ne : (2 : Rat) ≠ 0 := by decide
theorem zpow_pos (e : Int) : (0 : Rat) < 2 ^ e := Rat.zpow_pos (by decide)
theorem dv_pow (m : Int) (k : Nat) (e : Int) : dv (m * 2 ^ k) e = dv m (e + k) := by
  unfold dv
  rw [Rat.zpow_add two_ne, Rat.zpow_natCast, Rat.intCast_mul, Rat.intCast_pow]
  grind
theorem dv_zero (e : Int) : dv 0 e = 0 := by unfold dv; rw [Rat.intCast_zero, Rat.zero_mul]
theorem dv_n (m e : Int) : dv (nm m) (nx m e) = dv m e := by
  by_cases h : m = 0
  · subst h; rw [nm_zero, nx_zero, dv_zero, dv_zero]
  · have ⟨a, _⟩ := nm_back h
    conv => rhs; rw [a]
    rw [dv_pow]; unfold nx; rw [if_neg h]
theorem dv_eq0 {m e : Int} : dv m e = 0 ↔ m = 0 := by
  constructor
  · intro h
    unfold dv at h
    rcases Rat.mul_eq_zero.1 h with h | h
    · exact Rat.intCast_eq_zero_iff.1 h
    · have := zpow_pos e
      rw [h] at this; exact absurd this (by decide)
  · rintro rfl; exact dv_zero e
theorem dv_add (a b e : Int) : dv a e + dv b e = dv (a + b) e := by unfold dv; rw [Rat.intCast_add, Rat.add_mul]
theorem dv_neg (a e : Int) : dv (-a) e = -dv a e := by unfold dv; rw [Rat.intCast_neg, Rat.neg_mul]
theorem dv_le {a b e : Int} : dv a e ≤ dv b e ↔ a ≤ b := by
  unfold dv
  constructor
  · intro h
    exact Rat.intCast_le_intCast.1 (Rat.le_of_mul_le_mul_right h (zpow_pos e))
  · intro h
    exact Rat.mul_le_mul_of_nonneg_right (Rat.intCast_le_intCast.2 h) (Rat.le_of_lt (zpow_pos e))
theorem dv_inj {a b e : Int} (h : dv a e = dv b e) : a = b := Int.le_antisymm (dv_le.1 (by rw [h]; exact Rat.le_refl)) (dv_le.1 (by rw [h]; exact Rat.le_refl))
theorem dv_down {m e f : Int} (h : f ≤ e) : dv m e = dv (m * 2 ^ (e - f).toNat) f := by
  rw [dv_pow]; congr 1; omega
theorem nf_zero {m e : Int} (h : Nf m e) (h0 : m = 0) : e = 0 := by rcases h with h | h <;> omega
theorem nf_inj {m e n f : Int} (h : Nf m e) (h' : Nf n f) (hv : dv m e = dv n f) : m = n ∧ e = f := by
  have key : ∀ {m e n f : Int}, Nf m e → Nf n f → dv m e = dv n f → e ≤ f → m = n ∧ e = f := by
    intro m e n f h h' hv hle
    rw [dv_down hle] at hv
    have hm := dv_inj hv
    by_cases h0 : n = 0
    · have hm0 : m = 0 := by rw [hm, h0, Int.zero_mul]
      exact ⟨by omega, by rw [nf_zero h hm0, nf_zero h' h0]⟩
    · have hk : (f - e).toNat = 0 := by
        rcases Nat.eq_zero_or_pos (f - e).toNat with h1 | h1
        · exact h1
        · obtain ⟨k, hk⟩ : ∃ k, (f - e).toNat = k + 1 := ⟨(f - e).toNat - 1, by omega⟩
          rw [hk, Int.pow_succ, ← Int.mul_assoc] at hm
          have hodd : m % 2 = 1 := by
            rcases h with h | h
            · rw [h.1] at hm
              have hp : (0 : Int) < 2 ^ k := Int.pow_pos (by omega)
              rcases Int.mul_eq_zero.1 hm.symm with h2 | h2
              · rcases Int.mul_eq_zero.1 h2 with h3 | h3 <;> omega
              · omega
            · exact h
          omega
      rw [hk] at hm
      exact ⟨by omega, by omega⟩
  rcases Int.le_total e f with h1 | h1
  · exact key h h' hv h1
  · have := key h' h hv.symm h1
    exact ⟨this.1.symm, this.2.symm⟩
theorem nm_odd {m : Int} (h : m % 2 = 1) : nm m = m ∧ ∀ e, nx m e = e := by
  have h0 : m ≠ 0 := by omega
  unfold nm nx
  rw [if_neg h0, tz_odd (by omega)]
  exact ⟨by simp, fun e => by simp [h0]⟩
theorem nf_of {m e n f : Int} (h : Nf n f) (hv : dv n f = dv m e) : nm m = n ∧ nx m e = f := nf_inj (nf_n m e) h (by rw [dv_n, hv])
def bl (m : Int) : Nat := blen m.natAbs
theorem blen_bd : ∀ n : Nat, n ≠ 0 → 2 ^ (blen n - 1) ≤ n ∧ n < 2 ^ blen n ∧ 1 ≤ blen n := by
  intro n
  induction n using Nat.strongRecOn with
  | ind n ih =>
    intro h
    rw [blen_pos h]
    by_cases h2 : n / 2 = 0
    · rw [h2, blen_zero]; simp; omega
    · have ⟨a, b, c⟩ := ih (n / 2) (by omega) h2
      have e1 : 2 ^ (1 + blen (n / 2)) = 2 * 2 ^ blen (n / 2) := by rw [Nat.add_comm, Nat.pow_succ]; omega
      have e2 : 2 ^ (1 + blen (n / 2) - 1) = 2 * 2 ^ (blen (n / 2) - 1) := by rw [← Nat.pow_succ']; congr 1; omega
      rw [e1, e2]; omega
theorem blen_uniq {n k : Nat} (h1 : 2 ^ k ≤ n) (h2 : n < 2 ^ (k + 1)) : blen n = k + 1 := by
  have hn : n ≠ 0 := by have := Nat.pow_pos (n := k) (show 0 < 2 by omega); omega
  have ⟨a, b, c⟩ := blen_bd n hn
  have x := (Nat.pow_lt_pow_iff_right (a := 2) (by omega)).1 (Nat.lt_of_le_of_lt h1 b)
  have y := (Nat.pow_lt_pow_iff_right (a := 2) (by omega)).1 (Nat.lt_of_le_of_lt a h2)
  omega
theorem blen_le {n k : Nat} (h : n < 2 ^ k) : blen n ≤ k := by
  by_cases h0 : n = 0
  · subst h0; rw [blen_zero]; omega
  · have ⟨x, _, c⟩ := blen_bd n h0
    have := (Nat.pow_lt_pow_iff_right (a := 2) (by omega)).1 (Nat.lt_of_le_of_lt x h)
    omega
theorem blen_up {n : Nat} (h : n ≠ 0) (k : Nat) : blen (n * 2 ^ k) = blen n + k := by
  have ⟨x, y, c⟩ := blen_bd n h
  have := blen_uniq (n := n * 2 ^ k) (k := blen n - 1 + k) (by rw [Nat.pow_add]; exact Nat.mul_le_mul_right _ x) (by
    rw [show blen n - 1 + k + 1 = blen n + k by omega, Nat.pow_add]; exact Nat.mul_lt_mul_of_pos_right y (Nat.pow_pos (by omega)))
  omega
theorem zpow_add2 (a b : Int) : (2 : Rat) ^ (a + b) = 2 ^ a * 2 ^ b := Rat.zpow_add two_ne a b
theorem dv_one (e : Int) : dv 1 e = 2 ^ e := by unfold dv; rw [Rat.intCast_one, Rat.one_mul]
theorem dv_lt {a b e : Int} : dv a e < dv b e ↔ a < b := by
  rw [← Rat.not_le, dv_le]; omega
theorem zpow_le {a b : Int} : (2 : Rat) ^ a ≤ 2 ^ b ↔ a ≤ b := by
  have key : ∀ a b : Int, a ≤ b → (2 : Rat) ^ a ≤ 2 ^ b := by
    intro a b h
    rw [← dv_one, ← dv_one, dv_down h, dv_le, Int.one_mul]
    have : (0 : Int) < 2 ^ (b - a).toNat := Int.pow_pos (by omega)
    omega
  constructor
  · intro h
    rcases Int.lt_or_le b a with h1 | h1
    · have h2 : (2 : Rat) ^ a ≤ 2 ^ b := h
      have h3 := key (b + 1) a h1
      have h4 : (2 : Rat) ^ (b + 1) = 2 ^ b * 2 := by rw [zpow_add2, Rat.zpow_one]
      have := zpow_pos b
      grind
    · exact h1
  · exact key a b
theorem zpow_lt {a b : Int} : (2 : Rat) ^ a < 2 ^ b ↔ a < b := by rw [← Rat.not_le, zpow_le]; omega
theorem rle_lt {a b c : Rat} (h : a ≤ b) (k : b < c) : a < c := by grind
theorem rlt_le {a b c : Rat} (h : a < b) (k : b ≤ c) : a < c := by grind
def Sz (r : Rat) (s : Int) : Prop := 2 ^ (s - 1) ≤ r.abs ∧ r.abs < 2 ^ s
theorem Sz.uniq {r : Rat} {s t : Int} (h : Sz r s) (h' : Sz r t) : s = t := by
  have a := zpow_lt.1 (rle_lt h.1 h'.2)
  have b := zpow_lt.1 (rle_lt h'.1 h.2)
  omega
theorem Sz.ne {r : Rat} {s : Int} (h : Sz r s) : r ≠ 0 := by
  rintro rfl
  have := zpow_pos (s - 1)
  have h1 := h.1
  rw [Rat.abs_zero] at h1
  grind
theorem abs_dv (m e : Int) : (dv m e).abs = dv (m.natAbs : Int) e := by
  rcases Int.le_total 0 m with h | h
  · rw [Rat.abs_of_nonneg (by rw [← dv_zero e, dv_le]; exact h)]; congr 1; omega
  · rw [Rat.abs_of_nonpos (by rw [← dv_zero e, dv_le]; exact h), ← dv_neg]; congr 1; omega
theorem dv_two (k : Nat) (e : Int) : dv (2 ^ k : Int) e = 2 ^ (e + k) := by
  have := dv_pow 1 k e
  rw [Int.one_mul] at this; rw [this, dv_one]
theorem sz_dv {m e : Int} (h : m ≠ 0) : Sz (dv m e) (e + bl m) := by
  have ⟨a, b, c⟩ := blen_bd m.natAbs (by omega)
  unfold Sz bl
  rw [abs_dv]
  constructor
  · rw [show e + (blen m.natAbs : Int) - 1 = e + ((blen m.natAbs - 1 : Nat) : Int) by omega, ← dv_two, dv_le]
    exact_mod_cast a
  · rw [← dv_two, dv_lt]; exact_mod_cast b
def Rn (up : Bool) (r : Rat) (s t : Int) : Prop := if up then dv (t - 1) s < r ∧ r ≤ dv t s else dv t s ≤ r ∧ r < dv (t + 1) s
theorem Rn.uniq {up : Bool} {r : Rat} {s t u : Int} (h : Rn up r s t) (h' : Rn up r s u) : t = u := by
  cases up
  · simp only [Rn, Bool.false_eq_true, if_false] at h h'
    have a := dv_lt.1 (rle_lt h.1 h'.2)
    have b := dv_lt.1 (rle_lt h'.1 h.2)
    omega
  · simp only [Rn, if_true] at h h'
    have a := dv_lt.1 (rlt_le h.1 h'.2)
    have b := dv_lt.1 (rlt_le h'.1 h.2)
    omega
theorem Rn.exact {up : Bool} {t s : Int} : Rn up (dv t s) s t := by
  cases up
  · simp only [Rn, Bool.false_eq_true, if_false]; exact ⟨Rat.le_refl, dv_lt.2 (by omega)⟩
  · simp only [Rn, if_true]; exact ⟨dv_lt.2 (by omega), Rat.le_refl⟩
theorem Rn.neg {up : Bool} {r : Rat} {s t : Int} (h : Rn up r s t) : Rn (!up) (-r) s (-t) := by
  cases up
  · simp only [Rn, Bool.false_eq_true, if_false, Bool.not_false, if_true] at h ⊢
    rw [show -t - 1 = -(t + 1) by omega, dv_neg, dv_neg]
    exact ⟨by have := h.2; grind, by have := h.1; grind⟩
  · simp only [Rn, Bool.false_eq_true, if_false, Bool.not_true, if_true] at h ⊢
    rw [show -t + 1 = -(t - 1) by omega, dv_neg, dv_neg]
    exact ⟨by have := h.2; grind, by have := h.1; grind⟩
def RdOf (r : Rat) (p : Nat) (up : Bool) (M E : Int) : Prop := Nf M E ∧ ((r = 0 ∧ M = 0) ∨ ∃ s t : Int, Sz r (s + p) ∧ Rn up r s t ∧ dv M E = dv t s)
theorem RdOf.uniq {r : Rat} {p : Nat} {up : Bool} {M E N F : Int} (h : RdOf r p up M E) (h' : RdOf r p up N F) : M = N ∧ E = F := by
  obtain ⟨n1, h⟩ := h
  obtain ⟨n2, h'⟩ := h'
  refine nf_inj n1 n2 ?_
  rcases h with ⟨h0, hm⟩ | ⟨s, t, hs, ht, hv⟩
  · rcases h' with ⟨_, hn⟩ | ⟨s', t', hs', _⟩
    · rw [hm, hn, dv_zero, dv_zero]
    · exact absurd h0 hs'.ne
  · rcases h' with ⟨h0, _⟩ | ⟨s', t', hs', ht', hv'⟩
    · exact absurd h0 hs.ne
    · have := hs.uniq hs'
      obtain rfl : s = s' := by omega
      rw [hv, hv', ht.uniq ht']
def kept (q p : Nat) (more away : Bool) : Nat := q / 2 ^ (blen q - p) + (if (more || decide (q % 2 ^ (blen q - p) ≠ 0)) && away then 1 else 0)
def inR (m e : Int) : Bool := decide (m = 0 ∨ (-131072 ≤ e ∧ e ≤ 131072 ∧ bl m ≤ 262144 ∧ -65536 ≤ e + bl m ∧ e + bl m ≤ 65536))
def cmpd (a b : Rat) : Int := if a < b then -1 else if b < a then 1 else 0
theorem cmpd_lt {a b : Rat} (h : a < b) : cmpd a b = -1 := if_pos h
theorem cmpd_gt {a b : Rat} (h : b < a) : cmpd a b = 1 := by unfold cmpd; rw [if_neg (by grind), if_pos h]
theorem cmpd_eq {a b : Rat} (h : a = b) : cmpd a b = 0 := by unfold cmpd; rw [if_neg (by grind), if_neg (by grind)]
theorem cmpd_neg (a b : Rat) : cmpd (-a) (-b) = -cmpd a b := by
  by_cases h1 : a < b
  · rw [cmpd_lt h1, cmpd_gt (by grind)]; rfl
  · by_cases h2 : b < a
    · rw [cmpd_gt h2, cmpd_lt (by grind)]
    · rw [cmpd_eq (show a = b by grind), cmpd_eq (by grind)]; rfl
theorem cmpd_swap (a b : Rat) : cmpd b a = -cmpd a b := by
  by_cases h1 : a < b
  · rw [cmpd_lt h1, cmpd_gt h1]; rfl
  · by_cases h2 : b < a
    · rw [cmpd_gt h2, cmpd_lt h2]
    · rw [cmpd_eq (show a = b by grind), cmpd_eq (show b = a by grind)]; rfl
theorem cmpd_lt' {a b : Rat} : cmpd a b < 0 ↔ a < b := by
  by_cases h1 : a < b
  · rw [cmpd_lt h1]; exact ⟨fun _ => h1, fun _ => by omega⟩
  · by_cases h2 : b < a
    · rw [cmpd_gt h2]; exact ⟨fun _ => by omega, fun _ => by grind⟩
    · rw [cmpd_eq (show a = b by grind)]; exact ⟨fun _ => by omega, fun _ => by grind⟩
theorem cmpd_zero {a b : Rat} : cmpd a b = 0 ↔ a = b := by
  by_cases h1 : a < b
  · rw [cmpd_lt h1]; exact ⟨fun _ => by omega, fun _ => by grind⟩
  · by_cases h2 : b < a
    · rw [cmpd_gt h2]; exact ⟨fun _ => by omega, fun _ => by grind⟩
    · rw [cmpd_eq (show a = b by grind)]; exact ⟨fun _ => by grind, fun _ => by omega⟩
theorem dv_pos {m e : Int} : 0 < dv m e ↔ 0 < m := by rw [← dv_zero e, dv_lt]
theorem dv_neg0 {m e : Int} : dv m e < 0 ↔ m < 0 := by rw [← dv_zero e, dv_lt]
theorem dv_nonneg {m e : Int} : 0 ≤ dv m e ↔ 0 ≤ m := by rw [← dv_zero e, dv_le]
theorem cmpd_same (a b e : Int) : cmpd (dv a e) (dv b e) = if a < b then -1 else if b < a then 1 else 0 := by
  unfold cmpd; simp only [dv_lt]
theorem cmpd_size {m e n f : Int} (hm : 0 < m) (hn : 0 < n) (h : e + bl m < f + bl n) : dv m e < dv n f := by
  have a := (sz_dv (m := m) (e := e) (by omega)).2
  have b := (sz_dv (m := n) (e := f) (by omega)).1
  rw [Rat.abs_of_nonneg (Rat.le_of_lt (dv_pos.2 hm))] at a
  rw [Rat.abs_of_nonneg (Rat.le_of_lt (dv_pos.2 hn))] at b
  have c := zpow_le.2 (show e + (bl m : Int) ≤ f + bl n - 1 by omega)
  grind
def upto (m e g : Int) : Int := m * 2 ^ (e - g).toNat
theorem dv_upto {m e g : Int} (h : g ≤ e) : dv (upto m e g) g = dv m e := (dv_down h).symm
theorem sum_upto (m e n f : Int) : dv (upto m e (min e f) + upto n f (min e f)) (min e f) = dv m e + dv n f := by
  rw [← dv_add, dv_upto (by omega), dv_upto (by omega)]
def IsD (r : Rat) (M E : Int) : Prop := Nf M E ∧ dv M E = r
theorem IsD.uniq {r : Rat} {M E N F : Int} (h : IsD r M E) (h' : IsD r N F) : M = N ∧ E = F := nf_inj h.1 h'.1 (by rw [h.2, h'.2])
theorem isD_n (m e : Int) : IsD (dv m e) (nm m) (nx m e) := ⟨nf_n m e, dv_n m e⟩
theorem IsD.of {m e M E : Int} (h : IsD (dv m e) M E) : nm m = M ∧ nx m e = E := nf_of h.1 h.2
theorem bl_zero : bl 0 = 0 := blen_zero
theorem bl_nm (m : Int) (e : Int) : bl (nm m) + nx m e = bl m + (if m = 0 then 0 else e) := by
  by_cases h : m = 0
  · subst h; rw [nm_zero, nx_zero]; simp
  · have ⟨a, b, c⟩ := nm_back h
    have h1 : nm m ≠ 0 := by intro h2; rw [h2] at b; omega
    have : m.natAbs = (nm m).natAbs * 2 ^ tz m.natAbs := by
      have h9 := congrArg Int.natAbs a
      rw [Int.natAbs_mul, Int.natAbs_pow] at h9; exact h9
    have h2 := blen_up (n := (nm m).natAbs) (by omega) (tz m.natAbs)
    rw [← this] at h2
    unfold bl nx; rw [if_neg h, if_neg h, h2]; omega
def RsOf (x : Rat) (p : Nat) (up : Bool) (M E : Int) : Prop := Nf M E ∧ ((x = 0 ∧ M = 0) ∨ ∃ s t : Int, (2 ^ (p - 1) : Int) ≤ t ∧ t < 2 ^ p ∧ dv t s * dv t s ≤ x ∧ x < dv (t + 1) s * dv (t + 1) s ∧ dv M E = dv (t + (if up && decide (dv t s * dv t s ≠ x) then 1 else 0)) s)
theorem rsq_le {a b : Rat} (h0 : 0 ≤ a) (h : a ≤ b) : a * a ≤ b * b := by
  have h1 : a * a ≤ a * b := Rat.mul_le_mul_of_nonneg_left h h0
  have h2 : a * b ≤ b * b := Rat.mul_le_mul_of_nonneg_right h (Rat.le_trans h0 h)
  exact Rat.le_trans h1 h2
theorem rsq_lt {a b : Rat} (h0 : 0 ≤ b) (h : a * a < b * b) : a < b := by
  rcases (Rat.le_total : b ≤ a ∨ a ≤ b) with h1 | h1
  · have := rsq_le h0 h1; grind
  · rcases Rat.le_iff_lt_or_eq.1 h1 with h2 | h2
    · exact h2
    · rw [h2] at h; grind
theorem RsOf.uniq {x : Rat} {p : Nat} {up : Bool} {M E N F : Int} (hp : 1 ≤ p) (h : RsOf x p up M E) (h' : RsOf x p up N F) : M = N ∧ E = F := by
  obtain ⟨n1, h⟩ := h
  obtain ⟨n2, h'⟩ := h'
  refine nf_inj n1 n2 ?_
  have pp : (0 : Int) < 2 ^ (p - 1) := Int.pow_pos (by omega)
  have far : ∀ {s t s' t' : Int}, (2 ^ (p - 1) : Int) ≤ t → t < 2 ^ p → x < dv (t + 1) s * dv (t + 1) s → (2 ^ (p - 1) : Int) ≤ t' → dv t' s' * dv t' s' ≤ x → ¬ s < s' := by
    intro s t s' t' h1 h2 h3 h4 h5 hlt
    have a1 : dv (t + 1) s ≤ dv (2 ^ p) s := dv_le.2 (by omega)
    have a2 : dv (2 ^ p : Int) s ≤ dv (2 ^ (p - 1) : Int) s' := by rw [dv_two, dv_two, zpow_le]; omega
    have a3 : dv (2 ^ (p - 1) : Int) s' ≤ dv t' s' := dv_le.2 h4
    have := rsq_le (dv_nonneg.2 (by omega)) (Rat.le_trans a1 (Rat.le_trans a2 a3))
    grind
  have pos0 : ∀ {s t : Int}, (2 ^ (p - 1) : Int) ≤ t → dv t s * dv t s ≤ x → x ≠ 0 := by
    intro s t h1 h2 h0
    have : 0 < dv t s := dv_pos.2 (by omega)
    have := Rat.mul_pos this this
    grind
  rcases h with ⟨h0, hm⟩ | ⟨s, t, a1, a2, a3, a4, a5⟩
  · rcases h' with ⟨_, hn⟩ | ⟨s', t', b1, b2, b3, b4, b5⟩
    · rw [hm, hn, dv_zero, dv_zero]
    · exact absurd h0 (pos0 b1 b3)
  · rcases h' with ⟨h0, _⟩ | ⟨s', t', b1, b2, b3, b4, b5⟩
    · exact absurd h0 (pos0 a1 a3)
    · have c1 := far a1 a2 a4 b1 b3
      have c2 := far b1 b2 b4 a1 a3
      obtain rfl : s = s' := by omega
      have d1 := dv_lt.1 (rsq_lt (dv_nonneg.2 (by omega)) (rle_lt a3 b4))
      have d2 := dv_lt.1 (rsq_lt (dv_nonneg.2 (by omega)) (rle_lt b3 a4))
      obtain rfl : t = t' := by omega
      rw [a5, b5]
theorem bl_dv {M E t s : Int} {p : Nat} (h1 : 1 ≤ p) (hn : Nf M E) (hv : dv M E = dv t s) (ht : t.natAbs ≤ 2 ^ p) : bl M ≤ p := by
  have ⟨a, _⟩ := nf_of hn hv
  by_cases h0 : t = 0
  · subst h0; rw [nm_zero] at a; rw [← a, bl_zero]; omega
  · have ⟨b, c, d⟩ := nm_back h0
    rw [← a]
    unfold bl
    rcases Nat.lt_or_ge t.natAbs (2 ^ p) with h | h
    · exact blen_le (Nat.lt_of_le_of_lt (by rw [d]; exact Nat.div_le_self _ _) h)
    · have e : t.natAbs = 2 ^ p := by omega
      have f : tz t.natAbs = p := tz_uniq (q := 1) rfl (by omega)
      rw [d, f, e, Nat.div_self (Nat.pow_pos (by omega))]
      exact blen_le (by have := (Nat.pow_le_pow_iff_right (a := 2) (by omega)).2 h1; omega)
theorem rn_abs {up : Bool} {r : Rat} {s t : Int} {p : Nat} (hs : Sz r (s + p)) (h : Rn up r s t) : t.natAbs ≤ 2 ^ p ∧ (1 ≤ p → 2 ^ (p - 1) ≤ t.natAbs) := by
  have pp : (0 : Int) < 2 ^ p := Int.pow_pos (by omega)
  have hi : r.abs < dv (2 ^ p : Int) s := by rw [dv_two]; exact hs.2
  have lo : 1 ≤ p → dv (2 ^ (p - 1) : Int) s ≤ r.abs := fun h1 => by rw [dv_two, show s + ((p - 1 : Nat) : Int) = s + p - 1 by omega]; exact hs.1
  have key : ∀ {up : Bool} {r : Rat} {t : Int}, 0 ≤ r → r.abs < dv (2 ^ p : Int) s → (1 ≤ p → dv (2 ^ (p - 1) : Int) s ≤ r.abs) → Rn up r s t → 0 ≤ t ∧ t ≤ 2 ^ p ∧ (1 ≤ p → (2 ^ (p - 1) : Int) ≤ t) := by
    intro up r t h0 hi lo h
    rw [Rat.abs_of_nonneg h0] at hi lo
    cases up
    · simp only [Rn, Bool.false_eq_true, if_false] at h
      have := dv_pos.1 (rle_lt h0 h.2)
      have b := dv_lt.1 (rle_lt h.1 hi)
      exact ⟨by omega, by omega, fun h1 => by have := dv_lt.1 (rle_lt (lo h1) h.2); omega⟩
    · simp only [Rn, if_true] at h
      have a := dv_nonneg.1 (Rat.le_trans h0 h.2)
      have b := dv_lt.1 (rlt_le h.1 (Rat.le_of_lt hi))
      exact ⟨a, by omega, fun h1 => dv_le.1 (Rat.le_trans (lo h1) h.2)⟩
  rcases (Rat.le_total : 0 ≤ r ∨ r ≤ 0) with h0 | h0
  · obtain ⟨a, b, c⟩ := key h0 hi lo h
    refine ⟨?_, fun h1 => ?_⟩
    · have : ((t.natAbs : Nat) : Int) ≤ ((2 ^ p : Nat) : Int) := by push_cast; omega
      exact_mod_cast this
    · have : ((2 ^ (p - 1) : Nat) : Int) ≤ ((t.natAbs : Nat) : Int) := by have := c h1; push_cast; omega
      exact_mod_cast this
  · obtain ⟨a, b, c⟩ := key (r := -r) (t := -t) (by grind) (by rw [Rat.abs_neg]; exact hi) (fun h1 => by rw [Rat.abs_neg]; exact lo h1) h.neg
    refine ⟨?_, fun h1 => ?_⟩
    · have : ((t.natAbs : Nat) : Int) ≤ ((2 ^ p : Nat) : Int) := by push_cast; omega
      exact_mod_cast this
    · have : ((2 ^ (p - 1) : Nat) : Int) ≤ ((t.natAbs : Nat) : Int) := by have := c h1; push_cast; omega
      exact_mod_cast this
theorem RdOf.bits {r : Rat} {p : Nat} {up : Bool} {M E : Int} (h1 : 1 ≤ p) (h : RdOf r p up M E) : bl M ≤ p := by
  obtain ⟨n, ⟨_, h0⟩ | ⟨s, t, hs, ht, hv⟩⟩ := h
  · rw [h0, bl_zero]; omega
  · exact bl_dv h1 n hv (rn_abs hs ht).1
theorem RdOf.ge {r : Rat} {p : Nat} {M E : Int} (h : RdOf r p true M E) : r ≤ dv M E := by
  obtain ⟨n, ⟨h0, h1⟩ | ⟨s, t, hs, ht, hv⟩⟩ := h
  · rw [h0, h1, dv_zero]; exact Rat.le_refl
  · rw [hv]; simp only [Rn, if_true] at ht; exact ht.2
end Go.Proofs.YtdmfapgclppmhaaGreatDoor
end
section
namespace Go.Proofs.YtdmfapgclppmhaaGreatDoor
open Go.RowKit
def tab32 : List Int := [0, 1, 28, 2, 29, 14, 24, 3, 30, 22, 20, 15, 25, 17, 4, 8, 31, 27, 13, 23, 21, 19, 16, 7, 26, 12, 18, 6, 11, 5, 10, 9]
def T32 (w : World) : Prop := Lib.TabIs Tryz.prog w "math/bits.deBruijn32tab" .u8 tab32
theorem t32_below {w w' : World} (h : T32 w) (hb : Below w.heap.size w w') : T32 w' := Lib.tabBelow_of_tabIs h w' hb
theorem g32 : Tryz.prog.globalNamed "math/bits.deBruijn32tab" = some 0 := by kernel_rfl
theorem t32_cell {w : World} (h : T32 w) (i : Nat) (hi : i < 32) : w.cell? ⟨0, i, none⟩ = some (.int .u8 (tab32.getD i 0)) := Lib.TabIs.cell h g32 i hi
theorem and_u32 (a b : Nat) (ha : a < 4294967296) (hb : b < 4294967296) : bits .and .u32 (a : Int) (b : Int) = ((a &&& b : Nat) : Int) := by
  have hx : a &&& b < 2 ^ 32 := Nat.and_lt_two_pow _ (by omega)
  have h1 : (BitVec.ofInt 32 (a : Int)).toNat = a := by
    rw [BitVec.ofInt_natCast, BitVec.toNat_ofNat]; exact Nat.mod_eq_of_lt (by omega)
  have h2 : (BitVec.ofInt 32 (b : Int)).toNat = b := by
    rw [BitVec.ofInt_natCast, BitVec.toNat_ofNat]; exact Nat.mod_eq_of_lt (by omega)
  show IntKind.u32.wrap ((BitVec.ofInt 32 (a : Int) &&& BitVec.ofInt 32 (b : Int)).toNat : Int) = _
  rw [BitVec.toNat_and, h1, h2, IntWalk.u32_in _ ⟨by omega, by omega⟩]
theorem tz32_key (x a : Nat) (hx : x < 4294967296) (hx0 : x ≠ 0) (hlow : x &&& (4294967296 - x) = a) :
    bits BinOp.and IntKind.u32 (x : Int) (-(x : Int) % 4294967296) * 125613361 % 4294967296 / 134217728 = ((a * 125613361 % 4294967296 / 134217728 : Nat) : Int) := by
  have e1 : -(x : Int) % 4294967296 = ((4294967296 - x : Nat) : Int) := by omega
  rw [e1, and_u32 x _ hx (by omega), hlow]
  omega
theorem tab32_at : ∀ k, k < 32 → 2 ^ k * 125613361 % 4294967296 / 134217728 < 32 ∧ tab32.getD (2 ^ k * 125613361 % 4294967296 / 134217728) 0 = ((k : Nat) : Int) := by decide +kernel
theorem ctz_tz (x : Nat) (h0 : x ≠ 0) (h : x < 4294967296) : Lib.ctz 32 x = tz x := by
  obtain ⟨m, hm, hk⟩ := Lib.ctzFrom_spec 32 x (by omega) h
  have e : Lib.ctz 32 x = Lib.ctzFrom 32 x := by simp [Lib.ctz, h0]
  rw [e]
  exact (tz_uniq (q := 2 * m + 1) (by omega) (by rw [Nat.mul_comm]; exact hm)).symm
theorem tz32_core (x k idx : Nat) (w : World) (hx0 : ((x : Int) == 0) = false)
    (key : bits BinOp.and IntKind.u32 (x : Int) (-(x : Int) % 4294967296) * 125613361 % 4294967296 / 134217728 = (idx : Int))
    (hi : idx < 32) (hk : k < 32) (hcell : w.cell? ⟨0, idx, none⟩ = some (.int .u8 k)) :
    Calls Tryz.prog 114 #[.int .u32 x] w fun e w' => e = .returned (.int .i64 k) ∧ w = w' := by
  go_enter Tryz.func114, Tryz.ntmps114
  go_wp2_with (simp only [key])
  go_ret
  exact ⟨rfl, rfl⟩
theorem tz32_any (x : Nat) (h0 : x ≠ 0) (h : x < 4294967296) (w : World) (hT : T32 w) :
    Calls Tryz.prog 114 #[.int .u32 x] w fun e w' => e = .returned (.int .i64 (tz x : Nat)) ∧ w = w' := by
  obtain ⟨hlow, hk⟩ := Lib.lowest_bit 32 x h0 h
  obtain ⟨hi, htab⟩ := tab32_at _ hk
  have hcell := t32_cell hT _ hi
  rw [htab] at hcell
  rw [← ctz_tz x h0 h]
  exact tz32_core x _ _ w (by simp; omega) (tz32_key x _ h h0 hlow) hi hk hcell
theorem tell_no (g : Nat) (k er : Int) (b : Bool) (w : World) (hc : w.cell? ⟨g, 0, none⟩ = some (.int .i64 k)) (hn : b = false ∨ (k == 0) = false) :
    Calls Tryz.prog 60 #[.pointer (some ⟨g, 0, none⟩), .bool b, .int .i64 er] w fun e w' => e = .returned (.tuple #[]) ∧ w = w' := by
  cases b
  · clear hn
    go_enter Tryz.func60, Tryz.ntmps60
    go_wp2
    go_end0
    exact ⟨rfl, rfl⟩
  · have hk : (k == 0) = false := by simpa using hn
    clear hn
    go_enter Tryz.func60, Tryz.ntmps60
    go_wp2
    go_end0
    exact ⟨rfl, rfl⟩
theorem tell_yes (g : Nat) (er : Int) (w : World) (hc : w.cell? ⟨g, 0, none⟩ = some (.int .i64 0)) (hf : w.frozen? ⟨g, 0, none⟩ = false) :
    Calls Tryz.prog 60 #[.pointer (some ⟨g, 0, none⟩), .bool true, .int .i64 er] w fun e w' => e = .returned (.tuple #[]) ∧ w.setCell ⟨g, 0, none⟩ (.int .i64 er) = w' := by
  go_enter Tryz.func60, Tryz.ntmps60
  go_wp2
  go_end0
  exact ⟨rfl, rfl⟩
theorem fails_any (g : Nat) (k : Int) (q : Bool) (w : World) (hc : w.cell? ⟨g, 0, none⟩ = some (.int .i64 k)) (hq : (k != 0) = q) :
    Calls Tryz.prog 64 #[.pointer (some ⟨g, 0, none⟩)] w fun e w' => e = .returned (.bool q) ∧ w = w' := by
  go_enter Tryz.func64, Tryz.ntmps64
  go_wp2
  go_ret
  exact ⟨rfl, rfl⟩
theorem isZero_any (A : Option Addr) (n c : Nat) (s : Bool) (x : Int) (w : World) (q : Bool) (hq : ((n : Int) == 0) = q) :
    Calls Tryz.prog 77 #[.agg #[.bool s, .slice A n c, .int .i64 x]] w fun e w' => e = .returned (.bool q) ∧ Below w.heap.size w w' := by
  go_enter Tryz.func77, Tryz.ntmps77
  go_wp2
  go_ret
  exact ⟨rfl, below1 _ _⟩
theorem sign_d (A : Option Addr) (n c : Nat) (t : Bool) (x q : Int) (w : World) (h0 : n = 0 → q = 0) (h1 : n ≠ 0 → q = if t then -1 else 1) :
    Calls Tryz.prog 57 #[.agg #[.bool t, .slice A n c, .int .i64 x]] w fun e w' => e = .returned (.int .i64 q) ∧ Below w.heap.size w w' := by
  by_cases hn : n = 0
  · obtain rfl := h0 hn
    have hq : ((n : Int) == 0) = true := by rw [hn]; rfl
    clear h0 h1 hn
    have HQ := qH hq
    clear hq
    go_enter Tryz.func57, Tryz.ntmps57
    go_wp2_with fail
    refine (isZero_any A n c t x _ true HQ.out).mono ?_
    rintro e w1 ⟨rfl, hb⟩
    have HB := qH ((below1 w _).trans (hb.mono (by simp)))
    obtain ⟨hc, hf⟩ := bcell hb
    clear hb
    go_wp2
    go_ret
    exact ⟨rfl, HB.out⟩
  · obtain rfl := h1 hn
    have hq : ((n : Int) == 0) = false := by simp [hn]
    have HQ := qH hq
    clear h0 h1 hn hq
    cases t
    all_goals
      go_enter Tryz.func57, Tryz.ntmps57
      go_wp2_with fail
      refine (isZero_any A n c _ x _ false HQ.out).mono ?_
      rintro e w1 ⟨rfl, hb⟩
      have HB := qH ((below1 w _).trans (hb.mono (by simp)))
      obtain ⟨hc, hf⟩ := bcell hb
      clear hb
      go_wp2
      go_ret
      exact ⟨rfl, HB.out⟩
def dyR (s : Bool) (xs : List Nat) (e : Int) : Bool :=
  if xs.length = 0 then !s && (e == 0) else rightB s xs && decide (xs[0]?.getD 0 % 2 = 1) && decide (-131072 ≤ e) && decide (e ≤ 131072)
theorem odd_bit (d : Nat) (hd : d < 4294967296) (q : Bool) (hq : decide (d % 2 = 1) = q) : (bits BinOp.and IntKind.u32 (d : Int) 1 == 1) = q := by
  have := and_u32 d 1 hd (by omega)
  rw [show ((1 : Nat) : Int) = 1 from rfl] at this
  rw [this, Nat.and_one_is_mod, ← hq, Bool.eq_iff_iff]
  simp only [beq_iff_eq, decide_eq_true_eq]
  omega
theorem dright_any (A : Option Addr) (c : Nat) (s : Bool) (xs : List Nat) (x : Int) (w : World) (h : Dg w A c xs) (q : Bool) (hq : dyR s xs x = q) (hl : xs.length ≤ 9223372036854775807) :
    Calls Tryz.prog 54 #[.agg #[.bool s, .slice A xs.length c, .int .i64 x]] w fun e w' => e = .returned (.bool q) ∧ Below w.heap.size w w' := by
  by_cases h0 : xs.length = 0
  · have t0 : ((xs.length : Int) == 0) = true := by rw [h0]; rfl
    have hq2 : (!s && (x == 0)) = q := by rw [← hq]; unfold dyR; rw [if_pos h0]
    have HQ := qH hq2
    clear h h0 hq hq2
    cases s
    · have HQ2 := qH (show (x == 0) = q by simpa using HQ.out)
      go_enter Tryz.func54, Tryz.ntmps54
      go_wp2
      go_ret
      exact ⟨by rw [← HQ2.out]; rfl, below1 _ _⟩
    · go_enter Tryz.func54, Tryz.ntmps54
      go_wp2
      go_ret
      exact ⟨by rw [← HQ.out]; rfl, below1 _ _⟩
  · have t0 : ((xs.length : Int) == 0) = false := beq_eq_false_iff_ne.2 (by omega)
    obtain ⟨r, hr⟩ : ∃ r, rightB s xs = r := ⟨_, rfl⟩
    obtain ⟨b, off, hA, hb, hc⟩ := h.2.2 (by omega)
    have hx := hc 0 (by omega)
    rw [Nat.add_zero] at hx
    have hp : 0 < xs.length := by omega
    have hq2 : (r && decide (xs[0]?.getD 0 % 2 = 1) && decide (-131072 ≤ x) && decide (x ≤ 131072)) = q := by rw [← hq, ← hr]; unfold dyR; rw [if_neg h0]
    obtain ⟨o, ho⟩ : ∃ o, decide (xs[0]?.getD 0 % 2 = 1) = o := ⟨_, rfl⟩
    have hbit := odd_bit _ (getD_lt h.2.1 0) o ho
    rw [ho] at hq2
    have RA := qH (fun W (hW : Dg W A c xs) => right_any A c s xs W hW r hr hl)
    have H := qH h
    generalize xs[0]?.getD 0 = d at *
    have HQ := qH hq2
    have hc1 : 0 < c := by have := h.1; omega
    clear h h0 hq hc hq2 ho hr
    subst hA
    cases r
    · obtain rfl : q = false := by rw [← HQ.out]; rfl
      clear hbit
      go_enter Tryz.func54, Tryz.ntmps54
      go_wp2_with fail
      refine (RA.out _ (H.out.below (below1 _ _))).mono ?_
      rintro e w1 ⟨rfl, hb1⟩
      have HB := qH ((below1 w _).trans (hb1.mono (by simp)))
      obtain ⟨hc2, hf2⟩ := bcell hb1
      clear hb1
      go_wp2
      go_ret
      exact ⟨rfl, HB.out⟩
    · cases o
      · obtain rfl : q = false := by rw [← HQ.out]; rfl
        go_enter Tryz.func54, Tryz.ntmps54
        go_wp2_with fail
        refine (RA.out _ (H.out.below (below1 _ _))).mono ?_
        rintro e w1 ⟨rfl, hb1⟩
        have HB := qH ((below1 w _).trans (hb1.mono (by simp)))
        obtain ⟨hc2, hf2⟩ := bcell hb1
        clear hb1
        go_wp2
        go_ret
        exact ⟨rfl, HB.out⟩
      · by_cases h1 : -131072 ≤ x
        · have d1 : decide (-131072 ≤ x) = true := decide_eq_true h1
          have HQ2 := qH (show decide (x ≤ 131072) = q by rw [← HQ.out, d1]; rfl)
          clear h1
          go_enter Tryz.func54, Tryz.ntmps54
          go_wp2_with fail
          refine (RA.out _ (H.out.below (below1 _ _))).mono ?_
          rintro e w1 ⟨rfl, hb1⟩
          have HB := qH ((below1 w _).trans (hb1.mono (by simp)))
          obtain ⟨hc2, hf2⟩ := bcell hb1
          clear hb1
          go_wp2
          go_ret
          exact ⟨by rw [← HQ2.out]; rfl, HB.out⟩
        · have d1 : decide (-131072 ≤ x) = false := decide_eq_false h1
          obtain rfl : q = false := by rw [← HQ.out, d1]; rfl
          clear h1
          go_enter Tryz.func54, Tryz.ntmps54
          go_wp2_with fail
          refine (RA.out _ (H.out.below (below1 _ _))).mono ?_
          rintro e w1 ⟨rfl, hb1⟩
          have HB := qH ((below1 w _).trans (hb1.mono (by simp)))
          obtain ⟨hc2, hf2⟩ := bcell hb1
          clear hb1
          go_wp2
          go_ret
          exact ⟨rfl, HB.out⟩
theorem clip_any (A : Option Addr) (n c : Nat) (hn : n ≤ c) (w : World) :
    Calls Tryz.prog 101 #[.slice A n c] w fun e w' => e = .returned (.slice A n n) ∧ w = w' := by
  go_enter Tryz.func101, Tryz.ntmps101
  go_wp2
  go_ret
  exact ⟨rfl, rfl⟩
theorem inR_eq {m e z : Int} (h0 : m ≠ 0) (hz : (blen m.natAbs : Int) = z) : inR m e = (decide (-131072 ≤ e) && (decide (e ≤ 131072) && (decide (z ≤ 262144) && (decide (-65536 ≤ e + z) && decide (e + z ≤ 65536))))) := by
  unfold inR bl
  rw [Bool.eq_iff_iff]
  simp only [decide_eq_true_eq, Bool.and_eq_true]
  subst hz
  constructor
  · rintro (h | ⟨a, b, c, d, f⟩)
    · exact absurd h h0
    · exact ⟨a, b, by omega, d, f⟩
  · rintro ⟨a, b, c, d, f⟩
    exact .inr ⟨a, b, by omega, d, f⟩
theorem inRange_any (A : Option Addr) (c : Nat) (s : Bool) (m x : Int) (w : World) (h : Dg w A c (digs m.natAbs)) (q : Bool) (hq : inR m x = q) (hl : (digs m.natAbs).length ≤ 1000000) :
    Calls Tryz.prog 61 #[.agg #[.bool s, .slice A (digs m.natAbs).length c, .int .i64 x]] w fun e w' => e = .returned (.bool q) ∧ Below w.heap.size w w' := by
  by_cases h0 : m = 0
  · obtain rfl : q = true := by rw [← hq, h0]; rfl
    have HZ := qH (fun W => isZero_any A (digs m.natAbs).length c s x W true (by rw [h0]; show (((digs 0).length : Nat) : Int) == 0; rw [digs_zero]; rfl))
    clear h0 hq h
    go_enter Tryz.func61, Tryz.ntmps61
    go_wp2_with fail
    refine (HZ.out _).mono ?_
    rintro e w1 ⟨rfl, hb⟩
    have HB := qH ((below1 w _).trans (hb.mono (by simp)))
    clear hb
    go_wp2
    go_ret
    exact ⟨rfl, HB.out⟩
  · have HZ := qH (fun W => isZero_any A (digs m.natAbs).length c s x W false (beq_eq_false_iff_ne.2 (by have : (digs m.natAbs).length ≠ 0 := fun e => h0 (by have := digs_nil.1 e; omega); omega)))
    have HC := qH (fun W (hW : Dg W A c (digs m.natAbs)) => bits_any A c (digs m.natAbs) W hW (by omega))
    rw [val_digs] at HC
    obtain ⟨z, hz⟩ : ∃ z : Int, (blen m.natAbs : Int) = z := ⟨_, rfl⟩
    rw [hz] at HC
    have hq2 := inR_eq (e := x) h0 hz
    rw [hq] at hq2
    have z0 : 0 ≤ z := by omega
    have HQ := qH hq2
    have H := qH h
    clear h0 hq hz hq2 h
    by_cases c1 : -131072 ≤ x
    rotate_left
    · have d0 : decide (-131072 ≤ x) = false := decide_eq_false c1
      obtain rfl : q = false := by rw [HQ.out, d0]; rfl
      go_enter Tryz.func61, Tryz.ntmps61
      go_wp2_with fail
      refine (HZ.out _).mono ?_
      rintro e w1 ⟨rfl, hb⟩
      have HB := qH ((below1 w _).trans (hb.mono (by simp)))
      obtain ⟨hc2, hf2⟩ := bcell hb
      clear hb
      go_wp2_with fail
      refine (HC.out _ (H.out.below HB.out)).mono ?_
      rintro e w2 ⟨rfl, rfl⟩
      go_wp2
      go_ret
      exact ⟨rfl, HB.out⟩
    have d0 : decide (-131072 ≤ x) = true := decide_eq_true c1
    by_cases c2 : x ≤ 131072
    rotate_left
    · have d1 : decide (x ≤ 131072) = false := decide_eq_false c2
      obtain rfl : q = false := by rw [HQ.out, d0, d1]; rfl
      go_enter Tryz.func61, Tryz.ntmps61
      go_wp2_with fail
      refine (HZ.out _).mono ?_
      rintro e w1 ⟨rfl, hb⟩
      have HB := qH ((below1 w _).trans (hb.mono (by simp)))
      obtain ⟨hc2, hf2⟩ := bcell hb
      clear hb
      go_wp2_with fail
      refine (HC.out _ (H.out.below HB.out)).mono ?_
      rintro e w2 ⟨rfl, rfl⟩
      go_wp2
      go_ret
      exact ⟨rfl, HB.out⟩
    have d1 : decide (x ≤ 131072) = true := decide_eq_true c2
    by_cases c3 : z ≤ 262144
    rotate_left
    · have d2 : decide (z ≤ 262144) = false := decide_eq_false c3
      obtain rfl : q = false := by rw [HQ.out, d0, d1, d2]; rfl
      go_enter Tryz.func61, Tryz.ntmps61
      go_wp2_with fail
      refine (HZ.out _).mono ?_
      rintro e w1 ⟨rfl, hb⟩
      have HB := qH ((below1 w _).trans (hb.mono (by simp)))
      obtain ⟨hc2, hf2⟩ := bcell hb
      clear hb
      go_wp2_with fail
      refine (HC.out _ (H.out.below HB.out)).mono ?_
      rintro e w2 ⟨rfl, rfl⟩
      go_wp2
      go_ret
      exact ⟨rfl, HB.out⟩
    have d2 : decide (z ≤ 262144) = true := decide_eq_true c3
    by_cases c4 : -65536 ≤ x + z
    rotate_left
    · have d3 : decide (-65536 ≤ x + z) = false := decide_eq_false c4
      obtain rfl : q = false := by rw [HQ.out, d0, d1, d2, d3]; rfl
      go_enter Tryz.func61, Tryz.ntmps61
      go_wp2_with fail
      refine (HZ.out _).mono ?_
      rintro e w1 ⟨rfl, hb⟩
      have HB := qH ((below1 w _).trans (hb.mono (by simp)))
      obtain ⟨hc2, hf2⟩ := bcell hb
      clear hb
      go_wp2_with fail
      refine (HC.out _ (H.out.below HB.out)).mono ?_
      rintro e w2 ⟨rfl, rfl⟩
      go_wp2
      go_ret
      exact ⟨rfl, HB.out⟩
    have d3 : decide (-65536 ≤ x + z) = true := decide_eq_true c4
    have HQ2 := qH (show decide (x + z ≤ 65536) = q by rw [HQ.out, d0, d1, d2, d3]; rfl)
    go_enter Tryz.func61, Tryz.ntmps61
    go_wp2_with fail
    refine (HZ.out _).mono ?_
    rintro e w1 ⟨rfl, hb⟩
    have HB := qH ((below1 w _).trans (hb.mono (by simp)))
    obtain ⟨hc2, hf2⟩ := bcell hb
    clear hb
    go_wp2_with fail
    refine (HC.out _ (H.out.below HB.out)).mono ?_
    rintro e w2 ⟨rfl, rfl⟩
    go_wp2
    go_ret
    exact ⟨by rw [← HQ2.out]; rfl, HB.out⟩
theorem bd0 (W : World) : Below W.heap.size W W.drew := below_drew (Below.refl _ _)
end Go.Proofs.YtdmfapgclppmhaaGreatDoor
end
section
namespace Go.Proofs.YtdmfapgclppmhaaGreatDoor
open Go.RowKit
section
variable {P : Program} {ops : Array Oper} {Q : Exit → Act → World → Prop} {md : Region.Mode}
def still (l : Array Bool) : Nat := l.toList.count false
theorem still_set {l : Array Bool} {i : Nat} (h : l.getD i true = false) : still (l.setIfInBounds i true) + 1 = still l := by
  have hlt : i < l.size := by
    rcases Nat.lt_or_ge i l.size with h' | h'
    · exact h'
    · simp [Array.getElem?_eq_none h'] at h
  obtain ⟨l⟩ := l
  simp only [still, List.setIfInBounds_toArray] at *
  simp at hlt
  simp [hlt] at h
  have : ∀ (l : List Bool) (i : Nat) (h : i < l.length), l[i] = false → (l.set i true).count false + 1 = l.count false := by
    intro l
    induction l with
    | nil => intro i h; simp at h
    | cons x xs ih =>
      intro i hi hx
      cases i with
      | zero => simp at hx; subst hx; simp
      | succ i =>
        simp at hx hi
        have := ih i hi hx
        simp only [List.set_cons_succ, List.count_cons]
        omega
  exact this l i hlt h
theorem wpAny_inv (I : Array Bool → Act → World → Prop)
    (step : ∀ l a w i, I l a w → i ∈ Region.ready md ops l → wpOp P ops Q i (fun a' w' => I (l.setIfInBounds i true) a' w') a w)
    (done : ∀ l a w, I l a w → Region.ready md ops l = [] → Q .normal a w) :
    ∀ (fuel : Nat) (l : Array Bool) (a : Act) (w : World), I l a w → still l ≤ fuel → wpAny P md ops Q fuel l a w
  | 0, l, a, w, h, hf => by
    have hr : Region.ready md ops l = [] := by
      rcases hr : Region.ready md ops l with _ | ⟨i, is⟩
      · rfl
      · have := still_set (mem_ready.1 (show i ∈ Region.ready md ops l by rw [hr]; simp)).1
        omega
    exact ⟨hr, done l a w h hr⟩
  | fuel + 1, l, a, w, h, hf => by
    refine ⟨fun hr => done l a w h hr, fun i hi => ?_⟩
    refine wpOp_mono (fun a' w' h' => wpAny_inv I step done fuel _ a' w' h' ?_) (step l a w i h hi)
    have := still_set (mem_ready.1 hi).1
    omega
def backB (md : Region.Mode) (ops : Array Oper) : Bool := (List.range ops.size).all fun i => ((ops[i]?).map fun o => o.after.all fun e => !Region.binds md e || decide (e.on < i)).getD true
theorem all_of_back (hb : backB md ops = true) {l : Array Bool} (hs : l.size = ops.size) (hr : Region.ready md ops l = []) : ∀ i, i < ops.size → l.getD i false = true := by
  intro i
  induction i using Nat.strongRecOn with
  | ind i ih =>
    intro hi
    cases hg : l.getD i false with
    | true => rfl
    | false =>
      have hmem : i ∈ Region.ready md ops l := by
        refine mem_ready.2 ⟨?_, ops[i], by simp [hi], fun e he hbi => ?_⟩
        · have : i < l.size := by omega
          simp [this] at hg ⊢
          exact hg
        · simp only [backB, List.all_eq_true, List.mem_range] at hb
          have h1 := hb i hi
          simp only [Array.getElem?_eq_getElem hi, Option.map_some, Option.getD_some, Array.all_eq_true_iff_forall_mem] at h1
          have h2 := h1 e he
          simp only [hbi, Bool.not_true, Bool.false_or, decide_eq_true_eq] at h2
          exact ih e.on h2 (by omega)
      rw [hr] at hmem; cases hmem
def waitsB (md : Region.Mode) (ops : Array Oper) (i k : Nat) : Bool := ((ops[i]?).map fun o => o.after.any fun e => Region.binds md e && e.on == k).getD false
theorem waits_spec {i k : Nat} (h : waitsB md ops i k = true) {l : Array Bool} (hr : i ∈ Region.ready md ops l) : l.getD k false = true := by
  obtain ⟨_, o, ho, hall⟩ := mem_ready.1 hr
  simp only [waitsB, ho, Option.map_some, Option.getD_some, Array.any_eq_true'] at h
  obtain ⟨e, he, h1⟩ := h
  simp only [Bool.and_eq_true, beq_iff_eq] at h1
  have := hall e he h1.1
  rw [h1.2] at this
  exact this
end
def Kept (w w' : World) : Prop := w.heap.size ≤ w'.heap.size ∧ ∀ (b o : Nat) (n : Int), w.cell? ⟨b, o, none⟩ = some (.int .u32 n) → w'.cell? ⟨b, o, none⟩ = some (.int .u32 n)
theorem Kept.refl (w : World) : Kept w w := ⟨Nat.le_refl _, fun _ _ _ h => h⟩
theorem Kept.trans {a b c : World} (h : Kept a b) (k : Kept b c) : Kept a c := ⟨Nat.le_trans h.1 k.1, fun b o n e => k.2 b o n (h.2 b o n e)⟩
theorem cell_lt {w : World} {b o : Nat} {v : Value} (h : w.cell? ⟨b, o, none⟩ = some v) : b < w.heap.size := by
  rcases Nat.lt_or_ge b w.heap.size with h' | h'
  · exact h'
  · simp [World.cell?, Array.getElem?_eq_none h'] at h
theorem Kept.below {w w' : World} (h : Below w.heap.size w w') : Kept w w' := ⟨h.size, fun b o _n e => (h.cell (p := ⟨b, o, none⟩) (cell_lt e)).trans e⟩
theorem Dg.kept {w w' : World} {A : Option Addr} {c : Nat} {xs : List Nat} (h : Dg w A c xs) (hk : Kept w w') : Dg w' A c xs :=
  ⟨h.1, h.2.1, fun h0 => by
    obtain ⟨b, off, e, hb, hc⟩ := h.2.2 h0
    exact ⟨b, off, e, Nat.lt_of_lt_of_le hb hk.1, fun j hj => hk.2 _ _ _ (hc j hj)⟩⟩
structure Only (g : Nat) (w w' : World) : Prop where
  os : w'.os = w.os
  tape : w'.tape = w.tape
  output : w'.output = w.output
  size : w'.heap.size = w.heap.size
  block : ∀ k, k ≠ g → w'.heap[k]? = w.heap[k]?
theorem Only.setCell {g : Nat} {w w' : World} (h : Only g w w') (i : Nat) (v : Value) : Only g w (w'.setCell ⟨g, i, none⟩ v) :=
  ⟨h.os, h.tape, h.output, by simpa using h.size, fun k hk => (heap_setCell_other _ _ _ _ (by simpa using hk)).trans (h.block k hk)⟩
theorem Only.refl (g : Nat) (w : World) : Only g w w := ⟨rfl, rfl, rfl, rfl, fun _ _ => rfl⟩
theorem Only.below {g N : Nat} {W w w' : World} (h : Only g w w') (hb : Below N W w) (hg : N ≤ g) : Below N W w' :=
  ⟨h.os.trans hb.os, h.tape.trans hb.tape, h.output.trans hb.output, by rw [h.size]; exact hb.size, fun k hk => (h.block k (by omega)).trans (hb.block k hk)⟩
theorem Only.kept {g : Nat} {w w' : World} (h : Only g w w') {zs : Array Value} {T : TypeId} {fr : Nat × Nat} (hg : w.heap[g]? = some (.cells zs T fr)) (hz : ∀ (i : Nat) (n : Int), zs[i]? ≠ some (.int .u32 n)) : Kept w w' := by
  refine ⟨by rw [h.size]; exact Nat.le_refl _, fun b o _n e => ?_⟩
  by_cases hb : b = g
  · subst hb
    rw [cell_of_row _ _ _ _ _ _ hg] at e
    exact absurd e (hz _ _)
  · rw [← e]
    simp only [World.cell?, h.block b hb]
def Half (W : World) (lt ct xt : Tmp) (v : Value) (R : Value → World → Prop) (zs : Array Value) (T : TypeId) (full : Value → Array Value) (bl bc ba bs : Bool) (a : Act) (w : World) (g : Nat) (u : Value) : Prop :=
  (bl = true → a.tmps.getD lt undef = v) ∧ (bc = true → a.tmps.getD ct undef = u ∧ R u w) ∧
  (ba = true → a.tmps.getD xt undef = .pointer (some ⟨g, 0, none⟩) ∧ W.heap.size ≤ g ∧ g < w.heap.size ∧ w.heap[g]? = some (.cells (if bs then full u else zs) T (0, 0)))
section
variable {W : World} {lt ct xt : Tmp} {v : Value} {R : Value → World → Prop} {zs : Array Value} {T : TypeId} {full : Value → Array Value} {bl bc ba bs : Bool} {a a' : Act} {w w' : World} {g : Nat} {u : Value}
theorem Half.step (h : Half W lt ct xt v R zs T full bl bc ba bs a w g u) (hR : ∀ u w w', R u w → Kept w w' → R u w') (hk : Kept w w')
    (h1 : a'.tmps.getD lt undef = a.tmps.getD lt undef) (h2 : a'.tmps.getD ct undef = a.tmps.getD ct undef) (h3 : a'.tmps.getD xt undef = a.tmps.getD xt undef)
    (hg : ba = true → w'.heap[g]? = w.heap[g]?) : Half W lt ct xt v R zs T full bl bc ba bs a' w' g u :=
  ⟨fun e => h1.trans (h.1 e), fun e => ⟨h2.trans (h.2.1 e).1, hR _ _ _ (h.2.1 e).2 hk⟩, fun e => ⟨h3.trans (h.2.2 e).1, (h.2.2 e).2.1, Nat.lt_of_lt_of_le (h.2.2 e).2.2.1 hk.1, (hg e).trans (h.2.2 e).2.2.2⟩⟩
theorem put_same (a : Act) (t : Tmp) (v : Value) (h : t < a.tmps.size) : (a.put (some t) v).tmps.getD t undef = v := by simp [Act.put, h]
theorem put_other (a : Act) (t s : Tmp) (v : Value) (h : t ≠ s) : (a.put (some t) v).tmps.getD s undef = a.tmps.getD s undef := by simp [Act.put, Array.getElem?_setIfInBounds_ne h]
def Fr6 (D : List Tmp) (a0 a : Act) : Prop := a.defers = a0.defers ∧ a.tmps.size = a0.tmps.size ∧ ∀ j, j ∉ D → a.tmps.getD j undef = a0.tmps.getD j undef
theorem Fr6.put {D : List Tmp} {a0 a : Act} (h : Fr6 D a0 a) {t : Tmp} (ht : t ∈ D) (v : Value) : Fr6 D a0 (a.put (some t) v) :=
  ⟨h.1, by simp [Act.put, h.2.1], fun j hj => (put_other a t j v (fun e => hj (e ▸ ht))).trans (h.2.2 j hj)⟩
end
theorem act_ext {a b : Act} (hd : a.defers = b.defers) (hs : a.tmps.size = b.tmps.size) (h : ∀ j, a.tmps.getD j undef = b.tmps.getD j undef) : a = b := by
  obtain ⟨S, D⟩ := a
  obtain ⟨T, E⟩ := b
  simp only at hd hs h
  subst hd
  congr 1
  refine Array.ext hs (fun j h1 h2 => ?_)
  have := h j
  simpa [h1, h2] using this
theorem put_size (a : Act) (t : Tmp) (v : Value) : (a.put (some t) v).tmps.size = a.tmps.size := by simp [Act.put]
theorem put_defers (a : Act) (t : Tmp) (v : Value) : (a.put (some t) v).defers = a.defers := rfl
theorem put_at {a b : Act} {t : Tmp} {v : Value} (j : Tmp) (ht : t < b.tmps.size) (he : a.tmps.getD t undef = v) (h : j ≠ t → a.tmps.getD j undef = b.tmps.getD j undef) : a.tmps.getD j undef = (b.put (some t) v).tmps.getD j undef := by
  by_cases hj : t = j
  · subst hj; rw [put_same _ _ _ ht]; exact he
  · rw [put_other _ _ _ _ hj]; exact h (Ne.symm hj)
theorem Fr6.eq {l1 c1 l2 c2 x y : Tmp} {a0 a : Act} (h : Fr6 [l1, c1, l2, c2, x, y] a0 a) {v1 u1 v2 u2 p1 p2 : Value}
    (hin : ([l1, c1, l2, c2, x, y].all fun t => decide (t < a0.tmps.size)) = true)
    (e1 : a.tmps.getD l1 undef = v1) (e2 : a.tmps.getD c1 undef = u1) (e3 : a.tmps.getD l2 undef = v2) (e4 : a.tmps.getD c2 undef = u2) (e5 : a.tmps.getD x undef = p1) (e6 : a.tmps.getD y undef = p2) :
    a = (((((a0.put (some l1) v1).put (some c1) u1).put (some l2) v2).put (some c2) u2).put (some x) p1).put (some y) p2 := by
  simp only [List.all_cons, List.all_nil, Bool.and_true, Bool.and_eq_true, decide_eq_true_eq] at hin
  obtain ⟨i1, i2, i3, i4, i5, i6⟩ := hin
  refine act_ext (by simp only [put_defers]; exact h.1) (by simp only [put_size]; exact h.2.1) (fun j => ?_)
  refine put_at j (by simp only [put_size]; exact i6) e6 (fun n6 => put_at j (by simp only [put_size]; exact i5) e5 (fun n5 => put_at j (by simp only [put_size]; exact i4) e4 (fun n4 => put_at j (by simp only [put_size]; exact i3) e3 (fun n3 => put_at j (by simp only [put_size]; exact i2) e2 (fun n2 => put_at j i1 e1 (fun n1 => h.2.2 j ?_))))))
  simp only [List.mem_cons, List.not_mem_nil, or_false, not_or]
  exact ⟨n1, n2, n3, n4, n5, n6⟩
theorem getD_set (l : Array Bool) (i j : Nat) (hi : i < l.size) : (l.setIfInBounds i true).getD j false = (if i = j then true else l.getD j false) := by
  by_cases h : i = j
  · subst h; simp [hi]
  · rw [if_neg h]; exact getD_set_ne false h
end Go.Proofs.YtdmfapgclppmhaaGreatDoor
end
section
namespace Go.Proofs.YtdmfapgclppmhaaGreatDoor
open Go.RowKit
theorem heap_lt {w : World} {g : Nat} {o : Obj} (h : w.heap[g]? = some o) : g < w.heap.size := by
  rcases Nat.lt_or_ge g w.heap.size with h' | h'
  · exact h'
  · rw [Array.getElem?_eq_none h'] at h; cases h
theorem row_cell {W w1 : World} {g : Nat} {cs : Array Value} {t : TypeId} {fr : Nat × Nat} (hg : W.heap[g]? = some (.cells cs t fr)) (hb : Below W.heap.size W w1) (o : Nat) : w1.cell? ⟨g, o, none⟩ = cs[o]? :=
  (hb.cell (p := ⟨g, o, none⟩) (heap_lt hg)).trans (cell_of_row _ _ _ _ _ _ hg)
theorem row_frozen {W w1 : World} {g : Nat} {cs : Array Value} {t : TypeId} (hg : W.heap[g]? = some (.cells cs t (0, 0))) (hb : Below W.heap.size W w1) (o : Nat) : w1.frozen? ⟨g, o, none⟩ = false :=
  (hb.frozen (p := ⟨g, o, none⟩) (heap_lt hg)).trans (frozen_of_row _ _ _ _ _ hg)
theorem sign_bd (z : Int) : -1 ≤ Int.sign z ∧ Int.sign z ≤ 1 := by
  rcases Int.lt_trichotomy z 0 with h | h | h
  · rw [Int.sign_eq_neg_one_of_neg h]; omega
  · subst h; decide
  · rw [Int.sign_eq_one_of_pos h]; omega
theorem sign_three (z : Int) : (z < 0 ∧ Int.sign z = -1) ∨ (z = 0 ∧ Int.sign z = 0) ∨ (0 < z ∧ Int.sign z = 1) := by
  rcases Int.lt_trichotomy z 0 with h | h | h
  · exact .inl ⟨h, Int.sign_eq_neg_one_of_neg h⟩
  · subst h; exact .inr (.inl ⟨rfl, rfl⟩)
  · exact .inr (.inr ⟨h, Int.sign_eq_one_of_pos h⟩)
theorem cmpi_three (x y : Nat) : (x < y ∧ cmpi x y = -1) ∨ (x = y ∧ cmpi x y = 0) ∨ (y < x ∧ cmpi x y = 1) := by
  rcases Nat.lt_trichotomy x y with h | h | h
  · exact .inl ⟨h, cmpi_lt h⟩
  · exact .inr (.inl ⟨h, cmpi_eq h⟩)
  · exact .inr (.inr ⟨h, cmpi_gt h⟩)
end Go.Proofs.YtdmfapgclppmhaaGreatDoor
end
section
namespace Go.Proofs.YtdmfapgclppmhaaGreatDoor
open Go.RowKit
section
variable {P : Program} {ops : Array Oper} {Q : Exit → Act → World → Prop} {md : Region.Mode}
def waitsT (md : Region.Mode) (ops : Array Oper) : Nat → Nat → Nat → Bool
  | 0, _, _ => false
  | f + 1, i, k => waitsB md ops i k || (List.range ops.size).any fun m => waitsB md ops i m && waitsT md ops f m k
def Down (md : Region.Mode) (ops : Array Oper) (l : Array Bool) : Prop := ∀ j, l.getD j false = true → ∀ k, waitsB md ops j k = true → l.getD k false = true
theorem Down.set {l : Array Bool} (h : Down md ops l) {i : Nat} (hi : i ∈ Region.ready md ops l) : Down md ops (l.setIfInBounds i true) := by
  intro j hj k hk
  by_cases hji : i = j
  · subst hji; exact getD_set_true (waits_spec hk hi)
  · rw [getD_set_ne false hji] at hj; exact getD_set_true (h j hj k hk)
theorem Down.through {l : Array Bool} (h : Down md ops l) : ∀ (f j k : Nat), l.getD j false = true → waitsT md ops f j k = true → l.getD k false = true
  | 0, _, _, _, hw => by cases hw
  | f + 1, j, k, hj, hw => by
    simp only [waitsT, Bool.or_eq_true, List.any_eq_true, Bool.and_eq_true] at hw
    rcases hw with hw | ⟨m, _, h1, h2⟩
    · exact h j hj k hw
    · exact h.through f m k (h j hj m h1) h2
theorem Down.ready {l : Array Bool} (h : Down md ops l) {f i k : Nat} (hi : i ∈ Region.ready md ops l) (hw : waitsT md ops f i k = true) : l.getD k false = true := by
  cases f with
  | zero => cases hw
  | succ f =>
    simp only [waitsT, Bool.or_eq_true, List.any_eq_true, Bool.and_eq_true] at hw
    rcases hw with hw | ⟨m, _, h1, h2⟩
    · exact waits_spec hw hi
    · exact h.through f m k (waits_spec h1 hi) h2
def tailB (md : Region.Mode) (ops : Array Oper) (n0 : Nat) : Bool := (List.range ops.size).all fun i => decide (i < n0) || (List.range i).all fun k => waitsT md ops ops.size i k
def tails (m : Nat) : Nat → List Nat
  | 0 => []
  | n + 1 => m :: tails (m + 1) n
theorem wpAny_phase {n0 : Nat} (I : Array Bool → Act → World → Prop) (hn : n0 ≤ ops.size) (hb : backB md ops = true) (ht : tailB md ops n0 = true)
    (step : ∀ l a w i, I l a w → l.size = ops.size → i < n0 → i ∈ Region.ready md ops l → wpOp P ops Q i (fun a' w' => I (l.setIfInBounds i true) a' w') a w)
    (fin : ∀ l a w, I l a w → l.size = ops.size → (∀ i, i < n0 → l.getD i false = true) → wpOps P ops Q (tails n0 (ops.size - n0)) a w) {a : Act} {w : World}
    (h : I (Array.replicate ops.size false) a w) : wpAny P md ops Q ops.size (Array.replicate ops.size false) a w := by
  have z : ∀ j, (Array.replicate ops.size false).getD j false = false := by intro j; simp [Array.getElem?_replicate]; split <;> rfl
  have hwt : ∀ i, n0 ≤ i → i < ops.size → ∀ k, k < i → waitsT md ops ops.size i k = true := by
    intro i h1 h2 k hk
    simp only [tailB, List.all_eq_true, List.mem_range, Bool.or_eq_true, decide_eq_true_eq] at ht
    rcases ht i h2 with h3 | h3
    · omega
    · exact h3 k hk
  refine wpAny_inv (fun l a w => l.size = ops.size ∧ Down md ops l ∧ (((∀ k, n0 ≤ k → l.getD k false = false) ∧ I l a w) ∨ ∃ m, n0 ≤ m ∧ m ≤ ops.size ∧ (∀ k, k < m → l.getD k false = true) ∧ (∀ k, m ≤ k → l.getD k false = false) ∧ wpOps P ops Q (tails m (ops.size - m)) a w)) ?_ ?_ _ _ _ _ ⟨by simp, fun j hj => absurd hj (by rw [z]; simp), .inl ⟨fun k _ => z k, h⟩⟩ (by simp [still])
  · rintro l a w i ⟨hl, hd, hor⟩ hi
    have hiu := (mem_ready.1 hi).1
    have hin : i < ops.size := by
      rcases Nat.lt_or_ge i l.size with h' | h'
      · omega
      · simp [Array.getElem?_eq_none h'] at hiu
    have hif : l.getD i false = false := by
      have : i < l.size := by omega
      simp [this] at hiu ⊢; exact hiu
    have sz : ∀ j, (l.setIfInBounds i true).getD j false = (if i = j then true else l.getD j false) := fun j => getD_set l i j (by omega)
    have key : ∀ m, n0 ≤ m → m ≤ ops.size → (∀ k, k < m → l.getD k false = true) → (∀ k, m ≤ k → l.getD k false = false) → wpOps P ops Q (tails m (ops.size - m)) a w → i = m ∧ wpOp P ops Q i (fun a' w' => wpOps P ops Q (tails (m + 1) (ops.size - (m + 1))) a' w') a w := by
      intro m h1 h2 h3 h4 h5
      have him : i = m := by
        rcases Nat.lt_trichotomy i m with h6 | h6 | h6
        · rw [h3 i h6] at hif; cases hif
        · exact h6
        · have := hd.ready hi (hwt i (by omega) hin m h6)
          rw [h4 m (Nat.le_refl _)] at this; cases this
      subst him
      refine ⟨rfl, ?_⟩
      have e : ops.size - i = (ops.size - (i + 1)) + 1 := by omega
      rw [e] at h5
      simp only [tails, wpOps_cons] at h5
      exact h5
    have fin2 : ∀ m, n0 ≤ m → m ≤ ops.size → (∀ k, k < m → l.getD k false = true) → (∀ k, m ≤ k → l.getD k false = false) → wpOps P ops Q (tails m (ops.size - m)) a w → wpOp P ops Q i (fun a' w' => (l.setIfInBounds i true).size = ops.size ∧ Down md ops (l.setIfInBounds i true) ∧ (((∀ k, n0 ≤ k → (l.setIfInBounds i true).getD k false = false) ∧ I (l.setIfInBounds i true) a' w') ∨ ∃ m, n0 ≤ m ∧ m ≤ ops.size ∧ (∀ k, k < m → (l.setIfInBounds i true).getD k false = true) ∧ (∀ k, m ≤ k → (l.setIfInBounds i true).getD k false = false) ∧ wpOps P ops Q (tails m (ops.size - m)) a' w')) a w := by
      intro m h1 h2 h3 h4 h5
      obtain ⟨rfl, h6⟩ := key m h1 h2 h3 h4 h5
      refine wpOp_mono (fun a' w' h7 => ⟨by simpa using hl, hd.set hi, .inr ⟨i + 1, by omega, hin, fun k hk => ?_, fun k hk => ?_, h7⟩⟩) h6
      · rw [sz]; split
        · rfl
        · exact h3 k (by omega)
      · rw [sz, if_neg (by omega)]; exact h4 k (by omega)
    rcases hor with ⟨hno, hI⟩ | ⟨m, h1, h2, h3, h4, h5⟩
    · rcases Nat.lt_or_ge i n0 with hlt | hge
      · refine wpOp_mono (fun a' w' h7 => ⟨by simpa using hl, hd.set hi, .inl ⟨fun k hk => ?_, h7⟩⟩) (step l a w i hI hl hlt hi)
        rw [sz, if_neg (by omega)]; exact hno k hk
      · have h3 : ∀ k, k < n0 → l.getD k false = true := fun k hk => hd.ready hi (hwt i hge hin k (by omega))
        exact fin2 n0 (Nat.le_refl _) hn h3 hno (fin l a w hI hl h3)
    · exact fin2 m h1 h2 h3 h4 h5
  · rintro l a w ⟨hl, hd, hor⟩ hr
    have hall := all_of_back hb hl hr
    rcases hor with ⟨hno, hI⟩ | ⟨m, h1, h2, h3, h4, h5⟩
    · have hnn : n0 = ops.size := by
        rcases Nat.lt_or_ge n0 ops.size with h' | h'
        · have := hall n0 h'; rw [hno n0 (Nat.le_refl _)] at this; cases this
        · omega
      have := fin l a w hI hl (fun i hi => hall i (by omega))
      rw [hnn, Nat.sub_self] at this
      simpa [tails, wpOps] using this
    · have hnn : m = ops.size := by
        rcases Nat.lt_or_ge m ops.size with h' | h'
        · have := hall m h'; rw [h4 m (Nat.le_refl _)] at this; cases this
        · omega
      rw [hnn, Nat.sub_self] at h5
      simpa [tails, wpOps] using h5
theorem Fr6.fold {D : List Tmp} {a0 a : Act} (h : Fr6 D a0 a) (hin : (D.all fun t => decide (t < a0.tmps.size)) = true) : a = D.foldl (fun b t => b.put (some t) (a.tmps.getD t undef)) a0 := by
  have key : ∀ (D : List Tmp) (b : Act), (D.all fun t => decide (t < b.tmps.size)) = true → b.defers = a.defers → b.tmps.size = a.tmps.size → (∀ j, j ∉ D → a.tmps.getD j undef = b.tmps.getD j undef) → a = D.foldl (fun b t => b.put (some t) (a.tmps.getD t undef)) b := by
    intro D
    induction D with
    | nil => intro b _ h1 h2 h3; exact act_ext h1.symm h2.symm (fun j => h3 j (by simp))
    | cons t D ih =>
      intro b h0 h1 h2 h3
      simp only [List.all_cons, Bool.and_eq_true, decide_eq_true_eq] at h0
      rw [List.foldl_cons]
      refine ih _ ?_ (by rw [put_defers]; exact h1) (by rw [put_size]; exact h2) (fun j hj => ?_)
      · rw [List.all_eq_true] at h0 ⊢
        intro x hx; rw [put_size]; exact h0.2 x hx
      · exact put_at j h0.1 rfl (fun hne => h3 j (by simp [hne, hj]))
  exact key D a0 hin h.1.symm h.2.1.symm h.2.2
theorem wp_operands {id : Nat} {a0 : Act} {W : World} (hm : P.follows .mixedOrders = true) (n0 : Nat) (D : List Tmp) (R : Nat → Value → World → Prop) (al : Nat → Bool)
    (hn : n0 ≤ ops.size) (hD : D.length = n0) (hb : backB .any ops = true) (ht : tailB .any ops n0 = true) (hnd : D.Nodup) (hin : (D.all fun t => decide (t < a0.tmps.size)) = true)
    (st : ∀ i u w w', i < n0 → R i u w → Below w.heap.size w w' → R i u w')
    (hal : ∀ i u w, al i = true → R i u w → ∃ g, u = .pointer (some ⟨g, 0, none⟩) ∧ g < w.heap.size)
    (step : ∀ i a w K, i < n0 → Fr6 D a0 a → Below W.heap.size W w → (∀ k, waitsB .any ops i k = true → R k (a.tmps.getD (D.getD k 0) undef) w) →
      (∀ u w', R i u w' → Below w.heap.size w w' → (al i = true → u = .pointer (some ⟨w.heap.size, 0, none⟩)) → K (a.put (some (D.getD i 0)) u) w') → wpOp P ops Q i K a w)
    (fin : ∀ a w, Fr6 D a0 a → Below W.heap.size W w → (∀ i, i < n0 → R i (a.tmps.getD (D.getD i 0) undef) w) → (∀ i j, i < n0 → j < n0 → i ≠ j → al i = true → al j = true → a.tmps.getD (D.getD i 0) undef ≠ a.tmps.getD (D.getD j 0) undef) →
      wpOps P ops Q (tails n0 (ops.size - n0)) a w) : (Code.region id ops true).wp P Q a0 W := by
  have hmem : ∀ i, i < n0 → D.getD i 0 ∈ D := fun i hi => by rw [List.getD_eq_getElem?_getD, List.getElem?_eq_getElem (by omega)]; exact List.getElem_mem _
  have hlt : ∀ i, i < n0 → D.getD i 0 < a0.tmps.size := fun i hi => by
    rw [List.all_eq_true] at hin
    simpa using hin _ (hmem i hi)
  have hne : ∀ i j, i < n0 → j < n0 → i ≠ j → D.getD i 0 ≠ D.getD j 0 := fun i j hi hj h e => by
    rw [List.getD_eq_getElem?_getD, List.getD_eq_getElem?_getD, List.getElem?_eq_getElem (by omega), List.getElem?_eq_getElem (by omega)] at e
    exact h ((List.getElem_inj hnd).1 (by simpa using e))
  have hwk : ∀ l : Array Bool, l.size = ops.size → ∀ i k, i ∈ Region.ready .any ops l → waitsB .any ops i k = true → i < n0 → k < n0 := by
    intro l hl i k hi hk hi0
    have hlt : i < ops.size := by omega
    simp only [backB, List.all_eq_true, List.mem_range] at hb
    have h1 := hb i hlt
    simp only [Array.getElem?_eq_getElem hlt, Option.map_some, Option.getD_some, Array.all_eq_true_iff_forall_mem] at h1
    simp only [waitsB, Array.getElem?_eq_getElem hlt, Option.map_some, Option.getD_some, Array.any_eq_true'] at hk
    obtain ⟨e, he, h2⟩ := hk
    simp only [Bool.and_eq_true, beq_iff_eq] at h2
    have h3 := h1 e he
    simp only [h2.1, Bool.not_true, Bool.false_or, decide_eq_true_eq] at h3
    omega
  have z : ∀ j, (Array.replicate ops.size false).getD j false = false := by intro j; simp [Array.getElem?_replicate]; split <;> rfl
  refine wp_region_any hm (wpAny_phase (fun l a w => Fr6 D a0 a ∧ Below W.heap.size W w ∧ (∀ i, i < n0 → l.getD i false = true → R i (a.tmps.getD (D.getD i 0) undef) w) ∧
    (∀ i j, i < n0 → j < n0 → i ≠ j → l.getD i false = true → l.getD j false = true → al i = true → al j = true → a.tmps.getD (D.getD i 0) undef ≠ a.tmps.getD (D.getD j 0) undef)) hn hb ht ?_ ?_ ⟨⟨rfl, rfl, fun _ _ => rfl⟩, ⟨rfl, rfl, rfl, Nat.le_refl _, fun _ _ => rfl⟩, fun i _ hi => absurd hi (by rw [z]; simp), fun i j _ _ _ hi => absurd hi (by rw [z]; simp)⟩)
  · rintro l a w i ⟨hF, hbw, hR, hA⟩ hl hi0 hi
    have sz : ∀ j, (l.setIfInBounds i true).getD j false = (if i = j then true else l.getD j false) := fun j => getD_set l i j (by omega)
    have ps : a.tmps.size = a0.tmps.size := hF.2.1
    refine step i a w _ hi0 hF hbw (fun k hk => hR k (hwk l hl i k hi hk hi0) (waits_spec hk hi)) (fun u w' hu hbb hua => ⟨hF.put (hmem i hi0) _, hbw.trans (hbb.mono hbw.size), fun j hj hjl => ?_, fun j k hj hk hjk hjl hkl haj hak => ?_⟩)
    · by_cases hij : i = j
      · subst hij; rw [put_same _ _ _ (by rw [ps]; exact hlt i hi0)]; exact hu
      · rw [sz, if_neg hij] at hjl
        rw [put_other _ _ _ _ (hne i j hi0 hj hij)]
        exact st j _ _ _ hj (hR j hj hjl) hbb
    · by_cases hij : i = j
      · subst hij
        rw [put_same _ _ _ (by rw [ps]; exact hlt i hi0), put_other _ _ _ _ (hne i k hi0 hk hjk)]
        rw [sz, if_neg hjk] at hkl
        obtain ⟨g, e, hg⟩ := hal k _ _ hak (hR k hk hkl)
        rw [e, hua haj]; intro e2; injection e2 with e2; injection e2 with e2; injection e2 with e2; omega
      · rw [sz, if_neg hij] at hjl
        rw [put_other _ _ _ _ (hne i j hi0 hj hij)]
        by_cases hik : i = k
        · subst hik
          rw [put_same _ _ _ (by rw [ps]; exact hlt i hi0)]
          obtain ⟨g, e, hg⟩ := hal j _ _ haj (hR j hj hjl)
          rw [e, hua hak]; intro e2; injection e2 with e2; injection e2 with e2; injection e2 with e2; omega
        · rw [sz, if_neg hik] at hkl
          rw [put_other _ _ _ _ (hne i k hi0 hk hik)]
          exact hA j k hj hk hjk hjl hkl haj hak
  · rintro l a w ⟨hF, hbw, hR, hA⟩ _ hall
    exact fin a w hF hbw (fun i hi => hR i hi (hall i hi)) (fun i j hi hj hij h1 h2 => hA i j hi hj hij (hall i hi) (hall j hj) h1 h2)
end
end Go.Proofs.YtdmfapgclppmhaaGreatDoor
end
section
namespace Go.Proofs.YtdmfapgclppmhaaGreatDoor
theorem kn_past {f s t r d x : Nat} (hs : s < 4294967296) (htop : t < (f + 1) * 4294967296) (ht : d * f + r = t) (hr : 4294967296 ≤ r) : d < 4294967296 ∧ d * s ≤ r * 4294967296 + x := by
  have h1 : d * f < f * 4294967296 := by rw [Nat.add_mul] at htop; omega
  have h2 : d < 4294967296 := by rw [Nat.mul_comm f] at h1; exact Nat.lt_of_mul_lt_mul_right h1
  refine ⟨h2, ?_⟩
  have h3 : d * s ≤ 4294967296 * 4294967296 := Nat.mul_le_mul (by omega) (by omega)
  have h4 : 4294967296 * 4294967296 ≤ r * 4294967296 := Nat.mul_le_mul_right _ hr
  omega
theorem between {a b p t : Nat} (h : b < p) (e : a = b + p * t) : t * p ≤ a ∧ a < (t + 1) * p := by
  rw [Nat.mul_comm p] at e; rw [Nat.add_mul]; omega
end Go.Proofs.YtdmfapgclppmhaaGreatDoor
end
section
namespace Go.Proofs.YtdmfapgclppmhaaGreatDoor
open Go.RowKit
theorem val_split (xs : List Nat) {k : Nat} (h : k ≤ xs.length) : val xs = val (xs.take k) + 4294967296 ^ k * val (xs.drop k) := by
  conv => lhs; rw [← List.take_append_drop k xs, val_append, List.length_take, Nat.min_eq_left h]
theorem drop_zero {xs : List Nat} {k : Nat} (hk : k ≤ xs.length) (h : val xs < 4294967296 ^ k) : val (xs.drop k) = 0 := by
  rcases Nat.eq_zero_or_pos (val (xs.drop k)) with h0 | h0
  · exact h0
  · exfalso
    have := val_split xs hk
    have := Nat.le_mul_of_pos_right (4294967296 ^ k) h0
    omega
theorem val_set_zero : ∀ (xs : List Nat) (j d : Nat), j < xs.length → xs[j]?.getD 0 = 0 → val (xs.set j d) = val xs + 4294967296 ^ j * d := by
  intro xs
  induction xs with
  | nil => intro j d h; simp at h
  | cons x r ih =>
    intro j d h h0
    rcases j with _ | j
    · simp at h0; subst h0; simp [val]; omega
    · have := ih j d (by simpa using h) (by simpa using h0)
      simp only [List.set_cons_succ, val, this, Nat.pow_succ]
      rw [Nat.mul_add, Nat.mul_right_comm, Nat.mul_comm _ 4294967296]; omega
def Rest (g : Nat) (w w' : World) : Prop := w'.heap.size = w.heap.size ∧ ∀ b, b ≠ g → w'.heap[b]? = w.heap[b]?
theorem Rest.refl (g : Nat) (w : World) : Rest g w w := ⟨rfl, fun _ _ => rfl⟩
theorem Rest.set_ {g : Nat} {w w' : World} (h : Rest g w w') (i : Nat) (v : Value) : Rest g w (w'.setCell ⟨g, i, none⟩ v) := by
  refine ⟨by rw [← h.1]; simp [World.setCell], fun b hb => ?_⟩
  rw [← h.2 b hb]
  simp [World.setCell, Array.getElem?_modify]
  intro e; exact absurd e.symm hb
theorem Rest.drewN {g : Nat} {w w' : World} (h : Rest g w w') (n : Nat) : Rest g w (w'.drewN n) := h
theorem Rest.row {g q : Nat} {w w' : World} {ys : List Nat} (h : Rest g w w') (hr : Row w q ys) (hq : q ≠ g) : Row w' q ys := (h.2 q hq).trans hr
structure Gs (f s t x l : Nat) : Prop where
  hf : 2147483648 ≤ f
  hf' : f < 4294967296
  hs : s < 4294967296
  hx : x < 4294967296
  ht : t < (f + 1) * 4294967296
  hl : l < 4294967296
  start : l ≤ t / f
  down : ∀ d r, d * f + r = t → r * 4294967296 + x < d * s → l + 1 ≤ d
  near : ∀ d r, d * f + r = t → d < 4294967296 → d * s ≤ r * 4294967296 + x → d ≤ l + 1
theorem Gs.small {f s t x l : Nat} (h : Gs f s t x l) {d r : Nat} (e : d * f + r = t) : d < 8589934592 := by
  have h1 := h.ht
  have h2 := Nat.mul_le_mul_left d h.hf
  have h3 := h.hf'
  have h4 : d * 2147483648 ≤ t := by omega
  have h5 := Nat.mul_lt_mul_of_pos_right (show f + 1 < 4294967298 by omega) (show 0 < 4294967296 by omega)
  omega
theorem Gs.fin {f s t x l : Nat} (h : Gs f s t x l) {d r : Nat} (e : d * f + r = t) (hl : l ≤ d) (hd : 4294967296 ≤ r ∨ (d < 4294967296 ∧ d * s ≤ r * 4294967296 + x)) : d < 4294967296 ∧ l ≤ d ∧ d ≤ l + 1 := by
  rcases hd with hd | ⟨h1, h2⟩
  · obtain ⟨h1, h2⟩ := kn_past (x := x) h.hs h.ht e hd
    exact ⟨h1, hl, h.near d r e h1 h2⟩
  · exact ⟨h1, hl, h.near d r e h1 h2⟩
structure Dv (M v K N k : Nat) (zs qs : List Nat) : Prop where
  zl : zs.length = N + 1
  ql : qs.length = K + 1
  zo : ok32 zs
  qo : ok32 qs
  eq : M = val zs + v * val qs
  lt : val zs < v * 4294967296 ^ k
  zero : ∀ i, i < k → qs[i]?.getD 0 = 0
theorem Dv.row {M v K N k n : Nat} {zs qs : List Nat} (h : Dv M v K N (k + 1) zs qs) (hv : v < 4294967296 ^ n) : val zs < 4294967296 ^ (k + (n + 1)) := by
  have h1 := h.lt
  have h2 : v * 4294967296 ^ (k + 1) ≤ 4294967296 ^ n * 4294967296 ^ (k + 1) := Nat.mul_le_mul_right _ (by omega)
  rw [← Nat.pow_add, show n + (k + 1) = k + (n + 1) by omega] at h2
  omega
theorem Dv.next {M v K N k : Nat} {zs qs zs' : List Nat} (h : Dv M v K N (k + 1) zs qs) (hk : k < K + 1) {l : Nat} (hl : l < 4294967296) (e : val zs' = val zs - 4294967296 ^ k * (v * l)) (hle : 4294967296 ^ k * (v * l) ≤ val zs) (hlt : val zs - 4294967296 ^ k * (v * l) < v * 4294967296 ^ k) (zl : zs'.length = N + 1) (zo : ok32 zs') :
    Dv M v K N k zs' (qs.set k l) := by
  refine ⟨zl, by rw [List.length_set]; exact h.ql, zo, ok_set h.qo hl _, ?_, by rw [e]; exact hlt, fun i hi => by rw [get_set_other (by omega)]; exact h.zero i (by omega)⟩
  rw [val_set_zero _ _ _ (by rw [h.ql]; exact hk) (h.zero k (by omega)), e, h.eq, Nat.mul_add]
  have e1 : v * (4294967296 ^ k * l) = 4294967296 ^ k * (v * l) := by rw [Nat.mul_left_comm]
  rw [e1]
  omega
theorem Row.other {w : World} {g q : Nat} {ys : List Nat} (h : Row w g ys) (hg : g ≠ q) (i : Nat) (v : Value) : Row (w.setCell ⟨q, i, none⟩ v) g ys := ((Rest.refl q w).set_ i v).row h hg
end Go.Proofs.YtdmfapgclppmhaaGreatDoor
end
section
namespace Go.Proofs.YtdmfapgclppmhaaGreatDoor
open Go.RowKit
section
variable {w0 w w' : World} {L : List (Option Addr × Nat × List Nat)} {A B : Option Addr} {c d n m : Nat} {xs ys : List Nat} {x y : Nat}
end
end Go.Proofs.YtdmfapgclppmhaaGreatDoor
end
section
namespace Go.Proofs.YtdmfapgclppmhaaGreatDoor
open Go.RowKit
theorem cells_of {w : World} {g : Nat} {cs : Array Value} {t : TypeId} {fr : Nat × Nat} (hg : w.heap[g]? = some (.cells cs t fr)) {w' : World} (hb : Below w.heap.size w w') : w'.heap[g]? = some (.cells cs t fr) := (hb.block g (heap_lt hg)).trans hg
theorem off_old {w : World} {A : Option Addr} {c g : Nat} {xs : List Nat} (h : Dg w A c xs) (hg : w.heap.size ≤ g) : Off g A xs := by
  intro h0 o e
  obtain ⟨b, off, e', hb, _⟩ := h.2.2 h0
  rw [e] at e'
  simp only [Option.some.injEq, Addr.mk.injEq, and_true] at e'
  omega
theorem Dg.short {w : World} {A : Option Addr} {c : Nat} {xs : List Nat} (h : Dg w A c xs) : Dg w A xs.length xs := ⟨Nat.le_refl _, h.2.1, h.2.2⟩
theorem noint3 {A : Option Addr} {n c : Nat} {b : Bool} {x : Int} : ∀ (o : Nat) (m : Int), (#[Value.bool b, .slice A n c, .int .i64 x])[o]? ≠ some (.int .u32 m) := by
  intro o m; rcases o with _ | _ | _ | o <;> simp
theorem none_any (g : Nat) (k : Int) (w : World) (hc : w.cell? ⟨g, 0, none⟩ = some (.int .i64 k)) (hg : g < w.heap.size) :
    Calls Tryz.prog 76 #[.pointer (some ⟨g, 0, none⟩)] w fun e w' => e = .returned (.tuple #[.agg #[.bool false, .slice none 0 0, .int .i64 0], .int .i64 k]) ∧ Below w.heap.size w w' := by
  go_enter Tryz.func76, Tryz.ntmps76
  go_wp2
  go_region
  all_goals go_wp2
  all_goals
    refine bodyPost_ret (v := .tuple #[.agg #[.bool false, .slice none 0 0, .int .i64 0], .int .i64 k]) (by simp [results, Tryz.results76, go_sem]) rfl ⟨rfl, ?_⟩
    exact below_drew (below1 _ _)
theorem answer_yes (g : Nat) (A : Option Addr) (c : Nat) (s : Bool) (m x : Int) (w : World) (hc : w.cell? ⟨g, 0, none⟩ = some (.int .i64 0)) (hg : g < w.heap.size) (h : Dg w A c (digs m.natAbs)) (hl : (digs m.natAbs).length ≤ 1000000) (hq : inR m x = true) :
    Calls Tryz.prog 78 #[.pointer (some ⟨g, 0, none⟩), .agg #[.bool s, .slice A (digs m.natAbs).length c, .int .i64 x]] w fun e w' =>
      e = .returned (.tuple #[.agg #[.bool s, .slice A (digs m.natAbs).length (digs m.natAbs).length, .int .i64 x], .int .i64 0]) ∧ Dg w' A (digs m.natAbs).length (digs m.natAbs) ∧ Below w.heap.size w w' := by
  have HI := qH (fun W (hW : Dg W A c (digs m.natAbs)) => inRange_any A c s m x W hW true hq hl)
  have HO1 := qH (off_old h (Nat.le_refl _))
  have HO2 := qH (off_old h (Nat.le_succ _))
  generalize digs m.natAbs = xs at *
  have hxc := h.1
  clear hq hl
  go_enter Tryz.func78, Tryz.ntmps78
  go_wp2_with fail
  obtain ⟨W, hW⟩ : ∃ W : World, W = ((w.alloc (.cells #[.bool s, .slice A xs.length c, .int .i64 x] 26)).alloc (.cells #[.bool false, .slice none 0 0, .int .i64 0] 26)) := ⟨_, rfl⟩
  rw [← hW]
  have HB0 := qH (show Below w.heap.size w W by rw [hW]; exact below2 w _ _)
  have HR1 := qH (show W.heap[w.heap.size]? = some (.cells #[.bool s, .slice A xs.length c, .int .i64 x] 26 (0, 0)) by rw [hW]; exact heap_alloc2_old _ _ _)
  have HR2 := qH (show W.heap[w.heap.size + 1]? = some (.cells #[.bool false, .slice none 0 0, .int .i64 0] 26 (0, 0)) by rw [hW]; exact heap_alloc2_new _ _ _)
  have hsz : w.heap.size + 2 = W.heap.size := by rw [hW]; simp
  have HZ := qH hsz
  have hg1 : g < W.heap.size := by omega
  have hgc := qH ((HB0.out.cell (p := ⟨g, 0, none⟩) hg).trans hc)
  have TN := qH (fun V (hV : Below W.heap.size W V) => tell_no g 0 4 false V ((hV.cell (p := ⟨g, 0, none⟩) hg1).trans hgc.out) (.inl rfl))
  have FN := qH (fun V (hV : Below W.heap.size W V) => fails_any g 0 false V ((hV.cell (p := ⟨g, 0, none⟩) hg1).trans hgc.out) rfl)
  have H1 := qH (h.below HB0.out)
  have f0 := cell_of_row W _ 0 _ _ _ HR1.out
  have f1 := cell_of_row W _ 1 _ _ _ HR1.out
  have f2 := cell_of_row W _ 2 _ _ _ HR1.out
  simp only [gAy, gZy, gSy] at f0 f1 f2
  have s1 : w.heap.size < W.heap.size := by omega
  have s2 : w.heap.size + 1 < W.heap.size := by omega
  clear hW hsz hc hg h
  have KD := qH (bd0 W)
  go_region_held3 (fun w' => ∀ b o, b < W.heap.size → w'.cell? ⟨b, o, none⟩ = W.cell? ⟨b, o, none⟩)
    (first | with_reducible exact (bcell KD.out).1 | with_reducible exact (bcell K1.out).1)
    (first
      | (go_at_call 61; (with_reducible refine (HI.out _ (H1.out.below KD.out)).mono ?_); rintro e w1 ⟨rfl, hb⟩; (have K1 := qH (KD.out.trans (hb.mono KD.out.size))); clear hb)
      | (go_at_call 60; (with_reducible refine (TN.out _ K1.out).mono ?_); rintro e w2 ⟨rfl, rfl⟩))
  rename_i hHeld
  clear f0 f1 f2 hHeld
  go_wp2_with fail
  refine (FN.out _ K1.out).mono ?_
  rintro e w2 ⟨rfl, rfl⟩
  have R1 := qH (cells_of HR1.out K1.out)
  have R2 := qH (cells_of HR2.out K1.out)
  have f0 := cell_of_row w1 _ 0 _ _ _ R1.out
  have f1 := cell_of_row w1 _ 1 _ _ _ R1.out
  have f2 := cell_of_row w1 _ 2 _ _ _ R1.out
  have z0 := frozen_of_row w1 _ 0 _ _ R1.out
  have z1 := frozen_of_row w1 _ 1 _ _ R1.out
  have z2 := frozen_of_row w1 _ 2 _ _ R1.out
  have r0 := cell_of_row w1 _ 0 _ _ _ R2.out
  have r1 := cell_of_row w1 _ 1 _ _ _ R2.out
  have r2 := cell_of_row w1 _ 2 _ _ _ R2.out
  have y0 := frozen_of_row w1 _ 0 _ _ R2.out
  have y1 := frozen_of_row w1 _ 1 _ _ R2.out
  have y2 := frozen_of_row w1 _ 2 _ _ R2.out
  simp only [gAy, gZy, gSy] at f0 f1 f2 r0 r1 r2
  go_wp2_with fail
  refine (clip_any A xs.length c hxc _).mono ?_
  rintro e w2 ⟨rfl, rfl⟩
  go_wp2
  refine bodyPost_ret (v := .tuple #[.agg #[.bool s, .slice A xs.length xs.length, .int .i64 x], .int .i64 0]) (by simp [results, Tryz.results78, go_sem, f0, f1, f2, r0, r1, r2]) rfl ⟨rfl, ?_, ?_⟩
  · exact ((((((H1.out.below K1.out).short).set_off HO1.out _ _).set_off HO2.out _ _).set_off HO2.out _ _).set_off HO2.out _ _)
  · exact (((((HB0.out.trans (K1.out.mono HB0.out.size)).setCell (by simp) _).setCell (by simp) _).setCell (by simp) _).setCell (by simp) _)
def wrong (R : Nat → Bool) : Nat → Int
  | 0 => 0
  | k + 1 => if R k = false ∧ wrong R k = 0 then 1 else wrong R k
def DyRow (w : World) (b n : Nat) (S : Nat → Bool) (A : Nat → Option Addr) (C : Nat → Nat) (X : Nat → List Nat) (E : Nat → Int) : Prop :=
  ∀ i, i < n → w.cell? ⟨b, i * 3, none⟩ = some (.bool (S i)) ∧ w.cell? ⟨b, i * 3 + 1, none⟩ = some (.slice (A i) (X i).length (C i)) ∧ w.cell? ⟨b, i * 3 + 2, none⟩ = some (.int .i64 (E i)) ∧ Dg w (A i) (C i) (X i)
theorem begin_any (b n c : Nat) (S : Nat → Bool) (A : Nat → Option Addr) (C : Nat → Nat) (X : Nat → List Nat) (E : Nat → Int) (R : Nat → Bool) (w : World) (hb : b < w.heap.size) (hrow : DyRow w b n S A C X E) (hR : ∀ i, i < n → dyR (S i) (X i) (E i) = R i) (hX : ∀ i, i < n → (X i).length ≤ 9223372036854775807) (hn : n ≤ 16) (hc : n ≤ c) :
    Calls Tryz.prog 59 #[.slice (some ⟨b, 0, none⟩) n c] w fun e w' => e = .returned (.agg #[.int .i64 (wrong R n)]) ∧ Below w.heap.size w w' := by
  have H := qH hrow
  have HR := qH hR
  have HX := qH hX
  have HC := qH hc
  clear hrow hR hX hc
  go_enter Tryz.func59, Tryz.ntmps59
  go_wp2
  go_loopw [8] (fun i wr => ∃ k : Nat, k ≤ n ∧ i = .int .i64 k ∧ Hid (Below w.heap.size w wr) ∧ Hid (wr.heap[w.heap.size]? = some (.cells #[.int .i64 0] 103 (0, 0))) ∧ Hid (wr.heap[w.heap.size + 1]? = some (.cells #[.int .i64 (wrong R k)] 103 (0, 0)))) (fun i _ => n - (intOf i).toNat)
  case atStart => exact ⟨0, Nat.zero_le _, rfl, qH (below2 _ _ _), qH (heap_alloc2_old _ _ _), qH (heap_alloc2_new _ _ _)⟩
  case round =>
    obtain ⟨k, hk, rfl, HB, H1, H2⟩ := hrel
    by_cases hlt : k < n
    · obtain ⟨c0, c1, c2, hd⟩ := H.out k hlt
      have g0 := (HB.out.cell (p := ⟨b, k * 3, none⟩) hb).trans c0
      have g1 := (HB.out.cell (p := ⟨b, k * 3 + 1, none⟩) hb).trans c1
      have g2 := (HB.out.cell (p := ⟨b, k * 3 + 2, none⟩) hb).trans c2
      have HD := qH (hd.below HB.out)
      have hsz := heap_lt H2.out
      clear c0 c1 c2 hd
      go_wp2_with fail
      refine (dright_any (A k) (C k) (S k) (X k) (E k) _ (HD.out.below (below1 wr (.cells #[.bool (S k), .slice (A k) (X k).length (C k), .int .i64 (E k)] 26))) (R k) (HR.out k hlt) (HX.out k hlt)).mono ?_
      rintro e w1 ⟨rfl, hb1⟩
      have K1 := qH ((below1 wr (.cells #[.bool (S k), .slice (A k) (X k).length (C k), .int .i64 (E k)] 26)).trans (hb1.mono (by simp)))
      clear hb1 g0 g1 g2
      have H1' := qH (cells_of H1.out K1.out)
      have H2' := qH (cells_of H2.out K1.out)
      have HB1 := qH (HB.out.trans (K1.out.mono HB.out.size))
      have r0 := cell_of_row w1 _ 0 _ _ _ H2'.out
      have z0 := frozen_of_row w1 _ 0 _ _ H2'.out
      simp only [gAy, gZy] at r0
      by_cases hw : R k = false ∧ wrong R k = 0
      · have HW := qH (show wrong R (k + 1) = 1 by rw [wrong, if_pos hw])
        rw [hw.2] at r0
        rw [hw.1]
        have TY := qH (tell_yes (w.heap.size + 1) 1 w1 r0 z0)
        clear hw r0 z0
        go_wp2_with fail
        refine TY.out.mono ?_
        rintro e w2 ⟨rfl, rfl⟩
        go_wp2
        go_roundw
        case rel =>
          refine ⟨k + 1, by omega, by go_num, qH (HB1.out.setCell (by simp) _), qH ?_, qH ?_⟩
          · rw [heap_setCell_other _ _ _ _ (by simp)]; exact H1'.out
          · rw [HW.out]; exact heap_setCell_same _ _ 0 _ _ _ H2'.out
        case measure => simp [intOf]; omega
      · have HW := qH (show wrong R (k + 1) = wrong R k by rw [wrong, if_neg hw])
        have TN := qH (tell_no (w.heap.size + 1) (wrong R k) 1 (!R k) w1 r0 (by
          rcases h1 : R k
          · right
            have h2 : ¬ wrong R k = 0 := fun h2 => hw ⟨h1, h2⟩
            simpa using h2
          · left; rfl))
        clear hw r0 z0
        go_wp2_with fail
        refine TN.out.mono ?_
        rintro e w2 ⟨rfl, rfl⟩
        go_wp2
        go_roundw
        case rel =>
          refine ⟨k + 1, by omega, by go_num, HB1, H1', qH ?_⟩
          rw [HW.out]; exact H2'.out
        case measure => simp [intOf]; omega
    · obtain rfl : k = n := by omega
      have f0 := cell_of_row wr _ 0 _ _ _ H1.out
      have r0 := cell_of_row wr _ 0 _ _ _ H2.out
      have z0 := frozen_of_row wr _ 0 _ _ H1.out
      simp only [gAy, gZy, gSy] at f0 r0
      go_wp2
      refine bodyPost_ret (v := .agg #[.int .i64 (wrong R k)]) (by simp [results, Tryz.results59, go_sem, f0]) rfl ⟨rfl, ?_⟩
      exact HB.out.setCell (by simp) _
theorem run_append_nilcap {P : Program} {w : World} (base : Nat) (t ty e : TypeId) (i : TypeInfo) (size c : Nat) (ht : P.underlying t = some (.slice e)) (hi : P.info? e = some i)
    (v : Value) (n : Nat) (xs : List Value) (hown : w.ownsRow base e size v n xs) : (Builtin.append_ #[t, t] ty #[v, .slice none 0 c]).run P w = .ok v w := by
  rcases hown.2 with ⟨rfl, rfl⟩ | ⟨g, cap, cur, rfl, _, _, hnc, _⟩
  · simp [Builtin.append_, run_underlying ht, sizeOf, typeInfo, hi, Builtin.lenOf, Builtin.firstCells]
  · simp [Builtin.append_, run_underlying ht, sizeOf, typeInfo, hi, Builtin.lenOf, Builtin.firstCells, hnc, storeCells]
theorem wpList_append_dg {w : World} {ops : Array Oper} {rest : List Oper} {o : Oper} {a : Act} {Q : Exit → Act → World → Prop} (hgd : o.guard = none) (s x : Operand)
    (ho : o.op = .call { callee := .builtin .append, args := #[s, x], argTypes := #[22, 22] }) (base : Nat) (v : Value) (n : Nat) (zs ys : List Nat) (B : Option Addr) (d m : Nat)
    (hs : a.eval s = v) (hown : w.ownsRow base 67 1 v n (cells zs)) (hD : Dg w B d ys) (hm : m = ys.length) (hx : a.eval x = .slice B m d) (hb : n + m ≤ 1099511627776) (hbase : base ≤ w.heap.size)
    (h : ∀ v' w', w'.ownsRow base 67 1 v' (n + m) (cells (zs ++ ys)) → w.grownBy w' v.ownBlock → wpList Tryz.prog ops Q rest (a.put o.dst v') w') : wpList Tryz.prog ops Q (o :: rest) a w := by
  obtain ⟨i0, hi, hz0, hz1, hz2⟩ := info_parts elem_info
  have ec : cells (zs ++ ys) = cells zs ++ cells ys := by simp [cells]
  subst hm
  rcases B with _ | A
  · have h0 : ys = [] := by
      rcases Nat.eq_zero_or_pos ys.length with h0 | h0
      · exact List.eq_nil_of_length_eq_zero h0
      · obtain ⟨b, off, e, _⟩ := hD.2.2 h0
        cases e
    subst h0
    refine wpList_plain hgd fun K hK => ?_
    have hrun := run_append_nilcap (P := Tryz.prog) (w := w) base 22 o.type 67 i0 1 d Tryz.underlying22 hi v n (cells zs) hown
    unfold Oper.wp
    simp at hx
    simp [execOp, ho, resolve, invoke, builtin, hs, hx, hrun, Result.andThen]
    exact hK _ _ (h v w (by simpa using hown) (World.grownBy.refl _ _))
  · refine wpList_append_own _ hgd s x 22 ho base 67 i0 (.int .u32 0) 1 4 Tryz.underlying22 hi hz0 hz1 hz2 rfl (by decide) v n (cells zs) hs hown A ys.length d (cells ys) hx (by simp [cells]) (fun j u hj => dg_cell hD hj) (fun u hu => ?_) (by unfold maxLen; omega) (by omega) hbase fun v' w' h1 h2 _ => h v' w' (by rw [ec]; exact h1) h2
    unfold cells at hu; obtain ⟨x, _, rfl⟩ := List.mem_map.1 hu; rfl
end Go.Proofs.YtdmfapgclppmhaaGreatDoor
end
