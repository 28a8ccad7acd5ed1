/-
  The reference's own text (astrolaberef01): Sub, Mul.
-/
import Derived.Test.YtceningojnfgpaaRefC
import Derived.Test.YtceningojnfgpaaMul
namespace Go.Proofs.Ytceningojnfgpaa
open Go.RowKit
theorem rsub_step {xs ys zs : List Nat} {k s d c t : Nat} (hz : zs.length = k) (h : val (xs.take k) + 4294967296 ^ k * c = val zs + val (ys.take k))
    (hs : s + ys[k]?.getD 0 + c = xs[k]?.getD 0 + 4294967296 * d) (ht : t = s) : val (xs.take (k + 1)) + 4294967296 ^ (k + 1) * d = val (zs ++ [t]) + val (ys.take (k + 1)) := by
  subst ht
  rw [val_take_step, val_take_step, val_snoc, hz, Nat.pow_succ]
  have : 4294967296 ^ k * (xs[k]?.getD 0) + 4294967296 ^ k * 4294967296 * d = 4294967296 ^ k * t + 4294967296 ^ k * (ys[k]?.getD 0) + 4294967296 ^ k * c := by
    rw [Nat.mul_assoc, ← Nat.mul_add, ← hs, Nat.mul_add, Nat.mul_add]
  omega
theorem rsub_end {xs ys zs : List Nat} {d : Nat} (o1 : ok32 xs) (o2 : ok32 ys) (o3 : ok32 zs) (hz : zs.length = xs.length) (hle : val ys ≤ val xs) (h : val (xs.take xs.length) + 4294967296 ^ xs.length * d = val zs + val (ys.take xs.length)) : val zs = val xs - val ys := by
  have hy : val (ys.take xs.length) = val ys := by
    rw [val_take_mod o2, Nat.mod_eq_of_lt (Nat.lt_of_le_of_lt hle (val_lt o1))]
  rw [List.take_of_length_le (Nat.le_refl _), hy] at h
  exact sub_end h (by rw [← hz]; exact val_lt o3) hle
set_option maxHeartbeats 1000000 in
theorem rsub_no (A B : Option Addr) (c d : Nat) (xs ys : List Nat) (w : World) (h : Dg w A c xs) (h' : Dg w B d ys) (hl : xs.length ≤ 1048576) (hl' : ys.length ≤ 1048576) (hlt : val xs < val ys) :
    Calls Try.prog 34 #[.slice A xs.length c, .slice B ys.length d] w fun e w' => e = .returned (.tuple #[.slice none 0 0, .bool false]) ∧ w = w' := by
  have HC := Lib.hid (rcmp_any A B c d xs ys w h h' (by omega) (by omega))
  rw [cmpi_lt hlt] at HC
  clear h h' hlt
  go_enter Try.func34, Try.ntmps34
  go_wp2_with fail
  refine HC.out.mono ?_
  rintro e w' ⟨rfl, rfl⟩
  go_wp2
  go_ret2
  exact ⟨rfl, rfl⟩
set_option maxHeartbeats 4000000 in
theorem rsub_f (A B : Option Addr) (c d : Nat) (xs ys : List Nat) (w : World) (h : Dg w A c xs) (h' : Dg w B d ys) (hl : xs.length ≤ 1048576) (hl' : ys.length ≤ 1048576) (hge : val ys ≤ val xs) :
    Calls Try.prog 34 #[.slice A xs.length c, .slice B ys.length d] w fun e w' => ∃ A' c', e = .returned (.tuple #[.slice A' (digs (val xs - val ys)).length c', .bool true]) ∧ Dg w' A' c' (digs (val xs - val ys)) ∧ Below w.heap.size w w' ∧ Fr w.heap.size A' := by
  obtain ⟨i0, hinf, hz0, hz1, hz2⟩ := info_parts elem_info
  have HC := Lib.hid (rcmp_any A B c d xs ys w h h' (by omega) (by omega))
  have H := Lib.hid h
  have H' := Lib.hid h'
  have O1 := Lib.hid h.2.1
  have O2 := Lib.hid h'.2.1
  have HG := Lib.hid hge
  have hc0 : 0 ≤ cmpi (val xs) (val ys) := by
    rcases Nat.lt_or_ge (val ys) (val xs) with h | h
    · rw [cmpi_gt h]; omega
    · rw [cmpi_eq (by omega)]; omega
  clear h h' hge
  generalize cmpi (val xs) (val ys) = q at *
  have hq : decide (q < 0) = false := by simp; omega
  go_enter Try.func34, Try.ntmps34
  go_wp2_with fail
  refine HC.out.mono ?_
  rintro e w' ⟨rfl, rfl⟩
  go_wp2
  go_loopw [6, 7, 8] (fun v cy i wr => ∃ (k z : Nat) (zs : List Nat), k ≤ xs.length ∧ i = .int .i64 k ∧ cy = .int .u64 z ∧ z ≤ 1 ∧ wr.ownsRow w.heap.size 37 1 v k (cells zs) ∧ Hid (zs.length = k) ∧ ok32 zs ∧
    Hid (val (xs.take k) + 4294967296 ^ k * z = val zs + val (ys.take k)) ∧ Below w.heap.size w wr) (fun _ _ i _ => xs.length - (intOf i).toNat)
  case atStart => exact ⟨0, 0, [], Nat.zero_le _, rfl, rfl, by omega, World.ownsRow_nil _ _ _ _, by simp [Hid], by intro x hx; simp at hx, by simp [Hid, val], Below.refl _ _⟩
  case round =>
    obtain ⟨k, z, zs, hk, rfl, rfl, hz, hown, HL, hok, HE, hbel⟩ := hrel
    by_cases hlt : k < xs.length
    · have rx := Lib.hid (rat_any A c xs k wr (H.out.keep hbel.size (fun b o h => hbel.cell (p := ⟨b, o, none⟩) h)) (by omega))
      have ry := Lib.hid (rat_any B d ys k wr (H'.out.keep hbel.size (fun b o h => hbel.cell (p := ⟨b, o, none⟩) h)) (by omega))
      have hX := getD_lt O1.out k
      have hY := getD_lt O2.out k
      generalize ex : xs[k]?.getD 0 = x at *
      generalize ey : ys[k]?.getD 0 = y at *
      have HX := Lib.hid ex
      have HY := Lib.hid ey
      clear ex ey
      go_wp2_with fail
      refine rx.out.mono ?_
      rintro e w' ⟨rfl, rfl⟩
      go_wp2_with fail
      refine ry.out.mono ?_
      rintro e w' ⟨rfl, rfl⟩
      go_wp2_with (at_builtin; refine wpList_append_own _ rfl _ _ 22 rfl w.heap.size 37 i0 (.int .u32 0) 1 4 Try.underlying22 hinf hz0 hz1 hz2 rfl (by decide) _ _ _ rfl (hown.alloc _) ⟨wr.heap.size, 0, none⟩ 1 1 [.int .u32 (((x : Int) + 4294967296 - y - z) % 4294967296)] rfl rfl (cell_new _ _ _) (fun u hu => by simp at hu; subst hu; rfl) (by unfold maxLen; omega) (by omega) (by have := hbel.size; simp; omega) ?_)
      intro v' w1 hown1 hgrow hnil
      obtain ⟨hp, hq1, hq2⟩ := sub_parts hX hY hz
      have e1 : ((x : Int) + 4294967296 - y - z) % 4294967296 = (sublo x y z : Nat) := by unfold sublo; omega
      have e2 : 1 - ((x : Int) + 4294967296 - y - z) / 4294967296 = (subhi x y z : Nat) := by unfold subhi; split <;> omega
      have hown2 := Lib.hid (own_snoc hown1 e1)
      have HE2 := Lib.hid e2
      have HP := Lib.hid hp
      have hb1 := Lib.hid ((hbel.alloc hbel.size _).grown hgrow (by simp; have := hbel.size; omega) (fun g hg => (hown.lt g hg).1))
      clear hown1 hgrow hnil hown e1 e2 hp
      go_wp2
      go_roundw
      case rel =>
        exact ⟨k + 1, subhi x y z, zs ++ [sublo x y z], hlt, by go_num, by rw [HE2.out], by omega, hown2.out, by have := HL.out; simp [Hid]; omega, ok_snoc hok hq1,
          rsub_step HL.out HE.out (by rw [HX.out, HY.out]; exact HP.out) rfl, hb1.out⟩
      case measure => simp [intOf]; omega
    · have hk' : k = xs.length := by omega
      subst hk'
      obtain ⟨A2, c2, hv, hd⟩ := dg_of_own hown hok
      have HV := Lib.hid (rsub_end O1.out O2.out hok HL.out HG.out HE.out)
      have HD := Lib.hid (rtrim_f A2 c2 zs wr hd (by have := HL.out; omega))
      rw [HV.out] at HD
      subst hv
      clear hown hd hlt
      go_wp2_with fail
      refine HD.out.mono ?_
      rintro e w2 ⟨A3, c3, rfl, h3, hb3, hf3⟩
      have HF3 := Lib.hid hf3
      have H3 := Lib.hid h3
      have HB3 := Lib.hid hb3
      clear h3 hb3 hf3
      go_wp2
      go_ret2
      exact ⟨A3, c3, rfl, H3.out, hbel.trans (HB3.out.mono hbel.size), fun b o e => Nat.le_trans hbel.size (HF3.out b o e)⟩
theorem rsub_yes (A B : Option Addr) (c d : Nat) (xs ys : List Nat) (w : World) (h : Dg w A c xs) (h' : Dg w B d ys) (hl : xs.length ≤ 1048576) (hl' : ys.length ≤ 1048576) (hge : val ys ≤ val xs) :
    Calls Try.prog 34 #[.slice A xs.length c, .slice B ys.length d] w fun e w' => ∃ A' c', e = .returned (.tuple #[.slice A' (digs (val xs - val ys)).length c', .bool true]) ∧ Dg w' A' c' (digs (val xs - val ys)) ∧ Below w.heap.size w w' :=
  (rsub_f A B c d xs ys w h h' hl hl' hge).mono fun _ _ ⟨A', c', h1, h2, h3, _⟩ => ⟨A', c', h1, h2, h3⟩
end Go.Proofs.Ytceningojnfgpaa
