/-
  The reference's own text (astrolaberef01): Shr.
-/
import Derived.Test.YtceningojnfgpaaRefF
namespace Go.Proofs.Ytceningojnfgpaa
open Go.RowKit
theorem rshr_step {zs ys : List Nat} {k p s : Nat} (hz : zs.length = k) (hk : k < ys.length) (hok : ok32 ys) (hp : p < 32) (h : val zs + 4294967296 ^ k * (val (ys.drop k) / 2 ^ p) = val ys / 2 ^ p)
    (hs : s = ys[k]?.getD 0 + 4294967296 * (ys[k + 1]?.getD 0)) : val (zs ++ [s / 2 ^ p % 4294967296]) + 4294967296 ^ (k + 1) * (val (ys.drop (k + 1)) / 2 ^ p) = val ys / 2 ^ p := by
  have hss := two_pow_split p (by omega)
  have hP : 0 < 2 ^ p := Nat.pow_pos (by omega)
  have e1 : s / 2 ^ p % 4294967296 = val (ys.drop k) / 2 ^ p % 4294967296 := by
    rw [hs, val_drop_cons hk, shr_math _ _ _ _ hss hP, shr_math _ _ _ _ hss hP, Nat.add_mul_mod_self_left, Nat.add_mul_mod_self_left]
    congr 2
    rw [← val_mod hok (k + 1), Nat.mod_mul_mod]
  have e2 : val (ys.drop k) / 2 ^ p / 4294967296 = val (ys.drop (k + 1)) / 2 ^ p := by
    rw [Nat.div_div_eq_div_mul, Nat.mul_comm, ← Nat.div_div_eq_div_mul, val_drop_cons hk]
    congr 1
    have := getD_lt hok k
    omega
  rw [val_snoc, hz, e1, ← e2, Nat.pow_succ, Nat.mul_assoc, Nat.add_assoc, ← Nat.mul_add, Nat.mod_add_div]
  exact h
set_option maxHeartbeats 1000000 in
theorem rshr_neg (A : Option Addr) (c : Nat) (xs : List Nat) (n : Int) (w : World) (h : Dg w A c xs) (hl : xs.length ≤ 1048576) (hn : n < 0) :
    Calls Try.prog 37 #[.slice A xs.length c, .int .i64 n] w fun e w' => ∃ A' c', e = .returned (.slice A' (digs (val xs)).length c') ∧ Dg w' A' c' (digs (val xs)) ∧ Below w.heap.size w w' := by
  have HT := Lib.hid (rtrim_any A c xs w h (by omega))
  clear h
  have d0 : decide (n < 0) = true := by simp [hn]
  go_enter Try.func37, Try.ntmps37
  go_wp2_with fail
  refine HT.out.mono ?_
  rintro e w' ⟨A1, c1, rfl, h1, hb⟩
  have H1 := Lib.hid h1
  clear h1
  go_wp2
  go_ret
  exact ⟨A1, c1, rfl, H1.out, hb⟩
set_option maxHeartbeats 4000000 in
set_option maxRecDepth 100000 in
theorem rshr_any (A : Option Addr) (c : Nat) (xs : List Nat) (n : Nat) (w : World) (h : Dg w A c xs) (hl : xs.length ≤ 1048576) (hn : n ≤ 9223372036854775807) :
    Calls Try.prog 37 #[.slice A xs.length c, .int .i64 n] w fun e w' => ∃ A' c', e = .returned (.slice A' (digs (val xs / 2 ^ n)).length c') ∧ Dg w' A' c' (digs (val xs / 2 ^ n)) ∧ Below w.heap.size w w' := by
  obtain ⟨i0, hinf, hz0, hz1, hz2⟩ := info_parts elem_info
  have H := Lib.hid h
  have O1 := Lib.hid h.2.1
  clear h
  have d0 : decide ((n : Int) < 0) = false := by simp
  have HN := Lib.hid hn
  by_cases hw : xs.length ≤ n / 32
  · have d1 : decide ((xs.length : Int) ≤ (n : Int) / 32) = true := by simp; omega
    have HF := Lib.hid (show val xs / 2 ^ n = 0 from by
      rw [← shr_pow, ← val_drop xs O1.out, List.drop_eq_nil_of_le hw]; simp [val])
    clear hw
    go_enter Try.func37, Try.ntmps37
    go_wp2
    go_ret
    rw [HF.out, digs_zero]
    exact ⟨none, 0, rfl, Dg.nil_ _ _, Below.refl _ _⟩
  · have d1 : decide ((xs.length : Int) ≤ (n : Int) / 32) = false := by simp; omega
    have HVY := Lib.hid (show val (xs.drop (n / 32)) / 2 ^ (n % 32) = val xs / 2 ^ n from by rw [val_drop xs O1.out, shr_pow])
    have hyl : (xs.drop (n / 32)).length = xs.length - n / 32 := List.length_drop
    have HG := Lib.hid (fun j => show (xs.drop (n / 32))[j]?.getD 0 = xs[n / 32 + j]?.getD 0 from by rw [List.getElem?_drop])
    have OY := Lib.hid (show ok32 (xs.drop (n / 32)) from fun x hx => O1.out x (List.mem_of_mem_drop hx))
    have HYL := Lib.hid hyl
    clear hyl
    generalize xs.drop (n / 32) = Y at *
    go_enter Try.func37, Try.ntmps37
    go_wp2
    go_loopw [5, 6] (fun v i wr => ∃ (k : Nat) (zs : List Nat), n / 32 + k ≤ xs.length ∧ i = .int .i64 ((n : Int) / 32 + k) ∧ wr.ownsRow w.heap.size 37 1 v k (cells zs) ∧ Hid (zs.length = k) ∧ ok32 zs ∧
      Hid (val zs + 4294967296 ^ k * (val (Y.drop k) / 2 ^ (n % 32)) = val Y / 2 ^ (n % 32)) ∧ Below w.heap.size w wr) (fun _ i _ => xs.length - (intOf i).toNat)
    case atStart => exact ⟨0, [], by omega, by go_num, World.ownsRow_nil _ _ _ _, by simp [Hid], by intro x hx; simp at hx, by simp [Hid, val], Below.refl _ _⟩
    case round =>
      obtain ⟨k, zs, hk, rfl, hown, HL, hok, HE, hbel⟩ := hrel
      by_cases hlt : n / 32 + k < xs.length
      · have dlt : decide ((n : Int) / 32 + (k : Int) < (xs.length : Int)) = true := by simp; omega
        have rx := Lib.hid (rat_any A c xs (n / 32 + k) wr (H.out.keep hbel.size (fun b o h => hbel.cell (p := ⟨b, o, none⟩) h)) (by omega))
        have ry := Lib.hid (rat_any A c xs (n / 32 + k + 1) wr (H.out.keep hbel.size (fun b o h => hbel.cell (p := ⟨b, o, none⟩) h)) (by omega))
        have hX := getD_lt O1.out (n / 32 + k)
        have hY := getD_lt O1.out (n / 32 + k + 1)
        have g0 := HG.out k
        have g1 := HG.out (k + 1)
        rw [← Nat.add_assoc] at g1
        have HG0 := Lib.hid g0
        have HG1 := Lib.hid g1
        clear g0 g1
        generalize xs[n / 32 + k]?.getD 0 = x at *
        generalize xs[n / 32 + k + 1]?.getD 0 = y at *
        have ho := or_join' x y hX hY
        obtain ⟨s, hs⟩ : ∃ s, s = x + 4294967296 * y := ⟨_, rfl⟩
        have hs64 : s < 18446744073709551616 := by omega
        rw [← hs] at ho
        have HS := Lib.hid hs
        have HO := Lib.hid ho
        clear hs ho
        rw [show ((n / 32 + k : Nat) : Int) = (n : Int) / 32 + (k : Int) by omega] at rx
        rw [show ((n / 32 + k + 1 : Nat) : Int) = (n : Int) / 32 + (k : Int) + 1 by omega] at ry
        have hp0 : (0 : Int) ≤ (n : Int) / 32 + (k : Int) := by omega
        go_wp2_with fail
        refine rx.out.mono ?_
        rintro e w' ⟨rfl, rfl⟩
        go_wp2_with fail
        refine ry.out.mono ?_
        rintro e w' ⟨rfl, rfl⟩
        go_upto_region 10 with fail
        rw [HO.out]
        have hd0 : 0 ≤ (s : Int) / 2 ^ (n % 32) := Int.ediv_nonneg (by omega) (Int.le_of_lt (Int.pow_pos (by omega)))
        go_wp2_with (at_builtin; refine wpList_append_own _ rfl _ _ 22 rfl w.heap.size 37 i0 (.int .u32 0) 1 4 Try.underlying22 hinf hz0 hz1 hz2 rfl (by decide) _ _ _ rfl (hown.alloc _) ⟨wr.heap.size, 0, none⟩ 1 1 [.int .u32 (((s : Int) / 2 ^ (n % 32)) % 4294967296)] rfl rfl (cell_new _ _ _) (fun u hu => by simp at hu; subst hu; rfl) (by unfold maxLen; omega) (by omega) (by have := hbel.size; simp; omega) ?_)
        intro v' w1 hown1 hgrow hnil
        have e1 : ((s : Int) / 2 ^ (n % 32)) % 4294967296 = (s / 2 ^ (n % 32) % 4294967296 : Nat) := by rw [Int.natCast_emod, Int.natCast_ediv, Int.natCast_pow]; rfl
        have hown2 := Lib.hid (own_snoc hown1 e1)
        have hb1 := Lib.hid ((hbel.alloc hbel.size _).grown hgrow (by simp; have := hbel.size; omega) (fun g hg => (hown.lt g hg).1))
        clear hown1 hgrow hnil hown e1
        go_wp2
        go_roundw
        case rel =>
          have hyl := HYL.out
          exact ⟨k + 1, zs ++ [s / 2 ^ (n % 32) % 4294967296], by omega, by go_num, hown2.out, by have := HL.out; simp [Hid]; omega, ok_snoc hok (Nat.mod_lt _ (by omega)),
            rshr_step HL.out (by omega) OY.out (by omega) HE.out (by rw [HG0.out, HG1.out]; exact HS.out), hb1.out⟩
        case measure => simp [intOf]; omega
      · have dlt : decide ((n : Int) / 32 + (k : Int) < (xs.length : Int)) = false := by simp; omega
        obtain ⟨A2, c2, hv, hd⟩ := dg_of_own hown hok
        have HV := Lib.hid (show val zs = val xs / 2 ^ n from by
          have := HE.out
          rw [List.drop_eq_nil_of_le (by have := HYL.out; omega), HVY.out] at this
          simpa [val] using this)
        have HD := Lib.hid (rtrim_any A2 c2 zs wr hd (by have := HL.out; omega))
        rw [HV.out] at HD
        subst hv
        clear hown hd hlt
        go_wp2_with fail
        refine HD.out.mono ?_
        rintro e w2 ⟨A3, c3, rfl, h3, hb3⟩
        have H3 := Lib.hid h3
        have HB3 := Lib.hid hb3
        clear h3 hb3
        go_wp2
        go_ret
        exact ⟨A3, c3, rfl, H3.out, hbel.trans (HB3.out.mono hbel.size)⟩
end Go.Proofs.Ytceningojnfgpaa
