/-
  quo.guess: a quotient's digit, or one more.
-/
import Derived.Test.YtceningojnfgpaaDivRow
import Derived.WalkMore
import Derived.Deep.LoopGhost
namespace Go.Proofs.Ytceningojnfgpaa
open Go.RowKit
/-- What the guess leans on: f and s the divisor's first digits, t and x the row's, l the digit. -/
structure Gs (f s t x l : Nat) : Prop where
  hf : 2147483648 ≤ f
  hf' : f < 4294967296
  hs : s < 4294967296
  hx : x < 4294967296
  ht : t < (f + 1) * 4294967296
  hl : l < 4294967296
  start : l ≤ t / f
  down : ∀ d r, d * f + r = t → r * 4294967296 + x < d * s → l + 1 ≤ d
  near : ∀ d r, d * f + r = t → d < 4294967296 → d * s ≤ r * 4294967296 + x → d ≤ l + 1
theorem gs_of {R V : List Nat} {k : Nat} (oR : ok32 R) (oV : ok32 V) (hR : R.length = k + 3) (hV : V.length = k + 2) (hf : 2147483648 ≤ V[k + 1]?.getD 0) (hlt : val R < val V * 4294967296) :
    Gs (V[k + 1]?.getD 0) (V[k]?.getD 0) (R[k + 1]?.getD 0 + 4294967296 * (R[k + 2]?.getD 0)) (R[k]?.getD 0) (val R / val V) := by
  have r1 := val_seen3 oR hR
  have v2 := val_seen2 oV hV
  have v1 := val_seen1 oV (k := k + 1) hV
  have r2 : (R[k + 2]?.getD 0 * 4294967296 + R[k + 1]?.getD 0) * 4294967296 ^ (k + 1) ≤ val R ∧ val R < (R[k + 2]?.getD 0 * 4294967296 + R[k + 1]?.getD 0 + 1) * 4294967296 ^ (k + 1) := val_seen2 oR (k := k + 1) hR
  have hp : 0 < 4294967296 ^ (k + 1) := Nat.pow_pos (by omega)
  have et : R[k + 1]?.getD 0 + 4294967296 * (R[k + 2]?.getD 0) = R[k + 2]?.getD 0 * 4294967296 + R[k + 1]?.getD 0 := by omega
  have hvp : 0 < val V := by
    rcases Nat.eq_zero_or_pos (val V) with h0 | h0
    · rw [h0, Nat.zero_mul] at hlt; omega
    · exact h0
  have hd := Nat.div_mul_le_self (val R) (val V)
  have hu : val R < (val R / val V + 1) * val V := by
    have := Nat.div_add_mod (val R) (val V)
    have := Nat.mod_lt (val R) hvp
    rw [Nat.add_mul, Nat.mul_comm (_ / _)]; omega
  rw [et]
  refine ⟨hf, getD_lt oV _, getD_lt oV _, getD_lt oR _, kn_top r2.1 v1.2 hlt, ?_, kn_start (by omega) r2.2 v1.1 hd, fun d r h1 h2 => kn_down r1.2 v2.1 hd h1 h2, fun d r h1 h2 h3 => kn_near r1.1 v2.2 hu h1 h3 ?_⟩
  · rw [Nat.div_lt_iff_lt_mul hvp, Nat.mul_comm]; exact hlt
  · have := Nat.mul_le_mul_right 4294967296 hf; omega
theorem Gs.small {f s t x l : Nat} (h : Gs f s t x l) {d r : Nat} (e : d * f + r = t) : d < 8589934592 := by
  have h1 := h.ht
  have h2 := Nat.mul_le_mul_left d h.hf
  have h3 := h.hf'
  have h4 : d * 2147483648 ≤ t := by omega
  have h5 := Nat.mul_lt_mul_of_pos_right (show f + 1 < 4294967298 by omega) (show 0 < 4294967296 by omega)
  omega
theorem Gs.down' {f s t x l : Nat} (h : Gs f s t x l) {d r : Nat} (e : d * f + r = t) (hd : 4294967296 ≤ d ∨ r * 4294967296 + x < d * s) : l + 1 ≤ d := by
  rcases hd with hd | hd
  · have := h.hl; omega
  · exact h.down d r e hd
theorem Gs.fin {f s t x l : Nat} (h : Gs f s t x l) {d r : Nat} (e : d * f + r = t) (hl : l ≤ d) (hd : 4294967296 ≤ r ∨ (d < 4294967296 ∧ d * s ≤ r * 4294967296 + x)) : d < 4294967296 ∧ l ≤ d ∧ d ≤ l + 1 := by
  rcases hd with hd | ⟨h1, h2⟩
  · obtain ⟨h1, h2⟩ := kn_past (x := x) h.hs h.ht e hd
    exact ⟨h1, hl, h.near d r e h1 h2⟩
  · exact ⟨h1, hl, h.near d r e h1 h2⟩
theorem step_eq {d f r t : Nat} (e : d * f + r = t) (hd : 1 ≤ d) : (d - 1) * f + (r + f) = t := by
  obtain ⟨c, rfl⟩ : ∃ c, d = c + 1 := ⟨d - 1, by omega⟩
  rw [Nat.add_mul] at e; rw [Nat.add_sub_cancel]; omega
theorem drawn_refl (w : World) : ∃ N, w = w.drewN N := ⟨0, rfl⟩
theorem drawn_drewN {w w' : World} (h : ∃ N, w' = w.drewN N) (k : Nat) : ∃ N, w'.drewN k = w.drewN N := by obtain ⟨N, rfl⟩ := h; exact ⟨N + k, World.drewN_drewN _ _ _⟩
theorem drawn_drew {w w' : World} (h : ∃ N, w' = w.drewN N) : ∃ N, w'.drew = w.drewN N := by obtain ⟨N, rfl⟩ := h; exact ⟨N + 1, rfl⟩
set_option maxHeartbeats 4000000 in
theorem guess_any (A B : Option Addr) (c d k n m : Nat) (R V : List Nat) (w : World) (h : Dg w A c R) (h' : Dg w B d V) (hn : n = V.length) (hm : m = R.length) (hR : R.length = k + 3) (hV : V.length = k + 2) (hk : k ≤ 4194304) (hf : 2147483648 ≤ V[k + 1]?.getD 0) (hlt : val R < val V * 4294967296) :
    Calls Try.prog 49 #[.slice A m c, .slice B n d] w fun e w' => (∃ x : Nat, e = .returned (.int .u32 x) ∧ x < 4294967296 ∧ val R / val V ≤ x ∧ x ≤ val R / val V + 1) ∧ ∃ n, w' = w.drewN n := by
  have G := Lib.hid (gs_of h.2.1 h'.2.1 hR hV hf hlt)
  obtain ⟨a, o, hA, ha, hca⟩ := h.2.2 (by omega)
  obtain ⟨b, p, hB, hb, hcb⟩ := h'.2.2 (by omega)
  have c0 := hca k (by omega)
  have c1 := hca (k + 1) (by omega)
  have c2 := hca (k + 2) (by omega)
  have q0 := hcb k (by omega)
  have q1 := hcb (k + 1) (by omega)
  have b2 := getD_lt h.2.1 (k + 2)
  have b1 := getD_lt h.2.1 (k + 1)
  generalize val R / val V = l at *
  generalize V[k + 1]?.getD 0 = f at *
  generalize V[k]?.getD 0 = s at *
  generalize R[k]?.getD 0 = x at *
  generalize R[k + 1]?.getD 0 = x1 at *
  generalize R[k + 2]?.getD 0 = x2 at *
  have ek : k = n - 2 := by omega
  have ek1 : k + 1 = n - 1 := by omega
  have ek2 : k + 2 = n := by omega
  rw [ek] at c0 q0
  rw [ek1] at c1 q1
  rw [ek2] at c2
  have n2 : 2 ≤ n := by omega
  have nm : n < m := by omega
  have nb : n ≤ 5000000 := by omega
  have b0 : x < 4294967296 := G.out.hx
  have bf : f < 4294967296 := G.out.hf'
  have bs : s < 4294967296 := G.out.hs
  have f0 : 0 < f := by omega
  have f1 : ((f : Int) == 0) = false := beq_eq_false_iff_ne.2 (by omega)
  obtain ⟨t, ht⟩ : ∃ t : Nat, x1 + 4294967296 * x2 = t := ⟨_, rfl⟩
  have hO : bits BinOp.or IntKind.u64 ((x2 : Int) * 4294967296) (x1 : Int) = (t : Int) := by rw [or_join _ _ b2 b1, ht]
  have bt : t < 18446744073709551616 := by omega
  rw [ht] at G
  obtain ⟨d0, hd0⟩ : ∃ d0 : Nat, t / f = d0 := ⟨_, rfl⟩
  obtain ⟨r0, hr0⟩ : ∃ r0 : Nat, t % f = r0 := ⟨_, rfl⟩
  have hw0 : IntKind.u64.wrap ((t : Int) / (f : Int)) = (d0 : Int) := by rw [← hd0, ← Int.natCast_ediv]; exact IntWalk.u64_in _ ⟨by omega, by have := Nat.div_le_self t f; omega⟩
  have hw1 : (t : Int) % (f : Int) = (r0 : Int) := by rw [← hr0, Int.natCast_emod]
  have D0 := Lib.hid (show d0 * f + r0 = t by rw [← hd0, ← hr0, Nat.mul_comm]; exact Nat.div_add_mod t f)
  have R0 := Lib.hid (show r0 < 4294967296 by rw [← hr0]; exact Nat.lt_trans (Nat.mod_lt t f0) bf)
  have Q0 := Lib.hid (show t / f = d0 from hd0)
  clear hd0 hr0
  subst hA hB
  clear h h' hn hm hR hV hk hf hlt hca hcb ek ek1 ek2 ht
  go_enter Try.func49, Try.ntmps49
  go_wp2
  go_step3
  go_wp2
  go_quiet (fail)
  go_wp2
  go_quiet (fail)
  go_wp2
  go_quiet (fail)
  go_wp2
  go_step3
  go_wp2
  go_loopw [9, 10] (fun dv rv wr => ∃ d r : Nat, dv = .int .u64 d ∧ rv = .int .u64 r ∧ r < 4294967296 ∧ Hid (d * f + r = t) ∧ Hid (l ≤ d) ∧ Hid (∃ N, wr = w.drewN N) ∧ wr.cell? ⟨a, o + (n - 2), none⟩ = some (.int .u32 x)) (fun dv _ _ => (intOf dv).toNat)
  case atStart => exact ⟨d0, r0, rfl, by rw [hw1], by have := R0.out; omega, D0.out, by have := G.out.start; have := Q0.out; show l ≤ d0; omega, by (simp only [Hid]; repeat (first | exact drawn_refl _ | apply drawn_drewN | apply drawn_drew)), c0⟩
  case round =>
    obtain ⟨d, r, rfl, rfl, hr, HE, HL, HW, hcell⟩ := hrel
    have hd := G.out.small HE.out
    by_cases h1 : 4294967295 < d
    · have t1 : decide (4294967295 < (d : Int)) = true := by simp; omega
      have g1 : 1 ≤ d := by omega
      have HD := Lib.hid (G.out.down' HE.out (.inl (by omega)))
      clear h1
      by_cases h2 : 4294967295 < r + f
      · have t2 : decide (4294967295 < (r : Int) + (f : Int)) = true := by simp; omega
        have HF := Lib.hid (G.out.fin (step_eq HE.out g1) (by have := HD.out; omega) (.inl (by omega)))
        have hz : ((d : Int) - 1) % 4294967296 = ((d - 1 : Nat) : Int) := by have := HF.out; omega
        have HZ := Lib.hid hz
        clear h2 hz
        go_wp2
        try rw [Exit.noGoto_ret]
        go_ret
        exact ⟨⟨d - 1, ret_i HZ.out, HF.out.1, HF.out.2⟩, HW.out⟩
      · have t2 : decide (4294967295 < (r : Int) + (f : Int)) = false := by simp; omega
        have HZ := Lib.hid (show (d : Int) - 1 = ((d - 1 : Nat) : Int) by omega)
        go_wp2
        go_roundw
        case rel => exact ⟨d - 1, r + f, by rw [HZ.out], by rw [Int.natCast_add], by omega, step_eq HE.out g1, by have := HD.out; show l ≤ d - 1; omega, HW, hcell⟩
        case measure => simp [intOf]; omega
    · have t1 : decide (4294967295 < (d : Int)) = false := by simp; omega
      have hp0 : 0 ≤ (d : Int) * (s : Int) := by rw [← Int.natCast_mul]; omega
      have hpn : d * s ≤ 18446744065119617025 := Nat.le_trans (Nat.mul_le_mul (show d ≤ 4294967295 by omega) (show s ≤ 4294967295 by omega)) (by decide)
      have hp1 : (d : Int) * (s : Int) ≤ 18446744065119617025 := by rw [← Int.natCast_mul]; omega
      obtain ⟨v, hv⟩ : ∃ v : Nat, x + 4294967296 * r = v := ⟨_, rfl⟩
      have hO2 : bits BinOp.or IntKind.u64 ((r : Int) * 4294967296) (x : Int) = (v : Int) := by rw [or_join _ _ hr b0, hv]
      by_cases h3 : v < d * s
      · have t3 : decide ((v : Int) < (d : Int) * (s : Int)) = true := by rw [decide_eq_true_iff, ← Int.natCast_mul]; omega
        have HD := Lib.hid (G.out.down' HE.out (.inr (by omega)))
        have g1 : 1 ≤ d := by have := HD.out; omega
        clear h1 h3 hv hpn
        by_cases h2 : 4294967295 < r + f
        · have t2 : decide (4294967295 < (r : Int) + (f : Int)) = true := by simp; omega
          have HF := Lib.hid (G.out.fin (step_eq HE.out g1) (by have := HD.out; omega) (.inl (by omega)))
          have hz : ((d : Int) - 1) % 4294967296 = ((d - 1 : Nat) : Int) := by have := HF.out; omega
          have HZ := Lib.hid hz
          clear h2 hz
          go_wp2
          try rw [Exit.noGoto_ret]
          go_ret
          exact ⟨⟨d - 1, ret_i HZ.out, HF.out.1, HF.out.2⟩, HW.out⟩
        · have t2 : decide (4294967295 < (r : Int) + (f : Int)) = false := by simp; omega
          have HZ := Lib.hid (show (d : Int) - 1 = ((d - 1 : Nat) : Int) by omega)
          go_wp2
          go_roundw
          case rel => exact ⟨d - 1, r + f, by rw [HZ.out], by rw [Int.natCast_add], by omega, step_eq HE.out g1, by have := HD.out; show l ≤ d - 1; omega, HW, hcell⟩
          case measure => simp [intOf]; omega
      · have t3 : decide ((v : Int) < (d : Int) * (s : Int)) = false := by rw [decide_eq_false_iff_not, ← Int.natCast_mul]; omega
        have HF := Lib.hid (G.out.fin HE.out HL.out (.inr ⟨by omega, by omega⟩))
        have HZ := Lib.hid (show (d : Int) % 4294967296 = (d : Int) by omega)
        clear h1 h3 hv hpn
        go_wp2
        try rw [Exit.noGoto_ret]
        go_ret
        exact ⟨⟨d, ret_i HZ.out, HF.out.1, HF.out.2⟩, HW.out⟩
end Go.Proofs.Ytceningojnfgpaa
