import Derived.Test.YthgkdpfkaobgoaaDoorM0
import Derived.WalkMore
import Derived.Deep.LoopGhost
import Derived.BigRegion
import Derived.RegionTactic
import Derived.Laws.CopyOwn
section
/-
  quo.guess: a quotient's digit, or one more.
-/
namespace Go.Proofs.YthgkdpfkaobgoaaDoor
open Go.RowKit
/-- What the guess leans on: f and s the divisor's first digits, t and x the row's, l the digit. -/
structure Gs (f s t x l : Nat) : Prop where
  hf : 2147483648 ≤ f
  hf' : f < 4294967296
  hs : s < 4294967296
  hx : x < 4294967296
  ht : t < (f + 1) * 4294967296
  hl : l < 4294967296
  start : l ≤ t / f
  down : ∀ d r, d * f + r = t → r * 4294967296 + x < d * s → l + 1 ≤ d
  near : ∀ d r, d * f + r = t → d < 4294967296 → d * s ≤ r * 4294967296 + x → d ≤ l + 1
theorem gs_of {R V : List Nat} {k : Nat} (oR : ok32 R) (oV : ok32 V) (hR : R.length = k + 3) (hV : V.length = k + 2) (hf : 2147483648 ≤ V[k + 1]?.getD 0) (hlt : val R < val V * 4294967296) :
    Gs (V[k + 1]?.getD 0) (V[k]?.getD 0) (R[k + 1]?.getD 0 + 4294967296 * (R[k + 2]?.getD 0)) (R[k]?.getD 0) (val R / val V) := by
  have r1 := val_seen3 oR hR
  have v2 := val_seen2 oV hV
  have v1 := val_seen1 oV (k := k + 1) hV
  have r2 : (R[k + 2]?.getD 0 * 4294967296 + R[k + 1]?.getD 0) * 4294967296 ^ (k + 1) ≤ val R ∧ val R < (R[k + 2]?.getD 0 * 4294967296 + R[k + 1]?.getD 0 + 1) * 4294967296 ^ (k + 1) := val_seen2 oR (k := k + 1) hR
  have hp : 0 < 4294967296 ^ (k + 1) := Nat.pow_pos (by omega)
  have et : R[k + 1]?.getD 0 + 4294967296 * (R[k + 2]?.getD 0) = R[k + 2]?.getD 0 * 4294967296 + R[k + 1]?.getD 0 := by omega
  have hvp : 0 < val V := by
    rcases Nat.eq_zero_or_pos (val V) with h0 | h0
    · rw [h0, Nat.zero_mul] at hlt; omega
    · exact h0
  have hd := Nat.div_mul_le_self (val R) (val V)
  have hu : val R < (val R / val V + 1) * val V := by
    have := Nat.div_add_mod (val R) (val V)
    have := Nat.mod_lt (val R) hvp
    rw [Nat.add_mul, Nat.mul_comm (_ / _)]; omega
  rw [et]
  refine ⟨hf, getD_lt oV _, getD_lt oV _, getD_lt oR _, kn_top r2.1 v1.2 hlt, ?_, kn_start (by omega) r2.2 v1.1 hd, fun d r h1 h2 => kn_down r1.2 v2.1 hd h1 h2, fun d r h1 h2 h3 => kn_near r1.1 v2.2 hu h1 h3 ?_⟩
  · rw [Nat.div_lt_iff_lt_mul hvp, Nat.mul_comm]; exact hlt
  · have := Nat.mul_le_mul_right 4294967296 hf; omega
theorem Gs.small {f s t x l : Nat} (h : Gs f s t x l) {d r : Nat} (e : d * f + r = t) : d < 8589934592 := by
  have h1 := h.ht
  have h2 := Nat.mul_le_mul_left d h.hf
  have h3 := h.hf'
  have h4 : d * 2147483648 ≤ t := by omega
  have h5 := Nat.mul_lt_mul_of_pos_right (show f + 1 < 4294967298 by omega) (show 0 < 4294967296 by omega)
  omega
theorem Gs.down' {f s t x l : Nat} (h : Gs f s t x l) {d r : Nat} (e : d * f + r = t) (hd : 4294967296 ≤ d ∨ r * 4294967296 + x < d * s) : l + 1 ≤ d := by
  rcases hd with hd | hd
  · have := h.hl; omega
  · exact h.down d r e hd
theorem Gs.fin {f s t x l : Nat} (h : Gs f s t x l) {d r : Nat} (e : d * f + r = t) (hl : l ≤ d) (hd : 4294967296 ≤ r ∨ (d < 4294967296 ∧ d * s ≤ r * 4294967296 + x)) : d < 4294967296 ∧ l ≤ d ∧ d ≤ l + 1 := by
  rcases hd with hd | ⟨h1, h2⟩
  · obtain ⟨h1, h2⟩ := kn_past (x := x) h.hs h.ht e hd
    exact ⟨h1, hl, h.near d r e h1 h2⟩
  · exact ⟨h1, hl, h.near d r e h1 h2⟩
theorem step_eq {d f r t : Nat} (e : d * f + r = t) (hd : 1 ≤ d) : (d - 1) * f + (r + f) = t := by
  obtain ⟨c, rfl⟩ : ∃ c, d = c + 1 := ⟨d - 1, by omega⟩
  rw [Nat.add_mul] at e; rw [Nat.add_sub_cancel]; omega
theorem drawn_refl (w : World) : ∃ N, w = w.drewN N := ⟨0, rfl⟩
theorem drawn_drewN {w w' : World} (h : ∃ N, w' = w.drewN N) (k : Nat) : ∃ N, w'.drewN k = w.drewN N := by obtain ⟨N, rfl⟩ := h; exact ⟨N + k, World.drewN_drewN _ _ _⟩
theorem drawn_drew {w w' : World} (h : ∃ N, w' = w.drewN N) : ∃ N, w'.drew = w.drewN N := by obtain ⟨N, rfl⟩ := h; exact ⟨N + 1, rfl⟩
set_option maxHeartbeats 4000000 in
set_option maxRecDepth 100000 in
theorem guess_any (A B : Option Addr) (c d k n m : Nat) (R V : List Nat) (w : World) (h : Dg w A c R) (h' : Dg w B d V) (hn : n = V.length) (hm : m = R.length) (hR : R.length = k + 3) (hV : V.length = k + 2) (hk : k ≤ 4194304) (hf : 2147483648 ≤ V[k + 1]?.getD 0) (hlt : val R < val V * 4294967296) :
    Calls Tryd.prog 98 #[.slice A m c, .slice B n d] w fun e w' => (∃ x : Nat, e = .returned (.int .u32 x) ∧ x < 4294967296 ∧ val R / val V ≤ x ∧ x ≤ val R / val V + 1) ∧ ∃ n, w' = w.drewN n := by
  have G := Lib.hid (gs_of h.2.1 h'.2.1 hR hV hf hlt)
  obtain ⟨a, o, hA, ha, hca⟩ := h.2.2 (by omega)
  obtain ⟨b, p, hB, hb, hcb⟩ := h'.2.2 (by omega)
  have c0 := hca k (by omega)
  have c1 := hca (k + 1) (by omega)
  have c2 := hca (k + 2) (by omega)
  have q0 := hcb k (by omega)
  have q1 := hcb (k + 1) (by omega)
  have b2 := getD_lt h.2.1 (k + 2)
  have b1 := getD_lt h.2.1 (k + 1)
  generalize val R / val V = l at *
  generalize V[k + 1]?.getD 0 = f at *
  generalize V[k]?.getD 0 = s at *
  generalize R[k]?.getD 0 = x at *
  generalize R[k + 1]?.getD 0 = x1 at *
  generalize R[k + 2]?.getD 0 = x2 at *
  have ek : k = n - 2 := by omega
  have ek1 : k + 1 = n - 1 := by omega
  have ek2 : k + 2 = n := by omega
  rw [ek] at c0 q0
  rw [ek1] at c1 q1
  rw [ek2] at c2
  have n2 : 2 ≤ n := by omega
  have nm : n < m := by omega
  have nb : n ≤ 5000000 := by omega
  have b0 : x < 4294967296 := G.out.hx
  have bf : f < 4294967296 := G.out.hf'
  have bs : s < 4294967296 := G.out.hs
  have f0 : 0 < f := by omega
  have f1 : ((f : Int) == 0) = false := beq_eq_false_iff_ne.2 (by omega)
  obtain ⟨t, ht⟩ : ∃ t : Nat, x1 + 4294967296 * x2 = t := ⟨_, rfl⟩
  have hO : bits BinOp.or IntKind.u64 ((x2 : Int) * 4294967296) (x1 : Int) = (t : Int) := by rw [or_join _ _ b2 b1, ht]
  have bt : t < 18446744073709551616 := by omega
  rw [ht] at G
  obtain ⟨d0, hd0⟩ : ∃ d0 : Nat, t / f = d0 := ⟨_, rfl⟩
  obtain ⟨r0, hr0⟩ : ∃ r0 : Nat, t % f = r0 := ⟨_, rfl⟩
  have hw0 : IntKind.u64.wrap ((t : Int) / (f : Int)) = (d0 : Int) := by rw [← hd0, ← Int.natCast_ediv]; exact IntWalk.u64_in _ ⟨by omega, by have := Nat.div_le_self t f; omega⟩
  have hw1 : (t : Int) % (f : Int) = (r0 : Int) := by rw [← hr0, Int.natCast_emod]
  have D0 := Lib.hid (show d0 * f + r0 = t by rw [← hd0, ← hr0, Nat.mul_comm]; exact Nat.div_add_mod t f)
  have R0 := Lib.hid (show r0 < 4294967296 by rw [← hr0]; exact Nat.lt_trans (Nat.mod_lt t f0) bf)
  have Q0 := Lib.hid (show t / f = d0 from hd0)
  clear hd0 hr0
  subst hA hB
  clear h h' hn hm hR hV hk hf hlt hca hcb ek ek1 ek2 ht
  go_enter Tryd.func98, Tryd.ntmps98
  go_wp2
  go_step3
  go_wp2
  go_quiet (fail)
  go_wp2
  go_quiet (fail)
  go_wp2
  go_quiet (fail)
  go_wp2
  go_step3
  go_wp2
  go_loopw [9, 10] (fun dv rv wr => ∃ d r : Nat, dv = .int .u64 d ∧ rv = .int .u64 r ∧ r < 4294967296 ∧ Hid (d * f + r = t) ∧ Hid (l ≤ d) ∧ Hid (∃ N, wr = w.drewN N) ∧ wr.cell? ⟨a, o + (n - 2), none⟩ = some (.int .u32 x)) (fun dv _ _ => (intOf dv).toNat)
  case atStart => exact ⟨d0, r0, rfl, by rw [hw1], by have := R0.out; omega, D0.out, by have := G.out.start; have := Q0.out; show l ≤ d0; omega, by (simp only [Hid]; repeat (first | exact drawn_refl _ | apply drawn_drewN | apply drawn_drew)), c0⟩
  case round =>
    obtain ⟨d, r, rfl, rfl, hr, HE, HL, HW, hcell⟩ := hrel
    have hd := G.out.small HE.out
    by_cases h1 : 4294967295 < d
    · have t1 : decide (4294967295 < (d : Int)) = true := by simp; omega
      have g1 : 1 ≤ d := by omega
      have HD := Lib.hid (G.out.down' HE.out (.inl (by omega)))
      clear h1
      by_cases h2 : 4294967295 < r + f
      · have t2 : decide (4294967295 < (r : Int) + (f : Int)) = true := by simp; omega
        have HF := Lib.hid (G.out.fin (step_eq HE.out g1) (by have := HD.out; omega) (.inl (by omega)))
        have hz : ((d : Int) - 1) % 4294967296 = ((d - 1 : Nat) : Int) := by have := HF.out; omega
        have HZ := Lib.hid hz
        clear h2 hz
        go_wp2
        try rw [Exit.noGoto_ret]
        go_ret
        exact ⟨⟨d - 1, ret_i HZ.out, HF.out.1, HF.out.2⟩, HW.out⟩
      · have t2 : decide (4294967295 < (r : Int) + (f : Int)) = false := by simp; omega
        have HZ := Lib.hid (show (d : Int) - 1 = ((d - 1 : Nat) : Int) by omega)
        go_wp2
        go_roundw
        case rel => exact ⟨d - 1, r + f, by rw [HZ.out], by rw [Int.natCast_add], by omega, step_eq HE.out g1, by have := HD.out; show l ≤ d - 1; omega, HW, hcell⟩
        case measure => simp [intOf]; omega
    · have t1 : decide (4294967295 < (d : Int)) = false := by simp; omega
      have hp0 : 0 ≤ (d : Int) * (s : Int) := by rw [← Int.natCast_mul]; omega
      have hpn : d * s ≤ 18446744065119617025 := Nat.le_trans (Nat.mul_le_mul (show d ≤ 4294967295 by omega) (show s ≤ 4294967295 by omega)) (by decide)
      have hp1 : (d : Int) * (s : Int) ≤ 18446744065119617025 := by rw [← Int.natCast_mul]; omega
      obtain ⟨v, hv⟩ : ∃ v : Nat, x + 4294967296 * r = v := ⟨_, rfl⟩
      have hO2 : bits BinOp.or IntKind.u64 ((r : Int) * 4294967296) (x : Int) = (v : Int) := by rw [or_join _ _ hr b0, hv]
      by_cases h3 : v < d * s
      · have t3 : decide ((v : Int) < (d : Int) * (s : Int)) = true := by rw [decide_eq_true_iff, ← Int.natCast_mul]; omega
        have HD := Lib.hid (G.out.down' HE.out (.inr (by omega)))
        have g1 : 1 ≤ d := by have := HD.out; omega
        clear h1 h3 hv hpn
        by_cases h2 : 4294967295 < r + f
        · have t2 : decide (4294967295 < (r : Int) + (f : Int)) = true := by simp; omega
          have HF := Lib.hid (G.out.fin (step_eq HE.out g1) (by have := HD.out; omega) (.inl (by omega)))
          have hz : ((d : Int) - 1) % 4294967296 = ((d - 1 : Nat) : Int) := by have := HF.out; omega
          have HZ := Lib.hid hz
          clear h2 hz
          go_wp2
          try rw [Exit.noGoto_ret]
          go_ret
          exact ⟨⟨d - 1, ret_i HZ.out, HF.out.1, HF.out.2⟩, HW.out⟩
        · have t2 : decide (4294967295 < (r : Int) + (f : Int)) = false := by simp; omega
          have HZ := Lib.hid (show (d : Int) - 1 = ((d - 1 : Nat) : Int) by omega)
          go_wp2
          go_roundw
          case rel => exact ⟨d - 1, r + f, by rw [HZ.out], by rw [Int.natCast_add], by omega, step_eq HE.out g1, by have := HD.out; show l ≤ d - 1; omega, HW, hcell⟩
          case measure => simp [intOf]; omega
      · have t3 : decide ((v : Int) < (d : Int) * (s : Int)) = false := by rw [decide_eq_false_iff_not, ← Int.natCast_mul]; omega
        have HF := Lib.hid (G.out.fin HE.out HL.out (.inr ⟨by omega, by omega⟩))
        have HZ := Lib.hid (show (d : Int) % 4294967296 = (d : Int) by omega)
        clear h1 h3 hv hpn
        go_wp2
        try rw [Exit.noGoto_ret]
        go_ret
        exact ⟨⟨d, ret_i HZ.out, HF.out.1, HF.out.2⟩, HW.out⟩
end Go.Proofs.YthgkdpfkaobgoaaDoor
end

section
/-
  What a law's walk carries along: its slices of digits, and that older memory stays. nat's calls over it.
-/
namespace Go.Proofs.YthgkdpfkaobgoaaDoor
open Go.RowKit
def Live (w0 w : World) (L : List (Option Addr × Nat × List Nat)) : Prop := Below w0.heap.size w0 w ∧ ∀ t, t ∈ L → Dg w t.1 t.2.1 t.2.2
section
variable {w0 w w' : World} {L : List (Option Addr × Nat × List Nat)} {A B : Option Addr} {c d n m : Nat} {xs ys : List Nat} {x y : Nat}
theorem below_step (h : Below w0.heap.size w0 w) (hb : Below w.heap.size w w') : Below w0.heap.size w0 w' := h.trans (hb.mono h.size)
theorem Live.get (h : Live w0 w L) (hm : (A, c, xs) ∈ L) : Dg w A c xs := h.2 _ hm
theorem Live.step (h : Live w0 w L) (hb : Below w.heap.size w w') : Live w0 w' L := ⟨below_step h.1 hb, fun t ht => (h.2 t ht).below hb⟩
theorem Live.add (h : Live w0 w L) (hd : Dg w A c xs) : Live w0 w ((A, c, xs) :: L) := ⟨h.1, fun t ht => by
  rcases List.mem_cons.1 ht with rfl | ht
  · exact hd
  · exact h.2 t ht⟩
theorem Live.drewN (h : Live w0 w L) (k : Nat) : Live w0 (w.drewN k) L := h.step (below_drewN (Below.refl _ _) k)
theorem digs_add_len (a b : Nat) : (digs (a + b)).length ≤ max (digs a).length (digs b).length + 1 := by
  have ha := val_lt (ok_digs a)
  have hb := val_lt (ok_digs b)
  rw [val_digs] at ha hb
  have key : ∀ (p q r : Nat), a < 4294967296 ^ p → b < 4294967296 ^ q → p ≤ r → q ≤ r → a + b < 4294967296 ^ (r + 1) := by
    intro p q r h1 h2 h3 h4
    have e1 := Nat.pow_le_pow_right (n := 4294967296) (by omega) h3
    have e2 := Nat.pow_le_pow_right (n := 4294967296) (by omega) h4
    rw [Nat.pow_succ]; omega
  exact digs_len_lt (key _ _ _ ha hb (Nat.le_max_left _ _) (Nat.le_max_right _ _))
theorem digs_mul_len (a b : Nat) : (digs (a * b)).length ≤ (digs a).length + (digs b).length := by
  have ha := val_lt (ok_digs a)
  have hb := val_lt (ok_digs b)
  rw [val_digs] at ha hb
  apply digs_len_lt
  rw [Nat.pow_add]
  rcases Nat.eq_zero_or_pos b with h | h
  · subst h; rw [Nat.mul_zero]; exact Nat.mul_pos (Nat.pow_pos (by omega)) (Nat.pow_pos (by omega))
  · exact Nat.lt_of_lt_of_le (Nat.mul_lt_mul_of_pos_right ha h) (Nat.mul_le_mul_left _ (Nat.le_of_lt hb))
theorem digs_sub_len (a b : Nat) : (digs (a - b)).length ≤ (digs a).length := digs_len_mono _ _ (Nat.sub_le _ _)
theorem add_l (hL : Live w0 w L) (h1 : (A, c, xs) ∈ L) (h2 : (B, d, ys) ∈ L) (hn : n = xs.length) (hm : m = ys.length) (hx : val xs = x) (hy : val ys = y) (b1 : xs.length ≤ 1048576) (b2 : ys.length ≤ 1048576) :
    Calls Tryd.prog 93 #[.slice A n c, .slice B m d] w fun e w' => ∃ A' c', e = .returned (.slice A' (digs (x + y)).length c') ∧ Live w0 w' ((A', c', digs (x + y)) :: L) := by
  subst hn hm hx hy
  exact (add_any A B c d xs ys w (hL.get h1) (hL.get h2) b1 b2).mono fun e w' ⟨A', c', he, hd, hb⟩ => ⟨A', c', he, (hL.step hb).add hd⟩
theorem mul_l (hL : Live w0 w L) (h1 : (A, c, xs) ∈ L) (h2 : (B, d, ys) ∈ L) (hn : n = xs.length) (hm : m = ys.length) (hx : val xs = x) (hy : val ys = y) (b1 : xs.length ≤ 1048576) (b2 : ys.length ≤ 1048576) :
    Calls Tryd.prog 76 #[.slice A n c, .slice B m d] w fun e w' => ∃ A' c', e = .returned (.slice A' (digs (x * y)).length c') ∧ Live w0 w' ((A', c', digs (x * y)) :: L) := by
  subst hn hm hx hy
  exact (mul_any A B c d xs ys w (hL.get h1) (hL.get h2) b1 b2).mono fun e w' ⟨A', c', he, hd, hb⟩ => ⟨A', c', he, (hL.step hb).add hd⟩
theorem sub_l (hL : Live w0 w L) (h1 : (A, c, xs) ∈ L) (h2 : (B, d, ys) ∈ L) (hn : n = xs.length) (hm : m = ys.length) (hx : val xs = x) (hy : val ys = y) (b1 : xs.length ≤ 1048576) (b2 : ys.length ≤ 1048576) (hle : y ≤ x) :
    Calls Tryd.prog 82 #[.slice A n c, .slice B m d] w fun e w' => ∃ A' c', e = .returned (.tuple #[.slice A' (digs (x - y)).length c', .bool true]) ∧ Live w0 w' ((A', c', digs (x - y)) :: L) := by
  subst hn hm hx hy
  exact (sub_yes A B c d xs ys w (hL.get h1) (hL.get h2) b1 b2 hle).mono fun e w' ⟨A', c', he, hd, hb⟩ => ⟨A', c', he, (hL.step hb).add hd⟩
theorem sub_l_no (hL : Live w0 w L) (h1 : (A, c, xs) ∈ L) (h2 : (B, d, ys) ∈ L) (hn : n = xs.length) (hm : m = ys.length) (hx : val xs = x) (hy : val ys = y) (b1 : xs.length ≤ 1048576) (b2 : ys.length ≤ 1048576) (hlt : x < y) :
    Calls Tryd.prog 82 #[.slice A n c, .slice B m d] w fun e w' => e = .returned (.tuple #[.slice none 0 0, .bool false]) ∧ Live w0 w' L := by
  subst hn hm hx hy
  exact (sub_no A B c d xs ys w (hL.get h1) (hL.get h2) b1 b2 hlt).mono fun e w' ⟨he, hb⟩ => ⟨he, hL.step hb⟩
theorem cmp_l {q : Int} (hL : Live w0 w L) (h1 : (A, c, xs) ∈ L) (h2 : (B, d, ys) ∈ L) (hn : n = xs.length) (hm : m = ys.length) (hx : val xs = x) (hy : val ys = y) (b1 : xs.length ≤ 1048576) (b2 : ys.length ≤ 1048576) (hq : cmpi x y = q) :
    Calls Tryd.prog 79 #[.slice A n c, .slice B m d] w fun e w' => e = .returned (.int .i64 q) ∧ Live w0 w' L := by
  subst hn hm hx hy hq
  exact (cmp_any A B c d xs ys w (hL.get h1) (hL.get h2) (by omega) (by omega)).mono fun e w' ⟨he, k, hw⟩ => ⟨he, by rw [hw]; exact hL.drewN k⟩
theorem bits_l {q : Int} (hL : Live w0 w L) (h1 : (A, c, xs) ∈ L) (hn : n = xs.length) (hx : val xs = x) (b1 : xs.length ≤ 1048576) (hq : (blen x : Int) = q) :
    Calls Tryd.prog 97 #[.slice A n c] w fun e w' => e = .returned (.int .i64 q) ∧ Live w0 w' L := by
  subst hn hx hq
  exact (bits_any A c xs w (hL.get h1) (by omega)).mono fun e w' ⟨he, hw⟩ => ⟨he, by rw [← hw]; exact hL⟩
theorem trim_l (hL : Live w0 w L) (h1 : (A, c, xs) ∈ L) (hn : n = xs.length) (hx : val xs = x) (b1 : xs.length ≤ 1048576) :
    Calls Tryd.prog 53 #[.slice A n c] w fun e w' => ∃ A' c', e = .returned (.slice A' (digs x).length c') ∧ Live w0 w' ((A', c', digs x) :: L) := by
  subst hn hx
  exact (trim_any A c xs w (hL.get h1) (by omega)).mono fun e w' ⟨A', c', he, hd, hb⟩ => ⟨A', c', he, (hL.step hb).add hd⟩
theorem from_l {i : Int} {k : Nat} (hL : Live w0 w L) (hi : i = (k : Int)) (hk : k < 18446744073709551616) :
    Calls Tryd.prog 51 #[.int .u64 i] w fun e w' => ∃ A' c', e = .returned (.slice A' (digs k).length c') ∧ Live w0 w' ((A', c', digs k) :: L) := by
  subst hi
  exact (from_any k w hk).mono fun e w' ⟨A', c', he, hd, hb⟩ => ⟨A', c', he, (hL.step hb).add hd⟩
theorem small_l {q : Int} (hL : Live w0 w L) (h1 : (A, c, xs) ∈ L) (hn : n = xs.length) (hx : val xs = x) (b1 : xs.length ≤ 1048576) (hlt : x < 18446744073709551616) (hq : (x : Int) = q) :
    Calls Tryd.prog 55 #[.slice A n c] w fun e w' => e = .returned (.tuple #[.int .u64 q, .bool true]) ∧ Live w0 w' L := by
  subst hn hx hq
  refine (small_any A c xs w (hL.get h1) (by omega)).mono fun e w' ⟨he, k, hw⟩ => ⟨?_, by rw [hw]; exact hL.drewN k⟩
  rw [he]; exact ret_ub ⟨by unfold small?; rw [if_pos hlt], decide_eq_true hlt⟩
end
end Go.Proofs.YthgkdpfkaobgoaaDoor
end

section
/-
  nat.Shl.
-/
namespace Go.Proofs.YthgkdpfkaobgoaaDoor
open Go.RowKit
theorem two_pow_split (p : Nat) (h : p ≤ 32) : 2 ^ p * 2 ^ (32 - p) = 4294967296 := by rw [← Nat.pow_add, show p + (32 - p) = 32 by omega]
/-- One digit moved up by p bits: what stays below, and what is carried. -/
theorem shl_parts (x c p : Nat) (hx : x < 4294967296) (hc : c < 2 ^ p) (hp : p < 32) :
    (x * 2 ^ p % 4294967296 + c) + 4294967296 * (x / 2 ^ (32 - p)) = x * 2 ^ p + c ∧ x * 2 ^ p % 4294967296 + c < 4294967296 ∧ x / 2 ^ (32 - p) < 2 ^ p ∧ x * 2 ^ p % 4294967296 % 2 ^ p = 0 := by
  have hs := two_pow_split p (by omega)
  have hpp : 0 < 2 ^ p := Nat.pow_pos (by omega)
  have hqq : 0 < 2 ^ (32 - p) := Nat.pow_pos (by omega)
  generalize 2 ^ p = P at *
  generalize 2 ^ (32 - p) = Q at *
  have e1 : x * P % 4294967296 = x % Q * P := by rw [← hs, Nat.mul_comm P Q, Nat.mul_mod_mul_right]
  have e2 : Q * (x / Q) + x % Q = x := Nat.div_add_mod x Q
  have h3 : x % Q < Q := Nat.mod_lt _ hqq
  rw [e1, ← hs]
  refine ⟨?_, ?_, ?_, ?_⟩
  · have : x * P = P * Q * (x / Q) + x % Q * P := by
      conv => lhs; rw [← e2]
      rw [Nat.add_mul, Nat.mul_comm (Q * (x / Q)) P, ← Nat.mul_assoc]
    omega
  · have : x % Q * P + P ≤ P * Q := by
      calc x % Q * P + P = (x % Q + 1) * P := by rw [Nat.add_mul, Nat.one_mul]
        _ ≤ Q * P := Nat.mul_le_mul_right _ h3
        _ = P * Q := Nat.mul_comm _ _
    omega
  · rw [Nat.div_lt_iff_lt_mul hqq, hs]; exact hx
  · exact Nat.mul_mod_left _ _
theorem shl_or (x c p : Nat) (hx : x < 4294967296) (hc : c < 2 ^ p) (hp : p < 32) :
    bits BinOp.or IntKind.u32 (((x : Int) * 2 ^ p) % 4294967296) (c : Int) = ((x * 2 ^ p % 4294967296 + c : Nat) : Int) := by
  obtain ⟨_, h2, _, h4⟩ := shl_parts x c p hx hc hp
  have e : ((x : Int) * 2 ^ p) % 4294967296 = ((x * 2 ^ p % 4294967296 : Nat) : Int) := by
    rw [Int.natCast_emod, Int.natCast_mul, Int.natCast_pow]; rfl
  rw [e, u32_or_nat _ _ (Nat.mod_lt _ (by omega)) (by omega), nat_join p _ _ h4 hc]
theorem shl_carry (x p : Nat) : (x : Int) / 2 ^ (32 - p) = ((x / 2 ^ (32 - p) : Nat) : Int) := by
  rw [Int.natCast_ediv, Int.natCast_pow]; rfl
theorem shl_step {zs xs : List Nat} {k W p c t d : Nat} (hz : W + k < zs.length) (hk : k < xs.length) (h : val (zs.take (W + k)) + 4294967296 ^ (W + k) * c = 4294967296 ^ W * (val (xs.take k) * 2 ^ p))
    (hs : t + 4294967296 * d = (xs[k]?.getD 0) * 2 ^ p + c) : val ((zs.set (W + k) t).take (W + (k + 1))) + 4294967296 ^ (W + (k + 1)) * d = 4294967296 ^ W * (val (xs.take (k + 1)) * 2 ^ p) := by
  rw [← Nat.add_assoc, take_set hz, take_one hk, val_snoc, val_snoc, List.length_take, List.length_take, Nat.min_eq_left (by omega), Nat.min_eq_left (by omega), Nat.pow_succ, Nat.add_mul, Nat.mul_add, ← h]
  have e1 : 4294967296 ^ W * (4294967296 ^ k * (xs[k]?.getD 0) * 2 ^ p) = 4294967296 ^ (W + k) * (xs[k]?.getD 0 * 2 ^ p) := by
    rw [Nat.pow_add, Nat.mul_assoc, Nat.mul_assoc]
  have e2 : 4294967296 ^ (W + k) * t + 4294967296 ^ (W + k) * 4294967296 * d = 4294967296 ^ (W + k) * (xs[k]?.getD 0 * 2 ^ p) + 4294967296 ^ (W + k) * c := by
    rw [Nat.mul_assoc, ← Nat.mul_add, hs, Nat.mul_add]
  rw [e1]
  omega
theorem pow_parts (n : Nat) : 4294967296 ^ (n / 32) * 2 ^ (n % 32) = 2 ^ n := by
  have e : (4294967296 : Nat) = 2 ^ 32 := rfl
  rw [e, ← Nat.pow_mul, ← Nat.pow_add, show 32 * (n / 32) + n % 32 = n by omega]
set_option maxHeartbeats 1000000 in
set_option maxRecDepth 100000 in
theorem shl_no (A : Option Addr) (c : Nat) (xs : List Nat) (n : Int) (w : World) (hn : n < 0 ∨ 100000 < n) :
    Calls Tryd.prog 65 #[.slice A xs.length c, .int .i64 n] w fun e w' => e = .returned (.tuple #[.slice none 0 0, .bool false]) ∧ w = w' := by
  by_cases h : n < 0
  · have d0 : decide (n < 0) = true := by simp [h]
    go_enter Tryd.func65, Tryd.ntmps65
    go_wp2
    go_ret2
    exact ⟨rfl, rfl⟩
  · have d0 : decide (n < 0) = false := by simp; omega
    have d1 : decide (100000 < n) = true := by simp; omega
    clear h hn
    go_enter Tryd.func65, Tryd.ntmps65
    go_wp2
    go_ret2
    exact ⟨rfl, rfl⟩
set_option maxHeartbeats 2000000 in
set_option maxRecDepth 100000 in
theorem shl_any (A : Option Addr) (c : Nat) (xs : List Nat) (n : Nat) (w : World) (h : Dg w A c xs) (hl : xs.length ≤ 1048576) (hn : n ≤ 100000) :
    Calls Tryd.prog 65 #[.slice A xs.length c, .int .i64 n] w fun e w' => ∃ A' c', e = .returned (.tuple #[.slice A' (digs (val xs * 2 ^ n)).length c', .bool true]) ∧ Dg w' A' c' (digs (val xs * 2 ^ n)) ∧ Below w.heap.size w w' := by
  have l1 := digs_len_le h.2.1
  have H := Lib.hid h
  have HP := Lib.hid (pow_parts n)
  clear h
  have d0 : decide ((n : Int) < 0) = false := by simp
  have d1 : decide (100000 < (n : Int)) = false := by simp; omega
  go_enter Tryd.func65, Tryd.ntmps65
  go_wp2_with fail
  refine (short_any A c xs _ H.out (by omega)).mono ?_
  rintro e w' ⟨A1, c1, rfl, h1, rfl⟩
  have H1 := Lib.hid h1
  clear h1
  have V1 := Lib.hid (val_digs (val xs))
  have O1 := Lib.hid (ok_digs (val xs))
  generalize digs (val xs) = X at *
  have hmk := run_make_row' (P := Tryd.prog) 22 75 (.int .u32 0) 4 Tryd.underlying22 elem_info rfl .i64 .i64 (n / 32 + X.length + 1) (by omega) (by omega)
  rw [show ((n / 32 + X.length + 1 : Nat) : Int) = (n : Int) / 32 + (X.length : Int) + 1 by omega] at hmk
  go_wp2
  go_loopw [9, 31] (fun cy i wr => ∃ (k z : Nat) (zs : List Nat), k ≤ X.length ∧ i = .int .i64 k ∧ cy = .int .u32 z ∧ Hid (z < 2 ^ (n % 32)) ∧ z < 4294967296 ∧ Row wr w.heap.size zs ∧ Hid (zs.length = n / 32 + X.length + 1) ∧ ok32 zs ∧
    Hid (val (zs.take (n / 32 + k)) + 4294967296 ^ (n / 32 + k) * z = 4294967296 ^ (n / 32) * (val (X.take k) * 2 ^ (n % 32))) ∧ Below w.heap.size w wr) (fun _ i _ => X.length - (intOf i).toNat)
  case atStart => exact ⟨0, 0, List.replicate (n / 32 + X.length + 1) 0, Nat.zero_le _, rfl, rfl, Nat.pow_pos (by omega), by omega, Row.made _ _, by simp [Hid], ok_zeros _, by simp [Hid, val, List.take_replicate, val_zeros], (Below.refl _ _).alloc (Nat.le_refl _) _⟩
  case round =>
    obtain ⟨k, z, zs, hk, rfl, rfl, hz, hz', hrow, HL, hok, HE, hbel⟩ := hrel
    by_cases hlt : k < X.length
    · obtain ⟨b, off, hA, hb, hcx⟩ := H1.out.2.2 (by omega)
      have hx := (hbel.cell (p := ⟨b, off + k, none⟩) hb).trans (hcx k (by omega))
      have hX := getD_lt O1.out k
      have hcell := hrow.cell (i := n / 32 + k) (by have := HL.out; omega)
      have hfr := hrow.frozen (n / 32 + k)
      have hki : (n : Int) / 32 + (k : Int) < (n : Int) / 32 + (X.length : Int) + 1 := by omega
      have hk0 : (0 : Int) ≤ (n : Int) / 32 + (k : Int) := by omega
      generalize ex : X[k]?.getD 0 = x at *
      have HX := Lib.hid ex
      clear ex hcx
      subst hA
      go_wp2
      go_roundw
      case rel =>
        obtain ⟨g1, g2, g3, _⟩ := shl_parts x z (n % 32) hX hz (by omega)
        have e1 := shl_or x z (n % 32) hX hz (by omega)
        have e2 := shl_carry x (n % 32)
        have hpl : 2 ^ (n % 32) < 4294967296 := Nat.pow_lt_pow_right (by omega) (by omega : n % 32 < 32)
        exact ⟨k + 1, x / 2 ^ (32 - n % 32), zs.set (n / 32 + k) (x * 2 ^ (n % 32) % 4294967296 + z), hlt, by go_num, by rw [e2], g3, by omega, hrow.set_int e1, by simp only [List.length_set]; exact HL, ok_set hok g2 _,
          shl_step (by have := HL.out; omega) hlt HE.out (by rw [HX.out]; exact g1), hbel.setCell (by simp) _⟩
      case measure => simp [intOf]; omega
    · have hk' : k = X.length := by omega
      subst hk'
      have hcell := hrow.cell (i := n / 32 + X.length) (by have := HL.out; omega)
      have hfr := hrow.frozen (n / 32 + X.length)
      have hki : (n : Int) / 32 + (X.length : Int) < (n : Int) / 32 + (X.length : Int) + 1 := by omega
      have hk0 : (0 : Int) ≤ (n : Int) / 32 + (X.length : Int) := by omega
      clear hlt
      go_wp2_with fail
      have hrow' := hrow.set_ (n / 32 + X.length) z
      have hok' := ok_set hok (x := z) hz' (n / 32 + X.length)
      have HV := Lib.hid (show val (zs.set (n / 32 + X.length) z) = val xs * 2 ^ n from by
        rw [set_last HL.out]
        have := HE.out
        rw [List.take_of_length_le (Nat.le_refl X.length), V1.out] at this
        rw [this, ← HP.out, Nat.mul_left_comm])
      have HD := Lib.hid (hrow'.dg hok' (c := n / 32 + X.length + 1) (by have := HL.out; simp; omega))
      clear hrow' hok'
      refine (short_n HD.out (by simp only [List.length_set]; have := HL.out; omega) (by simp only [List.length_set]; exact HL.out.symm)).mono ?_
      rintro e w' ⟨A2, c2, rfl, h2, rfl⟩
      rw [HV.out] at h2
      rw [HV.out]
      have HR := Lib.hid h2
      clear h2
      go_wp2
      go_ret2
      exact ⟨A2, c2, rfl, HR.out, hbel.setCell (by simp) _⟩
end Go.Proofs.YthgkdpfkaobgoaaDoor
end

section
/-
  nat.Shr.
-/
namespace Go.Proofs.YthgkdpfkaobgoaaDoor
open Go.RowKit
theorem val_drop (xs : List Nat) (h : ok32 xs) (W : Nat) : val (xs.drop W) = val xs / 4294967296 ^ W := by
  rcases Nat.lt_or_ge xs.length W with hl | hl
  · rw [List.drop_eq_nil_of_le (by omega)]
    have h1 := val_lt h
    have h2 := Nat.pow_le_pow_right (n := 4294967296) (by omega) (show xs.length ≤ W by omega)
    rw [Nat.div_eq_of_lt (by omega)]; rfl
  · have e : val xs = val (xs.take W) + 4294967296 ^ W * val (xs.drop W) := by
      conv => lhs; rw [← List.take_append_drop W xs, val_append]
      rw [List.length_take, Nat.min_eq_left hl]
    have h1 : val (xs.take W) < 4294967296 ^ W := by
      have := val_lt (xs := xs.take W) (fun x hx => h x (List.mem_of_mem_take hx))
      rwa [List.length_take, Nat.min_eq_left hl] at this
    rw [e, Nat.add_mul_div_left _ _ (Nat.pow_pos (by omega)), Nat.div_eq_of_lt h1, Nat.zero_add]
theorem val_drop_cons {xs : List Nat} {k : Nat} (h : k < xs.length) : val (xs.drop k) = xs[k]?.getD 0 + 4294967296 * val (xs.drop (k + 1)) := by
  rw [List.drop_eq_getElem_cons h, List.getElem?_eq_getElem h]; rfl
theorem val_mod {xs : List Nat} (h : ok32 xs) (k : Nat) : val (xs.drop k) % 4294967296 = xs[k]?.getD 0 := by
  rcases Nat.lt_or_ge k xs.length with hk | hk
  · rw [val_drop_cons hk]; have := getD_lt h k; omega
  · rw [List.drop_eq_nil_of_le hk, List.getElem?_eq_none hk]; rfl
/-- Moved down by p bits: the next digit lends its lower ones. -/
theorem shr_math (y R P Q : Nat) (hs : P * Q = 4294967296) (hP : 0 < P) : (y + 4294967296 * R) / P = (y / P + R * Q % 4294967296) + 4294967296 * (R / P) := by
  have e1 : (y + 4294967296 * R) / P = y / P + Q * R := by
    rw [← hs, Nat.mul_assoc, Nat.add_mul_div_left _ _ hP]
  have e2 : R * Q = 4294967296 * (R / P) + R * Q % 4294967296 := by
    have hq : R * Q / 4294967296 = R / P := by
      have hQ : 0 < Q := Nat.pos_of_ne_zero (by rintro rfl; simp at hs)
      rw [← hs, Nat.mul_div_mul_right _ _ hQ]
    have := Nat.div_add_mod (R * Q) 4294967296
    rw [hq] at this
    exact this.symm
  rw [e1, Nat.mul_comm Q R]
  omega
theorem shr_digit (y z p : Nat) (hy : y < 4294967296) (hp : p < 32) : y / 2 ^ p + z * 2 ^ (32 - p) % 4294967296 < 4294967296 ∧ z * 2 ^ (32 - p) % 4294967296 % 2 ^ (32 - p) = 0 ∧ y / 2 ^ p < 2 ^ (32 - p) := by
  have hs := two_pow_split p (by omega)
  have hpp : 0 < 2 ^ p := Nat.pow_pos (by omega)
  have hqq : 0 < 2 ^ (32 - p) := Nat.pow_pos (by omega)
  generalize 2 ^ p = P at *
  generalize 2 ^ (32 - p) = Q at *
  have e1 : z * Q % 4294967296 = z % P * Q := by rw [← hs, Nat.mul_mod_mul_right]
  have h3 : z % P < P := Nat.mod_lt _ hpp
  have h4 : y / P < Q := by rw [Nat.div_lt_iff_lt_mul hpp, Nat.mul_comm, hs]; exact hy
  rw [e1]
  refine ⟨?_, Nat.mul_mod_left _ _, h4⟩
  have : z % P * Q + Q ≤ P * Q := by
    calc z % P * Q + Q = (z % P + 1) * Q := by rw [Nat.add_mul, Nat.one_mul]
      _ ≤ P * Q := Nat.mul_le_mul_right _ h3
  omega
theorem shr_or (y z p : Nat) (hy : y < 4294967296) (hp : p < 32) :
    bits BinOp.or IntKind.u32 ((y : Int) / 2 ^ p) (((z : Int) * 2 ^ (32 - p)) % 4294967296) = ((y / 2 ^ p + z * 2 ^ (32 - p) % 4294967296 : Nat) : Int) := by
  obtain ⟨h1, h2, h3⟩ := shr_digit y z p hy hp
  have e : ((z : Int) * 2 ^ (32 - p)) % 4294967296 = ((z * 2 ^ (32 - p) % 4294967296 : Nat) : Int) := by
    rw [Int.natCast_emod, Int.natCast_mul, Int.natCast_pow]; rfl
  have e' : (y : Int) / 2 ^ p = ((y / 2 ^ p : Nat) : Int) := by rw [Int.natCast_ediv, Int.natCast_pow]; rfl
  rw [e, e', u32_or_nat _ _ (Nat.lt_of_le_of_lt (Nat.div_le_self _ _) hy) (Nat.mod_lt _ (by omega)), Nat.or_comm, nat_join (32 - p) _ _ h2 h3, Nat.add_comm]
theorem shr_step {zs ys : List Nat} {k p t : Nat} (hz : k < zs.length) (hk : k < ys.length) (hok : ok32 ys) (hp : p < 32) (h : val (zs.take k) + 4294967296 ^ k * (val (ys.drop k) / 2 ^ p) = val ys / 2 ^ p)
    (ht : t = ys[k]?.getD 0 / 2 ^ p + (ys[k + 1]?.getD 0) * 2 ^ (32 - p) % 4294967296) : val ((zs.set k t).take (k + 1)) + 4294967296 ^ (k + 1) * (val (ys.drop (k + 1)) / 2 ^ p) = val ys / 2 ^ p := by
  have hs := two_pow_split p (by omega)
  rw [take_set hz, val_snoc, List.length_take, Nat.min_eq_left (by omega), ← h, val_drop_cons hk, shr_math _ _ _ _ hs (Nat.pow_pos (by omega)), ht]
  have hm : val (ys.drop (k + 1)) * 2 ^ (32 - p) % 4294967296 = ys[k + 1]?.getD 0 * 2 ^ (32 - p) % 4294967296 := by
    rw [Nat.mul_mod, val_mod hok, ← Nat.mod_eq_of_lt (getD_lt hok (k + 1)), ← Nat.mul_mod, Nat.mod_eq_of_lt (getD_lt hok (k + 1))]
  rw [hm, Nat.pow_succ]
  simp only [Nat.mul_add, Nat.mul_assoc, Nat.add_assoc]
theorem shr_pow (v n : Nat) : v / 4294967296 ^ (n / 32) / 2 ^ (n % 32) = v / 2 ^ n := by
  rw [Nat.div_div_eq_div_mul, pow_parts]
theorem Dg.drop {w : World} {b off c : Nat} {xs : List Nat} {k : Nat} (h : Dg w (some ⟨b, off, none⟩) c xs) (hk : k < xs.length) : Dg w (some ⟨b, off + k, none⟩) (c - k) (xs.drop k) := by
  refine ⟨by rw [List.length_drop]; have := h.1; omega, fun x hx => h.2.1 x (List.mem_of_mem_drop hx), fun _ => ?_⟩
  obtain ⟨b', off', e, hb, hc⟩ := h.2.2 (by omega)
  injection e with e
  injection e with e1 e2 _
  subst e1 e2
  refine ⟨b, off + k, rfl, hb, fun j hj => ?_⟩
  rw [List.length_drop] at hj
  rw [Nat.add_assoc, hc (k + j) (by omega), List.getElem?_drop]
set_option maxHeartbeats 1000000 in
set_option maxRecDepth 100000 in
theorem shr_neg (A : Option Addr) (c : Nat) (xs : List Nat) (n : Int) (w : World) (h : Dg w A c xs) (hl : xs.length ≤ 1048576) (hn : n < 0) :
    Calls Tryd.prog 66 #[.slice A xs.length c, .int .i64 n] w fun e w' => ∃ A' c', e = .returned (.slice A' (digs (val xs)).length c') ∧ Dg w' A' c' (digs (val xs)) ∧ Below w.heap.size w w' := by
  have l1 := digs_len_le h.2.1
  have H := Lib.hid h
  clear h
  have d0 : decide (n < 0) = true := by simp [hn]
  go_enter Tryd.func66, Tryd.ntmps66
  go_wp2_with fail
  refine (short_any A c xs _ H.out (by omega)).mono ?_
  rintro e w' ⟨A1, c1, rfl, h1, rfl⟩
  have H1 := Lib.hid h1
  clear h1
  go_wp2_with fail
  refine (clone_any A1 c1 _ _ H1.out (by omega)).mono ?_
  rintro e w' ⟨A2, c2, rfl, h2, hb⟩
  have H2 := Lib.hid h2
  clear h2
  go_wp2
  go_ret
  exact ⟨A2, c2, rfl, H2.out, hb⟩
set_option maxHeartbeats 2000000 in
set_option maxRecDepth 100000 in
theorem shr_any (A : Option Addr) (c : Nat) (xs : List Nat) (n : Nat) (w : World) (h : Dg w A c xs) (hl : xs.length ≤ 1048576) (hn : n ≤ 9223372036854775807) :
    Calls Tryd.prog 66 #[.slice A xs.length c, .int .i64 n] w fun e w' => ∃ A' c', e = .returned (.slice A' (digs (val xs / 2 ^ n)).length c') ∧ Dg w' A' c' (digs (val xs / 2 ^ n)) ∧ Below w.heap.size w w' := by
  have l1 := digs_len_le h.2.1
  have H := Lib.hid h
  clear h
  have d0 : decide ((n : Int) < 0) = false := by simp
  have HN := Lib.hid hn
  go_enter Tryd.func66, Tryd.ntmps66
  go_wp2_with fail
  refine (short_any A c xs _ H.out (by omega)).mono ?_
  rintro e w' ⟨A1, c1, rfl, h1, rfl⟩
  have H1 := Lib.hid h1
  clear h1
  have V1 := Lib.hid (val_digs (val xs))
  have O1 := Lib.hid (ok_digs (val xs))
  generalize digs (val xs) = X at *
  by_cases hw : X.length ≤ n / 32
  · have d1 : decide ((X.length : Int) ≤ (n : Int) / 32) = true := by simp; omega
    have HF := Lib.hid (show val xs / 2 ^ n = 0 from by
      rw [← V1.out, ← shr_pow, ← val_drop X O1.out, List.drop_eq_nil_of_le hw]; simp [val])
    clear hw
    go_wp2
    go_ret
    rw [HF.out, digs_zero]
    exact ⟨none, 0, rfl, Dg.nil_ _ _, Below.refl _ _⟩
  · have d1 : decide ((X.length : Int) ≤ (n : Int) / 32) = false := by simp; omega
    obtain ⟨b, off, rfl, hb, hcx⟩ := H1.out.2.2 (by omega)
    have hcap := H1.out.1
    have hw0 : (0 : Int) ≤ (n : Int) / 32 := by omega
    have hw1 : (n : Int) / 32 ≤ (X.length : Int) := by omega
    have hwc : ¬ (c1 = n / 32) := by omega
    go_upto_region 8 with fail
    have hdy := H1.out.drop (show n / 32 < X.length by omega)
    have hyl : (X.drop (n / 32)).length = X.length - n / 32 := List.length_drop
    have HVY := Lib.hid (show val (X.drop (n / 32)) / 2 ^ (n % 32) = val xs / 2 ^ n from by rw [val_drop X O1.out, shr_pow, V1.out])
    have OY := Lib.hid hdy.2.1
    have hm1 : X.length - n / 32 ≤ 1048576 := by omega
    have hm0 : 0 < X.length - n / 32 := by omega
    clear hw d1 hw0 hw1 hwc hcx hcap
    generalize X.drop (n / 32) = Y at *
    generalize X.length - n / 32 = m at *
    generalize off + n / 32 = o at *
    generalize c1 - n / 32 = cy at *
    have HL0 := Lib.hid hyl
    have HDY := Lib.hid hdy
    clear hyl hdy
    have hmk := run_make_row' (P := Tryd.prog) 22 75 (.int .u32 0) 4 Tryd.underlying22 elem_info rfl .i64 .i64 m (by omega) (by omega)
    go_wp2
    go_loopw [31] (fun i wr => ∃ (k : Nat) (zs : List Nat), k ≤ m ∧ i = .int .i64 k ∧ Row wr w.heap.size zs ∧ Hid (zs.length = m) ∧ ok32 zs ∧
      Hid (val (zs.take k) + 4294967296 ^ k * (val (Y.drop k) / 2 ^ (n % 32)) = val Y / 2 ^ (n % 32)) ∧ Below w.heap.size w wr) (fun i _ => m - (intOf i).toNat)
    case atStart => exact ⟨0, List.replicate m 0, Nat.zero_le _, rfl, Row.made _ _, by simp [Hid], ok_zeros _, by simp [Hid, val], (Below.refl _ _).alloc (Nat.le_refl _) _⟩
    case round =>
      obtain ⟨k, zs, hk, rfl, hrow, HL, hok, HE, hbel⟩ := hrel
      by_cases hlt : k < m
      · obtain ⟨b', o', e, hbk, hcx⟩ := HDY.out.2.2 (by have := HL0.out; omega)
        injection e with e
        injection e with e1 e2 _
        subst e1 e2
        have hx := (hbel.cell (p := ⟨b, o + k, none⟩) hb).trans (hcx k (by have := HL0.out; omega))
        have hX := getD_lt OY.out k
        have hZ := getD_lt OY.out (k + 1)
        have hcell := hrow.cell (i := k) (by have := HL.out; omega)
        have hfr := hrow.frozen k
        by_cases hlast : k + 1 < m
        · have hx2 := (hbel.cell (p := ⟨b, o + (k + 1), none⟩) hb).trans (hcx (k + 1) (by have := HL0.out; omega))
          have d2 : decide ((k : Int) + 1 < (m : Int)) = true := by simp; omega
          have hki : (k : Int) + 1 < (m : Int) := by omega
          generalize ex : Y[k]?.getD 0 = x at *
          generalize ey : Y[k + 1]?.getD 0 = y at *
          have HX := Lib.hid ex
          have HY := Lib.hid ey
          clear ex ey hcx
          go_wp2
          have hdiv : (x : Int) / 2 ^ (n % 32) = ((x / 2 ^ (n % 32) : Nat) : Int) := by rw [Int.natCast_ediv, Int.natCast_pow]; rfl
          have hdl : x / 2 ^ (n % 32) < 4294967296 := Nat.lt_of_le_of_lt (Nat.div_le_self _ _) hX
          have hr1 := hrow.set_int (i := k) hdiv
          have hb1 := hbel.setCell (p := ⟨w.heap.size, k, none⟩) (Nat.le_refl _) (.int .u32 ((x : Int) / 2 ^ (n % 32)))
          have hx3 := (World.cell?_setCell_other wr ⟨w.heap.size, k, none⟩ ⟨b, o + (k + 1), none⟩ (.int .u32 ((x : Int) / 2 ^ (n % 32))) (by intro e; injection e with e1 _ _; omega)).trans hx2
          generalize wr.setCell ⟨w.heap.size, k, none⟩ (.int .u32 ((x : Int) / 2 ^ (n % 32))) = W1 at *
          have hc1 := hr1.cell (i := k) (by simp; have := HL.out; omega)
          rw [List.getElem?_set_self (by have := HL.out; omega), Option.getD_some, ← hdiv] at hc1
          have hf1 := hr1.frozen k
          have HDV := Lib.hid hdiv
          have HR1 := Lib.hid hr1
          have HB1 := Lib.hid hb1
          clear hdiv hr1 hb1 hrow hbel
          clear hx hx2 hcell hfr
          have hw1 : IntKind.i64.wrap ((k : Int) + 1) = (k : Int) + 1 := IntWalk.i64_in _ (by omega)
          have hw2 : IntKind.i64.wrap (32 - (n : Int) % 32) = 32 - (n : Int) % 32 := IntWalk.i64_in _ (by omega)
          have hs0 : (0 : Int) ≤ 32 - (n : Int) % 32 := by omega
          have hs1 : (32 - (n : Int) % 32).toNat = 32 - n % 32 := by omega
          have hs2 : (32 - (n : Int) % 32) < 64 := by omega
          have hk0 : (0 : Int) ≤ (k : Int) + 1 := by omega
          have hk1 : ((k : Int) + 1).toNat = k + 1 := by omega
          refine wp_region_still_tail 14 (by kernel_rfl) (by kernel_rfl) ?_
          simp only [List.take_succ_cons, List.take_zero, List.drop_succ_cons, List.drop_zero]
          repeat still_step
          refine wpStill_nil ?_
          change wpList _ _ _ _ _ W1.drew
          go_wp2
          go_roundw
          case rel =>
            obtain ⟨g1, _, _⟩ := shr_digit x y (n % 32) hX (by omega)
            have e1 := shr_or x y (n % 32) hX (by omega)
            have hss := shr_step (zs := zs) (ys := Y) (k := k) (p := n % 32) (by have := HL.out; omega) (by have := HL0.out; omega) OY.out (by omega) HE.out rfl
            rw [HX.out, HY.out] at hss
            refine ⟨k + 1, (zs.set k (x / 2 ^ (n % 32))).set k (x / 2 ^ (n % 32) + y * 2 ^ (32 - n % 32) % 4294967296), hlt, by go_num, HR1.out.drew.set_int e1, by simp only [List.length_set]; exact HL, ok_set (ok_set hok hdl k) g1 k, ?_, (HB1.out.drew).setCell (by simp) _⟩
            rw [List.set_set]
            exact hss
          case measure => simp [intOf]; omega
        · have d2 : decide ((k : Int) + 1 < (m : Int)) = false := by simp; omega
          have HY := Lib.hid (show Y[k + 1]?.getD 0 = 0 from by rw [List.getElem?_eq_none (by have := HL0.out; omega)]; rfl)
          generalize ex : Y[k]?.getD 0 = x at *
          have HX := Lib.hid ex
          have hml : (m : Int) ≤ (k : Int) + 1 := by omega
          clear ex hcx hlast
          go_wp2
          go_roundw
          case rel =>
            have hdiv : (x : Int) / 2 ^ (n % 32) = ((x / 2 ^ (n % 32) : Nat) : Int) := by rw [Int.natCast_ediv, Int.natCast_pow]; rfl
            have hdl : x / 2 ^ (n % 32) < 4294967296 := Nat.lt_of_le_of_lt (Nat.div_le_self _ _) hX
            have hss := shr_step (zs := zs) (ys := Y) (k := k) (p := n % 32) (by have := HL.out; omega) (by have := HL0.out; omega) OY.out (by omega) HE.out rfl
            rw [HX.out, HY.out, Nat.zero_mul, Nat.zero_mod, Nat.add_zero] at hss
            exact ⟨k + 1, zs.set k (x / 2 ^ (n % 32)), hlt, by go_num, hrow.set_int hdiv, by simp only [List.length_set]; exact HL, ok_set hok hdl k, hss, hbel.setCell (by simp) _⟩
          case measure => simp [intOf]; omega
      · have hk' : k = m := by omega
        subst hk'
        clear hlt
        go_wp2_with fail
        have HV := Lib.hid (show val zs = val xs / 2 ^ n from by
          have := HE.out
          rw [List.take_of_length_le (by have := HL.out; omega : zs.length ≤ k), List.drop_eq_nil_of_le (by have := HL0.out; omega), HVY.out] at this
          simpa [val] using this)
        have HD := Lib.hid (hrow.dg hok (c := k) (by have := HL.out; omega))
        refine (short_n HD.out (by have := HL.out; omega) HL.out.symm).mono ?_
        rintro e w' ⟨A2, c2, rfl, h2, rfl⟩
        rw [HV.out] at h2
        rw [HV.out]
        have HR := Lib.hid h2
        clear h2
        go_wp2
        go_ret
        exact ⟨A2, c2, rfl, HR.out, hbel⟩
end Go.Proofs.YthgkdpfkaobgoaaDoor
end

section
/-
  nat.Shl, Shr, Bit over what a law carries along.
-/
namespace Go.Proofs.YthgkdpfkaobgoaaDoor
open Go.RowKit
section
variable {w0 w w' : World} {L : List (Option Addr × Nat × List Nat)} {A B : Option Addr} {c d n m : Nat} {xs ys : List Nat} {x y : Nat}
theorem shl_l {i : Int} {k : Nat} (hL : Live w0 w L) (h1 : (A, c, xs) ∈ L) (hn : n = xs.length) (hx : val xs = x) (b1 : xs.length ≤ 1048576) (hi : i = (k : Int)) (hk : k ≤ 100000) :
    Calls Tryd.prog 65 #[.slice A n c, .int .i64 i] w fun e w' => ∃ A' c', e = .returned (.tuple #[.slice A' (digs (x * 2 ^ k)).length c', .bool true]) ∧ Live w0 w' ((A', c', digs (x * 2 ^ k)) :: L) := by
  subst hn hx hi
  exact (shl_any A c xs k w (hL.get h1) b1 hk).mono fun e w' ⟨A', c', he, hd, hb⟩ => ⟨A', c', he, (hL.step hb).add hd⟩
theorem shr_l {i : Int} {k : Nat} (hL : Live w0 w L) (h1 : (A, c, xs) ∈ L) (hn : n = xs.length) (hx : val xs = x) (b1 : xs.length ≤ 1048576) (hi : i = (k : Int)) (hk : k ≤ 9223372036854775807) :
    Calls Tryd.prog 66 #[.slice A n c, .int .i64 i] w fun e w' => ∃ A' c', e = .returned (.slice A' (digs (x / 2 ^ k)).length c') ∧ Live w0 w' ((A', c', digs (x / 2 ^ k)) :: L) := by
  subst hn hx hi
  exact (shr_any A c xs k w (hL.get h1) b1 hk).mono fun e w' ⟨A', c', he, hd, hb⟩ => ⟨A', c', he, (hL.step hb).add hd⟩
end
theorem pow_digs_len (k : Nat) : (digs (2 ^ k)).length ≤ k / 32 + 1 := by
  apply digs_len_lt
  have e : (4294967296 : Nat) = 2 ^ 32 := rfl
  rw [e, ← Nat.pow_mul]
  exact Nat.pow_lt_pow_right (by omega) (by omega)
theorem digs_shl_len (x k : Nat) : (digs (x * 2 ^ k)).length ≤ (digs x).length + (k / 32 + 1) := by
  have h1 := digs_mul_len x (2 ^ k)
  have h2 := pow_digs_len k
  omega
theorem digs_shr_len (x k : Nat) : (digs (x / 2 ^ k)).length ≤ (digs x).length := digs_len_mono _ _ (Nat.div_le_self _ _)
theorem blen_shl {x : Nat} (k : Nat) (h : x ≠ 0) : blen (x * 2 ^ k) = blen x + k := by
  have hp : 0 < 2 ^ k := Nat.pow_pos (by omega)
  rw [blen_shift k _ (Nat.le_mul_of_pos_left _ (by omega)), Nat.mul_div_cancel _ hp, Nat.add_comm]
theorem blen_lt (x : Nat) : x < 2 ^ blen x := by
  induction x using Nat.strongRecOn with
  | ind x ih =>
    by_cases h : x = 0
    · subst h; rw [blen_zero]; omega
    · have := ih (x / 2) (by omega)
      rw [blen_pos h, Nat.add_comm, Nat.pow_succ]; omega
theorem bit_shl (x k i : Nat) : bitAt (x * 2 ^ k) ((i : Int) + (k : Int)) = bitAt x (i : Int) := by
  unfold bitAt
  rw [decide_eq_true (by omega), decide_eq_true (by omega), show ((i : Int) + (k : Int)).toNat = i + k by omega, Int.toNat_natCast, Nat.testBit_mul_two_pow]
  simp
theorem bit_past (x i : Nat) : bitAt x ((blen x : Int) + (i : Int)) = false := by
  unfold bitAt
  rw [show ((blen x : Int) + (i : Int)).toNat = blen x + i by omega, Nat.testBit_lt_two_pow (Nat.lt_of_lt_of_le (blen_lt x) (Nat.pow_le_pow_right (by omega) (by omega)))]
  simp
end Go.Proofs.YthgkdpfkaobgoaaDoor
end

section
/-
  The divisor moved up until its first bit is 1.
-/
namespace Go.Proofs.YthgkdpfkaobgoaaDoor
open Go.RowKit
theorem bits_le : ∀ (k x : Nat), x < 2 ^ k → blen x ≤ k := by
  intro k
  induction k with
  | zero => intro x h; simp at h; subst h; rw [blen_zero]; omega
  | succ k ih =>
    intro x h
    rcases Nat.eq_zero_or_pos x with h0 | h0
    · subst h0; rw [blen_zero]; omega
    · rw [blen_pos (by omega)]
      have := ih (x / 2) (by rw [Nat.pow_succ] at h; omega)
      omega
theorem norm_way {b : Nat} (hb : b ≠ 0) : ∃ s, s ≤ 31 ∧ blen b + s = 32 * (digs b).length := by
  have h := blen_digs b hb
  have hl : 0 < (digs b).length := by
    rcases Nat.eq_zero_or_pos (digs b).length with h0 | h0
    · exact absurd (digs_nil.1 h0) hb
    · exact h0
  have h1 := bits_le 32 _ (getD_lt (ok_digs b) ((digs b).length - 1))
  have h2 : 1 ≤ blen ((digs b)[(digs b).length - 1]?.getD 0) := by
    have hne : (digs b)[(digs b).length - 1]?.getD 0 ≠ 0 := by
      have e : (digs b)[(digs b).length - 1]? = some (digs b)[(digs b).length - 1] := List.getElem?_eq_getElem (by omega)
      rw [e]
      exact last_digs (by rw [List.getLast?_eq_getElem?, e]; rfl)
    rw [blen_pos hne]; omega
  exact ⟨32 * (digs b).length - blen b, by omega, by omega⟩
theorem norm_top {b s : Nat} (hb : b ≠ 0) (hs : blen b + s = 32 * (digs b).length) : (digs (b * 2 ^ s)).length = (digs b).length ∧ 2147483648 ≤ (digs (b * 2 ^ s))[(digs b).length - 1]?.getD 0 := by
  have hv : b * 2 ^ s ≠ 0 := Nat.mul_ne_zero hb (Nat.pos_iff_ne_zero.1 (Nat.pow_pos (by omega)))
  have h := blen_digs _ hv
  rw [blen_shl s hb, hs] at h
  have h1 := bits_le 32 _ (getD_lt (ok_digs (b * 2 ^ s)) ((digs (b * 2 ^ s)).length - 1))
  have hl : 0 < (digs (b * 2 ^ s)).length := by
    rcases Nat.eq_zero_or_pos (digs (b * 2 ^ s)).length with h0 | h0
    · exact absurd (digs_nil.1 h0) hv
    · exact h0
  have h2 : 1 ≤ blen ((digs (b * 2 ^ s))[(digs (b * 2 ^ s)).length - 1]?.getD 0) := by
    have hne : (digs (b * 2 ^ s))[(digs (b * 2 ^ s)).length - 1]?.getD 0 ≠ 0 := by
      have e : (digs (b * 2 ^ s))[(digs (b * 2 ^ s)).length - 1]? = some (digs (b * 2 ^ s))[(digs (b * 2 ^ s)).length - 1] := List.getElem?_eq_getElem (by omega)
      rw [e]
      exact last_digs (by rw [List.getLast?_eq_getElem?, e]; rfl)
    rw [blen_pos hne]; omega
  have e : (digs (b * 2 ^ s)).length = (digs b).length := by omega
  refine ⟨e, ?_⟩
  rw [← e]
  rcases Nat.lt_or_ge ((digs (b * 2 ^ s))[(digs (b * 2 ^ s)).length - 1]?.getD 0) 2147483648 with h3 | h3
  · have := bits_le 31 _ h3; omega
  · exact h3
/-- The number moved up is below the divisor, moved up, B^(m - n + 1) times. -/
theorem norm_start {a b s : Nat} (hb : b ≠ 0) (hle : (digs b).length ≤ (digs a).length) : a * 2 ^ s < b * 2 ^ s * 4294967296 ^ ((digs a).length - (digs b).length + 1) := by
  have h1 : a < 4294967296 ^ (digs a).length := by have := val_lt (ok_digs a); rwa [val_digs] at this
  have hl : 0 < (digs b).length := by
    rcases Nat.eq_zero_or_pos (digs b).length with h0 | h0
    · exact absurd (digs_nil.1 h0) hb
    · exact h0
  have h2 : 4294967296 ^ ((digs b).length - 1) ≤ b := by
    have hne : (digs b)[(digs b).length - 1]?.getD 0 ≠ 0 := by
      have e : (digs b)[(digs b).length - 1]? = some (digs b)[(digs b).length - 1] := List.getElem?_eq_getElem (by omega)
      rw [e]
      exact last_digs (by rw [List.getLast?_eq_getElem?, e]; rfl)
    have := val_pos_of_get _ _ hne
    rwa [val_digs] at this
  have h3 : a < b * 4294967296 ^ ((digs a).length - (digs b).length + 1) := by
    refine Nat.lt_of_lt_of_le h1 (Nat.le_trans (Nat.le_of_eq ?_) (Nat.mul_le_mul_right _ h2))
    rw [← Nat.pow_add]; congr 1; omega
  rw [Nat.mul_right_comm]
  exact Nat.mul_lt_mul_of_pos_right h3 (Nat.pow_pos (by omega))
theorem div_moved (a b s : Nat) : a * 2 ^ s / (b * 2 ^ s) = a / b := Nat.mul_div_mul_right a b (Nat.pow_pos (by omega))
theorem mod_moved (a b s : Nat) : a * 2 ^ s % (b * 2 ^ s) / 2 ^ s = a % b := by
  rw [Nat.mul_mod_mul_right, Nat.mul_div_cancel _ (Nat.pow_pos (by omega))]
theorem div_done {m v q l : Nat} (e : m = l + v * q) (h : l < v) : q = m / v ∧ l = m % v := by
  subst e
  rw [Nat.add_mul_div_left _ _ (by omega), Nat.add_mul_mod_self_left, Nat.div_eq_of_lt h, Nat.mod_eq_of_lt h]; omega
end Go.Proofs.YthgkdpfkaobgoaaDoor
end

section
/-
  The law's own 'digits': are two lists the same?
-/
namespace Go.Proofs.YthgkdpfkaobgoaaDoor
open Go.RowKit
section
variable {w0 w w' : World} {L : List (Option Addr × Nat × List Nat)} {A B : Option Addr} {c d n m : Nat} {xs ys : List Nat} {x y : Nat}
end
end Go.Proofs.YthgkdpfkaobgoaaDoor
end

section
/-
  Slices of digits that are written out in a text; inputs that are cut to so many digits.
-/
namespace Go.Proofs.YthgkdpfkaobgoaaDoor
open Go.RowKit
theorem Live.new {w0 w : World} {L : List (Option Addr × Nat × List Nat)} (h : Live w0 w L) (cs : Array Value) {xs : List Nat} (hk : ok32 xs) (hc : ∀ j, j < xs.length → cs[j]? = some (.int .u32 (xs[j]?.getD 0 : Nat))) :
    Live w0 (w.alloc (.cells cs 75)) ((some ⟨w.heap.size, 0, none⟩, xs.length, xs) :: L) :=
  (h.step ((Below.refl _ _).alloc (Nat.le_refl _) _)).add (dg_new w cs _ hk hc (Nat.le_refl _))
theorem Live.new1 {w0 w : World} {L : List (Option Addr × Nat × List Nat)} (h : Live w0 w L) (x : Int) (a : Nat) (hx : x = (a : Int)) (ha : a < 4294967296) :
    Live w0 (w.alloc (.cells #[.int .u32 x] 75)) ((some ⟨w.heap.size, 0, none⟩, 1, [a]) :: L) := by
  subst hx
  exact h.new #[.int .u32 (a : Int)] (xs := [a]) (by intro z hz; simp at hz; omega) (by intro j hj; simp at hj; subst hj; rfl)
theorem Live.new2 {w0 w : World} {L : List (Option Addr × Nat × List Nat)} (h : Live w0 w L) (x y : Int) (a b : Nat) (hx : x = (a : Int)) (hy : y = (b : Int)) (ha : a < 4294967296) (hb : b < 4294967296) :
    Live w0 (w.alloc (.cells #[.int .u32 x, .int .u32 y] 75)) ((some ⟨w.heap.size, 0, none⟩, 2, [a, b]) :: L) := by
  subst hx hy
  exact h.new #[.int .u32 (a : Int), .int .u32 (b : Int)] (xs := [a, b]) (by intro z hz; simp at hz; omega)
    (by intro j hj; simp at hj; rcases (show j = 0 ∨ j = 1 by omega) with rfl | rfl <;> rfl)
theorem Live.new3 {w0 w : World} {L : List (Option Addr × Nat × List Nat)} (h : Live w0 w L) (x y z : Int) (a b c : Nat) (hx : x = (a : Int)) (hy : y = (b : Int)) (hz : z = (c : Int)) (ha : a < 4294967296) (hb : b < 4294967296) (hc : c < 4294967296) :
    Live w0 (w.alloc (.cells #[.int .u32 x, .int .u32 y, .int .u32 z] 75)) ((some ⟨w.heap.size, 0, none⟩, 3, [a, b, c]) :: L) := by
  subst hx hy hz
  exact h.new #[.int .u32 (a : Int), .int .u32 (b : Int), .int .u32 (c : Int)] (xs := [a, b, c]) (by intro z hz; simp at hz; omega)
    (by intro j hj; simp at hj; rcases (show j = 0 ∨ j = 1 ∨ j = 2 by omega) with rfl | rfl | rfl <;> rfl)
theorem digs_two {a b : Nat} (ha : a < 4294967296) (hb : b < 4294967296) (h : b ≠ 0) : digs (a + 4294967296 * b) = [a, b] := by
  rw [digs_pos (by omega), show (a + 4294967296 * b) % 4294967296 = a by omega, show (a + 4294967296 * b) / 4294967296 = b by omega, digs_pos h, show b % 4294967296 = b by omega, show b / 4294967296 = 0 by omega, digs_zero]
theorem digs_one {a : Nat} (ha : a < 4294967296) (h : a ≠ 0) : digs a = [a] := by
  rw [digs_pos h, show a % 4294967296 = a by omega, show a / 4294967296 = 0 by omega, digs_zero]
theorem live_start (w : World) : Live w w [] := ⟨Below.refl _ _, fun t ht => by simp at ht⟩
theorem Dg.take {w : World} {A : Option Addr} {c : Nat} {xs : List Nat} (h : Dg w A c xs) (k : Nat) : Dg w A c (xs.take k) :=
  ⟨by rw [List.length_take]; have := h.1; omega, fun x hx => h.2.1 x (List.mem_of_mem_take hx), fun h0 => by
    rw [List.length_take] at h0
    obtain ⟨b, off, e, hb, hc⟩ := h.2.2 (by omega)
    refine ⟨b, off, e, hb, fun j hj => ?_⟩
    rw [List.length_take] at hj
    rw [hc j (by omega), List.getElem?_take, if_pos (by omega)]⟩
theorem blen_ne {v : Nat} (h : v ≠ 0) : ((blen v : Int) == 0) = false := by rw [blen_pos h]; exact beq_eq_false_iff_ne.2 (by omega)
end Go.Proofs.YthgkdpfkaobgoaaDoor
end

section
/-
  math/bits.Div32; quo.divDigit.
-/
namespace Go.Proofs.YthgkdpfkaobgoaaDoor
open Go.RowKit
set_option maxHeartbeats 1000000 in
set_option maxRecDepth 100000 in
theorem div32_any (x y d : Nat) (w : World) (hx : x < d) (hy : y < 4294967296) (hd : d < 4294967296) :
    Calls Tryd.prog 96 #[.int .u32 x, .int .u32 y, .int .u32 d] w fun e w' => e = .returned (.tuple #[.int .u32 ((y + 4294967296 * x) / d : Nat), .int .u32 ((y + 4294967296 * x) % d : Nat)]) ∧ ∃ n, w' = w.drewN n := by
  have f1 : ((d : Int) == 0) = false := beq_eq_false_iff_ne.2 (by omega)
  have f3 : ((d : Int) != 0) = true := by simp; omega
  have f2 : decide (d ≤ x) = false := by simp; omega
  have f0 : 0 < d := by omega
  have hx' : x < 4294967296 := by omega
  obtain ⟨t, ht⟩ : ∃ t : Nat, y + 4294967296 * x = t := ⟨_, rfl⟩
  have hO : bits BinOp.or IntKind.u64 ((x : Int) * 4294967296) (y : Int) = (t : Int) := by rw [or_join _ _ hx' hy, ht]
  obtain ⟨q, hq⟩ : ∃ q : Nat, t / d = q := ⟨_, rfl⟩
  obtain ⟨r, hr⟩ : ∃ r : Nat, t % d = r := ⟨_, rfl⟩
  have hw0 : IntKind.u64.wrap ((t : Int) / (d : Int)) = (q : Int) := by rw [← hq, ← Int.natCast_ediv]; exact IntWalk.u64_in _ ⟨by omega, by have := Nat.div_le_self t d; omega⟩
  have hw1 : (t : Int) % (d : Int) = (r : Int) := by rw [← hr, Int.natCast_emod]
  have bq : q < 4294967296 := by rw [← hq, Nat.div_lt_iff_lt_mul f0, ← ht]; have := Nat.mul_le_mul_left 4294967296 hx; omega
  have br : r < 4294967296 := by rw [← hr]; exact Nat.lt_trans (Nat.mod_lt t f0) hd
  have bt : t < 18446744073709551616 := by omega
  rw [ht, hq, hr]
  clear ht hq hr hx
  go_enter Tryd.func96, Tryd.ntmps96
  go_wp2
  go_quiet (fail)
  go_wp2
  go_ret2
  exact ⟨ret2 (by omega) (by omega), _, rfl⟩
theorem digit_step {xs zs : List Nat} {k d r q r' : Nat} (hx : k < xs.length) (hz : k < zs.length) (h : val (xs.drop (k + 1)) = val (zs.drop (k + 1)) * d + r) (hq : (xs[k]?.getD 0 + 4294967296 * r) / d = q) (hr : (xs[k]?.getD 0 + 4294967296 * r) % d = r') :
    val (xs.drop k) = val ((zs.set k q).drop k) * d + r' := by
  have e1 : xs.drop k = xs[k]?.getD 0 :: xs.drop (k + 1) := by rw [List.drop_eq_getElem_cons hx, List.getElem?_eq_getElem hx]; rfl
  have e2 : (zs.set k q).drop k = q :: zs.drop (k + 1) := by
    rw [List.drop_eq_getElem_cons (by simpa using hz), List.drop_set_of_lt (by omega)]; simp
  have e3 := Nat.div_add_mod (xs[k]?.getD 0 + 4294967296 * r) d
  rw [hq, hr, Nat.mul_comm] at e3
  rw [e1, e2]
  simp only [val]
  rw [h, Nat.add_mul, Nat.mul_add, Nat.mul_assoc]
  omega
set_option maxHeartbeats 2000000 in
set_option maxRecDepth 100000 in
theorem divdigit_any (A : Option Addr) (c d : Nat) (xs : List Nat) (w : World) (h : Dg w A c xs) (hl : xs.length ≤ 1048576) (hd0 : 0 < d) (hd : d < 4294967296) :
    Calls Tryd.prog 80 #[.slice A xs.length c, .int .u32 d] w fun e w' => ∃ A' c' B' d', e = .returned (.tuple #[.slice A' (digs (val xs / d)).length c', .slice B' (digs (val xs % d)).length d']) ∧ Dg w' A' c' (digs (val xs / d)) ∧ Dg w' B' d' (digs (val xs % d)) ∧ Below w.heap.size w w' := by
  have H := Lib.hid h
  clear h
  have hmk := run_make_row' (P := Tryd.prog) 22 75 (.int .u32 0) 4 Tryd.underlying22 elem_info rfl .i64 .i64 xs.length (by omega) (by omega)
  go_enter Tryd.func80, Tryd.ntmps80
  go_wp2
  go_loopw [6, 7] (fun rv i wr => ∃ (k r : Nat) (z : Int) (zs : List Nat), k ≤ xs.length ∧ i = .int .i64 z ∧ z = (k : Int) - 1 ∧ rv = .int .u32 r ∧ r < d ∧ Row wr w.heap.size zs ∧ Hid (zs.length = xs.length) ∧ ok32 zs ∧
    Hid (val (xs.drop k) = val (zs.drop k) * d + r) ∧ Below w.heap.size w wr) (fun _ i _ => (intOf i + 1).toNat)
  case atStart => exact ⟨xs.length, 0, (xs.length : Int) - 1, List.replicate xs.length 0, Nat.le_refl _, rfl, rfl, rfl, hd0, Row.made _ _, by simp [Hid], ok_zeros _, by simp [Hid, val], (Below.refl _ _).alloc (Nat.le_refl _) _⟩
  case round =>
    obtain ⟨k, r, z, zs, hk, rfl, hz, rfl, hr, hrow, HL, hok, HE, hbel⟩ := hrel
    rcases k with _ | k
    · obtain rfl : z = -1 := by omega
      clear hz hk
      have HV : Hid (val xs / d = val zs ∧ val xs % d = r) := by
        have e := HE.out
        rw [List.drop_zero, List.drop_zero] at e
        rw [e, Nat.mul_comm, Nat.mul_add_div hd0, Nat.mul_add_mod, Nat.div_eq_of_lt hr, Nat.mod_eq_of_lt hr]
        exact ⟨Nat.add_zero _, rfl⟩
      have L0 := Lib.hid ((live_start wr).add (hrow.dg hok (c := xs.length) (by have := HL.out; omega)))
      have hl' := HL.out
      go_wp2_with fail
      refine Calls.mono (trim_l (xs := zs) (x := val xs / d) L0.out (by simp) hl'.symm (by rw [HV.out.1]) (by omega)) ?_
      rintro e w2 ⟨A2, c2, rfl, h2⟩
      have L2 := Lib.hid h2
      clear h2
      have hr64 : r < 18446744073709551616 := by omega
      go_wp2_with fail
      refine Calls.mono (from_l L2.out (i := (r : Int)) (k := r) rfl hr64) ?_
      rintro e w3 ⟨A3, c3, rfl, h3⟩
      have L3 := Lib.hid h3
      clear h3
      go_wp2
      go_ret2
      rw [HV.out.2]
      exact ⟨A2, c2, A3, c3, rfl, L3.out.get (by simp), L3.out.get (by simp), hbel.trans (L3.out.1.mono hbel.size)⟩
    · obtain rfl : z = (k : Int) := by omega
      clear hz
      obtain ⟨b, o, hA, hbk, hcx⟩ := H.out.2.2 (by omega)
      have hy := (hbel.cell (p := ⟨b, o + k, none⟩) hbk).trans (hcx k (by omega))
      have hY := getD_lt H.out.2.1 k
      have hcell := hrow.cell (i := k) (by have := HL.out; omega)
      have hfr := hrow.frozen k
      have hki : (k : Int) < (xs.length : Int) := by omega
      have hki' : k < xs.length := by omega
      generalize ey : xs[k]?.getD 0 = y at *
      have HY := Lib.hid ey
      clear ey hcx
      subst hA
      go_wp2_with fail
      refine (div32_any r y d _ hr hY hd).mono ?_
      rintro e w' ⟨rfl, n, rfl⟩
      obtain ⟨q, hq⟩ : ∃ q : Nat, (y + 4294967296 * r) / d = q := ⟨_, rfl⟩
      obtain ⟨r', hr'⟩ : ∃ r' : Nat, (y + 4294967296 * r) % d = r' := ⟨_, rfl⟩
      have bq : q < 4294967296 := by rw [← hq, Nat.div_lt_iff_lt_mul hd0]; have := Nat.mul_le_mul_left 4294967296 hr; omega
      have br : r' < d := by rw [← hr']; exact Nat.mod_lt _ hd0
      rw [hq, hr']
      have HQ := Lib.hid hq
      have HR := Lib.hid hr'
      clear hq hr'
      go_wp2
      go_roundw
      case rel =>
        have hl' := HL.out
        exact ⟨k, r', (k : Int) - 1, zs.set k q, by omega, rfl, rfl, rfl, br, (hrow.drewN n).set_ _ _, by simp only [List.length_set]; exact HL, ok_set hok bq _, digit_step hki' (by omega) HE.out (by rw [HY.out]; exact HQ.out) (by rw [HY.out]; exact HR.out), (below_drewN hbel n).setCell (by simp) _⟩
      case measure => simp [intOf]
end Go.Proofs.YthgkdpfkaobgoaaDoor
end

section
/-
  quo.divLong.
-/
namespace Go.Proofs.YthgkdpfkaobgoaaDoor
open Go.RowKit
theorem zeros_cells2 (n : Nat) : madeCells #[.int .u32 0] n = (cells (List.replicate n 0)).toArray := by
  apply Array.ext
  · simp [madeCells, cells]
  · intro i h1 h2
    simp [madeCells, cells, Nat.mod_one]
theorem elem_size2 : (Tryd.prog.info? 75).map (·.size) = some 1 := by kernel_rfl
theorem splice_front (xs : List Nat) (n : Nat) : splice (cells (List.replicate n 0)) 0 (cells xs) = cells (xs ++ List.replicate (n - xs.length) 0) := by
  simp [splice, cells, List.map_append]
theorem front_ok {xs : List Nat} (h : ok32 xs) (k : Nat) : ok32 (xs ++ List.replicate k 0) := by
  intro x hx
  rcases List.mem_append.1 hx with hx | hx
  · exact h x hx
  · exact ok_zeros k x hx
theorem front_val (xs : List Nat) (k : Nat) : val (xs ++ List.replicate k 0) = val xs := by rw [val_append, val_zeros]; omega
theorem front_row {w : World} {g n : Nat} {CS XS : List Value} {xs : List Nat} (hg : w.heap[g]? = some (.cells (splice CS 0 XS).toArray 75 (0, 0))) (h1 : CS = cells (List.replicate n 0)) (h2 : XS = cells xs) : Row w g (xs ++ List.replicate (n - xs.length) 0) := by
  subst h1 h2
  rw [splice_front] at hg
  exact hg
theorem run_cut1 {P : Program} {t e : TypeId} {i : TypeInfo} (ht : P.underlying t = some (.slice e)) (hi : P.info? e = some i) (hs : i.size = 1) (g N k m : Nat) (h : k + m + 1 ≤ N) (W : World) :
    (Instr.slice t (.slice (some ⟨g, 0, none⟩) N N) (some (.int .i64 (k : Int))) (some (.int .i64 ((k : Int) + (m : Int) + 1))) none).run P W = .ok (.slice (some ⟨g, k, none⟩) (m + 1) (N - k)) W := by
  have h1 : (0 : Int) ≤ (k : Int) + (m : Int) + 1 := by omega
  have h2 : (k : Int) + (m : Int) + 1 ≤ (N : Int) := by omega
  have h3 : ((k : Int) + (m : Int) + 1).toNat = k + m + 1 := by omega
  have h5 : ¬ (N = k) := by omega
  have h6 : k + m + 1 - k = m + 1 := by omega
  have h7 : ¬ (k + m + 1 < k) := by omega
  simp [Instr.slice, Instr.sliceBounds, run_underlying ht, go_sem, h1, h2, h3, h5, h6, h7, sizeOf, typeInfo, hi, hs]
theorem Row.window {w : World} {g : Nat} {ys : List Nat} (h : Row w g ys) (hk : ok32 ys) {off m c : Nat} (ho : off + m ≤ ys.length) (hc : m ≤ c) : Dg w (some ⟨g, off, none⟩) c ((ys.drop off).take m) := by
  have hl : ((ys.drop off).take m).length = m := by rw [List.length_take, List.length_drop]; omega
  refine ⟨by omega, fun x hx => hk x (List.mem_of_mem_drop (List.mem_of_mem_take hx)), fun _ => ⟨g, off, rfl, h.lt, fun j hj => ?_⟩⟩
  rw [hl] at hj
  rw [h.cell (by omega), List.getElem?_take, if_pos hj, List.getElem?_drop]
/-- What stands between two digits. -/
structure Dv (M v K N k : Nat) (zs qs : List Nat) : Prop where
  zl : zs.length = N + 1
  ql : qs.length = K + 1
  zo : ok32 zs
  qo : ok32 qs
  eq : M = val zs + v * val qs
  lt : val zs < v * 4294967296 ^ k
  zero : ∀ i, i < k → qs[i]?.getD 0 = 0
theorem Dv.row {M v K N k n : Nat} {zs qs : List Nat} (h : Dv M v K N (k + 1) zs qs) (hv : v < 4294967296 ^ n) : val zs < 4294967296 ^ (k + (n + 1)) := by
  have h1 := h.lt
  have h2 : v * 4294967296 ^ (k + 1) ≤ 4294967296 ^ n * 4294967296 ^ (k + 1) := Nat.mul_le_mul_right _ (by omega)
  rw [← Nat.pow_add, show n + (k + 1) = k + (n + 1) by omega] at h2
  omega
theorem Dv.next {M v K N k : Nat} {zs qs zs' : List Nat} (h : Dv M v K N (k + 1) zs qs) (hk : k < K + 1) {l : Nat} (hl : l < 4294967296) (e : val zs' = val zs - 4294967296 ^ k * (v * l)) (hle : 4294967296 ^ k * (v * l) ≤ val zs) (hlt : val zs - 4294967296 ^ k * (v * l) < v * 4294967296 ^ k) (zl : zs'.length = N + 1) (zo : ok32 zs') :
    Dv M v K N k zs' (qs.set k l) := by
  refine ⟨zl, by rw [List.length_set]; exact h.ql, zo, ok_set h.qo hl _, ?_, by rw [e]; exact hlt, fun i hi => by rw [get_set_other (by omega)]; exact h.zero i (by omega)⟩
  rw [val_set_zero _ _ _ (by rw [h.ql]; exact hk) (h.zero k (by omega)), e, h.eq, Nat.mul_add]
  have e1 : v * (4294967296 ^ k * l) = 4294967296 ^ k * (v * l) := by rw [Nat.mul_left_comm]
  rw [e1]
  omega
theorem Dv.took {M v K N k n : Nat} {zs qs V : List Nat} (h : Dv M v K N (k + 1) zs qs) (hk : k < K + 1) (eV : val V = v) (hv0 : 0 < v) (hv : v < 4294967296 ^ n) (hkN : k + (n + 1) ≤ N + 1) {x b : Nat} {zs1 : List Nat} (h1 : val ((zs.drop k).take (n + 1)) / val V ≤ x) (h2 : x ≤ val ((zs.drop k).take (n + 1)) / val V + 1) (hx : x < 4294967296)
    (zo1 : ok32 zs1) (zl1 : zs1.length = zs.length) (zd : zs1.drop (k + (n + 1)) = zs.drop (k + (n + 1))) (he : val zs + 4294967296 ^ (k + (n + 1)) * b = val zs1 + 4294967296 ^ k * (val V * x)) :
    (b = 0 ∧ Dv M v K N k zs1 (qs.set k x)) ∨ (b = 1 ∧ 1 ≤ x ∧ ∀ c zs2, ok32 zs2 → zs2.length = zs1.length → zs2.drop (k + (n + 1)) = zs1.drop (k + (n + 1)) → val zs2 + 4294967296 ^ (k + (n + 1)) * c = val zs1 + 4294967296 ^ k * val V → Dv M v K N k zs2 (qs.set k (x - 1))) := by
  have hr := h.row hv
  have hz := drop_zero (by rw [h.zl]; exact hkN) hr
  rw [val_window h.zo (by rw [h.zl]; exact hkN) hr, eV] at h1 h2
  rw [eV] at he
  have b1 := below_of_drop zo1 (by rw [zl1, h.zl]; exact hkN) (by rw [zd]; exact hz)
  have hvQ : 4294967296 ^ k * v ≤ 4294967296 ^ (k + (n + 1)) := by
    rw [Nat.pow_add]
    refine Nat.mul_le_mul_left _ (Nat.le_trans (Nat.le_of_lt hv) ?_)
    rw [Nat.pow_succ]; omega
  obtain ⟨c1, c2, c3⟩ := div_fix (Nat.pow_pos (by omega)) hv0 rfl h1 h2 hvQ b1 he
  have lx : val zs / 4294967296 ^ k / v < 4294967296 := Nat.lt_of_le_of_lt h1 hx
  rcases c3 with ⟨rfl, rfl, e⟩ | ⟨rfl, e1, e⟩
  · exact .inl ⟨rfl, h.next hk lx e c1 c2 (by rw [zl1]; exact h.zl) zo1⟩
  · refine .inr ⟨rfl, by rw [e1]; exact Nat.succ_pos _, fun c zs2 zo2 zl2 zd2 he2 => ?_⟩
    rw [eV] at he2
    have b2 := below_of_drop zo2 (by rw [zl2, zl1, h.zl]; exact hkN) (by rw [zd2, zd]; exact hz)
    rw [show x - 1 = val zs / 4294967296 ^ k / v by rw [e1]; rfl]
    exact h.next hk lx (e c _ b2 he2) c1 c2 (by rw [zl2, zl1]; exact h.zl) zo2
theorem Row.other {w : World} {g q : Nat} {ys : List Nat} (h : Row w g ys) (hg : g ≠ q) (i : Nat) (v : Value) : Row (w.setCell ⟨q, i, none⟩ v) g ys := ((Rest.refl q w).set_ i v).row h hg
set_option maxHeartbeats 8000000 in
set_option maxRecDepth 100000 in
theorem divlong_any (A B : Option Addr) (c d : Nat) (xs ys : List Nat) (w : World) (h : Dg w A c xs) (h' : Dg w B d ys) (hl : xs.length ≤ 1000000) (h2 : 2 ≤ ys.length) (hle : ys.length ≤ xs.length) (ex : digs (val xs) = xs) (ey : digs (val ys) = ys) :
    Calls Tryd.prog 81 #[.slice A xs.length c, .slice B ys.length d] w fun e w' => ∃ A' c' B' d', e = .returned (.tuple #[.slice A' (digs (val xs / val ys)).length c', .slice B' (digs (val xs % val ys)).length d']) ∧ Dg w' A' c' (digs (val xs / val ys)) ∧ Dg w' B' d' (digs (val xs % val ys)) ∧ Below w.heap.size w w' := by
  have y0 : val ys ≠ 0 := fun e => by rw [e, digs_zero] at ey; rw [← ey] at h2; simp at h2
  obtain ⟨s, hs, es⟩ := norm_way y0
  have ⟨t1, t2⟩ := norm_top y0 es
  have t3 := norm_start (a := val xs) (s := s) y0 (by rw [ex, ey]; exact hle)
  have x0 : val xs ≠ 0 := fun e => by rw [e, digs_zero] at ex; have := congrArg List.length ex; simp at this; omega
  have m0 : val xs * 2 ^ s ≠ 0 := Nat.mul_ne_zero x0 (Nat.pos_iff_ne_zero.1 (Nat.pow_pos (by omega)))
  have ml := digs_shl_len (val xs) s
  have hdiv := div_moved (val xs) (val ys) s
  have hmod := mod_moved (val xs) (val ys) s
  rw [ex] at ml t3
  rw [ey] at t1 t2 t3 es
  have L0 := Lib.hid (((live_start w).add h).add h')
  have ES := Lib.hid es
  obtain ⟨K, hK⟩ : ∃ K, xs.length = ys.length + K := ⟨xs.length - ys.length, by omega⟩
  rw [show xs.length - ys.length + 1 = K + 1 by omega] at t3
  have HK := Lib.hid hK
  have T1 := Lib.hid t1
  clear h h' es hK t1
  go_enter Tryd.func81, Tryd.ntmps81
  go_wp2_with fail
  refine Calls.mono (bits_l (xs := ys) (x := val ys) L0.out (by simp) rfl rfl (by omega) rfl) ?_
  rintro e w1 ⟨rfl, h1⟩
  have L1 := Lib.hid h1
  clear h1
  have hbl : blen (val ys) ≤ 32 * ys.length := by have := ES.out; omega
  go_wp2_with fail
  refine Calls.mono (shl_l (xs := ys) (x := val ys) (k := s) L1.out (by simp) rfl rfl (by omega) (by have := ES.out; omega) (by omega)) ?_
  rintro e w2 ⟨A2, c2, rfl, h1⟩
  have L2 := Lib.hid h1
  clear h1
  go_wp2_with fail
  refine Calls.mono (shl_l (xs := xs) (x := val xs) (k := s) L2.out (by simp) rfl rfl (by omega) (by have := ES.out; omega) (by omega)) ?_
  rintro e w3 ⟨A3, c3, rfl, h1⟩
  have L3 := Lib.hid h1
  clear h1
  have eV : (digs (val ys * 2 ^ s)).length = ys.length := T1.out
  have oV := ok_digs (val ys * 2 ^ s)
  have vV := val_digs (val ys * 2 ^ s)
  have oM := ok_digs (val xs * 2 ^ s)
  have vM := val_digs (val xs * 2 ^ s)
  have hX0 : 0 < (digs (val xs * 2 ^ s)).length := by
    rcases Nat.eq_zero_or_pos (digs (val xs * 2 ^ s)).length with h0 | h0
    · exact absurd (digs_nil.1 h0) m0
    · exact h0
  have hX1 : (digs (val xs * 2 ^ s)).length ≤ xs.length + 1 := by omega
  rw [← eV] at t2 h2 hle
  have HK2 := Lib.hid (show xs.length = (digs (val ys * 2 ^ s)).length + K from by rw [eV]; exact HK.out)
  clear hbl eV T1 HK ml m0 x0 y0
  generalize val ys * 2 ^ s = v at *
  generalize val xs * 2 ^ s = M at *
  obtain ⟨V, hV⟩ : ∃ V, digs v = V := ⟨_, rfl⟩
  rw [hV] at L3 t2 h2 hle oV vV HK2
  rw [hV]
  obtain ⟨X, hX⟩ : ∃ X, digs M = X := ⟨_, rfl⟩
  rw [hX] at L3 hX0 hX1 oM vM
  rw [hX]
  have OV := Lib.hid oV
  have OM := Lib.hid oM
  have VV := Lib.hid vV
  have VM := Lib.hid vM
  have T2 := Lib.hid t2
  have T3 := Lib.hid t3
  have HD := Lib.hid hdiv
  have HM := Lib.hid hmod
  clear oV oM vV vM t2 t3 hdiv hmod hV hX ex ey
  have hmk := run_make_row' (P := Tryd.prog) 22 75 (.int .u32 0) 4 Tryd.underlying22 elem_info rfl .i64 .i64 (xs.length + 1) (by omega) (by omega)
  rw [show ((xs.length + 1 : Nat) : Int) = (xs.length : Int) + 1 by omega, zeros_cells2] at hmk
  obtain ⟨CS, hCS⟩ : ∃ CS, CS = cells (List.replicate (xs.length + 1) 0) := ⟨_, rfl⟩
  obtain ⟨XS, hXS⟩ : ∃ XS, XS = cells X := ⟨_, rfl⟩
  rw [← hCS] at hmk
  have HCS := Lib.hid hCS
  have HXS := Lib.hid hXS
  have hlC : CS.length = xs.length + 1 := by rw [hCS, cells_len, List.length_replicate]
  have hlX : XS.length = X.length := by rw [hXS, cells_len]
  have HF := Lib.hid (show 0 + XS.length ≤ CS.length from by omega)
  have HL := Lib.hid (show XS.length = Nat.min X.length (xs.length + 1) from by rw [hlX]; exact (Nat.min_eq_left hX1).symm)
  have H1 := Lib.hid (show ∀ v ∈ XS, v.oneCell' = true from by rw [HXS.out]; intro u hu; unfold cells at hu; obtain ⟨x, _, rfl⟩ := List.mem_map.1 hu; rfl)
  clear hCS hXS hlC hlX
  have HSZ := Lib.hid (show (w3.alloc (.cells CS.toArray 75)).heap[w3.heap.size]? = some (.cells CS.toArray 75 (0, 0)) from heap_alloc_new w3 _)
  have HPE := Lib.hid (show ∃ ad, A3 = some ad ∧ ∀ j v, XS[j]? = some v → (w3.alloc (.cells CS.toArray 75)).cell? (ad.add j) = some v from by
      have hd : Dg w3 A3 c3 X := L3.out.get (by simp)
      obtain ⟨b, off, hA, hb, hcx⟩ := hd.2.2 hX0
      refine ⟨⟨b, off, none⟩, hA, fun j v hv => ?_⟩
      rw [HXS.out] at hv
      subst hA
      rw [← dg_cell hd hv]
      exact World.cell?_alloc_lt w3 _ _ (by rw [Addr.add_lit]; exact hb))
  have hmk2 := run_make_row' (P := Tryd.prog) 22 75 (.int .u32 0) 4 Tryd.underlying22 elem_info rfl .i64 .i64 (K + 1) (by have := HK2.out; omega) (by have := HK2.out; omega)
  rw [show ((K + 1 : Nat) : Int) = (xs.length : Int) - (V.length : Int) + 1 by have := HK2.out; omega] at hmk2
  have hki : (0 : Int) ≤ (xs.length : Int) - (V.length : Int) := by omega
  go_wp2_with (refine wpList_copy_splice rfl _ _ 22 22 rfl 75 Tryd.underlying22 elem_size2 _ _ _ _ _ _ rfl rfl w3.heap.size 0 CS 75 HSZ.out XS HL.out (fun _ => ⟨rfl, HPE.out⟩) HF.out H1.out w3.heap.size w3 ((Below.refl _ _).alloc (Nat.le_refl _) _) (Nat.le_refl _) ?_; intro w5 HG5 hB5)
  have HB5 := Lib.hid hB5
  have R5 := Lib.hid (front_row HG5.out HCS.out HXS.out)
  have hne : w3.heap.size ≠ w5.heap.size := by have := R5.out.lt; omega
  have HSQ := Lib.hid R5.out.lt
  clear hB5
  obtain ⟨i0, hi0, hz0, hz1, hz2⟩ := info_parts elem_info
  have hv0 : 0 < v := by
    rcases Nat.eq_zero_or_pos v with h0 | h0
    · exfalso; have := T3.out; rw [h0, Nat.zero_mul] at this; omega
    · exact h0
  have HV0 := Lib.hid hv0
  have HVB := Lib.hid (show v < 4294967296 ^ V.length by rw [← VV.out]; exact val_lt OV.out)
  clear hmk hmk2 hz0 hz2 HF HL H1 HSZ HPE hv0 L0 L1 L2
  go_loopw [13] (fun i wr => ∃ (k : Nat) (z : Int) (zs qs : List Nat), k ≤ K + 1 ∧ i = .int .i64 z ∧ z = (k : Int) - 1 ∧ Row wr w3.heap.size zs ∧ Row wr w5.heap.size qs ∧ Hid (Dv M v K xs.length k zs qs) ∧ Hid (Below w3.heap.size w3 wr)) (fun i _ => (intOf i + 1).toNat)
  case atStart =>
    refine ⟨K + 1, _, X ++ List.replicate (xs.length + 1 - X.length) 0, List.replicate (K + 1) 0, Nat.le_refl _, rfl, by have := HK2.out; omega, R5.out.below_ ((Below.refl _ _).alloc (Nat.le_refl _) _), Row.made _ _, ?_, HB5.out.alloc (by have := HSQ.out; omega) _⟩
    refine ⟨by simp; omega, by simp, front_ok OM.out _, ok_zeros _, by rw [front_val, val_zeros, VM.out, Nat.mul_zero, Nat.add_zero], by rw [front_val, VM.out]; exact T3.out, fun i hi => ?_⟩
    rw [List.getElem?_replicate]; split <;> rfl
  case round =>
    obtain ⟨k, z, zs, qs, hk, rfl, hz, hrow, hq, HV, HBel⟩ := hrel
    rcases k with _ | k
    · obtain rfl : z = -1 := by omega
      have hd := div_done HV.out.eq (by have := HV.out.lt; simpa using this)
      have L6 := Lib.hid (((L3.out.step HBel.out).add (hq.dg HV.out.qo (c := K + 1) (by rw [HV.out.ql]; omega))).add (hrow.dg HV.out.zo (c := xs.length + 1) (by rw [HV.out.zl]; omega)))
      have HQ := Lib.hid hd
      have KB := Lib.hid (show K ≤ 1000000 by have := HK2.out; omega)
      clear hd hz hk hrow hq hki
      go_wp2_with fail
      refine Calls.mono (trim_l (xs := qs) (x := val xs / val ys) L6.out (by simp) HV.out.ql.symm (by rw [HQ.out.1]; exact HD.out) (by rw [HV.out.ql]; have := KB.out; omega)) ?_
      rintro e w7 ⟨A7, c7, rfl, h7⟩
      have L7 := Lib.hid h7
      clear h7
      go_wp2_with fail
      refine Calls.mono (shr_l (xs := zs) (x := M % v) (k := s) L7.out (by simp) HV.out.zl.symm HQ.out.2 (by rw [HV.out.zl]; omega) (by have := ES.out; omega) (by omega)) ?_
      rintro e w8 ⟨A8, c8, rfl, h8⟩
      rw [HM.out] at h8
      rw [HM.out]
      have L8 := Lib.hid h8
      clear h8
      go_wp2
      go_ret2
      exact ⟨A7, c7, A8, c8, rfl, L8.out.get (by simp), L8.out.get (by simp), L8.out.1⟩
    · obtain rfl : z = (k : Int) := by omega
      have HN := Lib.hid (show k + (V.length + 1) ≤ xs.length + 1 by have := HK2.out; omega)
      have hkb : k ≤ 1000000 := by have := HN.out; omega
      have hcut := fun W => run_cut1 (P := Tryd.prog) Tryd.underlying22 hi0 hz1 w3.heap.size (xs.length + 1) k V.length (by have := HN.out; omega) W
      have DV := Lib.hid (show Dg wr A2 c2 V from (L3.out.step HBel.out).get (by simp))
      have hAb : ∀ b o, A2 = some ⟨b, o, none⟩ → b < w3.heap.size := by
        intro b o e
        obtain ⟨b', o', e', hlt, _⟩ := (show Dg w3 A2 c2 V from L3.out.get (by simp)).2.2 (by omega)
        rw [e] at e'; injection e' with e'; injection e' with e1 _ _; omega
      have hlen : ((zs.drop k).take (V.length + 1)).length = V.length + 1 := by rw [List.length_take, List.length_drop, HV.out.zl]; have := HN.out; omega
      have HGS := Lib.hid (guess_any (some ⟨w3.heap.size, k, none⟩) A2 (xs.length + 1 - k) c2 (V.length - 2) V.length (V.length + 1) ((zs.drop k).take (V.length + 1)) V wr (hrow.window HV.out.zo (by rw [HV.out.zl]; exact HN.out) (by have := HN.out; omega)) DV.out rfl hlen.symm (by omega) (by omega) (by omega) (by rw [show V.length - 2 + 1 = V.length - 1 by omega]; exact T2.out) (by
        rw [val_window HV.out.zo (by rw [HV.out.zl]; exact HN.out) (HV.out.row HVB.out), VV.out, Nat.div_lt_iff_lt_mul (Nat.pow_pos (by omega)), Nat.mul_assoc, Nat.mul_comm 4294967296, ← Nat.pow_succ]
        exact HV.out.lt))
      have HAB := Lib.hid hAb
      have HR := Lib.hid hrow
      have HQ := Lib.hid hq
      clear hz hki hlen hAb hrow hq
      go_wp2_with fail
      refine HGS.out.mono ?_
      rintro e w6 ⟨⟨x, rfl, hx, hx1, hx2⟩, N6, rfl⟩
      have HX := Lib.hid (And.intro hx1 hx2)
      clear hx1 hx2
      go_wp2_with fail
      refine (takeoff_any A2 w3.heap.size k (V.length + 1) (xs.length + 1 - k) c2 x V zs (wr.drewN N6) (HR.out.drewN N6) HV.out.zo (DV.out.drewN N6) HAB.out rfl (by rw [HV.out.zl]; omega) (by rw [HV.out.zl]; have := HN.out; omega) hx).mono ?_
      rintro e w7 ⟨b, zs1, rfl, hb1, hrow1, zo1, zl1, zd1, he1, hbel1, hrest1⟩
      have HT := Lib.hid (HV.out.took (by omega) VV.out HV0.out HVB.out HN.out HX.out.1 HX.out.2 hx zo1 zl1 zd1 he1)
      have hq1 := hrest1.row (HQ.out.drewN N6) (Ne.symm hne)
      have HB1 := Lib.hid ((below_drewN HBel.out N6).trans hbel1)
      have ZO := Lib.hid zo1
      have ZL := Lib.hid zl1
      have hkq : k < qs.length := by rw [HV.out.ql]; omega
      have hkK : k < K + 1 := by omega
      have hkK' : (k : Int) < (K : Int) + 1 := by omega
      clear zo1 zl1 zd1 he1 hbel1 hrest1 hb1 hk
      rcases HT.out with ⟨rfl, hD⟩ | ⟨rfl, hx1, hD⟩
      · rw [show (((0 : Nat) : Int) == 1) = false from rfl]
        have HD1 := Lib.hid hD
        have hcell := hq1.cell (i := k) hkq
        have hfr := hq1.frozen k
        clear hD hkq
        go_wp2
        go_roundw
        case rel => exact ⟨k, (k : Int) - 1, zs1, qs.set k x, by omega, rfl, rfl, hrow1.other hne _ _, hq1.set_ k x, HD1, (HB1.out).setCell (by have := HSQ.out; simp; omega) _⟩
        case measure => simp [intOf]
      · rw [show (((1 : Nat) : Int) == 1) = true from rfl]
        have HD1 := Lib.hid hD
        have HR1 := Lib.hid hrow1
        have HQ1 := Lib.hid hq1
        clear hD hrow1 hq1
        go_wp2_with fail
        refine (giveback_any A2 w3.heap.size k (V.length + 1) (xs.length + 1 - k) c2 V zs1 w7 HR1.out ZO.out ((show Dg w7 A2 c2 V from (L3.out.step HB1.out).get (by simp))) HAB.out rfl (by rw [ZL.out, HV.out.zl]; omega) (by rw [ZL.out, HV.out.zl]; have := HN.out; omega)).mono ?_
        rintro e w8 ⟨c', zs2, rfl, hrow2, zo2, zl2, zd2, he2, hbel2, hrest2⟩
        have HD2 := Lib.hid (HD1.out c' zs2 zo2 zl2 zd2 he2)
        have hq2 := hrest2.row HQ1.out (Ne.symm hne)
        have HB2 := Lib.hid (HB1.out.trans hbel2)
        have hcell := hq2.cell (i := k) hkq
        have hfr := hq2.frozen k
        clear zo2 zl2 zd2 he2 hbel2 hrest2 hkq
        go_wp2
        go_roundw
        case rel => exact ⟨k, (k : Int) - 1, zs2, qs.set k (x - 1), by omega, rfl, rfl, hrow2.other hne _ _, hq2.set_int (by omega), HD2, (HB2.out).setCell (by have := HSQ.out; simp; omega) _⟩
        case measure => simp [intOf]
end Go.Proofs.YthgkdpfkaobgoaaDoor
end

section
/-
  quo.DivMod.
-/
namespace Go.Proofs.YthgkdpfkaobgoaaDoor
open Go.RowKit
set_option maxHeartbeats 2000000 in
set_option maxRecDepth 100000 in
theorem divmod_no (A B : Option Addr) (c d : Nat) (xs ys : List Nat) (w : World) (h : Dg w A c xs) (h' : Dg w B d ys) (hl : xs.length ≤ 1000000) (hl' : ys.length ≤ 1000000) (hy : val ys = 0) :
    Calls Tryd.prog 60 #[.slice A xs.length c, .slice B ys.length d] w fun e w' => e = .returned (.tuple #[.slice none 0 0, .slice none 0 0, .bool false]) ∧ Below w.heap.size w w' := by
  have L0 := Lib.hid (((live_start w).add h).add h')
  have HY := Lib.hid hy
  clear h h' hy
  go_enter Tryd.func60, Tryd.ntmps60
  go_wp2_with fail
  refine Calls.mono (trim_l (xs := xs) (x := val xs) L0.out (by simp) rfl rfl (by omega)) ?_
  rintro e w1 ⟨A1, c1, rfl, h1⟩
  have L1 := Lib.hid h1
  clear h1
  go_wp2_with fail
  refine Calls.mono (trim_l (xs := ys) (x := 0) L1.out (by simp) rfl HY.out (by omega)) ?_
  rw [digs_zero]
  rintro e w2 ⟨A2, c2, rfl, h1⟩
  have L2 := Lib.hid h1
  clear h1
  go_wp2
  go_ret3
  exact ⟨rfl, L2.out.1⟩
set_option maxHeartbeats 4000000 in
set_option maxRecDepth 100000 in
theorem divmod_any (A B : Option Addr) (c d : Nat) (xs ys : List Nat) (w : World) (h : Dg w A c xs) (h' : Dg w B d ys) (hl : xs.length ≤ 1000000) (hl' : ys.length ≤ 1000000) (hy : val ys ≠ 0) :
    Calls Tryd.prog 60 #[.slice A xs.length c, .slice B ys.length d] w fun e w' => ∃ A' c' B' d', e = .returned (.tuple #[.slice A' (digs (val xs / val ys)).length c', .slice B' (digs (val xs % val ys)).length d', .bool true]) ∧ Dg w' A' c' (digs (val xs / val ys)) ∧ Dg w' B' d' (digs (val xs % val ys)) ∧ Below w.heap.size w w' := by
  have L0 := Lib.hid (((live_start w).add h).add h')
  have l1 := digs_len_le h.2.1
  have l2 := digs_len_le h'.2.1
  have y0 : 0 < (digs (val ys)).length := by
    rcases Nat.eq_zero_or_pos (digs (val ys)).length with h0 | h0
    · exact absurd (digs_nil.1 h0) hy
    · exact h0
  have t0 : (((digs (val ys)).length : Int) == 0) = false := beq_eq_false_iff_ne.2 (by omega)
  have HY := Lib.hid hy
  clear h h' hy
  go_enter Tryd.func60, Tryd.ntmps60
  go_wp2_with fail
  refine Calls.mono (trim_l (xs := xs) (x := val xs) L0.out (by simp) rfl rfl (by omega)) ?_
  rintro e w1 ⟨A1, c1, rfl, h1⟩
  have L1 := Lib.hid h1
  clear h1
  go_wp2_with fail
  refine Calls.mono (trim_l (xs := ys) (x := val ys) L1.out (by simp) rfl rfl (by omega)) ?_
  rintro e w2 ⟨A2, c2, rfl, h1⟩
  have L2 := Lib.hid h1
  clear h1
  have vx := Lib.hid (val_digs (val xs))
  have vy := Lib.hid (val_digs (val ys))
  obtain ⟨q, hq⟩ : ∃ q : Int, cmpi (val xs) (val ys) = q := ⟨_, rfl⟩
  have HC := Lib.hid hq
  go_wp2_with fail
  refine Calls.mono (cmp_l (xs := digs (val xs)) (ys := digs (val ys)) (x := val xs) (y := val ys) L2.out (by simp) (by simp) rfl rfl vx.out vy.out (by omega) (by omega) HC.out) ?_
  rintro e w3 ⟨rfl, h1⟩
  have L3 := Lib.hid h1
  clear h1
  rcases Nat.lt_or_ge (val xs) (val ys) with hlt | hge
  · have d0 : decide (q < 0) = true := by rw [← hq, cmpi_lt hlt]; rfl
    have e0 : val xs / val ys = 0 := Nat.div_eq_of_lt hlt
    have e1 : val xs % val ys = val xs := Nat.mod_eq_of_lt hlt
    have E0 := Lib.hid e0
    have E1 := Lib.hid e1
    clear e0 e1 hlt hq
    go_wp2
    go_ret3
    rw [E0.out, E1.out, digs_zero]
    exact ⟨none, 0, A1, c1, rfl, Dg.nil_ _ _, L3.out.get (by simp), L3.out.1⟩
  · have d0 : decide (q < 0) = false := by
      rw [← hq]
      rcases Nat.eq_or_lt_of_le hge with e | e
      · rw [cmpi_eq e.symm]; rfl
      · rw [cmpi_gt e]; rfl
    have hle := Lib.hid (digs_len_mono _ _ hge)
    clear hq
    by_cases h1 : (digs (val ys)).length = 1
    · have t1 : (((digs (val ys)).length : Int) == 1) = true := by rw [h1]; rfl
      have hY : Dg w3 A2 c2 (digs (val ys)) := L3.out.get (by simp)
      obtain ⟨b, off, hB, hb, hcy⟩ := hY.2.2 y0
      have hc0 := hcy 0 y0
      rw [Nat.add_zero] at hc0
      have e2 : val ys = (digs (val ys))[0]?.getD 0 := by
        rcases hd : digs (val ys) with _ | ⟨z, _ | ⟨z', r⟩⟩
        · rw [hd] at h1; simp at h1
        · have := vy.out; rw [hd] at this; simp only [val] at this; simp; omega
        · rw [hd] at h1; simp at h1
      have b2 : val ys < 4294967296 := by rw [e2]; exact getD_lt (ok_digs _) 0
      rw [← e2] at hc0
      have HG := Lib.hid (divdigit_any A1 c1 (val ys) (digs (val xs)) w3 (L3.out.get (by simp)) (by omega) (by have := HY.out; omega) b2)
      rw [vx.out] at HG
      subst hB
      clear hY hcy e2 h1 hge
      go_wp2_with fail
      refine HG.out.mono ?_
      rintro e w4 ⟨A4, c4, A5, c5, rfl, g4, g5, hb5⟩
      have G4 := Lib.hid g4
      have G5 := Lib.hid g5
      have HB := Lib.hid (L3.out.step hb5)
      clear g4 g5 hb5
      go_wp2
      go_ret3
      exact ⟨A4, c4, A5, c5, rfl, G4.out, G5.out, HB.out.1⟩
    · have t1 : (((digs (val ys)).length : Int) == 1) = false := beq_eq_false_iff_ne.2 (by omega)
      have HG := Lib.hid (divlong_any A1 A2 c1 c2 (digs (val xs)) (digs (val ys)) w3 (L3.out.get (by simp)) (L3.out.get (by simp)) (by omega) (by omega) hle.out (by rw [vx.out]) (by rw [vy.out]))
      rw [vx.out, vy.out] at HG
      clear h1 hge
      go_wp2_with fail
      refine HG.out.mono ?_
      rintro e w4 ⟨A4, c4, A5, c5, rfl, g4, g5, hb5⟩
      have G4 := Lib.hid g4
      have G5 := Lib.hid g5
      have HB := Lib.hid (L3.out.step hb5)
      clear g4 g5 hb5
      go_wp2
      go_ret3
      exact ⟨A4, c4, A5, c5, rfl, G4.out, G5.out, HB.out.1⟩
section
variable {w0 w w' : World} {L : List (Option Addr × Nat × List Nat)} {A B : Option Addr} {c d n m : Nat} {xs ys : List Nat} {x y : Nat}
theorem divmod_l (hL : Live w0 w L) (h1 : (A, c, xs) ∈ L) (h2 : (B, d, ys) ∈ L) (hn : n = xs.length) (hm : m = ys.length) (hx : val xs = x) (hy : val ys = y) (b1 : xs.length ≤ 1000000) (b2 : ys.length ≤ 1000000) (y0 : y ≠ 0) :
    Calls Tryd.prog 60 #[.slice A n c, .slice B m d] w fun e w' => ∃ A' c' B' d', e = .returned (.tuple #[.slice A' (digs (x / y)).length c', .slice B' (digs (x % y)).length d', .bool true]) ∧ Live w0 w' ((B', d', digs (x % y)) :: (A', c', digs (x / y)) :: L) := by
  subst hn hm hx hy
  exact (divmod_any A B c d xs ys w (hL.get h1) (hL.get h2) b1 b2 y0).mono fun e w' ⟨A', c', B', d', he, hd, hd', hb⟩ => ⟨A', c', B', d', he, ((hL.step hb).add hd).add hd'⟩
theorem divmod_l_no (hL : Live w0 w L) (h1 : (A, c, xs) ∈ L) (h2 : (B, d, ys) ∈ L) (hn : n = xs.length) (hm : m = ys.length) (hy : val ys = 0) (b1 : xs.length ≤ 1000000) (b2 : ys.length ≤ 1000000) :
    Calls Tryd.prog 60 #[.slice A n c, .slice B m d] w fun e w' => e = .returned (.tuple #[.slice none 0 0, .slice none 0 0, .bool false]) ∧ Live w0 w' L := by
  subst hn hm
  exact (divmod_no A B c d xs ys w (hL.get h1) (hL.get h2) b1 b2 hy).mono fun e w' ⟨he, hb⟩ => ⟨he, hL.step hb⟩
end
end Go.Proofs.YthgkdpfkaobgoaaDoor
end

section
/-
  Results that lie in blocks of the call's own: clone, Trim, divDigit, DivMod by one digit.
-/
namespace Go.Proofs.YthgkdpfkaobgoaaDoor
open Go.RowKit
theorem Fr.mono {B C : Nat} {A : Option Addr} (h : Fr C A) (hl : B ≤ C) : Fr B A := fun b o e => Nat.le_trans hl (h b o e)
set_option maxHeartbeats 1000000 in
set_option maxRecDepth 100000 in
theorem clone_f (A : Option Addr) (c : Nat) (xs : List Nat) (w : World) (h : Dg w A c xs) (hl : xs.length ≤ 16777216) :
    Calls Tryd.prog 78 #[.slice A xs.length c] w fun e w' => ∃ A' c', e = .returned (.slice A' xs.length c') ∧ Dg w' A' c' xs ∧ Below w.heap.size w w' ∧ Fr w.heap.size A' := by
  obtain ⟨i0, hi, hz0, hz1, hz2⟩ := info_parts elem_info
  have q22 : ∀ (w : World) (a : Option Addr) (n c n' c' : Nat), (binOp .eql 22 (.slice a n c) (.slice none n' c')).run Tryd.prog w = .ok (.bool a.isNone) w := fun w a n c n' c' => Lib.run_eql_slice_nil w _ _ a n c n' c' Tryd.underlying22
  rcases A with _ | A
  · have h0 : xs = [] := by
      rcases Nat.eq_zero_or_pos xs.length with h0 | h0
      · exact List.eq_nil_of_length_eq_zero h0
      · obtain ⟨b, off, e, _⟩ := h.2.2 h0
        cases e
    subst h0
    go_enter Tryd.func78, Tryd.ntmps78
    go_wp2
    go_ret
    exact ⟨none, 0, rfl, Dg.nil_ _ _, Below.refl _ _, fr_none _⟩
  · have H := Lib.hid h
    have hc : xs.length = (cells xs).length := by simp [cells]
    have HC := Lib.hid hc
    clear h hc
    go_enter Tryd.func78, Tryd.ntmps78
    go_wp2_with (at_builtin; refine wpList_append_own _ rfl _ _ 22 rfl w.heap.size 75 i0 (.int .u32 0) 1 4 Tryd.underlying22 hi hz0 hz1 hz2 rfl (by decide) _ _ _ rfl (World.ownsRow_made w #[] 0 (Nat.le_refl _) (Nat.zero_le _) rfl) A xs.length c (cells xs) rfl ?qc1 ?qc2 ?qc3 ?qc4 ?qc5 ?qc6 ?_)
    case qc1 => have := HC.out; omega
    case qc2 =>
      intro j u hj
      obtain ⟨hlt, _⟩ := cells_get hj
      have hold := dg_cell H.out hj
      obtain ⟨b, off, e, hb, _⟩ := H.out.2.2 (by omega)
      injection e with e
      subst e
      rw [← hold]
      exact World.cell?_alloc_lt w _ _ (by rw [Addr.add_lit]; exact hb)
    case qc3 => intro u hu; unfold cells at hu; obtain ⟨x, _, rfl⟩ := List.mem_map.1 hu; rfl
    case qc4 => unfold maxLen; omega
    case qc5 => omega
    case qc6 => simp
    intro v' w1 hown hgrow hnil
    try simp only [Nat.zero_add, List.nil_append] at hown
    obtain ⟨A', c', hv, hd, hfr⟩ := dg_of_own_f hown H.out.2.1
    have HFR := Lib.hid hfr
    clear hfr
    have HV := Lib.hid hv
    clear hv hown
    go_wp2
    go_ret
    refine ⟨A', c', by rw [← HV.out]; rfl, hd, ?_, HFR.out⟩
    exact ((Below.refl _ w).alloc (Nat.le_refl _) _).grown hgrow (by simp) (by intro k hk; simp [Value.ownBlock] at hk; omega)
set_option maxHeartbeats 1000000 in
set_option maxRecDepth 100000 in
theorem trim_f (A : Option Addr) (c : Nat) (xs : List Nat) (w : World) (h : Dg w A c xs) (hl : xs.length ≤ 16777216) :
    Calls Tryd.prog 53 #[.slice A xs.length c] w fun e w' => ∃ A' c', e = .returned (.slice A' (digs (val xs)).length c') ∧ Dg w' A' c' (digs (val xs)) ∧ Below w.heap.size w w' ∧ Fr w.heap.size A' := by
  have hd := digs_len_le h.2.1
  have H := Lib.hid h
  clear h
  go_enter Tryd.func53, Tryd.ntmps53
  go_wp2_with fail
  refine (short_any A c xs _ H.out hl).mono ?_
  rintro e w' ⟨A1, c1, rfl, h1, rfl⟩
  have H1 := Lib.hid h1
  clear h1
  go_wp2_with fail
  refine (clone_f A1 c1 _ _ H1.out (by omega)).mono ?_
  rintro e w' ⟨A2, c2, rfl, h2, hb, hfr⟩
  have HFR := Lib.hid hfr
  clear hfr
  have H2 := Lib.hid h2
  clear h2
  go_wp2
  go_ret
  exact ⟨A2, c2, rfl, H2.out, hb, HFR.out⟩
section
variable {w0 w w' : World} {L : List (Option Addr × Nat × List Nat)} {A : Option Addr} {c n : Nat} {xs : List Nat} {x : Nat}
theorem trim_fl (hL : Live w0 w L) (h1 : (A, c, xs) ∈ L) (hn : n = xs.length) (hx : val xs = x) (b1 : xs.length ≤ 1048576) :
    Calls Tryd.prog 53 #[.slice A n c] w fun e w' => ∃ A' c', e = .returned (.slice A' (digs x).length c') ∧ Live w0 w' ((A', c', digs x) :: L) ∧ Fr w.heap.size A' := by
  subst hn hx
  exact (trim_f A c xs w (hL.get h1) (by omega)).mono fun e w' ⟨A', c', he, hd, hb, hf⟩ => ⟨A', c', he, (hL.step hb).add hd, hf⟩
end
set_option maxHeartbeats 2000000 in
set_option maxRecDepth 100000 in
theorem divdigit_f (A : Option Addr) (c d : Nat) (xs : List Nat) (w : World) (h : Dg w A c xs) (hl : xs.length ≤ 1048576) (hd0 : 0 < d) (hd : d < 4294967296) :
    Calls Tryd.prog 80 #[.slice A xs.length c, .int .u32 d] w fun e w' => ∃ A' c' B' d', e = .returned (.tuple #[.slice A' (digs (val xs / d)).length c', .slice B' (digs (val xs % d)).length d']) ∧ Dg w' A' c' (digs (val xs / d)) ∧ Dg w' B' d' (digs (val xs % d)) ∧ Below w.heap.size w w' ∧ Fr w.heap.size A' := by
  have H := Lib.hid h
  clear h
  have hmk := run_make_row' (P := Tryd.prog) 22 75 (.int .u32 0) 4 Tryd.underlying22 elem_info rfl .i64 .i64 xs.length (by omega) (by omega)
  go_enter Tryd.func80, Tryd.ntmps80
  go_wp2
  go_loopw [6, 7] (fun rv i wr => ∃ (k r : Nat) (z : Int) (zs : List Nat), k ≤ xs.length ∧ i = .int .i64 z ∧ z = (k : Int) - 1 ∧ rv = .int .u32 r ∧ r < d ∧ Row wr w.heap.size zs ∧ Hid (zs.length = xs.length) ∧ ok32 zs ∧
    Hid (val (xs.drop k) = val (zs.drop k) * d + r) ∧ Below w.heap.size w wr) (fun _ i _ => (intOf i + 1).toNat)
  case atStart => exact ⟨xs.length, 0, (xs.length : Int) - 1, List.replicate xs.length 0, Nat.le_refl _, rfl, rfl, rfl, hd0, Row.made _ _, by simp [Hid], ok_zeros _, by simp [Hid, val], (Below.refl _ _).alloc (Nat.le_refl _) _⟩
  case round =>
    obtain ⟨k, r, z, zs, hk, rfl, hz, rfl, hr, hrow, HL, hok, HE, hbel⟩ := hrel
    rcases k with _ | k
    · obtain rfl : z = -1 := by omega
      clear hz hk
      have HV : Hid (val xs / d = val zs ∧ val xs % d = r) := by
        have e := HE.out
        rw [List.drop_zero, List.drop_zero] at e
        rw [e, Nat.mul_comm, Nat.mul_add_div hd0, Nat.mul_add_mod, Nat.div_eq_of_lt hr, Nat.mod_eq_of_lt hr]
        exact ⟨Nat.add_zero _, rfl⟩
      have L0 := Lib.hid ((live_start wr).add (hrow.dg hok (c := xs.length) (by have := HL.out; omega)))
      have hl' := HL.out
      go_wp2_with fail
      refine Calls.mono (trim_fl (xs := zs) (x := val xs / d) L0.out (by simp) hl'.symm (by rw [HV.out.1]) (by omega)) ?_
      rintro e w2 ⟨A2, c2, rfl, h2, hfr⟩
      have L2 := Lib.hid h2
      have HFR := Lib.hid (hfr.mono hbel.size)
      clear h2 hfr
      have hr64 : r < 18446744073709551616 := by omega
      go_wp2_with fail
      refine Calls.mono (from_l L2.out (i := (r : Int)) (k := r) rfl hr64) ?_
      rintro e w3 ⟨A3, c3, rfl, h3⟩
      have L3 := Lib.hid h3
      clear h3
      go_wp2
      go_ret2
      rw [HV.out.2]
      exact ⟨A2, c2, A3, c3, rfl, L3.out.get (by simp), L3.out.get (by simp), hbel.trans (L3.out.1.mono hbel.size), HFR.out⟩
    · obtain rfl : z = (k : Int) := by omega
      clear hz
      obtain ⟨b, o, hA, hbk, hcx⟩ := H.out.2.2 (by omega)
      have hy := (hbel.cell (p := ⟨b, o + k, none⟩) hbk).trans (hcx k (by omega))
      have hY := getD_lt H.out.2.1 k
      have hcell := hrow.cell (i := k) (by have := HL.out; omega)
      have hfr := hrow.frozen k
      have hki : (k : Int) < (xs.length : Int) := by omega
      have hki' : k < xs.length := by omega
      generalize ey : xs[k]?.getD 0 = y at *
      have HY := Lib.hid ey
      clear ey hcx
      subst hA
      go_wp2_with fail
      refine (div32_any r y d _ hr hY hd).mono ?_
      rintro e w' ⟨rfl, n, rfl⟩
      obtain ⟨q, hq⟩ : ∃ q : Nat, (y + 4294967296 * r) / d = q := ⟨_, rfl⟩
      obtain ⟨r', hr'⟩ : ∃ r' : Nat, (y + 4294967296 * r) % d = r' := ⟨_, rfl⟩
      have bq : q < 4294967296 := by rw [← hq, Nat.div_lt_iff_lt_mul hd0]; have := Nat.mul_le_mul_left 4294967296 hr; omega
      have br : r' < d := by rw [← hr']; exact Nat.mod_lt _ hd0
      rw [hq, hr']
      have HQ := Lib.hid hq
      have HR := Lib.hid hr'
      clear hq hr'
      go_wp2
      go_roundw
      case rel =>
        have hl' := HL.out
        exact ⟨k, r', (k : Int) - 1, zs.set k q, by omega, rfl, rfl, rfl, br, (hrow.drewN n).set_ _ _, by simp only [List.length_set]; exact HL, ok_set hok bq _, digit_step hki' (by omega) HE.out (by rw [HY.out]; exact HQ.out) (by rw [HY.out]; exact HR.out), (below_drewN hbel n).setCell (by simp) _⟩
      case measure => simp [intOf]
set_option maxHeartbeats 4000000 in
set_option maxRecDepth 100000 in
theorem divmod_f (A B : Option Addr) (c d : Nat) (xs ys : List Nat) (w : World) (h : Dg w A c xs) (h' : Dg w B d ys) (hl : xs.length ≤ 1000000) (hl' : ys.length ≤ 1000000) (hy : val ys ≠ 0) (h1 : (digs (val ys)).length = 1) :
    Calls Tryd.prog 60 #[.slice A xs.length c, .slice B ys.length d] w fun e w' => ∃ A' c' B' d', e = .returned (.tuple #[.slice A' (digs (val xs / val ys)).length c', .slice B' (digs (val xs % val ys)).length d', .bool true]) ∧ Dg w' A' c' (digs (val xs / val ys)) ∧ Dg w' B' d' (digs (val xs % val ys)) ∧ Below w.heap.size w w' ∧ Fr w.heap.size A' := by
  have L0 := Lib.hid (((live_start w).add h).add h')
  have l1 := digs_len_le h.2.1
  have l2 := digs_len_le h'.2.1
  have y0 : 0 < (digs (val ys)).length := by
    rcases Nat.eq_zero_or_pos (digs (val ys)).length with h0 | h0
    · exact absurd (digs_nil.1 h0) hy
    · exact h0
  have t0 : (((digs (val ys)).length : Int) == 0) = false := beq_eq_false_iff_ne.2 (by omega)
  have HY := Lib.hid hy
  have H1 := Lib.hid h1
  clear h h' hy h1
  go_enter Tryd.func60, Tryd.ntmps60
  go_wp2_with fail
  refine Calls.mono (trim_l (xs := xs) (x := val xs) L0.out (by simp) rfl rfl (by omega)) ?_
  rintro e w1 ⟨A1, c1, rfl, h1⟩
  have L1 := Lib.hid h1
  clear h1
  go_wp2_with fail
  refine Calls.mono (trim_l (xs := ys) (x := val ys) L1.out (by simp) rfl rfl (by omega)) ?_
  rintro e w2 ⟨A2, c2, rfl, h1⟩
  have L2 := Lib.hid h1
  clear h1
  have vx := Lib.hid (val_digs (val xs))
  have vy := Lib.hid (val_digs (val ys))
  obtain ⟨q, hq⟩ : ∃ q : Int, cmpi (val xs) (val ys) = q := ⟨_, rfl⟩
  have HC := Lib.hid hq
  go_wp2_with fail
  refine Calls.mono (cmp_l (xs := digs (val xs)) (ys := digs (val ys)) (x := val xs) (y := val ys) L2.out (by simp) (by simp) rfl rfl vx.out vy.out (by omega) (by omega) HC.out) ?_
  rintro e w3 ⟨rfl, h1⟩
  have L3 := Lib.hid h1
  clear h1
  rcases Nat.lt_or_ge (val xs) (val ys) with hlt | hge
  · have d0 : decide (q < 0) = true := by rw [← hq, cmpi_lt hlt]; rfl
    have e0 : val xs / val ys = 0 := Nat.div_eq_of_lt hlt
    have e1 : val xs % val ys = val xs := Nat.mod_eq_of_lt hlt
    have E0 := Lib.hid e0
    have E1 := Lib.hid e1
    clear e0 e1 hlt hq
    go_wp2
    go_ret3
    rw [E0.out, E1.out, digs_zero]
    exact ⟨none, 0, A1, c1, rfl, Dg.nil_ _ _, L3.out.get (by simp), L3.out.1, fr_none _⟩
  · have d0 : decide (q < 0) = false := by
      rw [← hq]
      rcases Nat.eq_or_lt_of_le hge with e | e
      · rw [cmpi_eq e.symm]; rfl
      · rw [cmpi_gt e]; rfl
    have hle := Lib.hid (digs_len_mono _ _ hge)
    clear hq
    have h1 := H1.out
    have t1 : (((digs (val ys)).length : Int) == 1) = true := by rw [h1]; rfl
    have hY : Dg w3 A2 c2 (digs (val ys)) := L3.out.get (by simp)
    obtain ⟨b, off, hB, hb, hcy⟩ := hY.2.2 y0
    have hc0 := hcy 0 y0
    rw [Nat.add_zero] at hc0
    have e2 : val ys = (digs (val ys))[0]?.getD 0 := by
      rcases hd : digs (val ys) with _ | ⟨z, _ | ⟨z', r⟩⟩
      · rw [hd] at h1; simp at h1
      · have := vy.out; rw [hd] at this; simp only [val] at this; simp; omega
      · rw [hd] at h1; simp at h1
    have b2 : val ys < 4294967296 := by rw [e2]; exact getD_lt (ok_digs _) 0
    rw [← e2] at hc0
    have HG := Lib.hid (divdigit_f A1 c1 (val ys) (digs (val xs)) w3 (L3.out.get (by simp)) (by omega) (by have := HY.out; omega) b2)
    rw [vx.out] at HG
    subst hB
    clear hY hcy e2 h1 hge
    go_wp2_with fail
    refine HG.out.mono ?_
    rintro e w4 ⟨A4, c4, A5, c5, rfl, g4, g5, hb5, hfr⟩
    have HFR := Lib.hid (hfr.mono L3.out.1.size)
    clear hfr
    have G4 := Lib.hid g4
    have G5 := Lib.hid g5
    have HB := Lib.hid (L3.out.step hb5)
    clear g4 g5 hb5
    go_wp2
    go_ret3
    exact ⟨A4, c4, A5, c5, rfl, G4.out, G5.out, HB.out.1, HFR.out⟩
end Go.Proofs.YthgkdpfkaobgoaaDoor
end
