/-
  quo.Gcd.
-/
import Derived.Test.YtceningojnfgpaaDivMod
namespace Go.Proofs.Ytceningojnfgpaa
open Go.RowKit
theorem gcd_step (x g : Nat) : Nat.gcd g (x % g) = Nat.gcd x g := by
  rw [Nat.gcd_comm x g, Nat.gcd_rec g x, Nat.gcd_comm g]
set_option maxHeartbeats 4000000 in
theorem gcd_any (A B : Option Addr) (c d : Nat) (xs ys : List Nat) (w : World) (h : Dg w A c xs) (h' : Dg w B d ys) (hl : xs.length ≤ 1000000) (hl' : ys.length ≤ 1000000) :
    Calls Try.prog 15 #[.slice A xs.length c, .slice B ys.length d] w fun e w' => ∃ A' c', e = .returned (.slice A' (digs (Nat.gcd (val xs) (val ys))).length c') ∧ Dg w' A' c' (digs (Nat.gcd (val xs) (val ys))) ∧ Below w.heap.size w w' := by
  have L0 := Lib.hid (((live_start w).add h).add h')
  have l1 := digs_len_le h.2.1
  have l2 := digs_len_le h'.2.1
  clear h h'
  go_enter Try.func15, Try.ntmps15
  go_wp2_with fail
  refine Calls.mono (trim_l (xs := xs) (x := val xs) L0.out (by simp) rfl rfl (by omega)) ?_
  rintro e w1 ⟨A1, c1, rfl, h1⟩
  have L1 := Lib.hid h1
  clear h1
  go_wp2_with fail
  refine Calls.mono (trim_l (xs := ys) (x := val ys) L1.out (by simp) rfl rfl (by omega)) ?_
  rintro e w2 ⟨A2, c2, rfl, h1⟩
  have L2 := Lib.hid h1
  clear h1
  go_wp2
  go_loopg [0, 1] (val ys) (fun g a b wr => ∃ (A3 B3 : Option Addr) (c3 d3 X : Nat), a = .slice A3 (digs X).length c3 ∧ b = .slice B3 (digs g).length d3 ∧ Hid (Nat.gcd X g = Nat.gcd (val xs) (val ys)) ∧ (digs X).length ≤ 1000000 ∧ (digs g).length ≤ 1000000 ∧
    Hid (Dg wr A3 c3 (digs X)) ∧ Hid (Dg wr B3 d3 (digs g)) ∧ Hid (Below w.heap.size w wr))
  case atStart => exact ⟨A1, A2, c1, c2, val xs, rfl, rfl, rfl, by omega, by omega, L2.out.get (by simp), L2.out.get (by simp), L2.out.1⟩
  case round =>
    obtain ⟨A3, B3, c3, d3, X, rfl, rfl, HG, b1, b2, D1, D2, HB⟩ := hrel
    by_cases h0 : gk = 0
    · subst h0
      rw [digs_zero]
      have HE := Lib.hid (show X = Nat.gcd (val xs) (val ys) by rw [← HG.out, Nat.gcd_zero_right])
      go_wp2
      go_ret
      rw [← HE.out]
      exact ⟨A3, c3, rfl, D1.out, HB.out⟩
    · have t0 : 0 < (digs gk).length := by
        rcases Nat.eq_zero_or_pos (digs gk).length with h1 | h1
        · exact absurd (digs_nil.1 h1) h0
        · exact h1
      have l3 := digs_len_mono _ _ (Nat.le_of_lt (Nat.mod_lt X (Nat.pos_of_ne_zero h0)))
      have HD := divmod_any A3 B3 c3 d3 (digs X) (digs gk) wr D1.out D2.out b1 b2 (by rw [val_digs]; exact h0)
      rw [val_digs, val_digs] at HD
      have HDM := Lib.hid HD
      have H0 := Lib.hid h0
      clear HD h0
      go_wp2_with fail
      refine HDM.out.mono ?_
      rintro e w4 ⟨A4, c4, A5, c5, rfl, g4, g5, hb5⟩
      have G4 := Lib.hid g4
      have G5 := Lib.hid g5
      have HB5 := Lib.hid hb5
      clear g4 g5 hb5
      go_wp2
      go_roundg (X % gk)
      case measure => exact Nat.mod_lt _ (Nat.pos_of_ne_zero H0.out)
      case rel => exact ⟨B3, A5, d3, c5, gk, rfl, rfl, (gcd_step X gk).trans HG.out, b2, by omega, D2.out.below HB5.out, G5.out, HB.out.trans (HB5.out.mono HB.out.size)⟩
section
variable {w0 w w' : World} {L : List (Option Addr × Nat × List Nat)} {A B : Option Addr} {c d n m : Nat} {xs ys : List Nat} {x y : Nat}
theorem gcd_l (hL : Live w0 w L) (h1 : (A, c, xs) ∈ L) (h2 : (B, d, ys) ∈ L) (hn : n = xs.length) (hm : m = ys.length) (hx : val xs = x) (hy : val ys = y) (b1 : xs.length ≤ 1000000) (b2 : ys.length ≤ 1000000) :
    Calls Try.prog 15 #[.slice A n c, .slice B m d] w fun e w' => ∃ A' c', e = .returned (.slice A' (digs (Nat.gcd x y)).length c') ∧ Live w0 w' ((A', c', digs (Nat.gcd x y)) :: L) := by
  subst hn hm hx hy
  exact (gcd_any A B c d xs ys w (hL.get h1) (hL.get h2) b1 b2).mono fun e w' ⟨A', c', he, hd, hb⟩ => ⟨A', c', he, (hL.step hb).add hd⟩
end
end Go.Proofs.Ytceningojnfgpaa
