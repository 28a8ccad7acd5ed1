/-
  quo.DivMod.
-/
import Derived.Test.YtceningojnfgpaaDivLong
namespace Go.Proofs.Ytceningojnfgpaa
open Go.RowKit
set_option maxHeartbeats 2000000 in
theorem divmod_no (A B : Option Addr) (c d : Nat) (xs ys : List Nat) (w : World) (h : Dg w A c xs) (h' : Dg w B d ys) (hl : xs.length ≤ 1000000) (hl' : ys.length ≤ 1000000) (hy : val ys = 0) :
    Calls Try.prog 12 #[.slice A xs.length c, .slice B ys.length d] w fun e w' => e = .returned (.tuple #[.slice none 0 0, .slice none 0 0, .bool false]) ∧ Below w.heap.size w w' := by
  have L0 := Lib.hid (((live_start w).add h).add h')
  have HY := Lib.hid hy
  clear h h' hy
  go_enter Try.func12, Try.ntmps12
  go_wp2_with fail
  refine Calls.mono (trim_l (xs := xs) (x := val xs) L0.out (by simp) rfl rfl (by omega)) ?_
  rintro e w1 ⟨A1, c1, rfl, h1⟩
  have L1 := Lib.hid h1
  clear h1
  go_wp2_with fail
  refine Calls.mono (trim_l (xs := ys) (x := 0) L1.out (by simp) rfl HY.out (by omega)) ?_
  rw [digs_zero]
  rintro e w2 ⟨A2, c2, rfl, h1⟩
  have L2 := Lib.hid h1
  clear h1
  go_wp2
  go_ret3
  exact ⟨rfl, L2.out.1⟩
set_option maxHeartbeats 4000000 in
theorem divmod_any (A B : Option Addr) (c d : Nat) (xs ys : List Nat) (w : World) (h : Dg w A c xs) (h' : Dg w B d ys) (hl : xs.length ≤ 1000000) (hl' : ys.length ≤ 1000000) (hy : val ys ≠ 0) :
    Calls Try.prog 12 #[.slice A xs.length c, .slice B ys.length d] w fun e w' => ∃ A' c' B' d', e = .returned (.tuple #[.slice A' (digs (val xs / val ys)).length c', .slice B' (digs (val xs % val ys)).length d', .bool true]) ∧ Dg w' A' c' (digs (val xs / val ys)) ∧ Dg w' B' d' (digs (val xs % val ys)) ∧ Below w.heap.size w w' := by
  have L0 := Lib.hid (((live_start w).add h).add h')
  have l1 := digs_len_le h.2.1
  have l2 := digs_len_le h'.2.1
  have y0 : 0 < (digs (val ys)).length := by
    rcases Nat.eq_zero_or_pos (digs (val ys)).length with h0 | h0
    · exact absurd (digs_nil.1 h0) hy
    · exact h0
  have t0 : (((digs (val ys)).length : Int) == 0) = false := beq_eq_false_iff_ne.2 (by omega)
  have HY := Lib.hid hy
  clear h h' hy
  go_enter Try.func12, Try.ntmps12
  go_wp2_with fail
  refine Calls.mono (trim_l (xs := xs) (x := val xs) L0.out (by simp) rfl rfl (by omega)) ?_
  rintro e w1 ⟨A1, c1, rfl, h1⟩
  have L1 := Lib.hid h1
  clear h1
  go_wp2_with fail
  refine Calls.mono (trim_l (xs := ys) (x := val ys) L1.out (by simp) rfl rfl (by omega)) ?_
  rintro e w2 ⟨A2, c2, rfl, h1⟩
  have L2 := Lib.hid h1
  clear h1
  have vx := Lib.hid (val_digs (val xs))
  have vy := Lib.hid (val_digs (val ys))
  obtain ⟨q, hq⟩ : ∃ q : Int, cmpi (val xs) (val ys) = q := ⟨_, rfl⟩
  have HC := Lib.hid hq
  go_wp2_with fail
  refine Calls.mono (cmp_l (xs := digs (val xs)) (ys := digs (val ys)) (x := val xs) (y := val ys) L2.out (by simp) (by simp) rfl rfl vx.out vy.out (by omega) (by omega) HC.out) ?_
  rintro e w3 ⟨rfl, h1⟩
  have L3 := Lib.hid h1
  clear h1
  rcases Nat.lt_or_ge (val xs) (val ys) with hlt | hge
  · have d0 : decide (q < 0) = true := by rw [← hq, cmpi_lt hlt]; rfl
    have e0 : val xs / val ys = 0 := Nat.div_eq_of_lt hlt
    have e1 : val xs % val ys = val xs := Nat.mod_eq_of_lt hlt
    have E0 := Lib.hid e0
    have E1 := Lib.hid e1
    clear e0 e1 hlt hq
    go_wp2
    go_ret3
    rw [E0.out, E1.out, digs_zero]
    exact ⟨none, 0, A1, c1, rfl, Dg.nil_ _ _, L3.out.get (by simp), L3.out.1⟩
  · have d0 : decide (q < 0) = false := by
      rw [← hq]
      rcases Nat.eq_or_lt_of_le hge with e | e
      · rw [cmpi_eq e.symm]; rfl
      · rw [cmpi_gt e]; rfl
    have hle := Lib.hid (digs_len_mono _ _ hge)
    clear hq
    by_cases h1 : (digs (val ys)).length = 1
    · have t1 : (((digs (val ys)).length : Int) == 1) = true := by rw [h1]; rfl
      have hY : Dg w3 A2 c2 (digs (val ys)) := L3.out.get (by simp)
      obtain ⟨b, off, hB, hb, hcy⟩ := hY.2.2 y0
      have hc0 := hcy 0 y0
      rw [Nat.add_zero] at hc0
      have e2 : val ys = (digs (val ys))[0]?.getD 0 := by
        rcases hd : digs (val ys) with _ | ⟨z, _ | ⟨z', r⟩⟩
        · rw [hd] at h1; simp at h1
        · have := vy.out; rw [hd] at this; simp only [val] at this; simp; omega
        · rw [hd] at h1; simp at h1
      have b2 : val ys < 4294967296 := by rw [e2]; exact getD_lt (ok_digs _) 0
      rw [← e2] at hc0
      have HG := Lib.hid (divdigit_any A1 c1 (val ys) (digs (val xs)) w3 (L3.out.get (by simp)) (by omega) (by have := HY.out; omega) b2)
      rw [vx.out] at HG
      subst hB
      clear hY hcy e2 h1 hge
      go_wp2_with fail
      refine HG.out.mono ?_
      rintro e w4 ⟨A4, c4, A5, c5, rfl, g4, g5, hb5⟩
      have G4 := Lib.hid g4
      have G5 := Lib.hid g5
      have HB := Lib.hid (L3.out.step hb5)
      clear g4 g5 hb5
      go_wp2
      go_ret3
      exact ⟨A4, c4, A5, c5, rfl, G4.out, G5.out, HB.out.1⟩
    · have t1 : (((digs (val ys)).length : Int) == 1) = false := beq_eq_false_iff_ne.2 (by omega)
      have HG := Lib.hid (divlong_any A1 A2 c1 c2 (digs (val xs)) (digs (val ys)) w3 (L3.out.get (by simp)) (L3.out.get (by simp)) (by omega) (by omega) hle.out (by rw [vx.out]) (by rw [vy.out]))
      rw [vx.out, vy.out] at HG
      clear h1 hge
      go_wp2_with fail
      refine HG.out.mono ?_
      rintro e w4 ⟨A4, c4, A5, c5, rfl, g4, g5, hb5⟩
      have G4 := Lib.hid g4
      have G5 := Lib.hid g5
      have HB := Lib.hid (L3.out.step hb5)
      clear g4 g5 hb5
      go_wp2
      go_ret3
      exact ⟨A4, c4, A5, c5, rfl, G4.out, G5.out, HB.out.1⟩
section
variable {w0 w w' : World} {L : List (Option Addr × Nat × List Nat)} {A B : Option Addr} {c d n m : Nat} {xs ys : List Nat} {x y : Nat}
theorem divmod_l (hL : Live w0 w L) (h1 : (A, c, xs) ∈ L) (h2 : (B, d, ys) ∈ L) (hn : n = xs.length) (hm : m = ys.length) (hx : val xs = x) (hy : val ys = y) (b1 : xs.length ≤ 1000000) (b2 : ys.length ≤ 1000000) (y0 : y ≠ 0) :
    Calls Try.prog 12 #[.slice A n c, .slice B m d] w fun e w' => ∃ A' c' B' d', e = .returned (.tuple #[.slice A' (digs (x / y)).length c', .slice B' (digs (x % y)).length d', .bool true]) ∧ Live w0 w' ((B', d', digs (x % y)) :: (A', c', digs (x / y)) :: L) := by
  subst hn hm hx hy
  exact (divmod_any A B c d xs ys w (hL.get h1) (hL.get h2) b1 b2 y0).mono fun e w' ⟨A', c', B', d', he, hd, hd', hb⟩ => ⟨A', c', B', d', he, ((hL.step hb).add hd).add hd'⟩
theorem divmod_l_no (hL : Live w0 w L) (h1 : (A, c, xs) ∈ L) (h2 : (B, d, ys) ∈ L) (hn : n = xs.length) (hm : m = ys.length) (hy : val ys = 0) (b1 : xs.length ≤ 1000000) (b2 : ys.length ≤ 1000000) :
    Calls Try.prog 12 #[.slice A n c, .slice B m d] w fun e w' => e = .returned (.tuple #[.slice none 0 0, .slice none 0 0, .bool false]) ∧ Live w0 w' L := by
  subst hn hm
  exact (divmod_no A B c d xs ys w (hL.get h1) (hL.get h2) b1 b2 hy).mono fun e w' ⟨he, hb⟩ => ⟨he, hL.step hb⟩
end
end Go.Proofs.Ytceningojnfgpaa
