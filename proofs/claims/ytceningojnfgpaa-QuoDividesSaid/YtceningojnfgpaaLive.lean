/-
  What a law's walk carries along: its slices of digits, and that older memory stays. nat's calls over it.
-/
import Derived.Test.YtceningojnfgpaaMul
namespace Go.Proofs.Ytceningojnfgpaa
open Go.RowKit
def Live (w0 w : World) (L : List (Option Addr × Nat × List Nat)) : Prop := Below w0.heap.size w0 w ∧ ∀ t, t ∈ L → Dg w t.1 t.2.1 t.2.2
section
variable {w0 w w' : World} {L : List (Option Addr × Nat × List Nat)} {A B : Option Addr} {c d n m : Nat} {xs ys : List Nat} {x y : Nat}
theorem below_step (h : Below w0.heap.size w0 w) (hb : Below w.heap.size w w') : Below w0.heap.size w0 w' := h.trans (hb.mono h.size)
theorem Live.get (h : Live w0 w L) (hm : (A, c, xs) ∈ L) : Dg w A c xs := h.2 _ hm
theorem Live.step (h : Live w0 w L) (hb : Below w.heap.size w w') : Live w0 w' L := ⟨below_step h.1 hb, fun t ht => (h.2 t ht).below hb⟩
theorem Live.add (h : Live w0 w L) (hd : Dg w A c xs) : Live w0 w ((A, c, xs) :: L) := ⟨h.1, fun t ht => by
  rcases List.mem_cons.1 ht with rfl | ht
  · exact hd
  · exact h.2 t ht⟩
theorem Live.drewN (h : Live w0 w L) (k : Nat) : Live w0 (w.drewN k) L := h.step (below_drewN (Below.refl _ _) k)
theorem digs_add_len (a b : Nat) : (digs (a + b)).length ≤ max (digs a).length (digs b).length + 1 := by
  have ha := val_lt (ok_digs a)
  have hb := val_lt (ok_digs b)
  rw [val_digs] at ha hb
  have key : ∀ (p q r : Nat), a < 4294967296 ^ p → b < 4294967296 ^ q → p ≤ r → q ≤ r → a + b < 4294967296 ^ (r + 1) := by
    intro p q r h1 h2 h3 h4
    have e1 := Nat.pow_le_pow_right (n := 4294967296) (by omega) h3
    have e2 := Nat.pow_le_pow_right (n := 4294967296) (by omega) h4
    rw [Nat.pow_succ]; omega
  exact digs_len_lt (key _ _ _ ha hb (Nat.le_max_left _ _) (Nat.le_max_right _ _))
theorem digs_mul_len (a b : Nat) : (digs (a * b)).length ≤ (digs a).length + (digs b).length := by
  have ha := val_lt (ok_digs a)
  have hb := val_lt (ok_digs b)
  rw [val_digs] at ha hb
  apply digs_len_lt
  rw [Nat.pow_add]
  rcases Nat.eq_zero_or_pos b with h | h
  · subst h; rw [Nat.mul_zero]; exact Nat.mul_pos (Nat.pow_pos (by omega)) (Nat.pow_pos (by omega))
  · exact Nat.lt_of_lt_of_le (Nat.mul_lt_mul_of_pos_right ha h) (Nat.mul_le_mul_left _ (Nat.le_of_lt hb))
theorem digs_sub_len (a b : Nat) : (digs (a - b)).length ≤ (digs a).length := digs_len_mono _ _ (Nat.sub_le _ _)
theorem add_l (hL : Live w0 w L) (h1 : (A, c, xs) ∈ L) (h2 : (B, d, ys) ∈ L) (hn : n = xs.length) (hm : m = ys.length) (hx : val xs = x) (hy : val ys = y) (b1 : xs.length ≤ 1048576) (b2 : ys.length ≤ 1048576) :
    Calls Try.prog 20 #[.slice A n c, .slice B m d] w fun e w' => ∃ A' c', e = .returned (.slice A' (digs (x + y)).length c') ∧ Live w0 w' ((A', c', digs (x + y)) :: L) := by
  subst hn hm hx hy
  exact (add_any A B c d xs ys w (hL.get h1) (hL.get h2) b1 b2).mono fun e w' ⟨A', c', he, hd, hb⟩ => ⟨A', c', he, (hL.step hb).add hd⟩
theorem mul_l (hL : Live w0 w L) (h1 : (A, c, xs) ∈ L) (h2 : (B, d, ys) ∈ L) (hn : n = xs.length) (hm : m = ys.length) (hx : val xs = x) (hy : val ys = y) (b1 : xs.length ≤ 1048576) (b2 : ys.length ≤ 1048576) :
    Calls Try.prog 21 #[.slice A n c, .slice B m d] w fun e w' => ∃ A' c', e = .returned (.slice A' (digs (x * y)).length c') ∧ Live w0 w' ((A', c', digs (x * y)) :: L) := by
  subst hn hm hx hy
  exact (mul_any A B c d xs ys w (hL.get h1) (hL.get h2) b1 b2).mono fun e w' ⟨A', c', he, hd, hb⟩ => ⟨A', c', he, (hL.step hb).add hd⟩
theorem sub_l (hL : Live w0 w L) (h1 : (A, c, xs) ∈ L) (h2 : (B, d, ys) ∈ L) (hn : n = xs.length) (hm : m = ys.length) (hx : val xs = x) (hy : val ys = y) (b1 : xs.length ≤ 1048576) (b2 : ys.length ≤ 1048576) (hle : y ≤ x) :
    Calls Try.prog 26 #[.slice A n c, .slice B m d] w fun e w' => ∃ A' c', e = .returned (.tuple #[.slice A' (digs (x - y)).length c', .bool true]) ∧ Live w0 w' ((A', c', digs (x - y)) :: L) := by
  subst hn hm hx hy
  exact (sub_yes A B c d xs ys w (hL.get h1) (hL.get h2) b1 b2 hle).mono fun e w' ⟨A', c', he, hd, hb⟩ => ⟨A', c', he, (hL.step hb).add hd⟩
theorem sub_l_no (hL : Live w0 w L) (h1 : (A, c, xs) ∈ L) (h2 : (B, d, ys) ∈ L) (hn : n = xs.length) (hm : m = ys.length) (hx : val xs = x) (hy : val ys = y) (b1 : xs.length ≤ 1048576) (b2 : ys.length ≤ 1048576) (hlt : x < y) :
    Calls Try.prog 26 #[.slice A n c, .slice B m d] w fun e w' => e = .returned (.tuple #[.slice none 0 0, .bool false]) ∧ Live w0 w' L := by
  subst hn hm hx hy
  exact (sub_no A B c d xs ys w (hL.get h1) (hL.get h2) b1 b2 hlt).mono fun e w' ⟨he, hb⟩ => ⟨he, hL.step hb⟩
theorem cmp_l {q : Int} (hL : Live w0 w L) (h1 : (A, c, xs) ∈ L) (h2 : (B, d, ys) ∈ L) (hn : n = xs.length) (hm : m = ys.length) (hx : val xs = x) (hy : val ys = y) (b1 : xs.length ≤ 1048576) (b2 : ys.length ≤ 1048576) (hq : cmpi x y = q) :
    Calls Try.prog 23 #[.slice A n c, .slice B m d] w fun e w' => e = .returned (.int .i64 q) ∧ Live w0 w' L := by
  subst hn hm hx hy hq
  exact (cmp_any A B c d xs ys w (hL.get h1) (hL.get h2) (by omega) (by omega)).mono fun e w' ⟨he, k, hw⟩ => ⟨he, by rw [hw]; exact hL.drewN k⟩
theorem bits_l {q : Int} (hL : Live w0 w L) (h1 : (A, c, xs) ∈ L) (hn : n = xs.length) (hx : val xs = x) (b1 : xs.length ≤ 1048576) (hq : (blen x : Int) = q) :
    Calls Try.prog 19 #[.slice A n c] w fun e w' => e = .returned (.int .i64 q) ∧ Live w0 w' L := by
  subst hn hx hq
  exact (bits_any A c xs w (hL.get h1) (by omega)).mono fun e w' ⟨he, hw⟩ => ⟨he, by rw [← hw]; exact hL⟩
theorem trim_l (hL : Live w0 w L) (h1 : (A, c, xs) ∈ L) (hn : n = xs.length) (hx : val xs = x) (b1 : xs.length ≤ 1048576) :
    Calls Try.prog 22 #[.slice A n c] w fun e w' => ∃ A' c', e = .returned (.slice A' (digs x).length c') ∧ Live w0 w' ((A', c', digs x) :: L) := by
  subst hn hx
  exact (trim_any A c xs w (hL.get h1) (by omega)).mono fun e w' ⟨A', c', he, hd, hb⟩ => ⟨A', c', he, (hL.step hb).add hd⟩
theorem from_l {i : Int} {k : Nat} (hL : Live w0 w L) (hi : i = (k : Int)) (hk : k < 18446744073709551616) :
    Calls Try.prog 48 #[.int .u64 i] w fun e w' => ∃ A' c', e = .returned (.slice A' (digs k).length c') ∧ Live w0 w' ((A', c', digs k) :: L) := by
  subst hi
  exact (from_any k w hk).mono fun e w' ⟨A', c', he, hd, hb⟩ => ⟨A', c', he, (hL.step hb).add hd⟩
end
end Go.Proofs.Ytceningojnfgpaa
