/-
  The reference's calls (astrolaberef01) over what a law carries along.
-/
import Derived.Test.YtceningojnfgpaaLive2
import Derived.Test.YtceningojnfgpaaRefG
namespace Go.Proofs.Ytceningojnfgpaa
open Go.RowKit
section
variable {w0 w w' : World} {L : List (Option Addr × Nat × List Nat)} {A B : Option Addr} {c d n m : Nat} {xs ys : List Nat} {x y : Nat}
theorem Live.none_ (h : Live w0 w L) : Live w0 w ((none, 0, []) :: L) := h.add (Dg.nil_ _ _)
theorem radd_l (hL : Live w0 w L) (h1 : (A, c, xs) ∈ L) (h2 : (B, d, ys) ∈ L) (hn : n = xs.length) (hm : m = ys.length) (hx : val xs = x) (hy : val ys = y) (b1 : xs.length ≤ 1048576) (b2 : ys.length ≤ 1048576) :
    Calls Try.prog 39 #[.slice A n c, .slice B m d] w fun e w' => ∃ A' c', e = .returned (.slice A' (digs (x + y)).length c') ∧ Live w0 w' ((A', c', digs (x + y)) :: L) := by
  subst hn hm hx hy
  exact (radd_any A B c d xs ys w (hL.get h1) (hL.get h2) b1 b2).mono fun e w' ⟨A', c', he, hd, hb⟩ => ⟨A', c', he, (hL.step hb).add hd⟩
theorem rmul_l (hL : Live w0 w L) (h1 : (A, c, xs) ∈ L) (h2 : (B, d, ys) ∈ L) (hn : n = xs.length) (hm : m = ys.length) (hx : val xs = x) (hy : val ys = y) (b1 : xs.length ≤ 1048576) (b2 : ys.length ≤ 1048576) :
    Calls Try.prog 35 #[.slice A n c, .slice B m d] w fun e w' => ∃ A' c', e = .returned (.slice A' (digs (x * y)).length c') ∧ Live w0 w' ((A', c', digs (x * y)) :: L) := by
  subst hn hm hx hy
  exact (rmul_any A B c d xs ys w (hL.get h1) (hL.get h2) b1 b2).mono fun e w' ⟨A', c', he, hd, hb⟩ => ⟨A', c', he, (hL.step hb).add hd⟩
theorem rsub_l (hL : Live w0 w L) (h1 : (A, c, xs) ∈ L) (h2 : (B, d, ys) ∈ L) (hn : n = xs.length) (hm : m = ys.length) (hx : val xs = x) (hy : val ys = y) (b1 : xs.length ≤ 1048576) (b2 : ys.length ≤ 1048576) (hle : y ≤ x) :
    Calls Try.prog 34 #[.slice A n c, .slice B m d] w fun e w' => ∃ A' c', e = .returned (.tuple #[.slice A' (digs (x - y)).length c', .bool true]) ∧ Live w0 w' ((A', c', digs (x - y)) :: L) := by
  subst hn hm hx hy
  exact (rsub_yes A B c d xs ys w (hL.get h1) (hL.get h2) b1 b2 hle).mono fun e w' ⟨A', c', he, hd, hb⟩ => ⟨A', c', he, (hL.step hb).add hd⟩
theorem rsub_l_no (hL : Live w0 w L) (h1 : (A, c, xs) ∈ L) (h2 : (B, d, ys) ∈ L) (hn : n = xs.length) (hm : m = ys.length) (hx : val xs = x) (hy : val ys = y) (b1 : xs.length ≤ 1048576) (b2 : ys.length ≤ 1048576) (hlt : x < y) :
    Calls Try.prog 34 #[.slice A n c, .slice B m d] w fun e w' => e = .returned (.tuple #[.slice none 0 0, .bool false]) ∧ Live w0 w' L := by
  subst hn hm hx hy
  exact (rsub_no A B c d xs ys w (hL.get h1) (hL.get h2) b1 b2 hlt).mono fun e w' ⟨he, hw⟩ => ⟨he, by rw [← hw]; exact hL⟩
theorem rcmp_l {q : Int} (hL : Live w0 w L) (h1 : (A, c, xs) ∈ L) (h2 : (B, d, ys) ∈ L) (hn : n = xs.length) (hm : m = ys.length) (hx : val xs = x) (hy : val ys = y) (b1 : xs.length ≤ 1048576) (b2 : ys.length ≤ 1048576) (hq : cmpi x y = q) :
    Calls Try.prog 52 #[.slice A n c, .slice B m d] w fun e w' => e = .returned (.int .i64 q) ∧ Live w0 w' L := by
  subst hn hm hx hy hq
  exact (rcmp_any A B c d xs ys w (hL.get h1) (hL.get h2) (by omega) (by omega)).mono fun e w' ⟨he, hw⟩ => ⟨he, by rw [← hw]; exact hL⟩
theorem rbits_l {q : Int} (hL : Live w0 w L) (h1 : (A, c, xs) ∈ L) (hn : n = xs.length) (hx : val xs = x) (b1 : xs.length ≤ 1048576) (hq : (blen x : Int) = q) :
    Calls Try.prog 31 #[.slice A n c] w fun e w' => e = .returned (.int .i64 q) ∧ Live w0 w' L := by
  subst hn hx hq
  exact (rbits_any A c xs w (hL.get h1) (by omega)).mono fun e w' ⟨he, hb⟩ => ⟨he, hL.step hb⟩
theorem rtrim_l (hL : Live w0 w L) (h1 : (A, c, xs) ∈ L) (hn : n = xs.length) (hx : val xs = x) (b1 : xs.length ≤ 1048576) :
    Calls Try.prog 29 #[.slice A n c] w fun e w' => ∃ A' c', e = .returned (.slice A' (digs x).length c') ∧ Live w0 w' ((A', c', digs x) :: L) := by
  subst hn hx
  exact (rtrim_any A c xs w (hL.get h1) (by omega)).mono fun e w' ⟨A', c', he, hd, hb⟩ => ⟨A', c', he, (hL.step hb).add hd⟩
theorem rfrom_l {i : Int} {k : Nat} (hL : Live w0 w L) (hi : i = (k : Int)) (hk : k < 18446744073709551616) :
    Calls Try.prog 36 #[.int .u64 i] w fun e w' => ∃ A' c', e = .returned (.slice A' (digs k).length c') ∧ Live w0 w' ((A', c', digs k) :: L) := by
  subst hi
  exact (rfrom_any k w hk).mono fun e w' ⟨A', c', he, hd, hb⟩ => ⟨A', c', he, (hL.step hb).add hd⟩
theorem rshl_l {i : Int} {k : Nat} (hL : Live w0 w L) (h1 : (A, c, xs) ∈ L) (hn : n = xs.length) (hx : val xs = x) (b1 : xs.length ≤ 1048576) (hi : i = (k : Int)) (hk : k ≤ 100000) :
    Calls Try.prog 32 #[.slice A n c, .int .i64 i] w fun e w' => ∃ A' c', e = .returned (.tuple #[.slice A' (digs (x * 2 ^ k)).length c', .bool true]) ∧ Live w0 w' ((A', c', digs (x * 2 ^ k)) :: L) := by
  subst hn hx hi
  exact (rshl_any A c xs k w (hL.get h1) b1 hk).mono fun e w' ⟨A', c', he, hd, hb⟩ => ⟨A', c', he, (hL.step hb).add hd⟩
theorem rshl_l_no {i : Int} (hL : Live w0 w L) (_h1 : (A, c, xs) ∈ L) (hn : n = xs.length) (hi : i < 0 ∨ 100000 < i) :
    Calls Try.prog 32 #[.slice A n c, .int .i64 i] w fun e w' => e = .returned (.tuple #[.slice none 0 0, .bool false]) ∧ Live w0 w' L := by
  subst hn
  exact (rshl_no A c xs i w hi).mono fun e w' ⟨he, hw⟩ => ⟨he, by rw [← hw]; exact hL⟩
theorem shl_l_no {i : Int} (hL : Live w0 w L) (_h1 : (A, c, xs) ∈ L) (hn : n = xs.length) (hi : i < 0 ∨ 100000 < i) :
    Calls Try.prog 24 #[.slice A n c, .int .i64 i] w fun e w' => e = .returned (.tuple #[.slice none 0 0, .bool false]) ∧ Live w0 w' L := by
  subst hn
  exact (shl_no A c xs i w hi).mono fun e w' ⟨he, hw⟩ => ⟨he, by rw [← hw]; exact hL⟩
theorem rshr_l {i : Int} {k : Nat} (hL : Live w0 w L) (h1 : (A, c, xs) ∈ L) (hn : n = xs.length) (hx : val xs = x) (b1 : xs.length ≤ 1048576) (hi : i = (k : Int)) (hk : k ≤ 9223372036854775807) :
    Calls Try.prog 37 #[.slice A n c, .int .i64 i] w fun e w' => ∃ A' c', e = .returned (.slice A' (digs (x / 2 ^ k)).length c') ∧ Live w0 w' ((A', c', digs (x / 2 ^ k)) :: L) := by
  subst hn hx hi
  exact (rshr_any A c xs k w (hL.get h1) b1 hk).mono fun e w' ⟨A', c', he, hd, hb⟩ => ⟨A', c', he, (hL.step hb).add hd⟩
theorem rshr_l_neg {i : Int} (hL : Live w0 w L) (h1 : (A, c, xs) ∈ L) (hn : n = xs.length) (hx : val xs = x) (b1 : xs.length ≤ 1048576) (hi : i < 0) :
    Calls Try.prog 37 #[.slice A n c, .int .i64 i] w fun e w' => ∃ A' c', e = .returned (.slice A' (digs x).length c') ∧ Live w0 w' ((A', c', digs x) :: L) := by
  subst hn hx
  exact (rshr_neg A c xs i w (hL.get h1) b1 hi).mono fun e w' ⟨A', c', he, hd, hb⟩ => ⟨A', c', he, (hL.step hb).add hd⟩
theorem shr_l_neg {i : Int} (hL : Live w0 w L) (h1 : (A, c, xs) ∈ L) (hn : n = xs.length) (hx : val xs = x) (b1 : xs.length ≤ 1048576) (hi : i < 0) :
    Calls Try.prog 25 #[.slice A n c, .int .i64 i] w fun e w' => ∃ A' c', e = .returned (.slice A' (digs x).length c') ∧ Live w0 w' ((A', c', digs x) :: L) := by
  subst hn hx
  exact (shr_neg A c xs i w (hL.get h1) b1 hi).mono fun e w' ⟨A', c', he, hd, hb⟩ => ⟨A', c', he, (hL.step hb).add hd⟩
end
end Go.Proofs.Ytceningojnfgpaa
