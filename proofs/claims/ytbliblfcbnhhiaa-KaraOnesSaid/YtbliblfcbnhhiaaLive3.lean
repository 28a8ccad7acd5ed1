/-
  The reference's calls (astrolaberef01) over what a law carries along.
-/
import Derived.Test.YtbliblfcbnhhiaaLive2
import Derived.Test.YtbliblfcbnhhiaaRefG
namespace Go.Proofs.Ytbliblfcbnhhiaa
open Go.RowKit
section
variable {w0 w w' : World} {L : List (Option Addr × Nat × List Nat)} {A B : Option Addr} {c d n m : Nat} {xs ys : List Nat} {x y : Nat}
theorem Live.none_ (h : Live w0 w L) : Live w0 w ((none, 0, []) :: L) := h.add (Dg.nil_ _ _)
theorem rmul_l (hL : Live w0 w L) (h1 : (A, c, xs) ∈ L) (h2 : (B, d, ys) ∈ L) (hn : n = xs.length) (hm : m = ys.length) (hx : val xs = x) (hy : val ys = y) (b1 : xs.length ≤ 1048576) (b2 : ys.length ≤ 1048576) :
    Calls Try.prog 24 #[.slice A n c, .slice B m d] w fun e w' => ∃ A' c', e = .returned (.slice A' (digs (x * y)).length c') ∧ Live w0 w' ((A', c', digs (x * y)) :: L) := by
  subst hn hm hx hy
  exact (rmul_any A B c d xs ys w (hL.get h1) (hL.get h2) b1 b2).mono fun e w' ⟨A', c', he, hd, hb⟩ => ⟨A', c', he, (hL.step hb).add hd⟩
theorem rtrim_l (hL : Live w0 w L) (h1 : (A, c, xs) ∈ L) (hn : n = xs.length) (hx : val xs = x) (b1 : xs.length ≤ 1048576) :
    Calls Try.prog 31 #[.slice A n c] w fun e w' => ∃ A' c', e = .returned (.slice A' (digs x).length c') ∧ Live w0 w' ((A', c', digs x) :: L) := by
  subst hn hx
  exact (rtrim_any A c xs w (hL.get h1) (by omega)).mono fun e w' ⟨A', c', he, hd, hb⟩ => ⟨A', c', he, (hL.step hb).add hd⟩
theorem shl_l_no {i : Int} (hL : Live w0 w L) (_h1 : (A, c, xs) ∈ L) (hn : n = xs.length) (hi : i < 0 ∨ 100000 < i) :
    Calls Try.prog 16 #[.slice A n c, .int .i64 i] w fun e w' => e = .returned (.tuple #[.slice none 0 0, .bool false]) ∧ Live w0 w' L := by
  subst hn
  exact (shl_no A c xs i w hi).mono fun e w' ⟨he, hw⟩ => ⟨he, by rw [← hw]; exact hL⟩
end
end Go.Proofs.Ytbliblfcbnhhiaa
