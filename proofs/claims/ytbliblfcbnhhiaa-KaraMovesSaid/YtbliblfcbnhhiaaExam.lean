/-
  The law's own 'examples' of chapter 2; the reference's product.
-/
import Derived.Test.YtbliblfcbnhhiaaKara
import Derived.Test.YtbliblfcbnhhiaaSteps
import Derived.Test.YtbliblfcbnhhiaaLive3
namespace Go.Proofs.Ytbliblfcbnhhiaa
open Go.RowKit
section
variable {w0 w w' : World} {L : List (Option Addr × Nat × List Nat)} {A B : Option Addr} {c d n m : Nat} {xs ys : List Nat} {x y : Nat}
theorem steps_l {i q : Int} {N : Nat} (hL : Live w0 w L) (hi : min (max i 0) 1000000 = (N : Int)) (hq : (ksteps N : Int) = q) :
    Calls Try.prog 13 #[.int .i64 i] w fun e w' => e = .returned (.int .i64 q) ∧ Live w0 w' L := by
  subst hq
  exact (steps_any N i w hi).mono fun e w' ⟨he, hw⟩ => ⟨he, by rw [← hw]; exact hL⟩
theorem rsteps_l {i q : Int} {N : Nat} (hL : Live w0 w L) (hi : min (max i 0) 1000000 = (N : Int)) (hq : (ksteps N : Int) = q) :
    Calls Try.prog 14 #[.int .i64 i] w fun e w' => e = .returned (.int .i64 q) ∧ Live w0 w' L := by
  subst hq
  exact (rsteps_any N i w hi).mono fun e w' ⟨he, hw⟩ => ⟨he, by rw [← hw]; exact hL⟩
end
set_option maxHeartbeats 400000 in
theorem r2mul_any (A B : Option Addr) (c d : Nat) (xs ys : List Nat) (w : World) (h : Dg w A c xs) (h' : Dg w B d ys) (hl : xs.length ≤ 1048576) (hl' : ys.length ≤ 1048576) :
    Calls Try.prog 11 #[.slice A xs.length c, .slice B ys.length d] w fun e w' => ∃ A' c', e = .returned (.slice A' (digs (val xs * val ys)).length c') ∧ Dg w' A' c' (digs (val xs * val ys)) ∧ Below w.heap.size w w' := by
  have HK := Lib.hid (rmul_any A B c d xs ys w h h' hl hl')
  clear h h'
  go_enter Try.func11, Try.ntmps11
  go_wp2_with fail
  refine HK.out.mono ?_
  rintro e w1 ⟨A1, c1, rfl, h1, hb⟩
  have H1 := Lib.hid h1
  clear h1
  go_wp2
  go_ret
  exact ⟨A1, c1, rfl, H1.out, hb⟩
section
variable {w0 w w' : World} {L : List (Option Addr × Nat × List Nat)} {A B : Option Addr} {c d n m : Nat} {xs ys : List Nat} {x y : Nat}
theorem r2mul_l (hL : Live w0 w L) (h1 : (A, c, xs) ∈ L) (h2 : (B, d, ys) ∈ L) (hn : n = xs.length) (hm : m = ys.length) (hx : val xs = x) (hy : val ys = y) (b1 : xs.length ≤ 1048576) (b2 : ys.length ≤ 1048576) :
    Calls Try.prog 11 #[.slice A n c, .slice B m d] w fun e w' => ∃ A' c', e = .returned (.slice A' (digs (x * y)).length c') ∧ Live w0 w' ((A', c', digs (x * y)) :: L) := by
  subst hn hm hx hy
  exact (r2mul_any A B c d xs ys w (hL.get h1) (hL.get h2) b1 b2).mono fun e w' ⟨A', c', he, hd, hb⟩ => ⟨A', c', he, (hL.step hb).add hd⟩
end
theorem ks7 : ksteps 7 = 49 := ksteps_lo (by omega)
theorem ks8 : ksteps 8 = 57 := by rw [ksteps_hi (by omega), ksteps_lo (by omega), ksteps_lo (by omega)]
theorem ks0 : ksteps 0 = 0 := ksteps_lo (by omega)
set_option maxHeartbeats 1000000 in
set_option maxRecDepth 100000 in
theorem examples_any (w : World) : Calls Try.prog 8 #[] w fun e w' => e = .returned (.bool true) ∧ Below w.heap.size w w' := by
  have L0 := Lib.hid (live_start w)
  have e2 := Lib.hid (show digs (4294967296 * 3) = [0, 3] from digs_two (a := 0) (b := 3) (by omega) (by omega) (by omega))
  go_enter Try.func8, Try.ntmps8
  go_wp2_with fail
  have L5 := Lib.hid ((L0.out.new2 0 1 0 1 rfl rfl (by omega) (by omega)).new2 3 0 3 0 rfl rfl (by omega) (by omega))
  refine Calls.mono (kara_l (x := 4294967296) (y := 3) (xs := [0, 1]) (ys := [3, 0]) L5.out (by simp) (by simp) rfl rfl (by simp [val]) (by simp [val]) (by simp) (by simp)) ?_
  rintro e w3 ⟨A2, c2, rfl, h1⟩
  have L6 := Lib.hid h1
  clear h1
  go_wp2_with fail
  have L7 := Lib.hid (L6.out.new2 0 3 0 3 rfl rfl (by omega) (by omega))
  refine Calls.mono (digits_l (ys := [0, 3]) L7.out (by simp) (by simp) rfl rfl (by rw [e2.out]; simp) e2.out) ?_
  rintro e w4 ⟨rfl, h1⟩
  have L8 := Lib.hid h1
  clear h1
  go_wp2_with fail
  refine Calls.mono (steps_l (N := 7) (q := 49) L8.out (by omega) (by rw [ks7]; rfl)) ?_
  rintro e w5 ⟨rfl, h1⟩
  have L9 := Lib.hid h1
  clear h1
  go_wp2_with fail
  refine Calls.mono (steps_l (N := 8) (q := 57) L9.out (by omega) (by rw [ks8]; rfl)) ?_
  rintro e w6 ⟨rfl, h1⟩
  have L10 := Lib.hid h1
  clear h1
  go_wp2_with fail
  refine Calls.mono (steps_l (N := 0) (q := 0) L10.out (by omega) (by rw [ks0]; rfl)) ?_
  rintro e w7 ⟨rfl, h1⟩
  have L11 := Lib.hid h1
  clear h1
  go_wp2
  go_ret
  exact ⟨rfl, L11.out.1⟩
end Go.Proofs.Ytbliblfcbnhhiaa
