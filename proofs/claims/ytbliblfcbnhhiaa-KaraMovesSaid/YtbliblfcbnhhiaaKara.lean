/-
  kara.Mul, Square.
-/
import Derived.Test.YtbliblfcbnhhiaaKmul
import Derived.Laws.EntriesVeiled
namespace Go.Proofs.Ytbliblfcbnhhiaa
open Go.RowKit
set_option maxHeartbeats 4000000 in
set_option maxRecDepth 100000 in
theorem kara_any (A B : Option Addr) (c d : Nat) (xs ys : List Nat) (w : World) (hA : Dg w A c xs) (hB : Dg w B d ys) (lx : xs.length ≤ 262144) (ly : ys.length ≤ 262144) :
    Calls Try.prog 10 #[.slice A xs.length c, .slice B ys.length d] w fun e w' => ∃ A' c', e = .returned (.slice A' (digs (val xs * val ys)).length c') ∧ Dg w' A' c' (digs (val xs * val ys)) ∧ Below w.heap.size w w' := by
  have hmf : ∀ (fn : Fn) (first cap : Array Value) (w : World), (Instr.makeFunc fn first cap).run Try.prog w = .ok (.func fn first cap) w := fun _ _ _ _ => rfl
  have hb0 : Below w.heap.size w (w.alloc (.cells #[.func (.func 19) #[] #[.pointer (some ⟨w.heap.size, 0, none⟩)]] 25)) := (Below.refl _ _).alloc (Nat.le_refl _) _
  have hg : w.heap.size < (w.alloc (.cells #[.func (.func 19) #[] #[.pointer (some ⟨w.heap.size, 0, none⟩)]] 25)).heap.size := by simp
  have hc : (w.alloc (.cells #[.func (.func 19) #[] #[.pointer (some ⟨w.heap.size, 0, none⟩)]] 25)).cell? ⟨w.heap.size, 0, none⟩ = some (.func (.func 19) #[] #[.pointer (some ⟨w.heap.size, 0, none⟩)]) := by rw [cell_of_row _ _ _ _ _ _ (heap_alloc_new w _)]; rfl
  have L0 := Lib.hid (((live_start _).add (hA.below hb0)).add (hB.below hb0))
  have HB0 := Lib.hid hb0
  have HC := Lib.hid hc
  have HG := Lib.hid hg
  have IHk := Lib.hid (kmul_all 262144 (Nat.le_refl _))
  have d1 := digs_len_le hA.2.1
  have d2 := digs_len_le hB.2.1
  clear hA hB hb0 hc hg
  go_enter Try.func10, Try.ntmps10
  go_wp2_with fail
  generalize (w.alloc (.cells #[.func (.func 19) #[] #[.pointer (some ⟨w.heap.size, 0, none⟩)]] 25)) = W1 at *
  have LD := Lib.hid L0.out.drew
  have hcc := HC.out
  go_region_held3 (fun w' => w'.cell? ⟨w.heap.size, 0, none⟩ = some (.func (.func 19) #[] #[.pointer (some ⟨w.heap.size, 0, none⟩)])) (first | assumption | go_keep)
    (first
      | (go_at_call_of 18 (Value.slice A xs.length c); refine Calls.mono (trim_l (xs := xs) (x := val xs) LD.out (by simp) rfl rfl (by omega)) ?_; rintro e w2 ⟨A2, c2, rfl, h2⟩; (have q2 := h2.cell HG.out HC.out); (have L2 := Lib.hid h2); clear h2)
      | (go_at_call_of 18 (Value.slice B ys.length d); refine Calls.mono (trim_l (xs := ys) (x := val ys) L2.out (by simp) rfl rfl (by omega)) ?_; rintro e w3 ⟨A3, c3, rfl, h3⟩; (have q3 := h3.cell HG.out HC.out); (have L3 := Lib.hid h3); clear h3)
      | (go_at_call 19; refine Calls.mono (kmul_l (xs := digs (val xs)) (ys := digs (val ys)) (x := val xs) (y := val ys) IHk.out L3.out (by simp) (by simp) rfl rfl (val_digs _) (val_digs _) (by omega) (by omega) HG.out HC.out) ?_; rintro e w4 ⟨A4, c4, rfl, h4⟩; (have q4 := h4.cell HG.out HC.out); (have L4 := Lib.hid h4); clear h4))
  go_wp2
  go_ret
  exact ⟨A4, c4, rfl, L4.out.get (by simp), HB0.out.trans (L4.out.1.mono HB0.out.size)⟩
set_option maxHeartbeats 400000 in
theorem square_any (A : Option Addr) (c : Nat) (xs : List Nat) (w : World) (hA : Dg w A c xs) (lx : xs.length ≤ 262144) :
    Calls Try.prog 12 #[.slice A xs.length c] w fun e w' => ∃ A' c', e = .returned (.slice A' (digs (val xs * val xs)).length c') ∧ Dg w' A' c' (digs (val xs * val xs)) ∧ Below w.heap.size w w' := by
  have HK := Lib.hid (kara_any A A c c xs xs w hA hA lx lx)
  clear hA
  go_enter Try.func12, Try.ntmps12
  go_wp2_with fail
  refine HK.out.mono ?_
  rintro e w1 ⟨A1, c1, rfl, h1, hb⟩
  have H1 := Lib.hid h1
  clear h1
  go_wp2
  go_ret
  exact ⟨A1, c1, rfl, H1.out, hb⟩
section
variable {w0 w w' : World} {L : List (Option Addr × Nat × List Nat)} {A B : Option Addr} {c d n m : Nat} {xs ys : List Nat} {x y : Nat}
theorem kara_l (hL : Live w0 w L) (h1 : (A, c, xs) ∈ L) (h2 : (B, d, ys) ∈ L) (hn : n = xs.length) (hm : m = ys.length) (hx : val xs = x) (hy : val ys = y) (b1 : xs.length ≤ 262144) (b2 : ys.length ≤ 262144) :
    Calls Try.prog 10 #[.slice A n c, .slice B m d] w fun e w' => ∃ A' c', e = .returned (.slice A' (digs (x * y)).length c') ∧ Live w0 w' ((A', c', digs (x * y)) :: L) := by
  subst hn hm hx hy
  exact (kara_any A B c d xs ys w (hL.get h1) (hL.get h2) b1 b2).mono fun e w' ⟨A', c', he, hd, hb⟩ => ⟨A', c', he, (hL.step hb).add hd⟩
theorem square_l (hL : Live w0 w L) (h1 : (A, c, xs) ∈ L) (hn : n = xs.length) (hx : val xs = x) (b1 : xs.length ≤ 262144) :
    Calls Try.prog 12 #[.slice A n c] w fun e w' => ∃ A' c', e = .returned (.slice A' (digs (x * x)).length c') ∧ Live w0 w' ((A', c', digs (x * x)) :: L) := by
  subst hn hx
  exact (square_any A c xs w (hL.get h1) b1).mono fun e w' ⟨A', c', he, hd, hb⟩ => ⟨A', c', he, (hL.step hb).add hd⟩
end
end Go.Proofs.Ytbliblfcbnhhiaa
