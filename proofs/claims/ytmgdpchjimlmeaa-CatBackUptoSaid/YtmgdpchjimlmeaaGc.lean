/-
  What is read of a head at once; slices.Index, Contains, Clone at whole numbers.
-/
import Derived.Test.YtmgdpchjimlmeaaGb
namespace Go.Proofs.Ytmgdpchjimlmeaa
open Go.RowKit
set_option linter.unusedSimpArgs false
set_option linter.unusedVariables false
set_option maxHeartbeats 1000000 in
set_option maxRecDepth 100000 in
theorem root_any {b : Nat} (R : Int) (w : World) (h : w.cell? ⟨b, 1, none⟩ = some (.int .i64 R)) :
    Calls Try.prog 28 #[.pointer (some ⟨b, 0, none⟩)] w fun e w' => e = .returned (.int .i64 R) ∧ w' = w := by
  go_enter Try.func28, Try.ntmps28
  go_wp2
  go_ret
  exact ⟨rfl, rfl⟩
set_option maxHeartbeats 1000000 in
set_option maxRecDepth 100000 in
theorem place_any {b : Nat} (T : Nat) (w : World) (h : w.cell? ⟨b, 0, none⟩ = some (.int .i64 (T : Int))) :
    Calls Try.prog 37 #[.pointer (some ⟨b, 0, none⟩)] w fun e w' => e = .returned (.int .i64 ((T % 2 : Nat) : Int)) ∧ w' = w := by
  go_enter Try.func37, Try.ntmps37
  go_wp2
  go_ret
  exact ⟨by first | rfl | (simp; done) | (congr 2; omega), rfl⟩
set_option maxHeartbeats 1000000 in
set_option maxRecDepth 100000 in
theorem pagesOf_any {B g gs : Nat} {v : Value} {S : List (List UInt8)} {C : List Wt} (n : Nat) (w : World) (h : Dk B w g gs v S C) (hn : S.length / 2 = n) :
    Calls Try.prog 18 #[.pointer (some ⟨g, 0, none⟩)] w fun e w' => e = .returned (.int .i64 (n : Int)) ∧ w' = w := by
  have H := Lib.hid (sectors_any w h)
  have HN := Lib.hid hn
  have hS : S.length ≤ 1024 := h.n2
  obtain ⟨s, hs⟩ : ∃ s, S.length = s := ⟨_, rfl⟩
  rw [hs] at H HN hS
  clear h hn hs
  go_enter Try.func18, Try.ntmps18
  go_wp2_with fail
  refine H.out.mono ?_
  rintro e w' ⟨rfl, rfl⟩
  go_wp2
  go_ret
  refine ⟨?_, rfl⟩
  have := HN.out
  first | (subst this; rfl) | (subst this; simp; done) | (subst this; congr 2; omega)
set_option maxHeartbeats 1000000 in
set_option maxRecDepth 100000 in
theorem pages_any {p B g gs : Nat} {v : Value} {S : List (List UInt8)} {C : List Wt} (n : Nat) (w : World) (hp : w.cell? ⟨p, 3, none⟩ = some (.pointer (some ⟨g, 0, none⟩))) (h : Dk B w g gs v S C) (hn : S.length / 2 = n) :
    Calls Try.prog 68 #[.pointer (some ⟨p, 0, none⟩)] w fun e w' => e = .returned (.int .i64 (n : Int)) ∧ w' = w := by
  have H := Lib.hid (pagesOf_any n w h hn)
  clear h hn
  go_enter Try.func68, Try.ntmps68
  go_wp2_with fail
  refine H.out.mono ?_
  rintro e w' ⟨rfl, rfl⟩
  go_wp2
  go_ret
  exact ⟨rfl, rfl⟩
/-- May a number be the root? -/
def rootB (U : Nat → Bool) (R : Int) : Bool := decide (R = 0) || (decide (2 ≤ R) && inU U (.int .i64 R))
set_option maxHeartbeats 1000000 in
set_option maxRecDepth 100000 in
theorem rooted_any {b bm k : Nat} {U : Nat → Bool} (R : Int) (q : Bool) (w : World) (h : Us w bm k U) (h1 : w.cell? ⟨b, 1, none⟩ = some (.int .i64 R)) (hc : w.cell? ⟨b, 2, none⟩ = some (.map (some bm))) (hn : (Lit.int .i64 R).wf = true) (hq : rootB U R = q) :
    Calls Try.prog 26 #[.pointer (some ⟨b, 0, none⟩)] w fun e w' => e = .returned (.bool q) ∧ Below w.heap.size w w' := by
  by_cases e0 : R = 0
  · subst e0
    obtain rfl : true = q := by rw [← hq]; rfl
    clear hq h hc hn
    go_enter Try.func26, Try.ntmps26
    go_wp2
    go_ret
    exact ⟨rfl, Below.refl _ _⟩
  · have b0 : (R == 0) = false := by simp [e0]
    by_cases e2 : 2 ≤ R
    · have d2 : decide (2 ≤ R) = true := decide_eq_true e2
      have UH := Lib.hid (uses_any R q w h hc hn (by rw [← hq]; unfold rootB; rw [decide_eq_false e0, d2]; rfl))
      clear hq h hc hn e2
      go_enter Try.func26, Try.ntmps26
      go_wp2_with fail
      refine UH.out.mono ?_
      rintro e w' ⟨rfl, hb⟩
      have HB := Lib.hid hb
      clear hb
      go_wp2
      go_ret
      exact ⟨rfl, HB.out⟩
    · have d2 : decide (2 ≤ R) = false := decide_eq_false e2
      obtain rfl : false = q := by rw [← hq]; unfold rootB; rw [decide_eq_false e0, d2]; rfl
      clear hq h hc hn e2
      go_enter Try.func26, Try.ntmps26
      go_wp2
      go_ret
      exact ⟨rfl, Below.refl _ _⟩
set_option maxHeartbeats 1000000 in
set_option maxRecDepth 100000 in
theorem told_ok {p : Nat} (w : World) :
    Calls Try.prog 35 #[.pointer (some ⟨p, 0, none⟩), .int .i64 0] w fun e w' => e = .returned (.int .i64 0) ∧ w' = w := by
  go_enter Try.func35, Try.ntmps35
  go_wp2
  go_ret
  exact ⟨rfl, rfl⟩
/-- Where a number stands in a list; -1, if nowhere. -/
def ixOf (F : List Nat) (x : Nat) : Int := if F.contains x then (F.idxOf x : Int) else -1
set_option maxHeartbeats 1000000 in
set_option maxRecDepth 100000 in
theorem index_any (F : List Nat) (A : Option Addr) (c x : Nat) (w : World) (hF : Rl nn w A c F) (hl : F.length ≤ 1000000) :
    Calls Try.prog 77 #[.slice A F.length c, .int .i64 (x : Int)] w fun e w' => ∃ i : Int, e = .returned (.int .i64 i) ∧ (decide (0 ≤ i) = F.contains x) ∧ w' = w := by
  have HF := Lib.hid hF
  have HL := Lib.hid hl
  clear hF hl
  go_enter Try.func77, Try.ntmps77
  go_wp2_with fail
  go_loopw [8] (fun kv wr => ∃ k : Nat, k ≤ F.length ∧ kv = .int .i64 k ∧ Hid (wr = w) ∧ Hid ((F.take k).contains x = false)) (fun kv _ => F.length - (intOf kv).toNat)
  case atStart => exact ⟨0, by omega, rfl, Lib.hid rfl, Lib.hid (by simp)⟩
  case round =>
    obtain ⟨k, hk, rfl, hw, hN⟩ := hrel
    obtain rfl : wr = w := hw.out
    clear hw
    by_cases hk2 : k < F.length
    · obtain ⟨y, hy⟩ : ∃ y, F[k] = y := ⟨_, rfl⟩
      have hj : F[k]? = some y := by rw [List.getElem?_eq_getElem hk2, hy]
      obtain ⟨b, off, rfl, hc⟩ := HF.out.cell hj
      have hcc := hc.2
      unfold nn at hcc
      have k0 : (0 : Int) ≤ (k : Int) := by omega
      have k1 : (k : Int) < (F.length : Int) := by omega
      have KL := Lib.hid hk2
      have MY := Lib.hid (show y ∈ F by rw [← hy]; exact List.getElem_mem _)
      have NX := Lib.hid (show x ≠ y → (F.take (k + 1)).contains x = false by
        intro hne
        rw [List.take_succ_eq_append_getElem hk2, List.contains_append, hN.out, hy]
        simp; exact hne)
      have kw := Lib.hid (wup (k := k) (by have := HL.out; omega))
      clear hc hy hj hk2
      by_cases hxy : x = y
      · subst hxy
        go_wp2_with fail
        go_ret
        exact ⟨_, rfl, by rw [decide_eq_true (by omega : (0 : Int) ≤ (k : Int))]; exact (List.contains_iff_mem.2 MY.out).symm, rfl⟩
      · have e1 : ¬ ((x : Int) = (y : Int)) := by omega
        have e2 : ((x : Int) == (y : Int)) = false := by simp; omega
        have NY := Lib.hid (NX.out hxy)
        clear NX hxy
        go_wp2_with fail
        go_roundw
        case rel => exact ⟨k + 1, KL.out, by rw [kw.out]; rfl, Lib.hid (by trivial), NY⟩
        case measure => exact meas_up KL.out kw.out
    · obtain rfl : k = F.length := by omega
      have hNN := hN.out
      rw [List.take_length] at hNN
      have NN := Lib.hid hNN
      clear hNN hN hk2
      go_wp2
      go_ret
      exact ⟨_, rfl, by rw [NN.out]; rfl, rfl⟩
set_option maxHeartbeats 1000000 in
set_option maxRecDepth 100000 in
theorem contains_any (F : List Nat) (A : Option Addr) (c x : Nat) (q : Bool) (w : World) (hF : Rl nn w A c F) (hl : F.length ≤ 1000000) (hq : F.contains x = q) :
    Calls Try.prog 69 #[.slice A F.length c, .int .i64 (x : Int)] w fun e w' => e = .returned (.bool q) ∧ w' = w := by
  have H := Lib.hid (index_any F A c x w hF hl)
  have HQ := Lib.hid hq
  clear hF hl hq
  go_enter Try.func69, Try.ntmps69
  go_wp2_with fail
  refine H.out.mono ?_
  rintro e w' ⟨i, rfl, hi, rfl⟩
  rw [HQ.out] at hi
  go_wp2
  go_ret
  exact ⟨rfl, rfl⟩
end Go.Proofs.Ytmgdpchjimlmeaa
