/-
  numbers; the chapter's examples.
-/
import Derived.Test.YtcinipfmijmiiaaBi
import Derived.Test.YtcinipfmijmiiaaEb
import Derived.Test.YtcinipfmijmiiaaEj
namespace Go.Proofs.Ytcinipfmijmiiaa
open Go.RowKit
set_option linter.unusedSimpArgs false
set_option linter.unusedVariables false
set_option maxHeartbeats 4000000 in
set_option maxRecDepth 100000 in
theorem numbers_any (xs : List Nat) (A A2 : Option Addr) (c d N : Nat) (w : World) (hA : Rl nn w A c xs) (hB : Rl nn w A2 d xs) (hN : xs.length = N) (hl : N ≤ 1000000) :
    Calls Try.prog 14 #[.slice A N c, .slice A2 N d] w fun e w' => e = .returned (.bool true) ∧ Below w.heap.size w w' := by
  have HA := Lib.hid hA
  have HB := Lib.hid hB
  have HN := Lib.hid (And.intro hN hl)
  clear hA hB hN hl
  go_enter Try.func14, Try.ntmps14
  go_wp2_with fail
  go_loopw [5] (fun iv wr => ∃ i : Nat, iv = .int .i64 (i : Int) ∧ Hid (i ≤ N) ∧ Hid (Below w.heap.size w wr)) (fun iv _ => match iv with | .int _ z => N - z.toNat | _ => 0)
  case atStart => exact ⟨0, rfl, Lib.hid (by omega), Lib.hid (Below.refl _ _)⟩
  case round =>
    obtain ⟨i, rfl, HI, HW⟩ := hrel
    obtain ⟨wl, hwl⟩ : ∃ x : World, wr = x := ⟨_, rfl⟩
    subst wr
    rcases Nat.lt_or_ge i N with hi | hi
    · have y1 : decide ((i : Int) < (N : Int)) = true := decide_eq_true (by omega)
      have y2 : decide (i < N) = true := decide_eq_true hi
      obtain ⟨x, hx⟩ : ∃ x, xs[i]? = some x := ⟨_, List.getElem?_eq_getElem (by rw [HN.out.1]; exact hi)⟩
      obtain ⟨b, o1, e1, hb1, hc1⟩ := HA.out.cell hx
      obtain ⟨b2, o2, e2, hb2, hc2⟩ := HB.out.cell hx
      subst e1 e2
      have c1 : wl.cell? ⟨b, o1 + i, none⟩ = some (.int .i64 (x : Int)) := (HW.out.cell (p := ⟨b, _, none⟩) hb1).trans hc1
      have c2 : wl.cell? ⟨b2, o2 + i, none⟩ = some (.int .i64 (x : Int)) := (HW.out.cell (p := ⟨b2, _, none⟩) hb2).trans hc2
      have i0 : (0 : Int) ≤ (i : Int) := by omega
      have i1 : (i : Int) < (N : Int) := by omega
      have W1 : wrap64 ((i : Int) + 1) = ((i + 1 : Nat) : Int) := by rw [IntWalk.wrap64_in _ ⟨by omega, by have := HN.out.2; omega⟩]; rfl
      have HW1 := Lib.hid W1
      clear hx hb1 hc1 hb2 hc2 W1
      go_upto_region 6 with fail
      go_quiet (fail)
      go_wp2
      have e3 := HW1.out
      refine ⟨⟨i + 1, by rw [e3], Lib.hid hi, Lib.hid (below_drewN HW.out _)⟩, ?_⟩
      rw [e3]
      clear e3 HW1
      show N - (((i + 1 : Nat) : Int)).toNat < N - ((i : Int)).toNat
      omega
    · obtain rfl : i = N := by have := HI.out; omega
      have y1 : decide ((i : Int) < (i : Int)) = false := decide_eq_false (by omega)
      clear hi
      go_wp2
      try rw [Exit.noGoto_ret]
      go_ret
      exact ⟨rfl, HW.out⟩
theorem numbers_own {L1 L2 : Nat} {v v2 : Value} (xs : List Nat) (w : World) (hA : w.ownsRow L1 3 1 v xs.length (xs.map nn)) (hB : w.ownsRow L2 3 1 v2 xs.length (xs.map nn)) (hl : xs.length ≤ 1000000) :
    Calls Try.prog 14 #[v, v2] w fun e w' => e = .returned (.bool true) ∧ Below w.heap.size w w' := by
  obtain ⟨A, c, rfl, h1, _⟩ := rl_of_own hA
  obtain ⟨A2, c2, rfl, h2, _⟩ := rl_of_own hB
  exact numbers_any xs A A2 c c2 xs.length w h1 h2 rfl hl
def exl : List UInt8 := List.replicate 119 0 ++ [120]
theorem exl_len : exl.length = 120 := by unfold exl; simp
theorem wrs_nil_len (A : List Nat) (l : List UInt8) (K : Nat) : ([] ++ wrs A l K : List Wt).length = 2 * K := by rw [List.nil_append, wrs_len]
set_option maxHeartbeats 8000000 in
set_option maxRecDepth 100000 in
theorem examples_any (w : World) :
    Calls Try.prog 6 #[] w fun e w' => e = .returned (.bool true) ∧ Below w.heap.size w w' := by
  have N20 := Lib.hid (show Calls Try.prog 7 #[.int .i64 20] w fun e w' => ∃ g gs, e = .returned (.tuple #[.pointer (some ⟨g, 0, none⟩), .int .i64 0]) ∧ Dk w'.heap.size w' g gs (.slice none 0 0) (List.replicate 20 z64) [] ∧ Below w.heap.size w w' ∧ w.heap.size ≤ g ∧ w.heap.size ≤ gs from new_any 20 (by omega) (by omega) w)
  go_enter Try.func6, Try.ntmps6
  go_wp2_with fail
  refine N20.out.mono ?_
  rintro e w1 ⟨g, gs, rfl, hd1, hb1, hg, hgs⟩
  have B1 := Lib.hid hb1
  have HGG := Lib.hid (And.intro hg hgs)
  obtain ⟨S0, hS0⟩ : ∃ S0, List.replicate 20 z64 = S0 := ⟨_, rfl⟩
  have SL0 := Lib.hid (show S0.length = 20 by rw [← hS0]; simp)
  rw [hS0] at hd1
  have FY := Lib.hid (format_yes w1 hd1 (by rw [SL0.out]; omega) (by simp))
  clear hd1 hb1 N20 hg hgs hS0
  go_wp2_with fail
  refine FY.out.mono ?_
  rintro e w2 ⟨p, bm, rfl, hp, hpb, hu, hd, hc⟩
  obtain ⟨S1, hS1⟩ : ∃ S1, flush S0 ([] ++ hdW 1 0 (nU [])) = S1 := ⟨_, rfl⟩
  have SL := Lib.hid (show S1.length = 20 by rw [← hS1, flush_len, SL0.out])
  rw [hS1] at hd
  have B2 := Lib.hid (hc.below B1.out B1.out.size HGG.out.1 HGG.out.2)
  have PP := Lib.hid (Nat.le_trans B1.out.size hp)
  have P2 := Lib.hid (show Pg w1.heap.size w2.heap.size p g gs bm 2 1 0 (nU []) [] S1 [] (.slice none 0 0) w2 from ⟨hpb, hu, World.ownsRow_nil _ _ _ _, ⟨_, hd⟩, Nat.le_refl _⟩)
  clear hS1 hp hpb hu hd hc FY
  have MB : (Instr.makeSlice 44 (.int .i64 119) (.int .i64 119)).run Try.prog w2 = .ok (.slice (some ⟨w2.heap.size, 0, none⟩) 119 119) (w2.alloc (.cells (bc (List.replicate 119 0)).toArray 5)) := make_bytes 119 (by omega) w2
  have CV : (convert 44 9 (.slice (some ⟨w2.heap.size, 0, none⟩) 119 119)).run Try.prog (w2.alloc (.cells (bc (List.replicate 119 0)).toArray 5)) = .ok (.string ⟨(List.replicate 119 0).toArray⟩) (w2.alloc (.cells (bc (List.replicate 119 0)).toArray 5)) := conv_bytes _ _ 0 119 (List.replicate 119 0) 119 (by simp) (fun j v h => by rw [Nat.zero_add]; exact row_c (World.alloc_heap_new w2 _) (by simpa using h))
  have APP : (⟨(List.replicate 119 (0 : UInt8)).toArray⟩ : ByteArray) ++ ⟨#[120]⟩ = ⟨exl.toArray⟩ := by rw [ByteArray.mk_append_mk]; unfold exl; simp
  obtain ⟨sz, hsz⟩ : ∃ sz : ByteArray, (⟨(List.replicate 119 (0 : UInt8)).toArray⟩ : ByteArray) = sz := ⟨_, rfl⟩
  obtain ⟨st, hst⟩ : ∃ st : ByteArray, (⟨exl.toArray⟩ : ByteArray) = st := ⟨_, rfl⟩
  obtain ⟨cz, hcz⟩ : ∃ cz, (bc (List.replicate 119 0)).toArray = cz := ⟨_, rfl⟩
  have nov : ¬ (9223372036854775807 < sz.size + (⟨#[120]⟩ : ByteArray).size) := by rw [← hsz, str_size]; simp; decide
  have ST := Lib.hid hst
  rw [hsz] at CV APP
  rw [hst] at APP
  rw [hcz] at MB CV
  clear hsz hst hcz
  obtain ⟨W3, hW3⟩ : ∃ W3, w2.alloc (.cells cz 5) = W3 := ⟨_, rfl⟩
  have hb3 : Below w2.heap.size w2 W3 := by rw [← hW3]; exact bda _ _
  have P3 := Lib.hid (P2.out.below hb3)
  have B3 := Lib.hid (bon B2.out hb3)
  rw [hW3] at MB CV
  clear hW3 hb3
  have WR := Lib.hid (bwrite_any 10 2 exl W3 P3.out (by rw [SL.out]) (by rw [exl_len]; omega) (by rw [exl_len]; rfl) (by simp) (by simp))
  rw [ST.out] at WR
  go_wp2_with fail
  refine WR.out.mono ?_
  have hals : als (nU []) 10 [] 2 = [2, 3] := by decide
  intro e w4 hq
  rw [hals] at hq
  obtain ⟨f4, hc4, ⟨_, rfl, hp4⟩ | ⟨h2, _⟩⟩ := hq
  case inr => exact absurd h2 (by decide)
  have P4 := Lib.hid (show Pg w1.heap.size w2.heap.size p g gs bm 2 1 0 (nU []) [2, 3] S1 (wrs [2, 3] exl 2) f4 w4 from hp4)
  have B4 := Lib.hid (hc4.below B3.out B3.out.size B1.out.size PP.out HGG.out.1 HGG.out.2 (fun k e => by cases e))
  have CH := Lib.hid (show Chn S1 (wrs [2, 3] exl 2) 10 (chs [2, 3] exl) from chn_new (C := []) (A := [2, 3]) (K := 2) (l := exl) (by rw [exl_len]; rfl) (by omega) (by decide) rfl (fun x hx => by simp at hx; omega))
  have RD := Lib.hid (bread_pg 10 (chs [2, 3] exl) w4 P4.out (by rw [wrs_len]; omega) (by rw [SL.out]) CH.out 2 rfl exl (by have := pieces_drop [2, 3] exl 0 (by rw [exl_len]; simp) (by simp); simpa using this) (by rw [exl_len]; omega))
  rw [ST.out] at RD
  have e2 : ((([2, 3] : List Nat)[0]?).getD 0) = 2 := rfl
  clear hc4 hp4 WR hals MB CV APP nov
  rw [e2]
  go_wp2_with fail
  refine RD.out.mono ?_
  rintro e w5 ⟨rfl, hb5⟩
  have P5 := Lib.hid (P4.out.below hb5)
  have B5 := Lib.hid (bon B4.out hb5)
  have PA := Lib.hid (bpages_pg 10 (chs [2, 3] exl) w5 P5.out (by rw [wrs_len]; omega) (by rw [SL.out]) CH.out 2 rfl)
  clear hb5 RD e2
  go_wp2_with fail
  refine PA.out.mono ?_
  rintro e w6 ⟨v6, rfl, ho6, hb6⟩
  rw [chs_fst, chs_len] at ho6
  have B6 := Lib.hid (bon B5.out hb6)
  obtain ⟨A6, c6, hu6⟩ := own_form ho6
  subst hu6
  obtain ⟨W7, hW7⟩ : ∃ W7, w6.alloc (.cells #[.int .i64 2, .int .i64 3] 3) = W7 := ⟨_, rfl⟩
  have hb7 : Below w6.heap.size w6 W7 := by rw [← hW7]; exact bda _ _
  have NM := Lib.hid (show Calls Try.prog 14 #[.slice A6 2 c6, .slice (some ⟨w6.heap.size, 0, none⟩) 2 2] W7 fun e w' => e = .returned (.bool true) ∧ Below W7.heap.size W7 w' by
    obtain ⟨A, c, e, h1, _⟩ := rl_of_own (own_below ho6 hb7)
    injection e with e1 e2 e3
    subst e1 e3
    refine numbers_any [2, 3] _ _ _ _ 2 W7 h1 ⟨by simp, fun _ => ⟨w6.heap.size, 0, rfl, by rw [← hW7]; simp, fun j x hx => ?_⟩⟩ rfl (by omega)
    rw [← hW7, Nat.zero_add]
    refine row_c (World.alloc_heap_new w6 _) ?_
    rcases j with _ | _ | j
    · simp at hx ⊢; rw [← hx]; rfl
    · simp at hx ⊢; rw [← hx]; rfl
    · simp at hx)
  have B7 := Lib.hid (bon B6.out hb7)
  clear ho6 hb6 hb7 PA
  go_wp2_with fail
  refine NM.out.mono ?_
  rintro e w8 ⟨rfl, hb8⟩
  have B8 := Lib.hid (bon B7.out hb8)
  have ND0 := Lib.hid (show Calls Try.prog 10 #[.int .i64 0] w8 fun e w' => e = .returned (.int .i64 1) ∧ w' = w8 from need_nat 0 (by omega) w8)
  have ND1 := Lib.hid (show Calls Try.prog 10 #[.int .i64 119] w8 fun e w' => e = .returned (.int .i64 2) ∧ w' = w8 from need_nat 119 (by omega) w8)
  clear hb8 hW7 NM
  go_wp2_with fail
  refine ND0.out.mono ?_
  rintro e w9 ⟨rfl, hw⟩
  obtain rfl : w8 = w9 := hw.symm
  clear hw
  go_wp2_with fail
  refine ND1.out.mono ?_
  rintro e w9 ⟨rfl, hw⟩
  obtain rfl : w8 = w9 := hw.symm
  clear hw
  go_wp2
  go_ret
  exact ⟨rfl, B8.out⟩
end Go.Proofs.Ytcinipfmijmiiaa
