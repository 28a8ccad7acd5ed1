/-
  The chapter's examples.
-/
import Derived.Test.YtnpopbobpbbamaaGo
import Derived.Test.YtnpopbobpbbamaaGf
namespace Go.Proofs.Ytnpopbobpbbamaa
open Go.RowKit
set_option linter.unusedSimpArgs false
set_option linter.unusedVariables false
/-- A page's bytes on the disk. -/
def pg (S : List (List UInt8)) (n : Nat) : List UInt8 := S[2 * n]?.getD [] ++ S[2 * n + 1]?.getD []
def wr2 (x : Nat) (a b : List UInt8) : List Wt := [(2 * x, a), (2 * x + 1, b)]
theorem putG_at {S : List (List UInt8)} {k : Nat} {t : List UInt8} (ht : t.length = 64) (h64 : ∀ s ∈ S, s.length = 64) (hk : k < S.length) (i : Nat) : (put S k t 64)[i]?.getD [] = if k = i then t else S[i]?.getD [] := by
  unfold put
  have e : (S[k]?.getD []).drop 64 = [] := by
    rw [List.getElem?_eq_getElem hk, Option.getD_some, List.drop_of_length_le (by rw [h64 _ (List.getElem_mem hk)]; exact Nat.le_refl _)]
  rw [e, List.append_nil, List.take_of_length_le (by omega), List.getElem?_set]
  by_cases h : k = i
  · subst h; rw [if_pos rfl, if_pos rfl, if_pos hk]; rfl
  · rw [if_neg h, if_neg h]
theorem pg_wr2 {S : List (List UInt8)} {x : Nat} {a b : List UInt8} (h64 : ∀ s ∈ S, s.length = 64) (ha : a.length = 64) (hb : b.length = 64) (hx : 2 * x + 1 < S.length) :
    (∀ s ∈ flush S (wr2 x a b), s.length = 64) ∧ ∀ n, pg (flush S (wr2 x a b)) n = if n = x then a ++ b else pg S n := by
  have e : flush S (wr2 x a b) = put (put S (2 * x) a 64) (2 * x + 1) b 64 := rfl
  have h1 := put_64 (S := S) (i := 2 * x) (t := a) (k := 64) (by omega) h64 ha (Nat.le_refl _)
  have h2 := put_64 (S := put S (2 * x) a 64) (i := 2 * x + 1) (t := b) (k := 64) (by rw [put_len]; omega) h1 hb (Nat.le_refl _)
  rw [e]
  refine ⟨h2, fun n => ?_⟩
  unfold pg
  rw [putG_at hb h1 (by rw [put_len]; omega), putG_at hb h1 (by rw [put_len]; omega), putG_at ha h64 (by omega), putG_at ha h64 (by omega)]
  by_cases h : n = x
  · subst h
    rw [if_neg (by omega), if_pos rfl, if_pos rfl, if_pos rfl]
  · rw [if_neg (by omega), if_neg (by omega), if_neg (by omega), if_neg (by omega), if_neg h]
theorem flush_add (S : List (List UInt8)) (C D : List Wt) : flush S (C ++ D) = flush (flush S C) D := by unfold flush; rw [List.foldl_append]
theorem seal_halves {k : Nat} {t : List UInt8} (ht : t.length ≤ 120) : ((sealL k t).take 64).length = 64 ∧ ((sealL k t).drop 64).length = 64 := by
  have := seal_len (k := k) ht
  exact ⟨by rw [List.length_take]; omega, by rw [List.length_drop]; omega⟩
theorem pg_hd {S : List (List UInt8)} (T R : Nat) (U : Nat → Bool) (h64 : ∀ s ∈ S, s.length = 64) (h4 : 4 ≤ S.length) :
    (∀ s ∈ flush S (hdW T R U), s.length = 64) ∧ ∀ n, pg (flush S (hdW T R U)) n = if n = T % 2 then sealL 1 (headL T R U) else pg S n := by
  have hh := seal_halves (k := 1) (t := headL T R U) (by rw [headL_len]; omega)
  have h := pg_wr2 (S := S) (x := T % 2) h64 hh.1 hh.2 (by omega)
  refine ⟨h.1, fun n => ?_⟩
  rw [show hdW T R U = wr2 (T % 2) ((sealL 1 (headL T R U)).take 64) ((sealL 1 (headL T R U)).drop 64) from rfl, h.2 n, List.take_append_drop]
theorem rd_pg (S : List (List UInt8)) (n : Nat) : rd S [] (2 * n) ++ rd S [] (2 * n + 1) = pg S n := rfl
theorem pg_le {S : List (List UInt8)} (h64 : ∀ s ∈ S, s.length = 64) (n : Nat) : (pg S n).length ≤ 128 := by
  have h : ∀ i, (S[i]?.getD []).length ≤ 64 := fun i => by
    rcases Nat.lt_or_ge i S.length with h | h
    · rw [List.getElem?_eq_getElem h, Option.getD_some, h64 _ (List.getElem_mem h)]; exact Nat.le_refl _
    · rw [List.getElem?_eq_none h]; simp
  unfold pg
  rw [List.length_append]
  have h1 := h (2 * n)
  have h2 := h (2 * n + 1)
  omega
theorem taken_two {F : List Nat} {x : Nat} (hx : ∀ i, i < x → taken (nU []) [] i = true) (h2 : taken (nU []) [] x = false) : x = 2 := by
  have h3 : ¬ x < 2 := fun h => by
    have : x = 0 ∨ x = 1 := by omega
    rcases this with rfl | rfl <;> exact absurd h2 (by decide)
  have h4 : ¬ 2 < x := fun h => absurd (hx 2 h) (by decide)
  omega
set_option maxHeartbeats 8000000 in
set_option maxRecDepth 100000 in
theorem examples_any (w : World) :
    Calls Try.prog 4 #[] w fun e w' => e = .returned (.bool true) ∧ Below w.heap.size w w' := by
  have N8 := Lib.hid (show Calls Try.prog 19 #[.int .i64 8] w fun e w' => ∃ g gs, e = .returned (.tuple #[.pointer (some ⟨g, 0, none⟩), .int .i64 0]) ∧ Dk w'.heap.size w' g gs (.slice none 0 0) (List.replicate 8 z64) [] ∧ Below w.heap.size w w' ∧ w.heap.size ≤ g ∧ w.heap.size ≤ gs from new_any 8 (by omega) (by omega) w)
  go_enter Try.func4, Try.ntmps4
  go_wp2_with fail
  refine N8.out.mono ?_
  rintro e w1 ⟨g, gs, rfl, hd1, hb1, hg, hgs⟩
  have D1 := Lib.hid hd1
  have B1 := Lib.hid hb1
  have HGG := Lib.hid (And.intro hg hgs)
  clear hd1 hb1 N8 hg hgs
  have N6 := Lib.hid (show Calls Try.prog 19 #[.int .i64 6] w1 fun e w' => ∃ g gs, e = .returned (.tuple #[.pointer (some ⟨g, 0, none⟩), .int .i64 0]) ∧ Dk w'.heap.size w' g gs (.slice none 0 0) (List.replicate 6 z64) [] ∧ Below w1.heap.size w1 w' ∧ w1.heap.size ≤ g ∧ w1.heap.size ≤ gs from new_any 6 (by omega) (by omega) w1)
  go_wp2_with fail
  refine N6.out.mono ?_
  rintro e w2 ⟨c, cs, rfl, hd2, hb2, _, _⟩
  have D2 := Lib.hid (D1.out.below hb2)
  have B2 := Lib.hid (bon B1.out hb2)
  have F6 := Lib.hid (format_no w2 hd2 (by simp))
  have ZL := Lib.hid (show (List.replicate 8 z64).length = 8 from List.length_replicate)
  have Z64 := Lib.hid (show ∀ s ∈ List.replicate 8 z64, s.length = 64 from fun s hs => by rw [List.eq_of_mem_replicate hs]; exact z64_len)
  clear hd2 hb2 N6
  go_wp2_with fail
  refine F6.out.mono ?_
  rintro e w3 ⟨rfl, hw⟩
  obtain rfl : w2 = w3 := hw.symm
  clear hw F6
  obtain ⟨S0, hS0⟩ : ∃ S0, List.replicate 8 z64 = S0 := ⟨_, rfl⟩
  rw [hS0] at D2 ZL Z64
  have FY := Lib.hid (format_yes w2 D2.out (by rw [ZL.out]; exact Nat.le_refl _) (by simp))
  clear hS0
  go_wp2_with fail
  refine FY.out.mono ?_
  rintro e w4 ⟨p, bm, rfl, hp, hpb, hu, hd, hc⟩
  obtain ⟨S1, hS1⟩ : ∃ S1, flush S0 ([] ++ hdW 1 0 (nU [])) = S1 := ⟨_, rfl⟩
  have PG1 := Lib.hid (show (∀ s ∈ S1, s.length = 64) ∧ S1.length = 8 ∧ pg S1 1 = sealL 1 (headL 1 0 (nU [])) by
    have h := pg_hd (S := S0) 1 0 (nU []) Z64.out (by rw [ZL.out]; omega)
    rw [← hS1, List.nil_append]
    exact ⟨h.1, by rw [flush_len, ZL.out], by rw [h.2 1]; rfl⟩)
  rw [hS1] at hd
  have B4 := Lib.hid (hc.below B2.out (by exact B1.out.size) HGG.out.1 HGG.out.2)
  have P4 := Lib.hid hpb
  have PP := Lib.hid (Nat.le_trans B2.out.size hp)
  have U4 := Lib.hid hu
  have D4 := Lib.hid hd
  have AL := Lib.hid (alloc_any (L := w4.heap.size) (F := []) 4 w4 P4.out U4.out (World.ownsRow_nil _ _ _ _) (Nat.le_refl _) D4.out (by rw [PG1.out.2.1]) (by simp))
  clear hS1 hp hpb hu hd hc FY
  go_wp2_with fail
  refine AL.out.mono ?_
  intro e w5 hA
  have hA2 : ∃ f', e = .returned (.tuple #[.int .i64 2, .int .i64 0]) ∧ Pb w5 p 1 0 (.map (some bm)) g f' ∧ Us w5 bm 2 (nU []) ∧ w5.ownsRow w4.heap.size 3 1 f' [2].length ([2].map nn) ∧ Dk w1.heap.size w5 g gs (.slice none 0 0) S1 [] ∧ Ca p (.slice none 0 0) f' w4 w5 := by
    rcases hA with ⟨x, f', hx, h1, h2, he, k1, k2, k3, k4, k5⟩ | ⟨h1, _⟩
    · obtain rfl := taken_two (F := []) h1 h2
      exact ⟨f', he, k1, k2, k3, k4, k5⟩
    · exact absurd (h1 2 (by omega)) (by decide)
  obtain ⟨f5, rfl, hp5, hu5, hf5, hd5, hc5⟩ := hA2
  have B5 := Lib.hid (hc5.below (N := w.heap.size) B4.out B4.out.size PP.out (fun k h => by cases h))
  have P5 := Lib.hid hp5
  have U5 := Lib.hid hu5
  have O5 := Lib.hid hf5
  have D5 := Lib.hid hd5
  have xl : (⟨#[120]⟩ : ByteArray).data.toList.length ≤ 120 := by decide
  have WR := Lib.hid (show Calls Try.prog 9 #[.pointer (some ⟨p, 0, none⟩), .int .i64 2, .int .i64 2, .string ⟨#[120]⟩] w5 fun e w' => e = .returned (.int .i64 0) ∧ Pb w' p 1 0 (.map (some bm)) g f5 ∧ Us w' bm 2 (nU []) ∧ w'.ownsRow w4.heap.size 3 1 f5 [2].length ([2].map nn) ∧ (∃ v', Dk w1.heap.size w' g gs v' S1 (([] ++ [(2 * 2, (sealL 2 [120]).take 64)]) ++ [(2 * 2 + 1, (sealL 2 [120]).drop 64)])) ∧ Ch w1.heap.size g gs w5 w' from write_yes 2 2 ⟨#[120]⟩ w5 P5.out U5.out O5.out D5.out (by decide) (by decide) (by rw [PG1.out.2.1]; omega) (by omega) (by omega) xl (by simp))
  clear hA hp5 hu5 hf5 hd5 hc5 xl AL
  go_wp2_with fail
  refine WR.out.mono ?_
  rintro e w6 ⟨rfl, hp6, hu6, hf6, ⟨v6, hd6⟩, hc6⟩
  have B6 := Lib.hid (hc6.below B5.out (by exact B1.out.size) HGG.out.1 HGG.out.2)
  have P6 := Lib.hid hp6
  have U6 := Lib.hid hu6
  have O6 := Lib.hid hf6
  have D6 := Lib.hid hd6
  have CM := Lib.hid (show Calls Try.prog 10 #[.pointer (some ⟨p, 0, none⟩), .int .i64 2] w6 fun e w' => ∃ b2, e = .returned (.int .i64 0) ∧ Pb w' p 2 2 (.map (some b2)) g (.slice none 0 0) ∧ Us w' b2 (2 + [2].length + 2) (fun i => nU [2] i || nU [] i) ∧ Dk w1.heap.size w' g gs (.slice none 0 0) (flush (flush S1 (wr2 2 ((sealL 2 [120]).take 64) ((sealL 2 [120]).drop 64))) (hdW 2 2 (fun i => nU [2] i || nU [] i))) [] ∧ Cp w1.heap.size p g gs w6 w' from commit_yes 1 2 w6 P6.out U6.out O6.out D6.out (by rw [PG1.out.2.1]; omega) (show (2 : Nat) ≤ 900 by omega) (show (1 : Nat) ≤ 1000 by omega) (fun x hx => by rw [List.mem_singleton] at hx; omega) (by omega) (by omega) (by omega) (by decide))
  clear hp6 hu6 hf6 hd6 hc6 WR
  go_wp2_with fail
  refine CM.out.mono ?_
  rintro e w7 ⟨b2, rfl, hp7, hu7, hd7, hc7⟩
  have B7 := Lib.hid (hc7.below B6.out (by exact B1.out.size) PP.out HGG.out.1 HGG.out.2)
  obtain ⟨S2, hS2⟩ : ∃ S2, flush S1 (wr2 2 ((sealL 2 [120]).take 64) ((sealL 2 [120]).drop 64)) = S2 := ⟨_, rfl⟩
  have PG2 := Lib.hid (show (∀ s ∈ S2, s.length = 64) ∧ S2.length = 8 ∧ pg S2 1 = sealL 1 (headL 1 0 (nU [])) by
    have hh := seal_halves (k := 2) (t := [120]) (by simp)
    have h := pg_wr2 (S := S1) (x := 2) PG1.out.1 hh.1 hh.2 (by rw [PG1.out.2.1]; omega)
    rw [← hS2]
    exact ⟨h.1, by rw [flush_len, PG1.out.2.1], by rw [h.2 1, if_neg (by omega)]; exact PG1.out.2.2⟩)
  rw [hS2] at hd7
  obtain ⟨U2, hU2⟩ : ∃ U2 : Nat → Bool, (fun i => nU [2] i || nU [] i) = U2 := ⟨_, rfl⟩
  have HU2 := Lib.hid (show ∀ i, U2 i = decide (i < 3) by
    intro i
    rw [← hU2]
    show (nU [2] i || nU [] i) = _
    unfold nU
    rw [Bool.eq_iff_iff]; simp; omega)
  rw [hU2] at hd7
  obtain ⟨S3, hS3⟩ : ∃ S3, flush S2 (hdW 2 2 U2) = S3 := ⟨_, rfl⟩
  have PG3 := Lib.hid (show (∀ s ∈ S3, s.length = 64) ∧ S3.length = 8 ∧ pg S3 1 = sealL 1 (headL 1 0 (nU [])) ∧ pg S3 0 = sealL 1 (headL 2 2 U2) by
    have h := pg_hd (S := S2) 2 2 U2 PG2.out.1 (by rw [PG2.out.2.1]; omega)
    rw [← hS3]
    exact ⟨h.1, by rw [flush_len, PG2.out.2.1], by rw [h.2 1]; exact PG2.out.2.2, by rw [h.2 0]; rfl⟩)
  rw [hS3] at hd7
  have D7 := Lib.hid hd7
  clear hp7 hu7 hd7 hc7 CM hS2 hS3 hU2
  have OP := Lib.hid (popen_any (fun n => if n = 0 then some ⟨2, 2, U2⟩ else some ⟨1, 0, nU []⟩) 4 w7 D7.out (by rw [PG3.out.2.1]) (by omega) (by simp) (fun n hn => by
    refine ⟨pg S3 n, rd_pg S3 n, pg_le PG3.out.1 n, ?_⟩
    have hn2 : n = 0 ∨ n = 1 := by omega
    rcases hn2 with rfl | rfl
    · refine ⟨PG3.out.2.2.2, (show Fits 2 2 U2 0 4 from ⟨by omega, by omega, rfl, by omega, ?_, by rw [HU2.out]; rfl, by rw [HU2.out]; rfl, fun i _ h => by rw [HU2.out] at h; simp at h; omega⟩)⟩
      have h := taken_inU (U := U2) (k := 2) (by omega)
      show rootB U2 2 = true
      unfold rootB
      rw [show inU U2 (.int .i64 2) = U2 2 from h, HU2.out]; rfl
    · exact ⟨PG3.out.2.2.1, (show Fits 1 0 (nU []) 1 4 from ⟨by omega, by omega, rfl, by omega, by decide, by decide, by decide, fun i _ h => by simp [nU] at h; omega⟩)⟩) (some ⟨2, 2, U2⟩) rfl)
  go_wp2_with fail
  refine OP.out.mono ?_
  intro e w8 hO
  have hO2 : ∃ q bq, e = .returned (.tuple #[.pointer (some ⟨q, 0, none⟩), .int .i64 0]) ∧ Pb w8 q 2 2 (.map (some bq)) g (.slice none 0 0) ∧ Below w7.heap.size w7 w8 := by
    rcases hO with ⟨h, _⟩ | ⟨q, p2, bq, h1, h2, h3, h4, h5, h6⟩
    · cases h
    · injection h1 with h1
      subst h1
      exact ⟨p2, bq, h2, h4, h6⟩
  obtain ⟨q, bq, rfl, hq, hb8⟩ := hO2
  have B8 := Lib.hid (B7.out.trans (hb8.mono B7.out.size))
  have RT := Lib.hid (root_any (b := q) 2 w8 (row_c (i := 1) hq rfl))
  have TN := Lib.hid (turn_any (b := q) 2 w8 (row_c (i := 0) hq rfl))
  clear hO hq hb8 OP
  go_wp2_with fail
  refine RT.out.mono ?_
  rintro e w9 ⟨rfl, hw⟩
  obtain rfl : w8 = w9 := hw.symm
  clear hw
  go_wp2_with fail
  refine TN.out.mono ?_
  rintro e w9 ⟨rfl, hw⟩
  obtain rfl : w8 = w9 := hw.symm
  clear hw
  go_wp2
  go_ret
  exact ⟨rfl, B8.out⟩
end Go.Proofs.Ytnpopbobpbbamaa
