/-
  PagerHands.
-/
import Derived.Test.YtkklekkanogphaaGp
namespace Go.Proofs.Ytkklekkanogphaa
open Go.RowKit
set_option linter.unusedSimpArgs false
set_option linter.unusedVariables false
/-- The first fresh pages, so many. -/
def fr2 (m : Nat) : List Nat := List.range' 2 m
theorem fr2_len (m : Nat) : (fr2 m).length = m := by unfold fr2; simp
theorem fr2_snoc (m : Nat) : fr2 m ++ [m + 2] = fr2 (m + 1) := by unfold fr2; rw [List.range'_concat]; simp; omega
theorem fr2_mem (m i : Nat) : (fr2 m).contains i = (decide (2 ≤ i) && decide (i < m + 2)) := by
  unfold fr2
  rw [Bool.eq_iff_iff, List.contains_iff_mem, List.mem_range'_1]; simp; omega
theorem fr2_take {m n : Nat} (h : m ≤ n) : (fr2 n).take m = fr2 m := by
  unfold fr2
  obtain ⟨d, rfl⟩ : ∃ d, n = m + d := ⟨n - m, by omega⟩
  rw [← List.range'_append_1, List.take_append_of_le_length (by simp), List.take_of_length_le (by simp)]
theorem taken_fr2 (m i : Nat) : taken (nU []) (fr2 m) i = decide (i < m + 2) := by
  unfold taken nU
  rw [fr2_mem, Bool.eq_iff_iff]; simp; omega
theorem taken_at {m x : Nat} (h1 : ∀ i, i < x → taken (nU []) (fr2 m) i = true) (h2 : taken (nU []) (fr2 m) x = false) : x = m + 2 := by
  rw [taken_fr2] at h2
  have h3 : ¬ m + 2 < x := fun h => by have := h1 (m + 2) h; rw [taken_fr2] at this; simp at this
  have h4 : ¬ x < m + 2 := by simpa using h2
  omega
theorem nU_fr2 (m i : Nat) : (nU (fr2 m) i || nU [] i) = decide (i < m + 2) := by
  unfold nU
  rw [fr2_mem, Bool.eq_iff_iff]; simp; omega
theorem filter_lt (q n : Nat) : ((List.range n).filter fun i => decide (i < q)).length = min q n := by
  induction n with
  | zero => simp
  | succ n ih =>
    rw [List.range_succ, List.filter_append, List.length_append, ih]
    by_cases h : n < q
    · rw [List.filter_cons_of_pos (by simpa using h)]; simp; omega
    · rw [List.filter_cons_of_neg (by simpa using h)]; simp; omega
theorem usedL_lt {U : Nat → Bool} {q : Nat} (hq : q ≤ 512) (h : ∀ i, U i = decide (i < q)) : (usedL U).length = q := by
  unfold usedL
  rw [List.filter_congr (q := fun i => decide (i < q)) (fun i _ => h i), filter_lt]; omega
theorem fr2_lt {m : Nat} (hm : m ≤ 20) : ∀ x ∈ fr2 m, x < 512 := fun x hx => by
  unfold fr2 at hx
  have := List.mem_range'_1.1 hx
  omega
theorem root_fr2 {m : Nat} (h : 1 ≤ m) : rootB (fun i => nU (fr2 m) i || nU [] i) 2 = true := by
  have h2 := taken_inU (U := fun i => nU (fr2 m) i || nU [] i) (k := 2) (by omega)
  unfold rootB
  rw [show inU (fun i => nU (fr2 m) i || nU [] i) (.int .i64 2) = (nU (fr2 m) 2 || nU [] 2) from h2, nU_fr2]
  simp; omega
set_option maxHeartbeats 8000000 in
set_option maxRecDepth 100000 in
theorem pagerHands_nn (n m : Int) (root : Bool) (w : World) (n0 : -9223372036854775808 ≤ n) (n1 : n ≤ 9223372036854775807) (m0 : -9223372036854775808 ≤ m) (m1 : m ≤ 9223372036854775807) (hcn : n < 0) (hcm : m < 0) :
    Calls Try.prog 3 #[.int .i64 n, .int .i64 m, .bool root] w fun e w' => e = .returned (.bool true) ∧ Below w.heap.size w w' := by
  obtain ⟨zn, hzn⟩ : ∃ z : Int, n + 1 = z := ⟨_, rfl⟩
  have wzn : wrap64 (n + 1) = zn := by rw [hzn]; exact IntWalk.wrap64_in _ ⟨by omega, by omega⟩
  obtain ⟨yn, hyn⟩ : ∃ y : Nat, -zn = (y : Int) := ⟨(-zn).toNat, by omega⟩
  have wyn : Value.int .i64 (wrap64 (-zn)) = .int .i64 (yn : Int) := by rw [IntWalk.wrap64_in _ ⟨by omega, by omega⟩, hyn]
  have dn : decide (n < 0) = true := by simpa using hcn
  have Yn := Lib.hid (show (yn : Int) ≤ 9223372036854775807 by omega)
  have Vn := Lib.hid wyn
  have Wn := Lib.hid (And.intro wzn dn)
  clear hzn wzn wyn hyn dn
  obtain ⟨zm, hzm⟩ : ∃ z : Int, m + 1 = z := ⟨_, rfl⟩
  have wzm : wrap64 (m + 1) = zm := by rw [hzm]; exact IntWalk.wrap64_in _ ⟨by omega, by omega⟩
  obtain ⟨ym, hym⟩ : ∃ y : Nat, -zm = (y : Int) := ⟨(-zm).toNat, by omega⟩
  have wym : Value.int .i64 (wrap64 (-zm)) = .int .i64 (ym : Int) := by rw [IntWalk.wrap64_in _ ⟨by omega, by omega⟩, hym]
  have dm : decide (m < 0) = true := by simpa using hcm
  have Ym := Lib.hid (show (ym : Int) ≤ 9223372036854775807 by omega)
  have Vm := Lib.hid wym
  have Wm := Lib.hid (And.intro wzm dm)
  clear hzm wzm wym hym dm
  obtain ⟨r, hr⟩ : ∃ r : Nat, (yn : Int).tmod 17 = (r : Int) := ⟨yn % 17, by rw [Int.tmod_eq_emod_of_nonneg (by omega)]; omega⟩
  have HR := Lib.hid (show r < 17 by rw [Int.tmod_eq_emod_of_nonneg (by omega)] at hr; omega)
  obtain ⟨P, hP⟩ : ∃ P : Nat, 4 + r = P := ⟨_, rfl⟩
  have wP := Lib.hid (show wrap64 (4 + (r : Int)) = (P : Int) by rw [IntWalk.wrap64_in _ ⟨by omega, by have := HR.out; omega⟩]; omega)
  have HP := Lib.hid (show 4 ≤ P ∧ P ≤ 20 by have := HR.out; omega)
  have TR := Lib.hid hr
  obtain ⟨D, hD⟩ : ∃ D : Nat, 2 * P = D := ⟨_, rfl⟩
  have wD := Lib.hid (show wrap64 (2 * (P : Int)) = (D : Int) by rw [IntWalk.wrap64_in _ ⟨by omega, by have := HP.out; omega⟩]; omega)
  have HD := Lib.hid hD
  clear hr hP hD n0 n1 m0 m1 hcn hcm
  go_enter Try.func3, Try.ntmps3
  go_wp2_with fail
  refine (examples_any w).mono ?_
  rintro e w1 ⟨rfl, hb⟩
  have B1 := Lib.hid hb
  clear hb
  have u1 := Wn.out.1
  have u2 := Wn.out.2
  have u3 := Vn.out
  have u4 := Wm.out.1
  have u5 := Wm.out.2
  have u6 := Vm.out
  have t1 := TR.out
  have t2 := wP.out
  have t3 := wD.out
  go_wp2_with fail
  rw [t2]
  rw [u6]
  refine (new_any D (by have := HD.out; have := HP.out; omega) (by have := HD.out; have := HP.out; omega) w1).mono ?_
  rintro e w2 ⟨g, gs, rfl, hd, hb, hg, hgs⟩
  have B2 := Lib.hid (bon B1.out hb)
  have HGG := Lib.hid (And.intro (Nat.le_trans B1.out.size hg) (Nat.le_trans B1.out.size hgs))
  have BS2 := Lib.hid B2.out.size
  obtain ⟨S0, hS0⟩ : ∃ S0, List.replicate D z64 = S0 := ⟨_, rfl⟩
  have SL0 := Lib.hid (show S0.length = D by rw [← hS0]; exact List.length_replicate)
  rw [hS0] at hd
  have FY := Lib.hid (format_yes w2 hd (by have := SL0.out; have := HD.out; have := HP.out; omega) (by simp))
  clear hd hb hg hgs hS0 t1 t2 t3 u2 u5 u1 u3 u4 u6 
  go_wp2_with fail
  refine FY.out.mono ?_
  rintro e w3 ⟨p, bm, rfl, hp, hpb, hu, hd, hc⟩
  obtain ⟨S1, hS1⟩ : ∃ S1, flush S0 ([] ++ hdW 1 0 (nU [])) = S1 := ⟨_, rfl⟩
  have SL := Lib.hid (show S1.length / 2 = P by rw [← hS1, flush_len, SL0.out, ← HD.out]; omega)
  have SL4 := Lib.hid (show 4 ≤ S1.length by have := SL.out; have := HP.out; omega)
  rw [hS1] at hd
  have B3 := Lib.hid (hc.below B2.out BS2.out HGG.out.1 HGG.out.2)
  have P3 := Lib.hid hpb
  have PP := Lib.hid (Nat.le_trans B2.out.size hp)
  have U3 := Lib.hid hu
  have D3 := Lib.hid hd
  obtain ⟨B, hB⟩ : ∃ B, w2.heap.size = B := ⟨_, rfl⟩
  rw [hB] at D3 BS2
  obtain ⟨L, hL⟩ : ∃ L, w3.heap.size = L := ⟨_, rfl⟩
  have HL := Lib.hid (show w.heap.size ≤ L ∧ w3.heap.size = L from ⟨by rw [← hL]; exact B3.out.size, hL⟩)
  clear hS1 hp hpb hu hd hc FY hB hL
  go_wp2_with fail
  go_loopw [12] (fun kv wr => ∃ (k : Nat) (f : Value), k + 2 ≤ P ∧ kv = .int .i64 ((k + 2 : Nat) : Int) ∧ Hid (Pb wr p 1 0 (.map (some bm)) g f) ∧ Hid (Us wr bm 2 (nU [])) ∧ Hid (wr.ownsRow L 3 1 f (fr2 k).length ((fr2 k).map nn)) ∧ Hid (Dk B wr g gs (.slice none 0 0) S1 []) ∧ Hid (Below w.heap.size w wr) ∧ Hid (L ≤ wr.heap.size)) (fun kv _ => P - (intOf kv).toNat)
  case atStart => exact ⟨0, .slice none 0 0, by have := HP.out; omega, rfl, P3, U3, Lib.hid (World.ownsRow_nil _ _ _ _), D3, B3, Lib.hid (by rw [HL.out.2]; exact Nat.le_refl _)⟩
  case round =>
    obtain ⟨k, f, hk, rfl, hp, hu, ho, hd, hb, hl⟩ := hrel
    have AL := Lib.hid (alloc_any P wr hp.out hu.out ho.out hl.out hd.out SL.out (by rw [fr2_len]; have := HP.out; omega))
    obtain ⟨K, hK⟩ : ∃ K, k + 2 = K := ⟨_, rfl⟩
    rw [hK] at hk
    by_cases hk2 : K < P
    · rw [hK]
      have d1 : decide ((K : Int) < (P : Int)) = true := decide_eq_true (by omega)
      have d1' : decide (K < P) = true := decide_eq_true hk2
      have KL := Lib.hid (And.intro hk2 hK)
      have kw := Lib.hid (wup (k := K) (by have := HP.out; omega))
      clear hk2 hk hK
      go_wp2_with fail
      refine AL.out.mono ?_
      intro e w4 hA
      have hA2 : ∃ f', e = .returned (.tuple #[.int .i64 (K : Int), .int .i64 0]) ∧ Pb w4 p 1 0 (.map (some bm)) g f' ∧ Us w4 bm 2 (nU []) ∧ w4.ownsRow L 3 1 f' (fr2 (k + 1)).length ((fr2 (k + 1)).map nn) ∧ Dk B w4 g gs (.slice none 0 0) S1 [] ∧ Ca p f f' wr w4 := by
        rcases hA with ⟨x, f', hx, h1, h2, he, k1, k2, k3, k4, k5⟩ | ⟨h1, _⟩
        · obtain rfl := taken_at h1 h2
          rw [fr2_snoc, fr2_len] at k3
          rw [KL.out.2] at he
          exact ⟨f', he, k1, k2, by rw [fr2_len]; exact k3, k4, k5⟩
        · have := h1 K KL.out.1
          rw [taken_fr2, KL.out.2] at this
          simp at this
      obtain ⟨f', rfl, hp4, hu4, ho4, hd4, hc4⟩ := hA2
      have B4 := Lib.hid (hc4.below (N := w.heap.size) hb.out hb.out.size PP.out (fun j hj => Nat.le_trans HL.out.1 (ho.out.lt j hj).1))
      have P4 := Lib.hid hp4
      have U4 := Lib.hid hu4
      have O4 := Lib.hid ho4
      have D4 := Lib.hid hd4
      have L4 := Lib.hid (Nat.le_trans hl.out hc4.size)
      clear hA hp4 hu4 ho4 hd4 hc4 AL
      go_wp2_with fail
      exact ⟨⟨k + 1, f', by have := KL.out; omega, by rw [kw.out, ← KL.out.2]; rfl, P4, U4, O4, D4, B4, L4⟩, meas_up KL.out.1 kw.out⟩
    · obtain rfl : K = P := by omega
      rw [hK]
      have HKP := Lib.hid hK
      have HP2 := Lib.hid HP.out
      obtain ⟨P1, hP1⟩ : ∃ P1 : Nat, K - 1 = P1 := ⟨_, rfl⟩
      have w1' := Lib.hid (show wrap64 ((K : Int) - 1) = (P1 : Int) by rw [IntWalk.wrap64_in _ ⟨by omega, by have := HP2.out; omega⟩]; have := HP2.out; omega)
      obtain ⟨P2, hP2⟩ : ∃ P2 : Nat, K - 2 = P2 := ⟨_, rfl⟩
      have w2' := Lib.hid (show wrap64 ((K : Int) - 2) = (P2 : Int) by rw [IntWalk.wrap64_in _ ⟨by omega, by have := HP2.out; omega⟩]; have := HP2.out; omega)
      obtain ⟨q, hq⟩ : ∃ q : Nat, (ym : Int).tmod (P1 : Int) = (q : Int) := ⟨ym % P1, by rw [Int.tmod_eq_emod_of_nonneg (by omega)]; simp⟩
      have HQ := Lib.hid (show q ≤ k ∧ P2 = k ∧ K = k + 2 ∧ K ≤ 20 ∧ 4 ≤ K by
        have h1 : q < P1 := by
          have h2 : (ym : Int).tmod (P1 : Int) = ((ym % P1 : Nat) : Int) := by rw [Int.tmod_eq_emod_of_nonneg (by omega)]; simp
          have h3 : q = ym % P1 := by omega
          rw [h3]; exact Nat.mod_lt _ (by have := HP2.out; omega)
        have := HP2.out
        omega)
      have TQ := Lib.hid hq
      have P1N := Lib.hid (show ¬ ((P1 : Int) = 0) ∧ ((P1 : Int) == 0) = false by have := HP2.out; constructor <;> (first | omega | (simp; omega)))
      clear hP1 hP2 hq hk hk2 hK
      go_wp2_with fail
      refine AL.out.mono ?_
      intro e w4 hA
      have hA2 : e = .returned (.tuple #[.int .i64 0, .int .i64 6]) ∧ Below wr.heap.size wr w4 := by
        rcases hA with ⟨x, f', hx, h1, h2, _⟩ | ⟨_, h⟩
        · have := taken_at h1 h2
          have := HKP.out
          omega
        · exact h
      obtain ⟨rfl, hb4⟩ := hA2
      have B4 := Lib.hid (bon hb.out hb4)
      have L4 := Lib.hid (Nat.le_trans hl.out hb4.size)
      have P4 := Lib.hid (show Pb w4 p 1 0 (.map (some bm)) g f from row_on hp.out hb4)
      have U4 := Lib.hid (hu.out.below hb4)
      have O4 := Lib.hid (own_below ho.out hb4)
      have D4 := Lib.hid (hd.out.below hb4)
      have BK := Lib.hid (back_any q w4 P4.out O4.out (by rw [fr2_len]; have := HQ.out; omega) (by rw [fr2_len]; exact HQ.out.1))
      have v1 := w1'.out
      have v2 := TQ.out
      have v3 := P1N.out.1
      have v4 := P1N.out.2
      clear hA hb4 AL hp hu ho hd hb hl
      go_wp2_with fail
      refine BK.out.mono ?_
      rintro e w5 ⟨rfl, f5, hw5, hp5, ho5, hfo5⟩
      rw [fr2_take HQ.out.1] at ho5
      have pn := D4.out.p_ne P4.out
      have U5 := Lib.hid (show Us w5 bm 2 (nU []) by rw [hw5]; exact U4.out.set P4.out _)
      have D5 := Lib.hid (show Dk B w5 g gs (.slice none 0 0) S1 [] by rw [hw5]; exact D4.out.pset P4.out (by decide) pn.1 pn.2 _ _)
      have B5 := Lib.hid (show Below w.heap.size w w5 by rw [hw5]; exact B4.out.setCell (p := ⟨p, 4, none⟩) PP.out _)
      have L5 := Lib.hid (show L ≤ w5.heap.size by rw [hw5]; simpa [World.setCell] using L4.out)
      have P5 := Lib.hid hp5
      have O5 := Lib.hid ho5
      have FR := Lib.hid (fresh_any w5 hp5 ho5 (by rw [fr2_len]; have := HQ.out; omega))
      clear hw5 hp5 ho5 hfo5 pn BK v1 v2 v3 v4
      go_wp2_with fail
      refine FR.out.mono ?_
      rintro e w6 ⟨v6, rfl, ho6, hb6⟩
      obtain ⟨A6, c6, rfl⟩ := own_form ho6
      rw [fr2_len] at ho6
      have B6 := Lib.hid (bon B5.out hb6)
      have L6 := Lib.hid (Nat.le_trans L5.out hb6.size)
      have P6 := Lib.hid (show Pb w6 p 1 0 (.map (some bm)) g f5 from row_on P5.out hb6)
      have U6 := Lib.hid (U5.out.below hb6)
      have O6 := Lib.hid (own_below O5.out hb6)
      have D6 := Lib.hid (D5.out.below hb6)
      have AL6 := Lib.hid (alloc_any K w6 P6.out U6.out O6.out L6.out D6.out SL.out (by rw [fr2_len]; have := HQ.out; omega))
      clear ho6 hb6 FR
      go_wp2_with fail
      rw [fr2_len]
      have x1 := w2'.out
      by_cases hroom : q < k
      · refine AL6.out.mono ?_
        intro e w7 hA
        have hA2 : ∃ f', e = .returned (.tuple #[.int .i64 ((q + 2 : Nat) : Int), .int .i64 0]) ∧ Pb w7 p 1 0 (.map (some bm)) g f' ∧ Us w7 bm 2 (nU []) ∧ w7.ownsRow L 3 1 f' (fr2 (q + 1)).length ((fr2 (q + 1)).map nn) ∧ Dk B w7 g gs (.slice none 0 0) S1 [] ∧ Ca p f5 f' w6 w7 := by
          rcases hA with ⟨x, f', hx, h1, h2, he, k1, k2, k3, k4, k5⟩ | ⟨h1, _⟩
          · obtain rfl := taken_at h1 h2
            rw [fr2_snoc, fr2_len] at k3
            exact ⟨f', he, k1, k2, by rw [fr2_len]; exact k3, k4, k5⟩
          · have := h1 (q + 2) (by have := HQ.out; omega)
            rw [taken_fr2] at this
            simp at this
        obtain ⟨x7, hx7⟩ : ∃ x7, q + 2 = x7 := ⟨_, rfl⟩
        rw [hx7] at hA2
        obtain ⟨f7, rfl, hp7, hu7, ho7, hd7, hc7⟩ := hA2
        have B7 := Lib.hid (hc7.below (N := w.heap.size) B6.out B6.out.size PP.out (fun j hj => Nat.le_trans HL.out.1 (O6.out.lt j hj).1))
        have P7 := Lib.hid hp7
        have U7 := Lib.hid hu7
        have D7 := Lib.hid hd7
        obtain ⟨qq, hqq⟩ : ∃ qq, q + 1 = qq := ⟨_, rfl⟩
        rw [hqq] at ho7
        have O7 := Lib.hid ho7
        clear hA hp7 hu7 ho7 hd7 hc7 AL6
        have HQQ := Lib.hid (show qq = min (q + 1) k ∧ qq ≤ 20 ∧ 1 ≤ qq by have := HQ.out; omega)
        have y1 : decide ((q : Int) < (P2 : Int)) = true := decide_eq_true (by have := HQ.out; omega)
        have y2 : decide (q < P2) = true := decide_eq_true (by have := HQ.out; omega)
        have X7 := Lib.hid (show wrap64 ((q : Int) + 2) = (x7 : Int) by rw [IntWalk.wrap64_in _ ⟨by omega, by have := HQ.out; omega⟩]; omega)
        clear hqq hx7 hroom
        cases root
        · have UD := Lib.hid (used_any (b := p) w7 U7.out (row_c (i := 2) P7.out rfl) (by omega))
          have x7' := X7.out
          go_wp2_with fail
          refine UD.out.mono ?_
          rintro e w8 ⟨v8, rfl, ho8, hb8⟩
          obtain ⟨A8, c8, rfl⟩ := own_form ho8
          have B8 := Lib.hid (bon B7.out hb8)
          have L8 := Lib.hid (show (usedL (nU [])).length = 2 from usedL_lt (by omega) (fun i => by unfold nU; simp))
          clear ho8 hb8 UD
          have l8 := L8.out
          go_wp2
          go_ret
          exact ⟨rfl, B8.out⟩
        · have CM := Lib.hid (show Calls Try.prog 11 #[.pointer (some ⟨p, 0, none⟩), .int .i64 2] w7 fun e w' => ∃ b2, e = .returned (.int .i64 0) ∧ Pb w' p 2 2 (.map (some b2)) g (.slice none 0 0) ∧ Us w' b2 (2 + (fr2 qq).length + 2) (fun i => nU (fr2 qq) i || nU [] i) ∧ Dk B w' g gs (.slice none 0 0) (flush (flush S1 []) (hdW 2 2 (fun i => nU (fr2 qq) i || nU [] i))) [] ∧ Cp B p g gs w7 w' from commit_yes 1 2 w7 P7.out U7.out O7.out D7.out SL4.out (by simp) (by rw [fr2_len]; have := HQQ.out; omega) (fr2_lt HQQ.out.2.1) (by omega) (by omega) (by omega) (root_fr2 HQQ.out.2.2))
          go_wp2_with fail
          refine CM.out.mono ?_
          rintro e w8 ⟨b2, rfl, hp8, hu8, hd8, hc8⟩
          have B8 := Lib.hid (hc8.below B7.out BS2.out PP.out HGG.out.1 HGG.out.2)
          have P8 := Lib.hid hp8
          have UD := Lib.hid (used_any (b := p) w8 hu8 (row_c (i := 2) hp8 rfl) (by rw [fr2_len]; have := HQQ.out; omega))
          clear hp8 hu8 hd8 hc8 CM
          obtain ⟨q1, hq1⟩ : ∃ q1, q + 1 = q1 := ⟨_, rfl⟩
          obtain ⟨q3, hq3⟩ : ∃ q3, qq + 2 = q3 := ⟨_, rfl⟩
          have X1 := Lib.hid (show wrap64 ((q : Int) + 1) = (q1 : Int) by rw [IntWalk.wrap64_in _ ⟨by omega, by have := HQ.out; omega⟩]; omega)
          have X2 := Lib.hid (show min (q1 : Int) (P2 : Int) = (qq : Int) by have := HQ.out; have := HQQ.out; omega)
          have X2' := Lib.hid (show min q1 P2 = qq by have := HQ.out; have := HQQ.out; omega)
          have X3 := Lib.hid (show wrap64 ((qq : Int) + 2) = (q3 : Int) by rw [IntWalk.wrap64_in _ ⟨by omega, by have := HQQ.out; omega⟩]; omega)
          have L8 := Lib.hid (show (usedL (fun i => nU (fr2 qq) i || nU [] i)).length = q3 by rw [← hq3]; exact usedL_lt (by have := HQQ.out; omega) (fun i => nU_fr2 qq i))
          clear hq1 hq3
          go_wp2_with fail
          refine UD.out.mono ?_
          rintro e w9 ⟨v9, rfl, ho9, hb9⟩
          obtain ⟨A9, c9, rfl⟩ := own_form ho9
          have B9 := Lib.hid (bon B8.out hb9)
          have FR9 := Lib.hid (fresh_any (L := 0) (F := []) w9 (row_on P8.out hb9) (World.ownsRow_nil _ _ _ _) (by simp))
          have l8 := L8.out
          have z1 := X1.out
          have z2 := X2.out
          have z2' := X2'.out
          have z3 := X3.out
          clear ho9 hb9 UD
          go_wp2_with fail
          refine FR9.out.mono ?_
          rintro e w10 ⟨v10, rfl, ho10, hb10⟩
          obtain ⟨A10, c10, rfl⟩ := own_form ho10
          have B10 := Lib.hid (bon B9.out hb10)
          clear ho10 hb10 FR9
          go_wp2
          go_ret
          exact ⟨rfl, B10.out⟩
      · refine AL6.out.mono ?_
        intro e w7 hA
        have hA2 : e = .returned (.tuple #[.int .i64 0, .int .i64 6]) ∧ Below w6.heap.size w6 w7 := by
          rcases hA with ⟨x, f', hx, h1, h2, _⟩ | ⟨_, h⟩
          · have h3 := taken_at h1 h2
            have := HQ.out
            omega
          · exact h
        obtain ⟨rfl, hb7⟩ := hA2
        have B7 := Lib.hid (bon B6.out hb7)
        have P7 := Lib.hid (show Pb w7 p 1 0 (.map (some bm)) g f5 from row_on P6.out hb7)
        have U7 := Lib.hid (U6.out.below hb7)
        have D7 := Lib.hid (D6.out.below hb7)
        obtain ⟨qq, hqq⟩ : ∃ qq, q = qq := ⟨_, rfl⟩
        have O7 := Lib.hid (show w7.ownsRow L 3 1 f5 (fr2 qq).length ((fr2 qq).map nn) by rw [← hqq]; exact own_below O6.out hb7)
        have HQQ := Lib.hid (show qq = min (q + 1) k ∧ qq ≤ 20 ∧ 1 ≤ qq by have := HQ.out; omega)
        have y1 : decide ((q : Int) < (P2 : Int)) = false := decide_eq_false (by have := HQ.out; omega)
        have y2 : decide (q < P2) = false := decide_eq_false (by have := HQ.out; omega)
        clear hA hb7 hqq hroom AL6
        cases root
        · have UD := Lib.hid (used_any (b := p) w7 U7.out (row_c (i := 2) P7.out rfl) (by omega))
          go_wp2_with fail
          refine UD.out.mono ?_
          rintro e w8 ⟨v8, rfl, ho8, hb8⟩
          obtain ⟨A8, c8, rfl⟩ := own_form ho8
          have B8 := Lib.hid (bon B7.out hb8)
          have L8 := Lib.hid (show (usedL (nU [])).length = 2 from usedL_lt (by omega) (fun i => by unfold nU; simp))
          clear ho8 hb8 UD
          have l8 := L8.out
          go_wp2
          go_ret
          exact ⟨rfl, B8.out⟩
        · have CM := Lib.hid (show Calls Try.prog 11 #[.pointer (some ⟨p, 0, none⟩), .int .i64 2] w7 fun e w' => ∃ b2, e = .returned (.int .i64 0) ∧ Pb w' p 2 2 (.map (some b2)) g (.slice none 0 0) ∧ Us w' b2 (2 + (fr2 qq).length + 2) (fun i => nU (fr2 qq) i || nU [] i) ∧ Dk B w' g gs (.slice none 0 0) (flush (flush S1 []) (hdW 2 2 (fun i => nU (fr2 qq) i || nU [] i))) [] ∧ Cp B p g gs w7 w' from commit_yes 1 2 w7 P7.out U7.out O7.out D7.out SL4.out (by simp) (by rw [fr2_len]; have := HQQ.out; omega) (fr2_lt HQQ.out.2.1) (by omega) (by omega) (by omega) (root_fr2 HQQ.out.2.2))
          go_wp2_with fail
          refine CM.out.mono ?_
          rintro e w8 ⟨b2, rfl, hp8, hu8, hd8, hc8⟩
          have B8 := Lib.hid (hc8.below B7.out BS2.out PP.out HGG.out.1 HGG.out.2)
          have P8 := Lib.hid hp8
          have UD := Lib.hid (used_any (b := p) w8 hu8 (row_c (i := 2) hp8 rfl) (by rw [fr2_len]; have := HQQ.out; omega))
          clear hp8 hu8 hd8 hc8 CM
          obtain ⟨q1, hq1⟩ : ∃ q1, q + 1 = q1 := ⟨_, rfl⟩
          obtain ⟨q3, hq3⟩ : ∃ q3, qq + 2 = q3 := ⟨_, rfl⟩
          have X1 := Lib.hid (show wrap64 ((q : Int) + 1) = (q1 : Int) by rw [IntWalk.wrap64_in _ ⟨by omega, by have := HQ.out; omega⟩]; omega)
          have X2 := Lib.hid (show min (q1 : Int) (P2 : Int) = (qq : Int) by have := HQ.out; have := HQQ.out; omega)
          have X2' := Lib.hid (show min q1 P2 = qq by have := HQ.out; have := HQQ.out; omega)
          have X3 := Lib.hid (show wrap64 ((qq : Int) + 2) = (q3 : Int) by rw [IntWalk.wrap64_in _ ⟨by omega, by have := HQQ.out; omega⟩]; omega)
          have L8 := Lib.hid (show (usedL (fun i => nU (fr2 qq) i || nU [] i)).length = q3 by rw [← hq3]; exact usedL_lt (by have := HQQ.out; omega) (fun i => nU_fr2 qq i))
          clear hq1 hq3
          go_wp2_with fail
          refine UD.out.mono ?_
          rintro e w9 ⟨v9, rfl, ho9, hb9⟩
          obtain ⟨A9, c9, rfl⟩ := own_form ho9
          have B9 := Lib.hid (bon B8.out hb9)
          have FR9 := Lib.hid (fresh_any (L := 0) (F := []) w9 (row_on P8.out hb9) (World.ownsRow_nil _ _ _ _) (by simp))
          have l8 := L8.out
          have z1 := X1.out
          have z2 := X2.out
          have z2' := X2'.out
          have z3 := X3.out
          clear ho9 hb9 UD
          go_wp2_with fail
          refine FR9.out.mono ?_
          rintro e w10 ⟨v10, rfl, ho10, hb10⟩
          obtain ⟨A10, c10, rfl⟩ := own_form ho10
          have B10 := Lib.hid (bon B9.out hb10)
          clear ho10 hb10 FR9
          go_wp2
          go_ret
          exact ⟨rfl, B10.out⟩
set_option maxHeartbeats 8000000 in
set_option maxRecDepth 100000 in
theorem pagerHands_np (n m : Int) (root : Bool) (w : World) (n0 : -9223372036854775808 ≤ n) (n1 : n ≤ 9223372036854775807) (m0 : -9223372036854775808 ≤ m) (m1 : m ≤ 9223372036854775807) (hcn : n < 0) (hcm : ¬ m < 0) :
    Calls Try.prog 3 #[.int .i64 n, .int .i64 m, .bool root] w fun e w' => e = .returned (.bool true) ∧ Below w.heap.size w w' := by
  obtain ⟨zn, hzn⟩ : ∃ z : Int, n + 1 = z := ⟨_, rfl⟩
  have wzn : wrap64 (n + 1) = zn := by rw [hzn]; exact IntWalk.wrap64_in _ ⟨by omega, by omega⟩
  obtain ⟨yn, hyn⟩ : ∃ y : Nat, -zn = (y : Int) := ⟨(-zn).toNat, by omega⟩
  have wyn : Value.int .i64 (wrap64 (-zn)) = .int .i64 (yn : Int) := by rw [IntWalk.wrap64_in _ ⟨by omega, by omega⟩, hyn]
  have dn : decide (n < 0) = true := by simpa using hcn
  have Yn := Lib.hid (show (yn : Int) ≤ 9223372036854775807 by omega)
  have Vn := Lib.hid wyn
  have Wn := Lib.hid (And.intro wzn dn)
  clear hzn wzn wyn hyn dn
  obtain ⟨ym, hym⟩ : ∃ y : Nat, m = (y : Int) := ⟨m.toNat, by omega⟩
  have dm : decide ((ym : Int) < 0) = false := decide_eq_false (by omega)
  have Ym := Lib.hid (show (ym : Int) ≤ 9223372036854775807 by omega)
  have Wm := Lib.hid dm
  subst hym
  clear dm
  obtain ⟨r, hr⟩ : ∃ r : Nat, (yn : Int).tmod 17 = (r : Int) := ⟨yn % 17, by rw [Int.tmod_eq_emod_of_nonneg (by omega)]; omega⟩
  have HR := Lib.hid (show r < 17 by rw [Int.tmod_eq_emod_of_nonneg (by omega)] at hr; omega)
  obtain ⟨P, hP⟩ : ∃ P : Nat, 4 + r = P := ⟨_, rfl⟩
  have wP := Lib.hid (show wrap64 (4 + (r : Int)) = (P : Int) by rw [IntWalk.wrap64_in _ ⟨by omega, by have := HR.out; omega⟩]; omega)
  have HP := Lib.hid (show 4 ≤ P ∧ P ≤ 20 by have := HR.out; omega)
  have TR := Lib.hid hr
  obtain ⟨D, hD⟩ : ∃ D : Nat, 2 * P = D := ⟨_, rfl⟩
  have wD := Lib.hid (show wrap64 (2 * (P : Int)) = (D : Int) by rw [IntWalk.wrap64_in _ ⟨by omega, by have := HP.out; omega⟩]; omega)
  have HD := Lib.hid hD
  clear hr hP hD n0 n1 m0 m1 hcn hcm
  go_enter Try.func3, Try.ntmps3
  go_wp2_with fail
  refine (examples_any w).mono ?_
  rintro e w1 ⟨rfl, hb⟩
  have B1 := Lib.hid hb
  clear hb
  have u1 := Wn.out.1
  have u2 := Wn.out.2
  have u3 := Vn.out
  have u5 := Wm.out
  have t1 := TR.out
  have t2 := wP.out
  have t3 := wD.out
  go_wp2_with fail
  rw [t2]
  refine (new_any D (by have := HD.out; have := HP.out; omega) (by have := HD.out; have := HP.out; omega) w1).mono ?_
  rintro e w2 ⟨g, gs, rfl, hd, hb, hg, hgs⟩
  have B2 := Lib.hid (bon B1.out hb)
  have HGG := Lib.hid (And.intro (Nat.le_trans B1.out.size hg) (Nat.le_trans B1.out.size hgs))
  have BS2 := Lib.hid B2.out.size
  obtain ⟨S0, hS0⟩ : ∃ S0, List.replicate D z64 = S0 := ⟨_, rfl⟩
  have SL0 := Lib.hid (show S0.length = D by rw [← hS0]; exact List.length_replicate)
  rw [hS0] at hd
  have FY := Lib.hid (format_yes w2 hd (by have := SL0.out; have := HD.out; have := HP.out; omega) (by simp))
  clear hd hb hg hgs hS0 t1 t2 t3 u2 u5 u1 u3 
  go_wp2_with fail
  refine FY.out.mono ?_
  rintro e w3 ⟨p, bm, rfl, hp, hpb, hu, hd, hc⟩
  obtain ⟨S1, hS1⟩ : ∃ S1, flush S0 ([] ++ hdW 1 0 (nU [])) = S1 := ⟨_, rfl⟩
  have SL := Lib.hid (show S1.length / 2 = P by rw [← hS1, flush_len, SL0.out, ← HD.out]; omega)
  have SL4 := Lib.hid (show 4 ≤ S1.length by have := SL.out; have := HP.out; omega)
  rw [hS1] at hd
  have B3 := Lib.hid (hc.below B2.out BS2.out HGG.out.1 HGG.out.2)
  have P3 := Lib.hid hpb
  have PP := Lib.hid (Nat.le_trans B2.out.size hp)
  have U3 := Lib.hid hu
  have D3 := Lib.hid hd
  obtain ⟨B, hB⟩ : ∃ B, w2.heap.size = B := ⟨_, rfl⟩
  rw [hB] at D3 BS2
  obtain ⟨L, hL⟩ : ∃ L, w3.heap.size = L := ⟨_, rfl⟩
  have HL := Lib.hid (show w.heap.size ≤ L ∧ w3.heap.size = L from ⟨by rw [← hL]; exact B3.out.size, hL⟩)
  clear hS1 hp hpb hu hd hc FY hB hL
  go_wp2_with fail
  go_loopw [12] (fun kv wr => ∃ (k : Nat) (f : Value), k + 2 ≤ P ∧ kv = .int .i64 ((k + 2 : Nat) : Int) ∧ Hid (Pb wr p 1 0 (.map (some bm)) g f) ∧ Hid (Us wr bm 2 (nU [])) ∧ Hid (wr.ownsRow L 3 1 f (fr2 k).length ((fr2 k).map nn)) ∧ Hid (Dk B wr g gs (.slice none 0 0) S1 []) ∧ Hid (Below w.heap.size w wr) ∧ Hid (L ≤ wr.heap.size)) (fun kv _ => P - (intOf kv).toNat)
  case atStart => exact ⟨0, .slice none 0 0, by have := HP.out; omega, rfl, P3, U3, Lib.hid (World.ownsRow_nil _ _ _ _), D3, B3, Lib.hid (by rw [HL.out.2]; exact Nat.le_refl _)⟩
  case round =>
    obtain ⟨k, f, hk, rfl, hp, hu, ho, hd, hb, hl⟩ := hrel
    have AL := Lib.hid (alloc_any P wr hp.out hu.out ho.out hl.out hd.out SL.out (by rw [fr2_len]; have := HP.out; omega))
    obtain ⟨K, hK⟩ : ∃ K, k + 2 = K := ⟨_, rfl⟩
    rw [hK] at hk
    by_cases hk2 : K < P
    · rw [hK]
      have d1 : decide ((K : Int) < (P : Int)) = true := decide_eq_true (by omega)
      have d1' : decide (K < P) = true := decide_eq_true hk2
      have KL := Lib.hid (And.intro hk2 hK)
      have kw := Lib.hid (wup (k := K) (by have := HP.out; omega))
      clear hk2 hk hK
      go_wp2_with fail
      refine AL.out.mono ?_
      intro e w4 hA
      have hA2 : ∃ f', e = .returned (.tuple #[.int .i64 (K : Int), .int .i64 0]) ∧ Pb w4 p 1 0 (.map (some bm)) g f' ∧ Us w4 bm 2 (nU []) ∧ w4.ownsRow L 3 1 f' (fr2 (k + 1)).length ((fr2 (k + 1)).map nn) ∧ Dk B w4 g gs (.slice none 0 0) S1 [] ∧ Ca p f f' wr w4 := by
        rcases hA with ⟨x, f', hx, h1, h2, he, k1, k2, k3, k4, k5⟩ | ⟨h1, _⟩
        · obtain rfl := taken_at h1 h2
          rw [fr2_snoc, fr2_len] at k3
          rw [KL.out.2] at he
          exact ⟨f', he, k1, k2, by rw [fr2_len]; exact k3, k4, k5⟩
        · have := h1 K KL.out.1
          rw [taken_fr2, KL.out.2] at this
          simp at this
      obtain ⟨f', rfl, hp4, hu4, ho4, hd4, hc4⟩ := hA2
      have B4 := Lib.hid (hc4.below (N := w.heap.size) hb.out hb.out.size PP.out (fun j hj => Nat.le_trans HL.out.1 (ho.out.lt j hj).1))
      have P4 := Lib.hid hp4
      have U4 := Lib.hid hu4
      have O4 := Lib.hid ho4
      have D4 := Lib.hid hd4
      have L4 := Lib.hid (Nat.le_trans hl.out hc4.size)
      clear hA hp4 hu4 ho4 hd4 hc4 AL
      go_wp2_with fail
      exact ⟨⟨k + 1, f', by have := KL.out; omega, by rw [kw.out, ← KL.out.2]; rfl, P4, U4, O4, D4, B4, L4⟩, meas_up KL.out.1 kw.out⟩
    · obtain rfl : K = P := by omega
      rw [hK]
      have HKP := Lib.hid hK
      have HP2 := Lib.hid HP.out
      obtain ⟨P1, hP1⟩ : ∃ P1 : Nat, K - 1 = P1 := ⟨_, rfl⟩
      have w1' := Lib.hid (show wrap64 ((K : Int) - 1) = (P1 : Int) by rw [IntWalk.wrap64_in _ ⟨by omega, by have := HP2.out; omega⟩]; have := HP2.out; omega)
      obtain ⟨P2, hP2⟩ : ∃ P2 : Nat, K - 2 = P2 := ⟨_, rfl⟩
      have w2' := Lib.hid (show wrap64 ((K : Int) - 2) = (P2 : Int) by rw [IntWalk.wrap64_in _ ⟨by omega, by have := HP2.out; omega⟩]; have := HP2.out; omega)
      obtain ⟨q, hq⟩ : ∃ q : Nat, (ym : Int).tmod (P1 : Int) = (q : Int) := ⟨ym % P1, by rw [Int.tmod_eq_emod_of_nonneg (by omega)]; simp⟩
      have HQ := Lib.hid (show q ≤ k ∧ P2 = k ∧ K = k + 2 ∧ K ≤ 20 ∧ 4 ≤ K by
        have h1 : q < P1 := by
          have h2 : (ym : Int).tmod (P1 : Int) = ((ym % P1 : Nat) : Int) := by rw [Int.tmod_eq_emod_of_nonneg (by omega)]; simp
          have h3 : q = ym % P1 := by omega
          rw [h3]; exact Nat.mod_lt _ (by have := HP2.out; omega)
        have := HP2.out
        omega)
      have TQ := Lib.hid hq
      have P1N := Lib.hid (show ¬ ((P1 : Int) = 0) ∧ ((P1 : Int) == 0) = false by have := HP2.out; constructor <;> (first | omega | (simp; omega)))
      clear hP1 hP2 hq hk hk2 hK
      go_wp2_with fail
      refine AL.out.mono ?_
      intro e w4 hA
      have hA2 : e = .returned (.tuple #[.int .i64 0, .int .i64 6]) ∧ Below wr.heap.size wr w4 := by
        rcases hA with ⟨x, f', hx, h1, h2, _⟩ | ⟨_, h⟩
        · have := taken_at h1 h2
          have := HKP.out
          omega
        · exact h
      obtain ⟨rfl, hb4⟩ := hA2
      have B4 := Lib.hid (bon hb.out hb4)
      have L4 := Lib.hid (Nat.le_trans hl.out hb4.size)
      have P4 := Lib.hid (show Pb w4 p 1 0 (.map (some bm)) g f from row_on hp.out hb4)
      have U4 := Lib.hid (hu.out.below hb4)
      have O4 := Lib.hid (own_below ho.out hb4)
      have D4 := Lib.hid (hd.out.below hb4)
      have BK := Lib.hid (back_any q w4 P4.out O4.out (by rw [fr2_len]; have := HQ.out; omega) (by rw [fr2_len]; exact HQ.out.1))
      have v1 := w1'.out
      have v2 := TQ.out
      have v3 := P1N.out.1
      have v4 := P1N.out.2
      clear hA hb4 AL hp hu ho hd hb hl
      go_wp2_with fail
      refine BK.out.mono ?_
      rintro e w5 ⟨rfl, f5, hw5, hp5, ho5, hfo5⟩
      rw [fr2_take HQ.out.1] at ho5
      have pn := D4.out.p_ne P4.out
      have U5 := Lib.hid (show Us w5 bm 2 (nU []) by rw [hw5]; exact U4.out.set P4.out _)
      have D5 := Lib.hid (show Dk B w5 g gs (.slice none 0 0) S1 [] by rw [hw5]; exact D4.out.pset P4.out (by decide) pn.1 pn.2 _ _)
      have B5 := Lib.hid (show Below w.heap.size w w5 by rw [hw5]; exact B4.out.setCell (p := ⟨p, 4, none⟩) PP.out _)
      have L5 := Lib.hid (show L ≤ w5.heap.size by rw [hw5]; simpa [World.setCell] using L4.out)
      have P5 := Lib.hid hp5
      have O5 := Lib.hid ho5
      have FR := Lib.hid (fresh_any w5 hp5 ho5 (by rw [fr2_len]; have := HQ.out; omega))
      clear hw5 hp5 ho5 hfo5 pn BK v1 v2 v3 v4
      go_wp2_with fail
      refine FR.out.mono ?_
      rintro e w6 ⟨v6, rfl, ho6, hb6⟩
      obtain ⟨A6, c6, rfl⟩ := own_form ho6
      rw [fr2_len] at ho6
      have B6 := Lib.hid (bon B5.out hb6)
      have L6 := Lib.hid (Nat.le_trans L5.out hb6.size)
      have P6 := Lib.hid (show Pb w6 p 1 0 (.map (some bm)) g f5 from row_on P5.out hb6)
      have U6 := Lib.hid (U5.out.below hb6)
      have O6 := Lib.hid (own_below O5.out hb6)
      have D6 := Lib.hid (D5.out.below hb6)
      have AL6 := Lib.hid (alloc_any K w6 P6.out U6.out O6.out L6.out D6.out SL.out (by rw [fr2_len]; have := HQ.out; omega))
      clear ho6 hb6 FR
      go_wp2_with fail
      rw [fr2_len]
      have x1 := w2'.out
      by_cases hroom : q < k
      · refine AL6.out.mono ?_
        intro e w7 hA
        have hA2 : ∃ f', e = .returned (.tuple #[.int .i64 ((q + 2 : Nat) : Int), .int .i64 0]) ∧ Pb w7 p 1 0 (.map (some bm)) g f' ∧ Us w7 bm 2 (nU []) ∧ w7.ownsRow L 3 1 f' (fr2 (q + 1)).length ((fr2 (q + 1)).map nn) ∧ Dk B w7 g gs (.slice none 0 0) S1 [] ∧ Ca p f5 f' w6 w7 := by
          rcases hA with ⟨x, f', hx, h1, h2, he, k1, k2, k3, k4, k5⟩ | ⟨h1, _⟩
          · obtain rfl := taken_at h1 h2
            rw [fr2_snoc, fr2_len] at k3
            exact ⟨f', he, k1, k2, by rw [fr2_len]; exact k3, k4, k5⟩
          · have := h1 (q + 2) (by have := HQ.out; omega)
            rw [taken_fr2] at this
            simp at this
        obtain ⟨x7, hx7⟩ : ∃ x7, q + 2 = x7 := ⟨_, rfl⟩
        rw [hx7] at hA2
        obtain ⟨f7, rfl, hp7, hu7, ho7, hd7, hc7⟩ := hA2
        have B7 := Lib.hid (hc7.below (N := w.heap.size) B6.out B6.out.size PP.out (fun j hj => Nat.le_trans HL.out.1 (O6.out.lt j hj).1))
        have P7 := Lib.hid hp7
        have U7 := Lib.hid hu7
        have D7 := Lib.hid hd7
        obtain ⟨qq, hqq⟩ : ∃ qq, q + 1 = qq := ⟨_, rfl⟩
        rw [hqq] at ho7
        have O7 := Lib.hid ho7
        clear hA hp7 hu7 ho7 hd7 hc7 AL6
        have HQQ := Lib.hid (show qq = min (q + 1) k ∧ qq ≤ 20 ∧ 1 ≤ qq by have := HQ.out; omega)
        have y1 : decide ((q : Int) < (P2 : Int)) = true := decide_eq_true (by have := HQ.out; omega)
        have y2 : decide (q < P2) = true := decide_eq_true (by have := HQ.out; omega)
        have X7 := Lib.hid (show wrap64 ((q : Int) + 2) = (x7 : Int) by rw [IntWalk.wrap64_in _ ⟨by omega, by have := HQ.out; omega⟩]; omega)
        clear hqq hx7 hroom
        cases root
        · have UD := Lib.hid (used_any (b := p) w7 U7.out (row_c (i := 2) P7.out rfl) (by omega))
          have x7' := X7.out
          go_wp2_with fail
          refine UD.out.mono ?_
          rintro e w8 ⟨v8, rfl, ho8, hb8⟩
          obtain ⟨A8, c8, rfl⟩ := own_form ho8
          have B8 := Lib.hid (bon B7.out hb8)
          have L8 := Lib.hid (show (usedL (nU [])).length = 2 from usedL_lt (by omega) (fun i => by unfold nU; simp))
          clear ho8 hb8 UD
          have l8 := L8.out
          go_wp2
          go_ret
          exact ⟨rfl, B8.out⟩
        · have CM := Lib.hid (show Calls Try.prog 11 #[.pointer (some ⟨p, 0, none⟩), .int .i64 2] w7 fun e w' => ∃ b2, e = .returned (.int .i64 0) ∧ Pb w' p 2 2 (.map (some b2)) g (.slice none 0 0) ∧ Us w' b2 (2 + (fr2 qq).length + 2) (fun i => nU (fr2 qq) i || nU [] i) ∧ Dk B w' g gs (.slice none 0 0) (flush (flush S1 []) (hdW 2 2 (fun i => nU (fr2 qq) i || nU [] i))) [] ∧ Cp B p g gs w7 w' from commit_yes 1 2 w7 P7.out U7.out O7.out D7.out SL4.out (by simp) (by rw [fr2_len]; have := HQQ.out; omega) (fr2_lt HQQ.out.2.1) (by omega) (by omega) (by omega) (root_fr2 HQQ.out.2.2))
          go_wp2_with fail
          refine CM.out.mono ?_
          rintro e w8 ⟨b2, rfl, hp8, hu8, hd8, hc8⟩
          have B8 := Lib.hid (hc8.below B7.out BS2.out PP.out HGG.out.1 HGG.out.2)
          have P8 := Lib.hid hp8
          have UD := Lib.hid (used_any (b := p) w8 hu8 (row_c (i := 2) hp8 rfl) (by rw [fr2_len]; have := HQQ.out; omega))
          clear hp8 hu8 hd8 hc8 CM
          obtain ⟨q1, hq1⟩ : ∃ q1, q + 1 = q1 := ⟨_, rfl⟩
          obtain ⟨q3, hq3⟩ : ∃ q3, qq + 2 = q3 := ⟨_, rfl⟩
          have X1 := Lib.hid (show wrap64 ((q : Int) + 1) = (q1 : Int) by rw [IntWalk.wrap64_in _ ⟨by omega, by have := HQ.out; omega⟩]; omega)
          have X2 := Lib.hid (show min (q1 : Int) (P2 : Int) = (qq : Int) by have := HQ.out; have := HQQ.out; omega)
          have X2' := Lib.hid (show min q1 P2 = qq by have := HQ.out; have := HQQ.out; omega)
          have X3 := Lib.hid (show wrap64 ((qq : Int) + 2) = (q3 : Int) by rw [IntWalk.wrap64_in _ ⟨by omega, by have := HQQ.out; omega⟩]; omega)
          have L8 := Lib.hid (show (usedL (fun i => nU (fr2 qq) i || nU [] i)).length = q3 by rw [← hq3]; exact usedL_lt (by have := HQQ.out; omega) (fun i => nU_fr2 qq i))
          clear hq1 hq3
          go_wp2_with fail
          refine UD.out.mono ?_
          rintro e w9 ⟨v9, rfl, ho9, hb9⟩
          obtain ⟨A9, c9, rfl⟩ := own_form ho9
          have B9 := Lib.hid (bon B8.out hb9)
          have FR9 := Lib.hid (fresh_any (L := 0) (F := []) w9 (row_on P8.out hb9) (World.ownsRow_nil _ _ _ _) (by simp))
          have l8 := L8.out
          have z1 := X1.out
          have z2 := X2.out
          have z2' := X2'.out
          have z3 := X3.out
          clear ho9 hb9 UD
          go_wp2_with fail
          refine FR9.out.mono ?_
          rintro e w10 ⟨v10, rfl, ho10, hb10⟩
          obtain ⟨A10, c10, rfl⟩ := own_form ho10
          have B10 := Lib.hid (bon B9.out hb10)
          clear ho10 hb10 FR9
          go_wp2
          go_ret
          exact ⟨rfl, B10.out⟩
      · refine AL6.out.mono ?_
        intro e w7 hA
        have hA2 : e = .returned (.tuple #[.int .i64 0, .int .i64 6]) ∧ Below w6.heap.size w6 w7 := by
          rcases hA with ⟨x, f', hx, h1, h2, _⟩ | ⟨_, h⟩
          · have h3 := taken_at h1 h2
            have := HQ.out
            omega
          · exact h
        obtain ⟨rfl, hb7⟩ := hA2
        have B7 := Lib.hid (bon B6.out hb7)
        have P7 := Lib.hid (show Pb w7 p 1 0 (.map (some bm)) g f5 from row_on P6.out hb7)
        have U7 := Lib.hid (U6.out.below hb7)
        have D7 := Lib.hid (D6.out.below hb7)
        obtain ⟨qq, hqq⟩ : ∃ qq, q = qq := ⟨_, rfl⟩
        have O7 := Lib.hid (show w7.ownsRow L 3 1 f5 (fr2 qq).length ((fr2 qq).map nn) by rw [← hqq]; exact own_below O6.out hb7)
        have HQQ := Lib.hid (show qq = min (q + 1) k ∧ qq ≤ 20 ∧ 1 ≤ qq by have := HQ.out; omega)
        have y1 : decide ((q : Int) < (P2 : Int)) = false := decide_eq_false (by have := HQ.out; omega)
        have y2 : decide (q < P2) = false := decide_eq_false (by have := HQ.out; omega)
        clear hA hb7 hqq hroom AL6
        cases root
        · have UD := Lib.hid (used_any (b := p) w7 U7.out (row_c (i := 2) P7.out rfl) (by omega))
          go_wp2_with fail
          refine UD.out.mono ?_
          rintro e w8 ⟨v8, rfl, ho8, hb8⟩
          obtain ⟨A8, c8, rfl⟩ := own_form ho8
          have B8 := Lib.hid (bon B7.out hb8)
          have L8 := Lib.hid (show (usedL (nU [])).length = 2 from usedL_lt (by omega) (fun i => by unfold nU; simp))
          clear ho8 hb8 UD
          have l8 := L8.out
          go_wp2
          go_ret
          exact ⟨rfl, B8.out⟩
        · have CM := Lib.hid (show Calls Try.prog 11 #[.pointer (some ⟨p, 0, none⟩), .int .i64 2] w7 fun e w' => ∃ b2, e = .returned (.int .i64 0) ∧ Pb w' p 2 2 (.map (some b2)) g (.slice none 0 0) ∧ Us w' b2 (2 + (fr2 qq).length + 2) (fun i => nU (fr2 qq) i || nU [] i) ∧ Dk B w' g gs (.slice none 0 0) (flush (flush S1 []) (hdW 2 2 (fun i => nU (fr2 qq) i || nU [] i))) [] ∧ Cp B p g gs w7 w' from commit_yes 1 2 w7 P7.out U7.out O7.out D7.out SL4.out (by simp) (by rw [fr2_len]; have := HQQ.out; omega) (fr2_lt HQQ.out.2.1) (by omega) (by omega) (by omega) (root_fr2 HQQ.out.2.2))
          go_wp2_with fail
          refine CM.out.mono ?_
          rintro e w8 ⟨b2, rfl, hp8, hu8, hd8, hc8⟩
          have B8 := Lib.hid (hc8.below B7.out BS2.out PP.out HGG.out.1 HGG.out.2)
          have P8 := Lib.hid hp8
          have UD := Lib.hid (used_any (b := p) w8 hu8 (row_c (i := 2) hp8 rfl) (by rw [fr2_len]; have := HQQ.out; omega))
          clear hp8 hu8 hd8 hc8 CM
          obtain ⟨q1, hq1⟩ : ∃ q1, q + 1 = q1 := ⟨_, rfl⟩
          obtain ⟨q3, hq3⟩ : ∃ q3, qq + 2 = q3 := ⟨_, rfl⟩
          have X1 := Lib.hid (show wrap64 ((q : Int) + 1) = (q1 : Int) by rw [IntWalk.wrap64_in _ ⟨by omega, by have := HQ.out; omega⟩]; omega)
          have X2 := Lib.hid (show min (q1 : Int) (P2 : Int) = (qq : Int) by have := HQ.out; have := HQQ.out; omega)
          have X2' := Lib.hid (show min q1 P2 = qq by have := HQ.out; have := HQQ.out; omega)
          have X3 := Lib.hid (show wrap64 ((qq : Int) + 2) = (q3 : Int) by rw [IntWalk.wrap64_in _ ⟨by omega, by have := HQQ.out; omega⟩]; omega)
          have L8 := Lib.hid (show (usedL (fun i => nU (fr2 qq) i || nU [] i)).length = q3 by rw [← hq3]; exact usedL_lt (by have := HQQ.out; omega) (fun i => nU_fr2 qq i))
          clear hq1 hq3
          go_wp2_with fail
          refine UD.out.mono ?_
          rintro e w9 ⟨v9, rfl, ho9, hb9⟩
          obtain ⟨A9, c9, rfl⟩ := own_form ho9
          have B9 := Lib.hid (bon B8.out hb9)
          have FR9 := Lib.hid (fresh_any (L := 0) (F := []) w9 (row_on P8.out hb9) (World.ownsRow_nil _ _ _ _) (by simp))
          have l8 := L8.out
          have z1 := X1.out
          have z2 := X2.out
          have z2' := X2'.out
          have z3 := X3.out
          clear ho9 hb9 UD
          go_wp2_with fail
          refine FR9.out.mono ?_
          rintro e w10 ⟨v10, rfl, ho10, hb10⟩
          obtain ⟨A10, c10, rfl⟩ := own_form ho10
          have B10 := Lib.hid (bon B9.out hb10)
          clear ho10 hb10 FR9
          go_wp2
          go_ret
          exact ⟨rfl, B10.out⟩
set_option maxHeartbeats 8000000 in
set_option maxRecDepth 100000 in
theorem pagerHands_pn (n m : Int) (root : Bool) (w : World) (n0 : -9223372036854775808 ≤ n) (n1 : n ≤ 9223372036854775807) (m0 : -9223372036854775808 ≤ m) (m1 : m ≤ 9223372036854775807) (hcn : ¬ n < 0) (hcm : m < 0) :
    Calls Try.prog 3 #[.int .i64 n, .int .i64 m, .bool root] w fun e w' => e = .returned (.bool true) ∧ Below w.heap.size w w' := by
  obtain ⟨yn, hyn⟩ : ∃ y : Nat, n = (y : Int) := ⟨n.toNat, by omega⟩
  have dn : decide ((yn : Int) < 0) = false := decide_eq_false (by omega)
  have Yn := Lib.hid (show (yn : Int) ≤ 9223372036854775807 by omega)
  have Wn := Lib.hid dn
  subst hyn
  clear dn
  obtain ⟨zm, hzm⟩ : ∃ z : Int, m + 1 = z := ⟨_, rfl⟩
  have wzm : wrap64 (m + 1) = zm := by rw [hzm]; exact IntWalk.wrap64_in _ ⟨by omega, by omega⟩
  obtain ⟨ym, hym⟩ : ∃ y : Nat, -zm = (y : Int) := ⟨(-zm).toNat, by omega⟩
  have wym : Value.int .i64 (wrap64 (-zm)) = .int .i64 (ym : Int) := by rw [IntWalk.wrap64_in _ ⟨by omega, by omega⟩, hym]
  have dm : decide (m < 0) = true := by simpa using hcm
  have Ym := Lib.hid (show (ym : Int) ≤ 9223372036854775807 by omega)
  have Vm := Lib.hid wym
  have Wm := Lib.hid (And.intro wzm dm)
  clear hzm wzm wym hym dm
  obtain ⟨r, hr⟩ : ∃ r : Nat, (yn : Int).tmod 17 = (r : Int) := ⟨yn % 17, by rw [Int.tmod_eq_emod_of_nonneg (by omega)]; omega⟩
  have HR := Lib.hid (show r < 17 by rw [Int.tmod_eq_emod_of_nonneg (by omega)] at hr; omega)
  obtain ⟨P, hP⟩ : ∃ P : Nat, 4 + r = P := ⟨_, rfl⟩
  have wP := Lib.hid (show wrap64 (4 + (r : Int)) = (P : Int) by rw [IntWalk.wrap64_in _ ⟨by omega, by have := HR.out; omega⟩]; omega)
  have HP := Lib.hid (show 4 ≤ P ∧ P ≤ 20 by have := HR.out; omega)
  have TR := Lib.hid hr
  obtain ⟨D, hD⟩ : ∃ D : Nat, 2 * P = D := ⟨_, rfl⟩
  have wD := Lib.hid (show wrap64 (2 * (P : Int)) = (D : Int) by rw [IntWalk.wrap64_in _ ⟨by omega, by have := HP.out; omega⟩]; omega)
  have HD := Lib.hid hD
  clear hr hP hD n0 n1 m0 m1 hcn hcm
  go_enter Try.func3, Try.ntmps3
  go_wp2_with fail
  refine (examples_any w).mono ?_
  rintro e w1 ⟨rfl, hb⟩
  have B1 := Lib.hid hb
  clear hb
  have u2 := Wn.out
  have u4 := Wm.out.1
  have u5 := Wm.out.2
  have u6 := Vm.out
  have t1 := TR.out
  have t2 := wP.out
  have t3 := wD.out
  go_wp2_with fail
  rw [t2]
  rw [u6]
  refine (new_any D (by have := HD.out; have := HP.out; omega) (by have := HD.out; have := HP.out; omega) w1).mono ?_
  rintro e w2 ⟨g, gs, rfl, hd, hb, hg, hgs⟩
  have B2 := Lib.hid (bon B1.out hb)
  have HGG := Lib.hid (And.intro (Nat.le_trans B1.out.size hg) (Nat.le_trans B1.out.size hgs))
  have BS2 := Lib.hid B2.out.size
  obtain ⟨S0, hS0⟩ : ∃ S0, List.replicate D z64 = S0 := ⟨_, rfl⟩
  have SL0 := Lib.hid (show S0.length = D by rw [← hS0]; exact List.length_replicate)
  rw [hS0] at hd
  have FY := Lib.hid (format_yes w2 hd (by have := SL0.out; have := HD.out; have := HP.out; omega) (by simp))
  clear hd hb hg hgs hS0 t1 t2 t3 u2 u5 u4 u6 
  go_wp2_with fail
  refine FY.out.mono ?_
  rintro e w3 ⟨p, bm, rfl, hp, hpb, hu, hd, hc⟩
  obtain ⟨S1, hS1⟩ : ∃ S1, flush S0 ([] ++ hdW 1 0 (nU [])) = S1 := ⟨_, rfl⟩
  have SL := Lib.hid (show S1.length / 2 = P by rw [← hS1, flush_len, SL0.out, ← HD.out]; omega)
  have SL4 := Lib.hid (show 4 ≤ S1.length by have := SL.out; have := HP.out; omega)
  rw [hS1] at hd
  have B3 := Lib.hid (hc.below B2.out BS2.out HGG.out.1 HGG.out.2)
  have P3 := Lib.hid hpb
  have PP := Lib.hid (Nat.le_trans B2.out.size hp)
  have U3 := Lib.hid hu
  have D3 := Lib.hid hd
  obtain ⟨B, hB⟩ : ∃ B, w2.heap.size = B := ⟨_, rfl⟩
  rw [hB] at D3 BS2
  obtain ⟨L, hL⟩ : ∃ L, w3.heap.size = L := ⟨_, rfl⟩
  have HL := Lib.hid (show w.heap.size ≤ L ∧ w3.heap.size = L from ⟨by rw [← hL]; exact B3.out.size, hL⟩)
  clear hS1 hp hpb hu hd hc FY hB hL
  go_wp2_with fail
  go_loopw [12] (fun kv wr => ∃ (k : Nat) (f : Value), k + 2 ≤ P ∧ kv = .int .i64 ((k + 2 : Nat) : Int) ∧ Hid (Pb wr p 1 0 (.map (some bm)) g f) ∧ Hid (Us wr bm 2 (nU [])) ∧ Hid (wr.ownsRow L 3 1 f (fr2 k).length ((fr2 k).map nn)) ∧ Hid (Dk B wr g gs (.slice none 0 0) S1 []) ∧ Hid (Below w.heap.size w wr) ∧ Hid (L ≤ wr.heap.size)) (fun kv _ => P - (intOf kv).toNat)
  case atStart => exact ⟨0, .slice none 0 0, by have := HP.out; omega, rfl, P3, U3, Lib.hid (World.ownsRow_nil _ _ _ _), D3, B3, Lib.hid (by rw [HL.out.2]; exact Nat.le_refl _)⟩
  case round =>
    obtain ⟨k, f, hk, rfl, hp, hu, ho, hd, hb, hl⟩ := hrel
    have AL := Lib.hid (alloc_any P wr hp.out hu.out ho.out hl.out hd.out SL.out (by rw [fr2_len]; have := HP.out; omega))
    obtain ⟨K, hK⟩ : ∃ K, k + 2 = K := ⟨_, rfl⟩
    rw [hK] at hk
    by_cases hk2 : K < P
    · rw [hK]
      have d1 : decide ((K : Int) < (P : Int)) = true := decide_eq_true (by omega)
      have d1' : decide (K < P) = true := decide_eq_true hk2
      have KL := Lib.hid (And.intro hk2 hK)
      have kw := Lib.hid (wup (k := K) (by have := HP.out; omega))
      clear hk2 hk hK
      go_wp2_with fail
      refine AL.out.mono ?_
      intro e w4 hA
      have hA2 : ∃ f', e = .returned (.tuple #[.int .i64 (K : Int), .int .i64 0]) ∧ Pb w4 p 1 0 (.map (some bm)) g f' ∧ Us w4 bm 2 (nU []) ∧ w4.ownsRow L 3 1 f' (fr2 (k + 1)).length ((fr2 (k + 1)).map nn) ∧ Dk B w4 g gs (.slice none 0 0) S1 [] ∧ Ca p f f' wr w4 := by
        rcases hA with ⟨x, f', hx, h1, h2, he, k1, k2, k3, k4, k5⟩ | ⟨h1, _⟩
        · obtain rfl := taken_at h1 h2
          rw [fr2_snoc, fr2_len] at k3
          rw [KL.out.2] at he
          exact ⟨f', he, k1, k2, by rw [fr2_len]; exact k3, k4, k5⟩
        · have := h1 K KL.out.1
          rw [taken_fr2, KL.out.2] at this
          simp at this
      obtain ⟨f', rfl, hp4, hu4, ho4, hd4, hc4⟩ := hA2
      have B4 := Lib.hid (hc4.below (N := w.heap.size) hb.out hb.out.size PP.out (fun j hj => Nat.le_trans HL.out.1 (ho.out.lt j hj).1))
      have P4 := Lib.hid hp4
      have U4 := Lib.hid hu4
      have O4 := Lib.hid ho4
      have D4 := Lib.hid hd4
      have L4 := Lib.hid (Nat.le_trans hl.out hc4.size)
      clear hA hp4 hu4 ho4 hd4 hc4 AL
      go_wp2_with fail
      exact ⟨⟨k + 1, f', by have := KL.out; omega, by rw [kw.out, ← KL.out.2]; rfl, P4, U4, O4, D4, B4, L4⟩, meas_up KL.out.1 kw.out⟩
    · obtain rfl : K = P := by omega
      rw [hK]
      have HKP := Lib.hid hK
      have HP2 := Lib.hid HP.out
      obtain ⟨P1, hP1⟩ : ∃ P1 : Nat, K - 1 = P1 := ⟨_, rfl⟩
      have w1' := Lib.hid (show wrap64 ((K : Int) - 1) = (P1 : Int) by rw [IntWalk.wrap64_in _ ⟨by omega, by have := HP2.out; omega⟩]; have := HP2.out; omega)
      obtain ⟨P2, hP2⟩ : ∃ P2 : Nat, K - 2 = P2 := ⟨_, rfl⟩
      have w2' := Lib.hid (show wrap64 ((K : Int) - 2) = (P2 : Int) by rw [IntWalk.wrap64_in _ ⟨by omega, by have := HP2.out; omega⟩]; have := HP2.out; omega)
      obtain ⟨q, hq⟩ : ∃ q : Nat, (ym : Int).tmod (P1 : Int) = (q : Int) := ⟨ym % P1, by rw [Int.tmod_eq_emod_of_nonneg (by omega)]; simp⟩
      have HQ := Lib.hid (show q ≤ k ∧ P2 = k ∧ K = k + 2 ∧ K ≤ 20 ∧ 4 ≤ K by
        have h1 : q < P1 := by
          have h2 : (ym : Int).tmod (P1 : Int) = ((ym % P1 : Nat) : Int) := by rw [Int.tmod_eq_emod_of_nonneg (by omega)]; simp
          have h3 : q = ym % P1 := by omega
          rw [h3]; exact Nat.mod_lt _ (by have := HP2.out; omega)
        have := HP2.out
        omega)
      have TQ := Lib.hid hq
      have P1N := Lib.hid (show ¬ ((P1 : Int) = 0) ∧ ((P1 : Int) == 0) = false by have := HP2.out; constructor <;> (first | omega | (simp; omega)))
      clear hP1 hP2 hq hk hk2 hK
      go_wp2_with fail
      refine AL.out.mono ?_
      intro e w4 hA
      have hA2 : e = .returned (.tuple #[.int .i64 0, .int .i64 6]) ∧ Below wr.heap.size wr w4 := by
        rcases hA with ⟨x, f', hx, h1, h2, _⟩ | ⟨_, h⟩
        · have := taken_at h1 h2
          have := HKP.out
          omega
        · exact h
      obtain ⟨rfl, hb4⟩ := hA2
      have B4 := Lib.hid (bon hb.out hb4)
      have L4 := Lib.hid (Nat.le_trans hl.out hb4.size)
      have P4 := Lib.hid (show Pb w4 p 1 0 (.map (some bm)) g f from row_on hp.out hb4)
      have U4 := Lib.hid (hu.out.below hb4)
      have O4 := Lib.hid (own_below ho.out hb4)
      have D4 := Lib.hid (hd.out.below hb4)
      have BK := Lib.hid (back_any q w4 P4.out O4.out (by rw [fr2_len]; have := HQ.out; omega) (by rw [fr2_len]; exact HQ.out.1))
      have v1 := w1'.out
      have v2 := TQ.out
      have v3 := P1N.out.1
      have v4 := P1N.out.2
      clear hA hb4 AL hp hu ho hd hb hl
      go_wp2_with fail
      refine BK.out.mono ?_
      rintro e w5 ⟨rfl, f5, hw5, hp5, ho5, hfo5⟩
      rw [fr2_take HQ.out.1] at ho5
      have pn := D4.out.p_ne P4.out
      have U5 := Lib.hid (show Us w5 bm 2 (nU []) by rw [hw5]; exact U4.out.set P4.out _)
      have D5 := Lib.hid (show Dk B w5 g gs (.slice none 0 0) S1 [] by rw [hw5]; exact D4.out.pset P4.out (by decide) pn.1 pn.2 _ _)
      have B5 := Lib.hid (show Below w.heap.size w w5 by rw [hw5]; exact B4.out.setCell (p := ⟨p, 4, none⟩) PP.out _)
      have L5 := Lib.hid (show L ≤ w5.heap.size by rw [hw5]; simpa [World.setCell] using L4.out)
      have P5 := Lib.hid hp5
      have O5 := Lib.hid ho5
      have FR := Lib.hid (fresh_any w5 hp5 ho5 (by rw [fr2_len]; have := HQ.out; omega))
      clear hw5 hp5 ho5 hfo5 pn BK v1 v2 v3 v4
      go_wp2_with fail
      refine FR.out.mono ?_
      rintro e w6 ⟨v6, rfl, ho6, hb6⟩
      obtain ⟨A6, c6, rfl⟩ := own_form ho6
      rw [fr2_len] at ho6
      have B6 := Lib.hid (bon B5.out hb6)
      have L6 := Lib.hid (Nat.le_trans L5.out hb6.size)
      have P6 := Lib.hid (show Pb w6 p 1 0 (.map (some bm)) g f5 from row_on P5.out hb6)
      have U6 := Lib.hid (U5.out.below hb6)
      have O6 := Lib.hid (own_below O5.out hb6)
      have D6 := Lib.hid (D5.out.below hb6)
      have AL6 := Lib.hid (alloc_any K w6 P6.out U6.out O6.out L6.out D6.out SL.out (by rw [fr2_len]; have := HQ.out; omega))
      clear ho6 hb6 FR
      go_wp2_with fail
      rw [fr2_len]
      have x1 := w2'.out
      by_cases hroom : q < k
      · refine AL6.out.mono ?_
        intro e w7 hA
        have hA2 : ∃ f', e = .returned (.tuple #[.int .i64 ((q + 2 : Nat) : Int), .int .i64 0]) ∧ Pb w7 p 1 0 (.map (some bm)) g f' ∧ Us w7 bm 2 (nU []) ∧ w7.ownsRow L 3 1 f' (fr2 (q + 1)).length ((fr2 (q + 1)).map nn) ∧ Dk B w7 g gs (.slice none 0 0) S1 [] ∧ Ca p f5 f' w6 w7 := by
          rcases hA with ⟨x, f', hx, h1, h2, he, k1, k2, k3, k4, k5⟩ | ⟨h1, _⟩
          · obtain rfl := taken_at h1 h2
            rw [fr2_snoc, fr2_len] at k3
            exact ⟨f', he, k1, k2, by rw [fr2_len]; exact k3, k4, k5⟩
          · have := h1 (q + 2) (by have := HQ.out; omega)
            rw [taken_fr2] at this
            simp at this
        obtain ⟨x7, hx7⟩ : ∃ x7, q + 2 = x7 := ⟨_, rfl⟩
        rw [hx7] at hA2
        obtain ⟨f7, rfl, hp7, hu7, ho7, hd7, hc7⟩ := hA2
        have B7 := Lib.hid (hc7.below (N := w.heap.size) B6.out B6.out.size PP.out (fun j hj => Nat.le_trans HL.out.1 (O6.out.lt j hj).1))
        have P7 := Lib.hid hp7
        have U7 := Lib.hid hu7
        have D7 := Lib.hid hd7
        obtain ⟨qq, hqq⟩ : ∃ qq, q + 1 = qq := ⟨_, rfl⟩
        rw [hqq] at ho7
        have O7 := Lib.hid ho7
        clear hA hp7 hu7 ho7 hd7 hc7 AL6
        have HQQ := Lib.hid (show qq = min (q + 1) k ∧ qq ≤ 20 ∧ 1 ≤ qq by have := HQ.out; omega)
        have y1 : decide ((q : Int) < (P2 : Int)) = true := decide_eq_true (by have := HQ.out; omega)
        have y2 : decide (q < P2) = true := decide_eq_true (by have := HQ.out; omega)
        have X7 := Lib.hid (show wrap64 ((q : Int) + 2) = (x7 : Int) by rw [IntWalk.wrap64_in _ ⟨by omega, by have := HQ.out; omega⟩]; omega)
        clear hqq hx7 hroom
        cases root
        · have UD := Lib.hid (used_any (b := p) w7 U7.out (row_c (i := 2) P7.out rfl) (by omega))
          have x7' := X7.out
          go_wp2_with fail
          refine UD.out.mono ?_
          rintro e w8 ⟨v8, rfl, ho8, hb8⟩
          obtain ⟨A8, c8, rfl⟩ := own_form ho8
          have B8 := Lib.hid (bon B7.out hb8)
          have L8 := Lib.hid (show (usedL (nU [])).length = 2 from usedL_lt (by omega) (fun i => by unfold nU; simp))
          clear ho8 hb8 UD
          have l8 := L8.out
          go_wp2
          go_ret
          exact ⟨rfl, B8.out⟩
        · have CM := Lib.hid (show Calls Try.prog 11 #[.pointer (some ⟨p, 0, none⟩), .int .i64 2] w7 fun e w' => ∃ b2, e = .returned (.int .i64 0) ∧ Pb w' p 2 2 (.map (some b2)) g (.slice none 0 0) ∧ Us w' b2 (2 + (fr2 qq).length + 2) (fun i => nU (fr2 qq) i || nU [] i) ∧ Dk B w' g gs (.slice none 0 0) (flush (flush S1 []) (hdW 2 2 (fun i => nU (fr2 qq) i || nU [] i))) [] ∧ Cp B p g gs w7 w' from commit_yes 1 2 w7 P7.out U7.out O7.out D7.out SL4.out (by simp) (by rw [fr2_len]; have := HQQ.out; omega) (fr2_lt HQQ.out.2.1) (by omega) (by omega) (by omega) (root_fr2 HQQ.out.2.2))
          go_wp2_with fail
          refine CM.out.mono ?_
          rintro e w8 ⟨b2, rfl, hp8, hu8, hd8, hc8⟩
          have B8 := Lib.hid (hc8.below B7.out BS2.out PP.out HGG.out.1 HGG.out.2)
          have P8 := Lib.hid hp8
          have UD := Lib.hid (used_any (b := p) w8 hu8 (row_c (i := 2) hp8 rfl) (by rw [fr2_len]; have := HQQ.out; omega))
          clear hp8 hu8 hd8 hc8 CM
          obtain ⟨q1, hq1⟩ : ∃ q1, q + 1 = q1 := ⟨_, rfl⟩
          obtain ⟨q3, hq3⟩ : ∃ q3, qq + 2 = q3 := ⟨_, rfl⟩
          have X1 := Lib.hid (show wrap64 ((q : Int) + 1) = (q1 : Int) by rw [IntWalk.wrap64_in _ ⟨by omega, by have := HQ.out; omega⟩]; omega)
          have X2 := Lib.hid (show min (q1 : Int) (P2 : Int) = (qq : Int) by have := HQ.out; have := HQQ.out; omega)
          have X2' := Lib.hid (show min q1 P2 = qq by have := HQ.out; have := HQQ.out; omega)
          have X3 := Lib.hid (show wrap64 ((qq : Int) + 2) = (q3 : Int) by rw [IntWalk.wrap64_in _ ⟨by omega, by have := HQQ.out; omega⟩]; omega)
          have L8 := Lib.hid (show (usedL (fun i => nU (fr2 qq) i || nU [] i)).length = q3 by rw [← hq3]; exact usedL_lt (by have := HQQ.out; omega) (fun i => nU_fr2 qq i))
          clear hq1 hq3
          go_wp2_with fail
          refine UD.out.mono ?_
          rintro e w9 ⟨v9, rfl, ho9, hb9⟩
          obtain ⟨A9, c9, rfl⟩ := own_form ho9
          have B9 := Lib.hid (bon B8.out hb9)
          have FR9 := Lib.hid (fresh_any (L := 0) (F := []) w9 (row_on P8.out hb9) (World.ownsRow_nil _ _ _ _) (by simp))
          have l8 := L8.out
          have z1 := X1.out
          have z2 := X2.out
          have z2' := X2'.out
          have z3 := X3.out
          clear ho9 hb9 UD
          go_wp2_with fail
          refine FR9.out.mono ?_
          rintro e w10 ⟨v10, rfl, ho10, hb10⟩
          obtain ⟨A10, c10, rfl⟩ := own_form ho10
          have B10 := Lib.hid (bon B9.out hb10)
          clear ho10 hb10 FR9
          go_wp2
          go_ret
          exact ⟨rfl, B10.out⟩
      · refine AL6.out.mono ?_
        intro e w7 hA
        have hA2 : e = .returned (.tuple #[.int .i64 0, .int .i64 6]) ∧ Below w6.heap.size w6 w7 := by
          rcases hA with ⟨x, f', hx, h1, h2, _⟩ | ⟨_, h⟩
          · have h3 := taken_at h1 h2
            have := HQ.out
            omega
          · exact h
        obtain ⟨rfl, hb7⟩ := hA2
        have B7 := Lib.hid (bon B6.out hb7)
        have P7 := Lib.hid (show Pb w7 p 1 0 (.map (some bm)) g f5 from row_on P6.out hb7)
        have U7 := Lib.hid (U6.out.below hb7)
        have D7 := Lib.hid (D6.out.below hb7)
        obtain ⟨qq, hqq⟩ : ∃ qq, q = qq := ⟨_, rfl⟩
        have O7 := Lib.hid (show w7.ownsRow L 3 1 f5 (fr2 qq).length ((fr2 qq).map nn) by rw [← hqq]; exact own_below O6.out hb7)
        have HQQ := Lib.hid (show qq = min (q + 1) k ∧ qq ≤ 20 ∧ 1 ≤ qq by have := HQ.out; omega)
        have y1 : decide ((q : Int) < (P2 : Int)) = false := decide_eq_false (by have := HQ.out; omega)
        have y2 : decide (q < P2) = false := decide_eq_false (by have := HQ.out; omega)
        clear hA hb7 hqq hroom AL6
        cases root
        · have UD := Lib.hid (used_any (b := p) w7 U7.out (row_c (i := 2) P7.out rfl) (by omega))
          go_wp2_with fail
          refine UD.out.mono ?_
          rintro e w8 ⟨v8, rfl, ho8, hb8⟩
          obtain ⟨A8, c8, rfl⟩ := own_form ho8
          have B8 := Lib.hid (bon B7.out hb8)
          have L8 := Lib.hid (show (usedL (nU [])).length = 2 from usedL_lt (by omega) (fun i => by unfold nU; simp))
          clear ho8 hb8 UD
          have l8 := L8.out
          go_wp2
          go_ret
          exact ⟨rfl, B8.out⟩
        · have CM := Lib.hid (show Calls Try.prog 11 #[.pointer (some ⟨p, 0, none⟩), .int .i64 2] w7 fun e w' => ∃ b2, e = .returned (.int .i64 0) ∧ Pb w' p 2 2 (.map (some b2)) g (.slice none 0 0) ∧ Us w' b2 (2 + (fr2 qq).length + 2) (fun i => nU (fr2 qq) i || nU [] i) ∧ Dk B w' g gs (.slice none 0 0) (flush (flush S1 []) (hdW 2 2 (fun i => nU (fr2 qq) i || nU [] i))) [] ∧ Cp B p g gs w7 w' from commit_yes 1 2 w7 P7.out U7.out O7.out D7.out SL4.out (by simp) (by rw [fr2_len]; have := HQQ.out; omega) (fr2_lt HQQ.out.2.1) (by omega) (by omega) (by omega) (root_fr2 HQQ.out.2.2))
          go_wp2_with fail
          refine CM.out.mono ?_
          rintro e w8 ⟨b2, rfl, hp8, hu8, hd8, hc8⟩
          have B8 := Lib.hid (hc8.below B7.out BS2.out PP.out HGG.out.1 HGG.out.2)
          have P8 := Lib.hid hp8
          have UD := Lib.hid (used_any (b := p) w8 hu8 (row_c (i := 2) hp8 rfl) (by rw [fr2_len]; have := HQQ.out; omega))
          clear hp8 hu8 hd8 hc8 CM
          obtain ⟨q1, hq1⟩ : ∃ q1, q + 1 = q1 := ⟨_, rfl⟩
          obtain ⟨q3, hq3⟩ : ∃ q3, qq + 2 = q3 := ⟨_, rfl⟩
          have X1 := Lib.hid (show wrap64 ((q : Int) + 1) = (q1 : Int) by rw [IntWalk.wrap64_in _ ⟨by omega, by have := HQ.out; omega⟩]; omega)
          have X2 := Lib.hid (show min (q1 : Int) (P2 : Int) = (qq : Int) by have := HQ.out; have := HQQ.out; omega)
          have X2' := Lib.hid (show min q1 P2 = qq by have := HQ.out; have := HQQ.out; omega)
          have X3 := Lib.hid (show wrap64 ((qq : Int) + 2) = (q3 : Int) by rw [IntWalk.wrap64_in _ ⟨by omega, by have := HQQ.out; omega⟩]; omega)
          have L8 := Lib.hid (show (usedL (fun i => nU (fr2 qq) i || nU [] i)).length = q3 by rw [← hq3]; exact usedL_lt (by have := HQQ.out; omega) (fun i => nU_fr2 qq i))
          clear hq1 hq3
          go_wp2_with fail
          refine UD.out.mono ?_
          rintro e w9 ⟨v9, rfl, ho9, hb9⟩
          obtain ⟨A9, c9, rfl⟩ := own_form ho9
          have B9 := Lib.hid (bon B8.out hb9)
          have FR9 := Lib.hid (fresh_any (L := 0) (F := []) w9 (row_on P8.out hb9) (World.ownsRow_nil _ _ _ _) (by simp))
          have l8 := L8.out
          have z1 := X1.out
          have z2 := X2.out
          have z2' := X2'.out
          have z3 := X3.out
          clear ho9 hb9 UD
          go_wp2_with fail
          refine FR9.out.mono ?_
          rintro e w10 ⟨v10, rfl, ho10, hb10⟩
          obtain ⟨A10, c10, rfl⟩ := own_form ho10
          have B10 := Lib.hid (bon B9.out hb10)
          clear ho10 hb10 FR9
          go_wp2
          go_ret
          exact ⟨rfl, B10.out⟩
set_option maxHeartbeats 8000000 in
set_option maxRecDepth 100000 in
theorem pagerHands_pp (n m : Int) (root : Bool) (w : World) (n0 : -9223372036854775808 ≤ n) (n1 : n ≤ 9223372036854775807) (m0 : -9223372036854775808 ≤ m) (m1 : m ≤ 9223372036854775807) (hcn : ¬ n < 0) (hcm : ¬ m < 0) :
    Calls Try.prog 3 #[.int .i64 n, .int .i64 m, .bool root] w fun e w' => e = .returned (.bool true) ∧ Below w.heap.size w w' := by
  obtain ⟨yn, hyn⟩ : ∃ y : Nat, n = (y : Int) := ⟨n.toNat, by omega⟩
  have dn : decide ((yn : Int) < 0) = false := decide_eq_false (by omega)
  have Yn := Lib.hid (show (yn : Int) ≤ 9223372036854775807 by omega)
  have Wn := Lib.hid dn
  subst hyn
  clear dn
  obtain ⟨ym, hym⟩ : ∃ y : Nat, m = (y : Int) := ⟨m.toNat, by omega⟩
  have dm : decide ((ym : Int) < 0) = false := decide_eq_false (by omega)
  have Ym := Lib.hid (show (ym : Int) ≤ 9223372036854775807 by omega)
  have Wm := Lib.hid dm
  subst hym
  clear dm
  obtain ⟨r, hr⟩ : ∃ r : Nat, (yn : Int).tmod 17 = (r : Int) := ⟨yn % 17, by rw [Int.tmod_eq_emod_of_nonneg (by omega)]; omega⟩
  have HR := Lib.hid (show r < 17 by rw [Int.tmod_eq_emod_of_nonneg (by omega)] at hr; omega)
  obtain ⟨P, hP⟩ : ∃ P : Nat, 4 + r = P := ⟨_, rfl⟩
  have wP := Lib.hid (show wrap64 (4 + (r : Int)) = (P : Int) by rw [IntWalk.wrap64_in _ ⟨by omega, by have := HR.out; omega⟩]; omega)
  have HP := Lib.hid (show 4 ≤ P ∧ P ≤ 20 by have := HR.out; omega)
  have TR := Lib.hid hr
  obtain ⟨D, hD⟩ : ∃ D : Nat, 2 * P = D := ⟨_, rfl⟩
  have wD := Lib.hid (show wrap64 (2 * (P : Int)) = (D : Int) by rw [IntWalk.wrap64_in _ ⟨by omega, by have := HP.out; omega⟩]; omega)
  have HD := Lib.hid hD
  clear hr hP hD n0 n1 m0 m1 hcn hcm
  go_enter Try.func3, Try.ntmps3
  go_wp2_with fail
  refine (examples_any w).mono ?_
  rintro e w1 ⟨rfl, hb⟩
  have B1 := Lib.hid hb
  clear hb
  have u2 := Wn.out
  have u5 := Wm.out
  have t1 := TR.out
  have t2 := wP.out
  have t3 := wD.out
  go_wp2_with fail
  rw [t2]
  refine (new_any D (by have := HD.out; have := HP.out; omega) (by have := HD.out; have := HP.out; omega) w1).mono ?_
  rintro e w2 ⟨g, gs, rfl, hd, hb, hg, hgs⟩
  have B2 := Lib.hid (bon B1.out hb)
  have HGG := Lib.hid (And.intro (Nat.le_trans B1.out.size hg) (Nat.le_trans B1.out.size hgs))
  have BS2 := Lib.hid B2.out.size
  obtain ⟨S0, hS0⟩ : ∃ S0, List.replicate D z64 = S0 := ⟨_, rfl⟩
  have SL0 := Lib.hid (show S0.length = D by rw [← hS0]; exact List.length_replicate)
  rw [hS0] at hd
  have FY := Lib.hid (format_yes w2 hd (by have := SL0.out; have := HD.out; have := HP.out; omega) (by simp))
  clear hd hb hg hgs hS0 t1 t2 t3 u2 u5 
  go_wp2_with fail
  refine FY.out.mono ?_
  rintro e w3 ⟨p, bm, rfl, hp, hpb, hu, hd, hc⟩
  obtain ⟨S1, hS1⟩ : ∃ S1, flush S0 ([] ++ hdW 1 0 (nU [])) = S1 := ⟨_, rfl⟩
  have SL := Lib.hid (show S1.length / 2 = P by rw [← hS1, flush_len, SL0.out, ← HD.out]; omega)
  have SL4 := Lib.hid (show 4 ≤ S1.length by have := SL.out; have := HP.out; omega)
  rw [hS1] at hd
  have B3 := Lib.hid (hc.below B2.out BS2.out HGG.out.1 HGG.out.2)
  have P3 := Lib.hid hpb
  have PP := Lib.hid (Nat.le_trans B2.out.size hp)
  have U3 := Lib.hid hu
  have D3 := Lib.hid hd
  obtain ⟨B, hB⟩ : ∃ B, w2.heap.size = B := ⟨_, rfl⟩
  rw [hB] at D3 BS2
  obtain ⟨L, hL⟩ : ∃ L, w3.heap.size = L := ⟨_, rfl⟩
  have HL := Lib.hid (show w.heap.size ≤ L ∧ w3.heap.size = L from ⟨by rw [← hL]; exact B3.out.size, hL⟩)
  clear hS1 hp hpb hu hd hc FY hB hL
  go_wp2_with fail
  go_loopw [12] (fun kv wr => ∃ (k : Nat) (f : Value), k + 2 ≤ P ∧ kv = .int .i64 ((k + 2 : Nat) : Int) ∧ Hid (Pb wr p 1 0 (.map (some bm)) g f) ∧ Hid (Us wr bm 2 (nU [])) ∧ Hid (wr.ownsRow L 3 1 f (fr2 k).length ((fr2 k).map nn)) ∧ Hid (Dk B wr g gs (.slice none 0 0) S1 []) ∧ Hid (Below w.heap.size w wr) ∧ Hid (L ≤ wr.heap.size)) (fun kv _ => P - (intOf kv).toNat)
  case atStart => exact ⟨0, .slice none 0 0, by have := HP.out; omega, rfl, P3, U3, Lib.hid (World.ownsRow_nil _ _ _ _), D3, B3, Lib.hid (by rw [HL.out.2]; exact Nat.le_refl _)⟩
  case round =>
    obtain ⟨k, f, hk, rfl, hp, hu, ho, hd, hb, hl⟩ := hrel
    have AL := Lib.hid (alloc_any P wr hp.out hu.out ho.out hl.out hd.out SL.out (by rw [fr2_len]; have := HP.out; omega))
    obtain ⟨K, hK⟩ : ∃ K, k + 2 = K := ⟨_, rfl⟩
    rw [hK] at hk
    by_cases hk2 : K < P
    · rw [hK]
      have d1 : decide ((K : Int) < (P : Int)) = true := decide_eq_true (by omega)
      have d1' : decide (K < P) = true := decide_eq_true hk2
      have KL := Lib.hid (And.intro hk2 hK)
      have kw := Lib.hid (wup (k := K) (by have := HP.out; omega))
      clear hk2 hk hK
      go_wp2_with fail
      refine AL.out.mono ?_
      intro e w4 hA
      have hA2 : ∃ f', e = .returned (.tuple #[.int .i64 (K : Int), .int .i64 0]) ∧ Pb w4 p 1 0 (.map (some bm)) g f' ∧ Us w4 bm 2 (nU []) ∧ w4.ownsRow L 3 1 f' (fr2 (k + 1)).length ((fr2 (k + 1)).map nn) ∧ Dk B w4 g gs (.slice none 0 0) S1 [] ∧ Ca p f f' wr w4 := by
        rcases hA with ⟨x, f', hx, h1, h2, he, k1, k2, k3, k4, k5⟩ | ⟨h1, _⟩
        · obtain rfl := taken_at h1 h2
          rw [fr2_snoc, fr2_len] at k3
          rw [KL.out.2] at he
          exact ⟨f', he, k1, k2, by rw [fr2_len]; exact k3, k4, k5⟩
        · have := h1 K KL.out.1
          rw [taken_fr2, KL.out.2] at this
          simp at this
      obtain ⟨f', rfl, hp4, hu4, ho4, hd4, hc4⟩ := hA2
      have B4 := Lib.hid (hc4.below (N := w.heap.size) hb.out hb.out.size PP.out (fun j hj => Nat.le_trans HL.out.1 (ho.out.lt j hj).1))
      have P4 := Lib.hid hp4
      have U4 := Lib.hid hu4
      have O4 := Lib.hid ho4
      have D4 := Lib.hid hd4
      have L4 := Lib.hid (Nat.le_trans hl.out hc4.size)
      clear hA hp4 hu4 ho4 hd4 hc4 AL
      go_wp2_with fail
      exact ⟨⟨k + 1, f', by have := KL.out; omega, by rw [kw.out, ← KL.out.2]; rfl, P4, U4, O4, D4, B4, L4⟩, meas_up KL.out.1 kw.out⟩
    · obtain rfl : K = P := by omega
      rw [hK]
      have HKP := Lib.hid hK
      have HP2 := Lib.hid HP.out
      obtain ⟨P1, hP1⟩ : ∃ P1 : Nat, K - 1 = P1 := ⟨_, rfl⟩
      have w1' := Lib.hid (show wrap64 ((K : Int) - 1) = (P1 : Int) by rw [IntWalk.wrap64_in _ ⟨by omega, by have := HP2.out; omega⟩]; have := HP2.out; omega)
      obtain ⟨P2, hP2⟩ : ∃ P2 : Nat, K - 2 = P2 := ⟨_, rfl⟩
      have w2' := Lib.hid (show wrap64 ((K : Int) - 2) = (P2 : Int) by rw [IntWalk.wrap64_in _ ⟨by omega, by have := HP2.out; omega⟩]; have := HP2.out; omega)
      obtain ⟨q, hq⟩ : ∃ q : Nat, (ym : Int).tmod (P1 : Int) = (q : Int) := ⟨ym % P1, by rw [Int.tmod_eq_emod_of_nonneg (by omega)]; simp⟩
      have HQ := Lib.hid (show q ≤ k ∧ P2 = k ∧ K = k + 2 ∧ K ≤ 20 ∧ 4 ≤ K by
        have h1 : q < P1 := by
          have h2 : (ym : Int).tmod (P1 : Int) = ((ym % P1 : Nat) : Int) := by rw [Int.tmod_eq_emod_of_nonneg (by omega)]; simp
          have h3 : q = ym % P1 := by omega
          rw [h3]; exact Nat.mod_lt _ (by have := HP2.out; omega)
        have := HP2.out
        omega)
      have TQ := Lib.hid hq
      have P1N := Lib.hid (show ¬ ((P1 : Int) = 0) ∧ ((P1 : Int) == 0) = false by have := HP2.out; constructor <;> (first | omega | (simp; omega)))
      clear hP1 hP2 hq hk hk2 hK
      go_wp2_with fail
      refine AL.out.mono ?_
      intro e w4 hA
      have hA2 : e = .returned (.tuple #[.int .i64 0, .int .i64 6]) ∧ Below wr.heap.size wr w4 := by
        rcases hA with ⟨x, f', hx, h1, h2, _⟩ | ⟨_, h⟩
        · have := taken_at h1 h2
          have := HKP.out
          omega
        · exact h
      obtain ⟨rfl, hb4⟩ := hA2
      have B4 := Lib.hid (bon hb.out hb4)
      have L4 := Lib.hid (Nat.le_trans hl.out hb4.size)
      have P4 := Lib.hid (show Pb w4 p 1 0 (.map (some bm)) g f from row_on hp.out hb4)
      have U4 := Lib.hid (hu.out.below hb4)
      have O4 := Lib.hid (own_below ho.out hb4)
      have D4 := Lib.hid (hd.out.below hb4)
      have BK := Lib.hid (back_any q w4 P4.out O4.out (by rw [fr2_len]; have := HQ.out; omega) (by rw [fr2_len]; exact HQ.out.1))
      have v1 := w1'.out
      have v2 := TQ.out
      have v3 := P1N.out.1
      have v4 := P1N.out.2
      clear hA hb4 AL hp hu ho hd hb hl
      go_wp2_with fail
      refine BK.out.mono ?_
      rintro e w5 ⟨rfl, f5, hw5, hp5, ho5, hfo5⟩
      rw [fr2_take HQ.out.1] at ho5
      have pn := D4.out.p_ne P4.out
      have U5 := Lib.hid (show Us w5 bm 2 (nU []) by rw [hw5]; exact U4.out.set P4.out _)
      have D5 := Lib.hid (show Dk B w5 g gs (.slice none 0 0) S1 [] by rw [hw5]; exact D4.out.pset P4.out (by decide) pn.1 pn.2 _ _)
      have B5 := Lib.hid (show Below w.heap.size w w5 by rw [hw5]; exact B4.out.setCell (p := ⟨p, 4, none⟩) PP.out _)
      have L5 := Lib.hid (show L ≤ w5.heap.size by rw [hw5]; simpa [World.setCell] using L4.out)
      have P5 := Lib.hid hp5
      have O5 := Lib.hid ho5
      have FR := Lib.hid (fresh_any w5 hp5 ho5 (by rw [fr2_len]; have := HQ.out; omega))
      clear hw5 hp5 ho5 hfo5 pn BK v1 v2 v3 v4
      go_wp2_with fail
      refine FR.out.mono ?_
      rintro e w6 ⟨v6, rfl, ho6, hb6⟩
      obtain ⟨A6, c6, rfl⟩ := own_form ho6
      rw [fr2_len] at ho6
      have B6 := Lib.hid (bon B5.out hb6)
      have L6 := Lib.hid (Nat.le_trans L5.out hb6.size)
      have P6 := Lib.hid (show Pb w6 p 1 0 (.map (some bm)) g f5 from row_on P5.out hb6)
      have U6 := Lib.hid (U5.out.below hb6)
      have O6 := Lib.hid (own_below O5.out hb6)
      have D6 := Lib.hid (D5.out.below hb6)
      have AL6 := Lib.hid (alloc_any K w6 P6.out U6.out O6.out L6.out D6.out SL.out (by rw [fr2_len]; have := HQ.out; omega))
      clear ho6 hb6 FR
      go_wp2_with fail
      rw [fr2_len]
      have x1 := w2'.out
      by_cases hroom : q < k
      · refine AL6.out.mono ?_
        intro e w7 hA
        have hA2 : ∃ f', e = .returned (.tuple #[.int .i64 ((q + 2 : Nat) : Int), .int .i64 0]) ∧ Pb w7 p 1 0 (.map (some bm)) g f' ∧ Us w7 bm 2 (nU []) ∧ w7.ownsRow L 3 1 f' (fr2 (q + 1)).length ((fr2 (q + 1)).map nn) ∧ Dk B w7 g gs (.slice none 0 0) S1 [] ∧ Ca p f5 f' w6 w7 := by
          rcases hA with ⟨x, f', hx, h1, h2, he, k1, k2, k3, k4, k5⟩ | ⟨h1, _⟩
          · obtain rfl := taken_at h1 h2
            rw [fr2_snoc, fr2_len] at k3
            exact ⟨f', he, k1, k2, by rw [fr2_len]; exact k3, k4, k5⟩
          · have := h1 (q + 2) (by have := HQ.out; omega)
            rw [taken_fr2] at this
            simp at this
        obtain ⟨x7, hx7⟩ : ∃ x7, q + 2 = x7 := ⟨_, rfl⟩
        rw [hx7] at hA2
        obtain ⟨f7, rfl, hp7, hu7, ho7, hd7, hc7⟩ := hA2
        have B7 := Lib.hid (hc7.below (N := w.heap.size) B6.out B6.out.size PP.out (fun j hj => Nat.le_trans HL.out.1 (O6.out.lt j hj).1))
        have P7 := Lib.hid hp7
        have U7 := Lib.hid hu7
        have D7 := Lib.hid hd7
        obtain ⟨qq, hqq⟩ : ∃ qq, q + 1 = qq := ⟨_, rfl⟩
        rw [hqq] at ho7
        have O7 := Lib.hid ho7
        clear hA hp7 hu7 ho7 hd7 hc7 AL6
        have HQQ := Lib.hid (show qq = min (q + 1) k ∧ qq ≤ 20 ∧ 1 ≤ qq by have := HQ.out; omega)
        have y1 : decide ((q : Int) < (P2 : Int)) = true := decide_eq_true (by have := HQ.out; omega)
        have y2 : decide (q < P2) = true := decide_eq_true (by have := HQ.out; omega)
        have X7 := Lib.hid (show wrap64 ((q : Int) + 2) = (x7 : Int) by rw [IntWalk.wrap64_in _ ⟨by omega, by have := HQ.out; omega⟩]; omega)
        clear hqq hx7 hroom
        cases root
        · have UD := Lib.hid (used_any (b := p) w7 U7.out (row_c (i := 2) P7.out rfl) (by omega))
          have x7' := X7.out
          go_wp2_with fail
          refine UD.out.mono ?_
          rintro e w8 ⟨v8, rfl, ho8, hb8⟩
          obtain ⟨A8, c8, rfl⟩ := own_form ho8
          have B8 := Lib.hid (bon B7.out hb8)
          have L8 := Lib.hid (show (usedL (nU [])).length = 2 from usedL_lt (by omega) (fun i => by unfold nU; simp))
          clear ho8 hb8 UD
          have l8 := L8.out
          go_wp2
          go_ret
          exact ⟨rfl, B8.out⟩
        · have CM := Lib.hid (show Calls Try.prog 11 #[.pointer (some ⟨p, 0, none⟩), .int .i64 2] w7 fun e w' => ∃ b2, e = .returned (.int .i64 0) ∧ Pb w' p 2 2 (.map (some b2)) g (.slice none 0 0) ∧ Us w' b2 (2 + (fr2 qq).length + 2) (fun i => nU (fr2 qq) i || nU [] i) ∧ Dk B w' g gs (.slice none 0 0) (flush (flush S1 []) (hdW 2 2 (fun i => nU (fr2 qq) i || nU [] i))) [] ∧ Cp B p g gs w7 w' from commit_yes 1 2 w7 P7.out U7.out O7.out D7.out SL4.out (by simp) (by rw [fr2_len]; have := HQQ.out; omega) (fr2_lt HQQ.out.2.1) (by omega) (by omega) (by omega) (root_fr2 HQQ.out.2.2))
          go_wp2_with fail
          refine CM.out.mono ?_
          rintro e w8 ⟨b2, rfl, hp8, hu8, hd8, hc8⟩
          have B8 := Lib.hid (hc8.below B7.out BS2.out PP.out HGG.out.1 HGG.out.2)
          have P8 := Lib.hid hp8
          have UD := Lib.hid (used_any (b := p) w8 hu8 (row_c (i := 2) hp8 rfl) (by rw [fr2_len]; have := HQQ.out; omega))
          clear hp8 hu8 hd8 hc8 CM
          obtain ⟨q1, hq1⟩ : ∃ q1, q + 1 = q1 := ⟨_, rfl⟩
          obtain ⟨q3, hq3⟩ : ∃ q3, qq + 2 = q3 := ⟨_, rfl⟩
          have X1 := Lib.hid (show wrap64 ((q : Int) + 1) = (q1 : Int) by rw [IntWalk.wrap64_in _ ⟨by omega, by have := HQ.out; omega⟩]; omega)
          have X2 := Lib.hid (show min (q1 : Int) (P2 : Int) = (qq : Int) by have := HQ.out; have := HQQ.out; omega)
          have X2' := Lib.hid (show min q1 P2 = qq by have := HQ.out; have := HQQ.out; omega)
          have X3 := Lib.hid (show wrap64 ((qq : Int) + 2) = (q3 : Int) by rw [IntWalk.wrap64_in _ ⟨by omega, by have := HQQ.out; omega⟩]; omega)
          have L8 := Lib.hid (show (usedL (fun i => nU (fr2 qq) i || nU [] i)).length = q3 by rw [← hq3]; exact usedL_lt (by have := HQQ.out; omega) (fun i => nU_fr2 qq i))
          clear hq1 hq3
          go_wp2_with fail
          refine UD.out.mono ?_
          rintro e w9 ⟨v9, rfl, ho9, hb9⟩
          obtain ⟨A9, c9, rfl⟩ := own_form ho9
          have B9 := Lib.hid (bon B8.out hb9)
          have FR9 := Lib.hid (fresh_any (L := 0) (F := []) w9 (row_on P8.out hb9) (World.ownsRow_nil _ _ _ _) (by simp))
          have l8 := L8.out
          have z1 := X1.out
          have z2 := X2.out
          have z2' := X2'.out
          have z3 := X3.out
          clear ho9 hb9 UD
          go_wp2_with fail
          refine FR9.out.mono ?_
          rintro e w10 ⟨v10, rfl, ho10, hb10⟩
          obtain ⟨A10, c10, rfl⟩ := own_form ho10
          have B10 := Lib.hid (bon B9.out hb10)
          clear ho10 hb10 FR9
          go_wp2
          go_ret
          exact ⟨rfl, B10.out⟩
      · refine AL6.out.mono ?_
        intro e w7 hA
        have hA2 : e = .returned (.tuple #[.int .i64 0, .int .i64 6]) ∧ Below w6.heap.size w6 w7 := by
          rcases hA with ⟨x, f', hx, h1, h2, _⟩ | ⟨_, h⟩
          · have h3 := taken_at h1 h2
            have := HQ.out
            omega
          · exact h
        obtain ⟨rfl, hb7⟩ := hA2
        have B7 := Lib.hid (bon B6.out hb7)
        have P7 := Lib.hid (show Pb w7 p 1 0 (.map (some bm)) g f5 from row_on P6.out hb7)
        have U7 := Lib.hid (U6.out.below hb7)
        have D7 := Lib.hid (D6.out.below hb7)
        obtain ⟨qq, hqq⟩ : ∃ qq, q = qq := ⟨_, rfl⟩
        have O7 := Lib.hid (show w7.ownsRow L 3 1 f5 (fr2 qq).length ((fr2 qq).map nn) by rw [← hqq]; exact own_below O6.out hb7)
        have HQQ := Lib.hid (show qq = min (q + 1) k ∧ qq ≤ 20 ∧ 1 ≤ qq by have := HQ.out; omega)
        have y1 : decide ((q : Int) < (P2 : Int)) = false := decide_eq_false (by have := HQ.out; omega)
        have y2 : decide (q < P2) = false := decide_eq_false (by have := HQ.out; omega)
        clear hA hb7 hqq hroom AL6
        cases root
        · have UD := Lib.hid (used_any (b := p) w7 U7.out (row_c (i := 2) P7.out rfl) (by omega))
          go_wp2_with fail
          refine UD.out.mono ?_
          rintro e w8 ⟨v8, rfl, ho8, hb8⟩
          obtain ⟨A8, c8, rfl⟩ := own_form ho8
          have B8 := Lib.hid (bon B7.out hb8)
          have L8 := Lib.hid (show (usedL (nU [])).length = 2 from usedL_lt (by omega) (fun i => by unfold nU; simp))
          clear ho8 hb8 UD
          have l8 := L8.out
          go_wp2
          go_ret
          exact ⟨rfl, B8.out⟩
        · have CM := Lib.hid (show Calls Try.prog 11 #[.pointer (some ⟨p, 0, none⟩), .int .i64 2] w7 fun e w' => ∃ b2, e = .returned (.int .i64 0) ∧ Pb w' p 2 2 (.map (some b2)) g (.slice none 0 0) ∧ Us w' b2 (2 + (fr2 qq).length + 2) (fun i => nU (fr2 qq) i || nU [] i) ∧ Dk B w' g gs (.slice none 0 0) (flush (flush S1 []) (hdW 2 2 (fun i => nU (fr2 qq) i || nU [] i))) [] ∧ Cp B p g gs w7 w' from commit_yes 1 2 w7 P7.out U7.out O7.out D7.out SL4.out (by simp) (by rw [fr2_len]; have := HQQ.out; omega) (fr2_lt HQQ.out.2.1) (by omega) (by omega) (by omega) (root_fr2 HQQ.out.2.2))
          go_wp2_with fail
          refine CM.out.mono ?_
          rintro e w8 ⟨b2, rfl, hp8, hu8, hd8, hc8⟩
          have B8 := Lib.hid (hc8.below B7.out BS2.out PP.out HGG.out.1 HGG.out.2)
          have P8 := Lib.hid hp8
          have UD := Lib.hid (used_any (b := p) w8 hu8 (row_c (i := 2) hp8 rfl) (by rw [fr2_len]; have := HQQ.out; omega))
          clear hp8 hu8 hd8 hc8 CM
          obtain ⟨q1, hq1⟩ : ∃ q1, q + 1 = q1 := ⟨_, rfl⟩
          obtain ⟨q3, hq3⟩ : ∃ q3, qq + 2 = q3 := ⟨_, rfl⟩
          have X1 := Lib.hid (show wrap64 ((q : Int) + 1) = (q1 : Int) by rw [IntWalk.wrap64_in _ ⟨by omega, by have := HQ.out; omega⟩]; omega)
          have X2 := Lib.hid (show min (q1 : Int) (P2 : Int) = (qq : Int) by have := HQ.out; have := HQQ.out; omega)
          have X2' := Lib.hid (show min q1 P2 = qq by have := HQ.out; have := HQQ.out; omega)
          have X3 := Lib.hid (show wrap64 ((qq : Int) + 2) = (q3 : Int) by rw [IntWalk.wrap64_in _ ⟨by omega, by have := HQQ.out; omega⟩]; omega)
          have L8 := Lib.hid (show (usedL (fun i => nU (fr2 qq) i || nU [] i)).length = q3 by rw [← hq3]; exact usedL_lt (by have := HQQ.out; omega) (fun i => nU_fr2 qq i))
          clear hq1 hq3
          go_wp2_with fail
          refine UD.out.mono ?_
          rintro e w9 ⟨v9, rfl, ho9, hb9⟩
          obtain ⟨A9, c9, rfl⟩ := own_form ho9
          have B9 := Lib.hid (bon B8.out hb9)
          have FR9 := Lib.hid (fresh_any (L := 0) (F := []) w9 (row_on P8.out hb9) (World.ownsRow_nil _ _ _ _) (by simp))
          have l8 := L8.out
          have z1 := X1.out
          have z2 := X2.out
          have z2' := X2'.out
          have z3 := X3.out
          clear ho9 hb9 UD
          go_wp2_with fail
          refine FR9.out.mono ?_
          rintro e w10 ⟨v10, rfl, ho10, hb10⟩
          obtain ⟨A10, c10, rfl⟩ := own_form ho10
          have B10 := Lib.hid (bon B9.out hb10)
          clear ho10 hb10 FR9
          go_wp2
          go_ret
          exact ⟨rfl, B10.out⟩
theorem pagerHands_any (n m : Int) (root : Bool) (w : World) (n0 : -9223372036854775808 ≤ n) (n1 : n ≤ 9223372036854775807) (m0 : -9223372036854775808 ≤ m) (m1 : m ≤ 9223372036854775807) :
    Calls Try.prog 3 #[.int .i64 n, .int .i64 m, .bool root] w fun e w' => e = .returned (.bool true) ∧ Below w.heap.size w w' := by
  by_cases h1 : n < 0
  · by_cases h2 : m < 0
    · exact pagerHands_nn n m root w n0 n1 m0 m1 h1 h2
    · exact pagerHands_np n m root w n0 n1 m0 m1 h1 h2
  · by_cases h2 : m < 0
    · exact pagerHands_pn n m root w n0 n1 m0 m1 h1 h2
    · exact pagerHands_pp n m root w n0 n1 m0 m1 h1 h2
end Go.Proofs.Ytkklekkanogphaa
