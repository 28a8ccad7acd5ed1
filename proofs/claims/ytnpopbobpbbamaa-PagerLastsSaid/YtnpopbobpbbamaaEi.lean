/-
  Crash.
-/
import Derived.Test.YtnpopbobpbbamaaEh
namespace Go.Proofs.Ytnpopbobpbbamaa
open Go.RowKit
set_option linter.unusedSimpArgs false
set_option linter.unusedVariables false
/-- One write, when the power goes. -/
def cstep (ks : List Int) (torn : Int) (q : Nat) (S : List (List UInt8)) (k : Nat) (c : Wt) : List (List UInt8) :=
  if (k : Int) = torn then put S c.1 c.2 q else if k < ks.length ∧ (ks[k]?.getD 0).tmod 2 ≠ 0 then put S c.1 c.2 64 else S
def crash (ks : List Int) (torn : Int) (q : Nat) (S : List (List UInt8)) (C : List Wt) : List (List UInt8) := C.zipIdx.foldl (fun S p => cstep ks torn q S p.2 p.1) S
theorem crash_take {ks : List Int} {torn : Int} {q : Nat} {S : List (List UInt8)} {C : List Wt} {k : Nat} (h : k < C.length) : crash ks torn q S (C.take (k + 1)) = cstep ks torn q (crash ks torn q S (C.take k)) k C[k] := by
  unfold crash
  rw [← List.take_append_getElem h, List.zipIdx_append, List.foldl_append, List.length_take, Nat.min_eq_left (by omega)]
  simp
theorem cstep_len (ks : List Int) (torn : Int) (q : Nat) (S : List (List UInt8)) (k : Nat) (c : Wt) : (cstep ks torn q S k c).length = S.length := by
  unfold cstep
  split
  · rw [put_len]
  · split
    · rw [put_len]
    · rfl
theorem crash_len (ks : List Int) (torn : Int) (q : Nat) (S : List (List UInt8)) (C : List Wt) : (crash ks torn q S C).length = S.length := by
  unfold crash
  generalize C.zipIdx = l
  induction l generalizing S with
  | nil => rfl
  | cons c r ih => rw [List.foldl_cons, ih, cstep_len]
theorem Dk.reset {B g gs : Nat} {v : Value} {S : List (List UInt8)} {C : List Wt} {w : World} (h : Dk B w g gs v S C) : Dk B (((w.setCell ⟨g, 1, none⟩ (.slice none 0 0)).setCell ⟨g, 2, none⟩ (.int .i64 (-1))).setCell ⟨g, 3, none⟩ (.bool false)) g gs (.slice none 0 0) S [] ∧ Ch B g gs w (((w.setCell ⟨g, 1, none⟩ (.slice none 0 0)).setCell ⟨g, 2, none⟩ (.int .i64 (-1))).setCell ⟨g, 3, none⟩ (.bool false)) := by
  obtain ⟨a, b⟩ := Ch.setNil h
  refine ⟨⟨?_, ?_, World.ownsRow_nil _ _ _ _, h.gB, h.sB, h.ne, ?_, h.s64, fun c hc => by simp at hc, fun c hc => by simp at hc, h.n1, h.n2⟩, (b.setCell 2 _).setCell 3 _⟩
  · have e1 := heap_setCell_same _ _ 2 _ _ (.int .i64 (-1)) a.hg
    have e2 := heap_setCell_same _ _ 3 _ _ (.bool false) e1
    simpa using e2
  · rw [heap_setCell_other _ _ _ _ (fun e => h.ne e.symm), heap_setCell_other _ _ _ _ (fun e => h.ne e.symm)]; exact a.hs
  · have := a.hB; simpa [World.setCell] using this

set_option maxHeartbeats 4000000 in
set_option maxRecDepth 100000 in
theorem crash_n {B g gs : Nat} {v : Value} {S : List (List UInt8)} {C : List Wt} (K : Option Addr) (kc : Nat) (ks : List Int) (torn cut : Int) (w : World) (h : Dk B w g gs v S C) (hC : C.length ≤ 1000000) (hk : Rl nv w K kc ks) (hkn : ks.length ≤ 9223372036854775807) (hK : 0 < ks.length → ∀ b o, K = some ⟨b, o, none⟩ → b ≠ gs) (c0 : -9223372036854775808 ≤ cut) (c1 : cut ≤ 9223372036854775807) (hc : cut < 0) (q : Nat) (hq : (-(cut + 1)).tmod 65 = (q : Int)) :
    Calls Try.prog 12 #[.pointer (some ⟨g, 0, none⟩), .slice K ks.length kc, .int .i64 torn, .int .i64 cut] w fun e w' => e = .returned (.tuple #[]) ∧ Dk B w' g gs (.slice none 0 0) (crash ks torn q S C) [] ∧ Ch B g gs w w' := by
  obtain ⟨A, c, hv⟩ : ∃ A c, v = .slice A C.length c := own_form h.ho
  subst hv
  have H0 := Lib.hid h
  have q64 : q ≤ 64 := by
    have h1 := Int.tmod_lt_of_pos (-(cut + 1)) (show (0 : Int) < 65 by omega)
    omega
  have fc := row_c (i := 1) h.hg rfl
  have LC := Lib.hid (fun k (hk : k < C.length) => h.c64 _ (List.getElem_mem hk))
  have LN := Lib.hid (fun k (hk : k < C.length) => h.cn _ (List.getElem_mem hk))
  obtain ⟨hz, _⟩ := zero_of_info zero_w
  have hzs : (Value.int .i64 0 :: List.replicate 64 (Value.int .u8 0)).toArray.size = 65 := rfl
  generalize (Value.int .i64 0 :: List.replicate 64 (Value.int .u8 0)).toArray = Z0 at *
  have hze : ¬ Z0 = #[] := fun e => by subst e; simp at hzs
  have HZ := Lib.hid (And.intro hz (And.intro hzs hze))
  obtain ⟨N, hN⟩ : ∃ N, C.length = N := ⟨_, rfl⟩
  have HN := Lib.hid hN
  rw [hN] at fc hC
  obtain ⟨kn, hkl⟩ : ∃ kn, ks.length = kn := ⟨_, rfl⟩
  have HKL := Lib.hid hkl
  rw [hkl]
  rw [hkl] at hkn hK
  have HK := Lib.hid hk
  have HKK := Lib.hid hK
  have Q64 := Lib.hid q64
  have HNB := Lib.hid hC
  have d0 : decide (cut < 0) = true := by simpa using hc
  obtain ⟨z1, hz1⟩ : ∃ z : Int, cut + 1 = z := ⟨_, rfl⟩
  rw [hz1] at hq
  obtain ⟨cv, hcv⟩ : ∃ z : Int, -z1 = z := ⟨_, rfl⟩
  rw [hcv] at hq
  have w1 : wrap64 (cut + 1) = z1 := by rw [hz1]; exact IntWalk.wrap64_in _ ⟨by omega, by omega⟩
  have w2 : wrap64 (-z1) = cv := by rw [hcv]; exact IntWalk.wrap64_in _ ⟨by omega, by omega⟩
  rw [← w2] at hq
  clear hz1 hcv w2
  have HQ := Lib.hid hq
  clear h hN hz hzs hze hk hK hq q64 hkl hc
  go_enter Try.func12, Try.ntmps12
  go_wp2_with fail
  clear d0 fc w1
  go_loopw [20] (fun kv wr => ∃ k : Nat, k ≤ N ∧ kv = .int .i64 k ∧ Hid (Dk B wr g gs (.slice A C.length c) (crash ks torn q S (C.take k)) C) ∧ Hid (Ch w.heap.size gs gs w wr)) (fun kv _ => N - (intOf kv).toNat)
  case atStart => exact ⟨0, Nat.zero_le _, rfl, H0, Lib.hid (Ch.refl _ _ _ _)⟩
  case round =>
    obtain ⟨k, hk, rfl, HD, HC⟩ := hrel
    by_cases hlt : k < N
    · have hkc : k < C.length := by rw [HN.out]; exact hlt
      obtain ⟨go, cap, hA⟩ := own_some HD.out.ho (by omega)
      injection hA with hA _ hA2
      subst hA hA2
      obtain ⟨X, hX⟩ : ∃ X, C[k] = X := ⟨_, rfl⟩
      have h64 := LC.out k hkc
      have hn := LN.out k hkc
      have hfl := crash_take (ks := ks) (torn := torn) (q := q) (S := S) hkc
      rw [hX] at h64 hn hfl
      have L1 := Lib.hid (fun j v (hj : (wcell X)[j]? = some v) => HD.out.wait hkc j v (by rw [hX]; exact hj))
      have hst := box_write wr X h64 Z0 HZ.out.2.1
      have L2 := Lib.hid (fun j v (hj : (wcell X)[j]? = some v) => show (wr.alloc (.cells (wcell X).toArray 70)).cell? ((⟨wr.heap.size, 0, none⟩ : Addr).add j) = some v by rw [addr_off, Nat.zero_add]; exact row_c (heap_alloc_new wr _) (by simpa using hj))
      obtain ⟨Y, hY⟩ : ∃ Y : World, Y = wr.alloc (.cells (wcell X).toArray 70) := ⟨_, rfl⟩
      have hbY : Below wr.heap.size wr Y := by rw [hY]; exact bda _ _
      have DY := Lib.hid (HD.out.below hbY)
      have CY := Lib.hid (HC.out.trans (Ch.of_below (g := gs) (gs := gs) hbY HC.out.size))
      have LA := Lib.hid (fun q (hq : q ≤ 64) => last_any X.1 X.2 q Y DY.out (by rw [crash_len]; exact hn) h64 hq)
      have HFL := Lib.hid hfl
      have hz := HZ.out.1
      have hzs := HZ.out.2.1
      have hze := HZ.out.2.2
      have LX := Lib.hid (show (wcell X).length = 65 by unfold wcell; rw [List.length_cons, bc_len, h64])
      have hsz : (wcell X).toArray.size = 65 := wcell_size X.1 X.2 h64
      have SY := Lib.hid hbY.size
      have HLT := Lib.hid hlt
      have k0 : (0 : Int) ≤ (k : Int) := by omega
      have k1 : (k : Int) < (N : Int) := by omega
      obtain ⟨cl, hcl⟩ : ∃ cl, wcell X = cl := ⟨_, rfl⟩
      have LA2 : ∀ q1 : Nat, q1 ≤ 64 → Calls Try.prog 31 #[.pointer (some ⟨g, 0, none⟩), .agg cl.toArray, .int .i64 (q1 : Int)] Y fun e w' => e = .returned (.tuple #[]) ∧ Dk B w' g gs (.slice (some ⟨go, 0, none⟩) C.length c) (put (crash ks torn q S (C.take k)) X.1 X.2 q1) C ∧ Ch Y.heap.size gs gs Y w' := by rw [← hcl]; exact LA.out
      have LA2 := Lib.hid LA2
      rw [hcl] at hst hsz hY L1 L2 LX
      have HYH := Lib.hid hY
      by_cases ht : (k : Int) = torn
      · have HS := Lib.hid (show crash ks torn q S (C.take (k + 1)) = put (crash ks torn q S (C.take k)) X.1 X.2 q by rw [HFL.out]; unfold cstep; rw [if_pos ht])
        have t0 : ((k : Int) == torn) = true := by simpa using ht
        have hq := HQ.out
        clear h64 hn hX hfl hbY hlt LA hcl hkc hY
        subst ht
        go_wp2_with (first
          | (refine wpList_load_at rfl 70 _ rfl ⟨go, k * 65, none⟩ rfl cl _ Try.underlying70 rfl (by rw [size_w, LX.out]) L1.out ?_)
          | (refine wpList_load_at rfl 70 _ rfl ⟨wr.heap.size, 0, none⟩ rfl cl _ Try.underlying70 rfl (by rw [size_w, LX.out]) L2.out ?_))
        rw [← HYH.out]
        clear hq
        refine (LA2.out q Q64.out).mono ?_
        rintro e w1 ⟨rfl, hd, hc⟩
        have H1 := Lib.hid (And.intro hd (CY.out.trans (hc.narrow (Nat.le_trans HC.out.size SY.out))))
        clear hd hc hst hsz hz hzs hze
        go_wp2
        go_roundw
        case rel => exact ⟨k + 1, HLT.out, by go_num, Lib.hid (by rw [HS.out]; exact H1.out.1), Lib.hid H1.out.2⟩
        case measure => simp [intOf]; have := HLT.out; omega
      · have t0 : ((k : Int) == torn) = false := by simpa using ht
        by_cases h2 : k < kn
        · obtain ⟨x, hx⟩ : ∃ x, ks[k]? = some x := ⟨_, List.getElem?_eq_getElem (by rw [HKL.out]; exact h2)⟩
          obtain ⟨kb, ko, hKe, hkb, hkx⟩ := HK.out.cell hx
          have hkx2 : (wr.alloc (.cells cl.toArray 70)).cell? ⟨kb, ko + k, none⟩ = some (nv x) := by
            rw [← HYH.out]
            exact (World.cell?_of_block (w := wr) (a := ⟨kb, ko + k, none⟩) (hbY.block kb (Nat.lt_of_lt_of_le hkb HC.out.size))).trans ((World.cell?_of_block (w := w) (a := ⟨kb, ko + k, none⟩) (HC.out.block kb hkb (HKK.out (by omega) _ _ hKe) (HKK.out (by omega) _ _ hKe))).trans hkx)
          obtain ⟨y, hy⟩ : ∃ y, x.tmod 2 = y := ⟨_, rfl⟩
          unfold nv at hkx2
          have k2 : (k : Int) < (kn : Int) := by omega
          by_cases h3 : y = 0
          · have HS := Lib.hid (show crash ks torn q S (C.take (k + 1)) = crash ks torn q S (C.take k) by rw [HFL.out]; unfold cstep; rw [if_neg ht, if_neg (by rintro ⟨_, h⟩; rw [hx, Option.getD_some, hy] at h; exact h h3)])
            subst h3
            clear h64 hn hX hfl hbY hlt LA hcl hkc hY ht hx hkx hkb
            subst hKe
            go_wp2_with (first
              | (refine wpList_load_at rfl 70 _ rfl ⟨go, k * 65, none⟩ rfl cl _ Try.underlying70 rfl (by rw [size_w, LX.out]) L1.out ?_)
              | (refine wpList_load_at rfl 70 _ rfl ⟨wr.heap.size, 0, none⟩ rfl cl _ Try.underlying70 rfl (by rw [size_w, LX.out]) L2.out ?_))
            rw [← HYH.out]
            go_roundw
            case rel => exact ⟨k + 1, HLT.out, by go_num, Lib.hid (by rw [HS.out]; exact DY.out), CY⟩
            case measure => simp [intOf]; have := HLT.out; omega
          · have HS := Lib.hid (show crash ks torn q S (C.take (k + 1)) = put (crash ks torn q S (C.take k)) X.1 X.2 64 by rw [HFL.out]; unfold cstep; rw [if_neg ht, if_pos ⟨by rw [HKL.out]; exact h2, by rw [hx, Option.getD_some, hy]; exact h3⟩])
            have y0 : (y != 0) = true := by simpa using h3
            clear h64 hn hX hfl hbY hlt LA hcl hkc hY ht hx hkx hkb
            subst hKe
            go_wp2_with (first
              | (refine wpList_load_at rfl 70 _ rfl ⟨go, k * 65, none⟩ rfl cl _ Try.underlying70 rfl (by rw [size_w, LX.out]) L1.out ?_)
              | (refine wpList_load_at rfl 70 _ rfl ⟨wr.heap.size, 0, none⟩ rfl cl _ Try.underlying70 rfl (by rw [size_w, LX.out]) L2.out ?_))
            rw [← HYH.out]
            refine (LA2.out 64 (Nat.le_refl _)).mono ?_
            rintro e w1 ⟨rfl, hd, hc⟩
            have H1 := Lib.hid (And.intro hd (CY.out.trans (hc.narrow (Nat.le_trans HC.out.size SY.out))))
            clear hd hc hst hsz hz hzs hze
            clear hkx2 y0 h3
            go_wp2
            go_roundw
            case rel => exact ⟨k + 1, HLT.out, by go_num, Lib.hid (by rw [HS.out]; exact H1.out.1), Lib.hid H1.out.2⟩
            case measure => simp [intOf]; have := HLT.out; omega
        · have HS := Lib.hid (show crash ks torn q S (C.take (k + 1)) = crash ks torn q S (C.take k) by rw [HFL.out]; unfold cstep; rw [if_neg ht, if_neg (by rintro ⟨h, _⟩; rw [HKL.out] at h; exact h2 h)])
          have k2 : ¬ (k : Int) < (kn : Int) := by omega
          clear h64 hn hX hfl hbY hlt LA hcl hkc hY ht
          go_wp2_with (first
            | (refine wpList_load_at rfl 70 _ rfl ⟨go, k * 65, none⟩ rfl cl _ Try.underlying70 rfl (by rw [size_w, LX.out]) L1.out ?_)
            | (refine wpList_load_at rfl 70 _ rfl ⟨wr.heap.size, 0, none⟩ rfl cl _ Try.underlying70 rfl (by rw [size_w, LX.out]) L2.out ?_))
          rw [← HYH.out]
          go_roundw
          case rel => exact ⟨k + 1, HLT.out, by go_num, Lib.hid (by rw [HS.out]; exact DY.out), CY⟩
          case measure => simp [intOf]; have := HLT.out; omega
    · obtain rfl : k = N := by omega
      have e1 : C.take k = C := List.take_of_length_le (by rw [HN.out]; exact Nat.le_refl _)
      rw [e1] at HD
      have g1 := row_c (i := 1) HD.out.hg rfl
      have g2 := row_c (i := 2) HD.out.hg rfl
      have g3 := row_c (i := 3) HD.out.hg rfl
      have z1' := frozen_of_row _ _ 1 _ _ HD.out.hg
      have z2' := frozen_of_row _ _ 2 _ _ HD.out.hg
      have z3' := frozen_of_row _ _ 3 _ _ HD.out.hg
      have HN2 := Lib.hid HD.out.reset
      have HC2 := Lib.hid (HC.out.widen (B := B) (g := g) H0.out.hB)
      clear hlt e1
      go_wp2
      go_end0
      exact ⟨rfl, HN2.out.1, HC2.out.trans HN2.out.2⟩
set_option maxHeartbeats 4000000 in
set_option maxRecDepth 100000 in
theorem crash_p {B g gs : Nat} {v : Value} {S : List (List UInt8)} {C : List Wt} (K : Option Addr) (kc : Nat) (ks : List Int) (torn cut : Int) (w : World) (h : Dk B w g gs v S C) (hC : C.length ≤ 1000000) (hk : Rl nv w K kc ks) (hkn : ks.length ≤ 9223372036854775807) (hK : 0 < ks.length → ∀ b o, K = some ⟨b, o, none⟩ → b ≠ gs) (c0 : -9223372036854775808 ≤ cut) (c1 : cut ≤ 9223372036854775807) (hc : ¬ cut < 0) (q : Nat) (hq : (cut).tmod 65 = (q : Int)) :
    Calls Try.prog 12 #[.pointer (some ⟨g, 0, none⟩), .slice K ks.length kc, .int .i64 torn, .int .i64 cut] w fun e w' => e = .returned (.tuple #[]) ∧ Dk B w' g gs (.slice none 0 0) (crash ks torn q S C) [] ∧ Ch B g gs w w' := by
  obtain ⟨A, c, hv⟩ : ∃ A c, v = .slice A C.length c := own_form h.ho
  subst hv
  have H0 := Lib.hid h
  have q64 : q ≤ 64 := by
    have h1 := Int.tmod_lt_of_pos (cut) (show (0 : Int) < 65 by omega)
    omega
  have fc := row_c (i := 1) h.hg rfl
  have LC := Lib.hid (fun k (hk : k < C.length) => h.c64 _ (List.getElem_mem hk))
  have LN := Lib.hid (fun k (hk : k < C.length) => h.cn _ (List.getElem_mem hk))
  obtain ⟨hz, _⟩ := zero_of_info zero_w
  have hzs : (Value.int .i64 0 :: List.replicate 64 (Value.int .u8 0)).toArray.size = 65 := rfl
  generalize (Value.int .i64 0 :: List.replicate 64 (Value.int .u8 0)).toArray = Z0 at *
  have hze : ¬ Z0 = #[] := fun e => by subst e; simp at hzs
  have HZ := Lib.hid (And.intro hz (And.intro hzs hze))
  obtain ⟨N, hN⟩ : ∃ N, C.length = N := ⟨_, rfl⟩
  have HN := Lib.hid hN
  rw [hN] at fc hC
  obtain ⟨kn, hkl⟩ : ∃ kn, ks.length = kn := ⟨_, rfl⟩
  have HKL := Lib.hid hkl
  rw [hkl]
  rw [hkl] at hkn hK
  have HK := Lib.hid hk
  have HKK := Lib.hid hK
  have Q64 := Lib.hid q64
  have HNB := Lib.hid hC
  have d0 : decide (cut < 0) = false := by simpa using hc
  have HQ := Lib.hid hq
  clear h hN hz hzs hze hk hK hq q64 hkl hc
  go_enter Try.func12, Try.ntmps12
  go_wp2_with fail
  clear d0 fc
  go_loopw [20] (fun kv wr => ∃ k : Nat, k ≤ N ∧ kv = .int .i64 k ∧ Hid (Dk B wr g gs (.slice A C.length c) (crash ks torn q S (C.take k)) C) ∧ Hid (Ch w.heap.size gs gs w wr)) (fun kv _ => N - (intOf kv).toNat)
  case atStart => exact ⟨0, Nat.zero_le _, rfl, H0, Lib.hid (Ch.refl _ _ _ _)⟩
  case round =>
    obtain ⟨k, hk, rfl, HD, HC⟩ := hrel
    by_cases hlt : k < N
    · have hkc : k < C.length := by rw [HN.out]; exact hlt
      obtain ⟨go, cap, hA⟩ := own_some HD.out.ho (by omega)
      injection hA with hA _ hA2
      subst hA hA2
      obtain ⟨X, hX⟩ : ∃ X, C[k] = X := ⟨_, rfl⟩
      have h64 := LC.out k hkc
      have hn := LN.out k hkc
      have hfl := crash_take (ks := ks) (torn := torn) (q := q) (S := S) hkc
      rw [hX] at h64 hn hfl
      have L1 := Lib.hid (fun j v (hj : (wcell X)[j]? = some v) => HD.out.wait hkc j v (by rw [hX]; exact hj))
      have hst := box_write wr X h64 Z0 HZ.out.2.1
      have L2 := Lib.hid (fun j v (hj : (wcell X)[j]? = some v) => show (wr.alloc (.cells (wcell X).toArray 70)).cell? ((⟨wr.heap.size, 0, none⟩ : Addr).add j) = some v by rw [addr_off, Nat.zero_add]; exact row_c (heap_alloc_new wr _) (by simpa using hj))
      obtain ⟨Y, hY⟩ : ∃ Y : World, Y = wr.alloc (.cells (wcell X).toArray 70) := ⟨_, rfl⟩
      have hbY : Below wr.heap.size wr Y := by rw [hY]; exact bda _ _
      have DY := Lib.hid (HD.out.below hbY)
      have CY := Lib.hid (HC.out.trans (Ch.of_below (g := gs) (gs := gs) hbY HC.out.size))
      have LA := Lib.hid (fun q (hq : q ≤ 64) => last_any X.1 X.2 q Y DY.out (by rw [crash_len]; exact hn) h64 hq)
      have HFL := Lib.hid hfl
      have hz := HZ.out.1
      have hzs := HZ.out.2.1
      have hze := HZ.out.2.2
      have LX := Lib.hid (show (wcell X).length = 65 by unfold wcell; rw [List.length_cons, bc_len, h64])
      have hsz : (wcell X).toArray.size = 65 := wcell_size X.1 X.2 h64
      have SY := Lib.hid hbY.size
      have HLT := Lib.hid hlt
      have k0 : (0 : Int) ≤ (k : Int) := by omega
      have k1 : (k : Int) < (N : Int) := by omega
      obtain ⟨cl, hcl⟩ : ∃ cl, wcell X = cl := ⟨_, rfl⟩
      have LA2 : ∀ q1 : Nat, q1 ≤ 64 → Calls Try.prog 31 #[.pointer (some ⟨g, 0, none⟩), .agg cl.toArray, .int .i64 (q1 : Int)] Y fun e w' => e = .returned (.tuple #[]) ∧ Dk B w' g gs (.slice (some ⟨go, 0, none⟩) C.length c) (put (crash ks torn q S (C.take k)) X.1 X.2 q1) C ∧ Ch Y.heap.size gs gs Y w' := by rw [← hcl]; exact LA.out
      have LA2 := Lib.hid LA2
      rw [hcl] at hst hsz hY L1 L2 LX
      have HYH := Lib.hid hY
      by_cases ht : (k : Int) = torn
      · have HS := Lib.hid (show crash ks torn q S (C.take (k + 1)) = put (crash ks torn q S (C.take k)) X.1 X.2 q by rw [HFL.out]; unfold cstep; rw [if_pos ht])
        have t0 : ((k : Int) == torn) = true := by simpa using ht
        have hq := HQ.out
        clear h64 hn hX hfl hbY hlt LA hcl hkc hY
        subst ht
        go_wp2_with (first
          | (refine wpList_load_at rfl 70 _ rfl ⟨go, k * 65, none⟩ rfl cl _ Try.underlying70 rfl (by rw [size_w, LX.out]) L1.out ?_)
          | (refine wpList_load_at rfl 70 _ rfl ⟨wr.heap.size, 0, none⟩ rfl cl _ Try.underlying70 rfl (by rw [size_w, LX.out]) L2.out ?_))
        rw [← HYH.out]
        clear hq
        refine (LA2.out q Q64.out).mono ?_
        rintro e w1 ⟨rfl, hd, hc⟩
        have H1 := Lib.hid (And.intro hd (CY.out.trans (hc.narrow (Nat.le_trans HC.out.size SY.out))))
        clear hd hc hst hsz hz hzs hze
        go_wp2
        go_roundw
        case rel => exact ⟨k + 1, HLT.out, by go_num, Lib.hid (by rw [HS.out]; exact H1.out.1), Lib.hid H1.out.2⟩
        case measure => simp [intOf]; have := HLT.out; omega
      · have t0 : ((k : Int) == torn) = false := by simpa using ht
        by_cases h2 : k < kn
        · obtain ⟨x, hx⟩ : ∃ x, ks[k]? = some x := ⟨_, List.getElem?_eq_getElem (by rw [HKL.out]; exact h2)⟩
          obtain ⟨kb, ko, hKe, hkb, hkx⟩ := HK.out.cell hx
          have hkx2 : (wr.alloc (.cells cl.toArray 70)).cell? ⟨kb, ko + k, none⟩ = some (nv x) := by
            rw [← HYH.out]
            exact (World.cell?_of_block (w := wr) (a := ⟨kb, ko + k, none⟩) (hbY.block kb (Nat.lt_of_lt_of_le hkb HC.out.size))).trans ((World.cell?_of_block (w := w) (a := ⟨kb, ko + k, none⟩) (HC.out.block kb hkb (HKK.out (by omega) _ _ hKe) (HKK.out (by omega) _ _ hKe))).trans hkx)
          obtain ⟨y, hy⟩ : ∃ y, x.tmod 2 = y := ⟨_, rfl⟩
          unfold nv at hkx2
          have k2 : (k : Int) < (kn : Int) := by omega
          by_cases h3 : y = 0
          · have HS := Lib.hid (show crash ks torn q S (C.take (k + 1)) = crash ks torn q S (C.take k) by rw [HFL.out]; unfold cstep; rw [if_neg ht, if_neg (by rintro ⟨_, h⟩; rw [hx, Option.getD_some, hy] at h; exact h h3)])
            subst h3
            clear h64 hn hX hfl hbY hlt LA hcl hkc hY ht hx hkx hkb
            subst hKe
            go_wp2_with (first
              | (refine wpList_load_at rfl 70 _ rfl ⟨go, k * 65, none⟩ rfl cl _ Try.underlying70 rfl (by rw [size_w, LX.out]) L1.out ?_)
              | (refine wpList_load_at rfl 70 _ rfl ⟨wr.heap.size, 0, none⟩ rfl cl _ Try.underlying70 rfl (by rw [size_w, LX.out]) L2.out ?_))
            rw [← HYH.out]
            go_roundw
            case rel => exact ⟨k + 1, HLT.out, by go_num, Lib.hid (by rw [HS.out]; exact DY.out), CY⟩
            case measure => simp [intOf]; have := HLT.out; omega
          · have HS := Lib.hid (show crash ks torn q S (C.take (k + 1)) = put (crash ks torn q S (C.take k)) X.1 X.2 64 by rw [HFL.out]; unfold cstep; rw [if_neg ht, if_pos ⟨by rw [HKL.out]; exact h2, by rw [hx, Option.getD_some, hy]; exact h3⟩])
            have y0 : (y != 0) = true := by simpa using h3
            clear h64 hn hX hfl hbY hlt LA hcl hkc hY ht hx hkx hkb
            subst hKe
            go_wp2_with (first
              | (refine wpList_load_at rfl 70 _ rfl ⟨go, k * 65, none⟩ rfl cl _ Try.underlying70 rfl (by rw [size_w, LX.out]) L1.out ?_)
              | (refine wpList_load_at rfl 70 _ rfl ⟨wr.heap.size, 0, none⟩ rfl cl _ Try.underlying70 rfl (by rw [size_w, LX.out]) L2.out ?_))
            rw [← HYH.out]
            refine (LA2.out 64 (Nat.le_refl _)).mono ?_
            rintro e w1 ⟨rfl, hd, hc⟩
            have H1 := Lib.hid (And.intro hd (CY.out.trans (hc.narrow (Nat.le_trans HC.out.size SY.out))))
            clear hd hc hst hsz hz hzs hze
            clear hkx2 y0 h3
            go_wp2
            go_roundw
            case rel => exact ⟨k + 1, HLT.out, by go_num, Lib.hid (by rw [HS.out]; exact H1.out.1), Lib.hid H1.out.2⟩
            case measure => simp [intOf]; have := HLT.out; omega
        · have HS := Lib.hid (show crash ks torn q S (C.take (k + 1)) = crash ks torn q S (C.take k) by rw [HFL.out]; unfold cstep; rw [if_neg ht, if_neg (by rintro ⟨h, _⟩; rw [HKL.out] at h; exact h2 h)])
          have k2 : ¬ (k : Int) < (kn : Int) := by omega
          clear h64 hn hX hfl hbY hlt LA hcl hkc hY ht
          go_wp2_with (first
            | (refine wpList_load_at rfl 70 _ rfl ⟨go, k * 65, none⟩ rfl cl _ Try.underlying70 rfl (by rw [size_w, LX.out]) L1.out ?_)
            | (refine wpList_load_at rfl 70 _ rfl ⟨wr.heap.size, 0, none⟩ rfl cl _ Try.underlying70 rfl (by rw [size_w, LX.out]) L2.out ?_))
          rw [← HYH.out]
          go_roundw
          case rel => exact ⟨k + 1, HLT.out, by go_num, Lib.hid (by rw [HS.out]; exact DY.out), CY⟩
          case measure => simp [intOf]; have := HLT.out; omega
    · obtain rfl : k = N := by omega
      have e1 : C.take k = C := List.take_of_length_le (by rw [HN.out]; exact Nat.le_refl _)
      rw [e1] at HD
      have g1 := row_c (i := 1) HD.out.hg rfl
      have g2 := row_c (i := 2) HD.out.hg rfl
      have g3 := row_c (i := 3) HD.out.hg rfl
      have z1' := frozen_of_row _ _ 1 _ _ HD.out.hg
      have z2' := frozen_of_row _ _ 2 _ _ HD.out.hg
      have z3' := frozen_of_row _ _ 3 _ _ HD.out.hg
      have HN2 := Lib.hid HD.out.reset
      have HC2 := Lib.hid (HC.out.widen (B := B) (g := g) H0.out.hB)
      clear hlt e1
      go_wp2
      go_end0
      exact ⟨rfl, HN2.out.1, HC2.out.trans HN2.out.2⟩
end Go.Proofs.Ytnpopbobpbbamaa
