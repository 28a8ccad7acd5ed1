/-
  lay, slices.Clone, the law's few.
-/
import Derived.Test.YtkbdcbcjbgbglaaNj
import Derived.Lib.SliceRun
namespace Go.Proofs.Ytkbdcbcjbgbglaa
open Go.RowKit
set_option linter.unusedVariables false
theorem make_run {T e : TypeId} (hT : ET T e) (N : Nat) (hN : N ≤ 8000001) : ∃ CS : List Value, CS.length = N ∧ ∀ W : World, (Instr.makeSlice T (.int .i64 (N : Int)) (.int .i64 (N : Int))).run Try.prog W = .ok (.slice (some ⟨W.heap.size, 0, none⟩) N N) (W.alloc (.cells CS.toArray e)) := by
  obtain ⟨hu, i0, z, b, hi, hz0, hz1, hz2, hb16, hzc⟩ := hT
  refine ⟨(madeCells z.cells N).toList, by simp [size_madeCells], fun W => ?_⟩
  have hbb : b * N ≤ 16 * 8000001 := Nat.mul_le_mul hb16 hN
  have := run_make (P := Try.prog) W T e i0 z hu hi hz0 .i64 .i64 (N : Int) (N : Int) (by omega) (Int.le_refl _) (by rw [hz2]; rw [← Int.natCast_mul]; omega) (by omega)
  simp only [Int.toNat_natCast, hz1, Nat.mul_one] at this
  rw [this]
theorem cut_own {T e : TypeId} (hT : ET T e) (g N k : Nat) (hk : k ≤ N) : ∃ D, (∀ W : World, (Instr.slice T (.slice (some ⟨g, 0, none⟩) N N) (some (.int .i64 (k : Int))) none none).run Try.prog W = .ok (.slice D (N - k) (N - k)) W) ∧ (k < N → D = some ⟨g, k, none⟩) := by
  obtain ⟨hu, i0, z, b, hi, hz0, hz1, hz2, hb16, hzc⟩ := hT
  refine ⟨if N = k then some ⟨g, 0, none⟩ else some ((⟨g, 0, none⟩ : Addr).add k), fun W => ?_, fun h => by rw [if_neg (by omega), Addr.add_lit, Nat.zero_add]⟩
  have h2 : (k : Int) ≤ (N : Int) := by omega
  by_cases h0 : N = k
  · subst h0
    simp [Instr.slice, Instr.sliceBounds, run_underlying hu, go_sem, sizeOf, typeInfo, hi]
  · simp [Instr.slice, Instr.sliceBounds, run_underlying hu, go_sem, h2, h0, sizeOf, typeInfo, hi, hz1]
theorem copy_run {T e ty : TypeId} (hu : Try.prog.underlying T = some (.slice e)) (hsz : (Try.prog.info? e).map (·.size) = some 1) {w : World} (dp sp : Option Addr) (dLen dCap sLen sCap : Nat)
    (g off : Nat) (cur : List Value) (t : TypeId) (hg : w.heap[g]? = some (.cells cur.toArray t (0, 0))) (cs : List Value) (hn : cs.length = Nat.min sLen dLen)
    (hpos : 0 < cs.length → dp = some ⟨g, off, none⟩ ∧ ∃ ad, sp = some ad ∧ ∀ j v, cs[j]? = some v → w.cell? (ad.add j) = some v)
    (hfit : off + cs.length ≤ cur.length) (h1 : ∀ v ∈ cs, v.oneCell' = true) (B : Nat) (w0 : World) (hb : Below B w0 w) (hBg : B ≤ g) :
    ∃ w', (Builtin.copy_ #[T, T] ty #[.slice dp dLen dCap, .slice sp sLen sCap]).run Try.prog w = .ok (goInt cs.length) w' ∧ w'.heap[g]? = some (.cells (splice cur off cs).toArray t (0, 0)) ∧ Below B w0 w' := by
  by_cases h0 : cs.length = 0
  · obtain rfl : cs = [] := List.eq_nil_of_length_eq_zero h0
    exact ⟨w, run_copy_none (P := Try.prog) w T T ty e dp sp dLen dCap sLen sCap hu hsz (by simpa using hn.symm), by simpa [splice] using hg, hb⟩
  · obtain ⟨rfl, ad, rfl, hsrc⟩ := hpos (by omega)
    exact ⟨_, run_copy_row (P := Try.prog) w T T ty e g off dLen dCap ad sLen sCap cur.toArray t cs hu hsz hg hn hsrc (by simpa using hfit) h1, by simpa [splice] using setRow_heap w g _ _ t _ hg, below_setRow hb hBg _⟩
theorem rl_src {α : Type} {g : α → Value} {w : World} {A : Option Addr} {c : Nat} {xs : List α} (h : Rl g w A c xs) (h0 : 0 < (xs.map g).length) : ∃ ad, A = some ad ∧ ∀ j v, (xs.map g)[j]? = some v → w.cell? (ad.add j) = some v := by
  rw [List.length_map] at h0
  obtain ⟨b, off, e, _, hc⟩ := h.2 h0
  refine ⟨⟨b, off, none⟩, e, fun j v hj => ?_⟩
  rw [List.getElem?_map] at hj
  obtain ⟨x, hx, rfl⟩ := Option.map_eq_some_iff.1 hj
  rw [Addr.add_lit]
  exact hc j x hx
theorem map_one {α : Type} {g : α → Value} (hg : ∀ x, (g x).oneCell' = true) (xs : List α) : ∀ v ∈ xs.map g, v.oneCell' = true := by
  intro v hv
  obtain ⟨x, _, rfl⟩ := List.mem_map.1 hv
  exact hg x
set_option maxHeartbeats 4000000 in
set_option maxRecDepth 100000 in
theorem lay_s (A : Option Addr) (c : Nat) (xs : List (List UInt8)) (i many : Nat) (B : Option Addr) (d : Nat) (ys : List (List UInt8)) (w : World) (h : Rl sv w A c xs) (h2 : Rl sv w B d ys) (hi : i + many ≤ xs.length) (hl : xs.length ≤ 4000001) (hl2 : ys.length ≤ 4000000) :
    Calls Try.prog 41 #[.slice A xs.length c, .int .i64 i, .int .i64 many, .slice B ys.length d] w fun e w' => ∃ A' c', e = .returned (.slice A' (xs.take i ++ ys ++ xs.drop (i + many)).length c') ∧ Rl sv w' A' c' (xs.take i ++ ys ++ xs.drop (i + many)) ∧ Below w.heap.size w w' ∧ Fr w.heap.size A' := by
  obtain ⟨N, hN⟩ : ∃ N, xs.length - many + ys.length = N := ⟨_, rfl⟩
  obtain ⟨M, hM⟩ : ∃ M, xs.length - many = M := ⟨_, rfl⟩
  obtain ⟨I2, hI2⟩ : ∃ M, i + ys.length = M := ⟨_, rfl⟩
  obtain ⟨I3, hI3⟩ : ∃ M, i + many = M := ⟨_, rfl⟩
  have q1 : (xs.length : Int) - (many : Int) = (M : Int) := by omega
  have q2 : (M : Int) + (ys.length : Int) = (N : Int) := by omega
  have q3 : (i : Int) + (ys.length : Int) = (I2 : Int) := by omega
  have q4 : (i : Int) + (many : Int) = (I3 : Int) := by omega
  have q5 : IntKind.i64.wrap (M : Int) = (M : Int) := IntWalk.i64_in _ (by omega)
  have q6 : IntKind.i64.wrap (N : Int) = (N : Int) := IntWalk.i64_in _ (by omega)
  have q7 : IntKind.i64.wrap (I2 : Int) = (I2 : Int) := IntWalk.i64_in _ (by omega)
  have q8 : IntKind.i64.wrap (I3 : Int) = (I3 : Int) := IntWalk.i64_in _ (by omega)
  have FIN := Lib.hid (show (xs.take i ++ ys ++ xs.drop (i + many)).length = N by rw [List.length_append, List.length_append, List.length_take, List.length_drop]; omega)
  obtain ⟨zs, hzs⟩ : ∃ zs, xs.take i ++ ys ++ xs.drop (i + many) = zs := ⟨_, rfl⟩
  rw [hzs] at FIN ⊢
  have HZ := Lib.hid hzs
  obtain ⟨CS, hcs, hmk⟩ := make_run et_s N (by omega)
  obtain ⟨A1, c1, hc1, hr1⟩ := cut_to et_s (g := sv) A c xs i (by omega) h.1
  obtain ⟨A3, c3, hc3, hr3⟩ := cut_from et_s (g := sv) A c xs I3 (by omega) h.1
  obtain ⟨D1, hd1, hp1⟩ := cut_own et_s w.heap.size N i (by omega)
  obtain ⟨D2, hd2, hp2⟩ := cut_own et_s w.heap.size N I2 (by omega)
  have R1 := Lib.hid (hr1 w h)
  have R2 := Lib.hid h2
  have R3 := Lib.hid (hr3 w h)
  have P1 := Lib.hid hp1
  have P2 := Lib.hid hp2
  obtain ⟨X1, hX1⟩ : ∃ X, X = (xs.take i).map sv := ⟨_, rfl⟩
  obtain ⟨Y, hY⟩ : ∃ X, X = ys.map sv := ⟨_, rfl⟩
  obtain ⟨X2, hX2⟩ : ∃ X, X = (xs.drop I3).map sv := ⟨_, rfl⟩
  have l1 := Lib.hid (show X1.length = i by rw [hX1, List.length_map, List.length_take]; omega)
  have l2 := Lib.hid (show Y.length = ys.length by rw [hY, List.length_map])
  have l3 := Lib.hid (show X2.length = xs.length - I3 by rw [hX2, List.length_map, List.length_drop])
  have S1 := Lib.hid (fun (W : World) (hb : Below w.heap.size w W) (h0 : 0 < X1.length) => show ∃ ad, A1 = some ad ∧ ∀ j v, X1[j]? = some v → W.cell? (ad.add j) = some v by rw [hX1] at h0 ⊢; exact rl_src (R1.out.below hb) h0)
  have S2 := Lib.hid (fun (W : World) (hb : Below w.heap.size w W) (h0 : 0 < Y.length) => show ∃ ad, B = some ad ∧ ∀ j v, Y[j]? = some v → W.cell? (ad.add j) = some v by rw [hY] at h0 ⊢; exact rl_src (R2.out.below hb) h0)
  have S3 := Lib.hid (fun (W : World) (hb : Below w.heap.size w W) (h0 : 0 < X2.length) => show ∃ ad, A3 = some ad ∧ ∀ j v, X2[j]? = some v → W.cell? (ad.add j) = some v by rw [hX2] at h0 ⊢; exact rl_src (R3.out.below hb) h0)
  have O1 := Lib.hid (show ∀ v ∈ X1, v.oneCell' = true by rw [hX1]; exact map_one sv_one _)
  have O2 := Lib.hid (show ∀ v ∈ Y, v.oneCell' = true by rw [hY]; exact map_one sv_one _)
  have O3 := Lib.hid (show ∀ v ∈ X2, v.oneCell' = true by rw [hX2]; exact map_one sv_one _)
  have EQ := Lib.hid (show X1 ++ (Y ++ X2) = zs.map sv by rw [hX1, hY, hX2, ← hzs, hI3]; simp)
  have NB := Lib.hid (show N = xs.length - many + ys.length ∧ i + ys.length = I2 ∧ i + many = I3 ∧ I3 ≤ xs.length ∧ CS.length = N by omega)
  have a1 : (i : Int) ≤ (xs.length : Int) := by omega
  have a2 : (I2 : Int) ≤ (N : Int) := by omega
  have HSZ := Lib.hid (heap_alloc_new w (.cells CS.toArray 9))
  clear h h2 hzs hr1 hr3 hp1 hp2 hX1 hY hX2 hN hM hI2 hI3 hcs
  go_enter Try.func41, Try.ntmps41
  go_wp2_with (refine wpList_copy_splice rfl _ _ 22 22 rfl 9 Try.underlying22 size_s _ _ _ _ _ _ rfl rfl w.heap.size 0 CS 9 HSZ.out X1 (by rw [l1.out]; have := NB.out; exact (Nat.min_eq_left (by omega)).symm) (fun h0 => ⟨rfl, S1.out _ (bda _ _) h0⟩) (by rw [l1.out]; have := NB.out; omega) O1.out w.heap.size w (bda _ _) (Nat.le_refl _) ?_; intro W2 HG2 hB2)
  have HB2 := Lib.hid hB2
  have SL2 := Lib.hid (show (splice CS 0 X1).length = N by have := NB.out; rw [length_splice _ _ _ (by rw [l1.out]; omega)]; omega)
  clear hB2
  have N1 := Lib.hid (show Y.length = Nat.min ys.length (N - i) by rw [l2.out]; have := NB.out; exact (Nat.min_eq_left (by omega)).symm)
  have H1 := Lib.hid (show 0 < Y.length → D1 = some ⟨w.heap.size, i, none⟩ ∧ ∃ ad, B = some ad ∧ ∀ j v, Y[j]? = some v → W2.cell? (ad.add j) = some v from fun h0 => ⟨P1.out (by rw [l2.out] at h0; have := NB.out; omega), S2.out _ HB2.out h0⟩)
  have F1 := Lib.hid (show i + Y.length ≤ (splice CS 0 X1).length by rw [l2.out, SL2.out]; have := NB.out; omega)
  obtain ⟨W3, hrun, hg3, hB3⟩ := copy_run (ty := 3) Try.underlying22 size_s D1 B (N - i) (N - i) ys.length d w.heap.size i (splice CS 0 X1) 9 HG2.out Y N1.out H1.out F1.out O2.out w.heap.size w HB2.out (Nat.le_refl _)
  have HG3 := Lib.hid hg3
  have HB3 := Lib.hid hB3
  clear hg3
  have SL3 := Lib.hid (show (splice (splice CS 0 X1) i Y).length = N by have := NB.out; rw [length_splice _ _ _ (by rw [l2.out, SL2.out]; omega)]; exact SL2.out)
  clear hB3
  go_wp2_with fail
  rw [hrun]
  go_upto_region 4 with (fail)
  clear hrun
  refine wp_region_still_tail 11 (by kernel_rfl) (by kernel_rfl) ?_
  simp only [List.take_succ_cons, List.take_zero, List.drop_succ_cons, List.drop_zero]
  repeat still_step
  refine wpStill_nil ?_
  change wpList _ _ _ _ _ W3.drew
  obtain ⟨W4, hrun, hg4, hB4⟩ := copy_run (ty := 3) Try.underlying22 size_s (w := W3.drew) D2 A3 (N - I2) (N - I2) (xs.length - I3) c3 w.heap.size I2 (splice (splice CS 0 X1) i Y) 9 HG3.out X2 (by rw [l3.out]; have := NB.out; exact (Nat.min_eq_left (by omega)).symm) (fun h0 => ⟨P2.out (by rw [l3.out] at h0; have := NB.out; omega), S3.out _ (below_drew HB3.out) h0⟩) (by rw [l3.out, SL3.out]; have := NB.out; omega) O3.out w.heap.size w (below_drew HB3.out) (Nat.le_refl _)
  have HG4 := Lib.hid hg4
  have HB4 := Lib.hid hB4
  clear hg4
  have RW := Lib.hid (show W4.heap[w.heap.size]? = some (.cells (zs.map sv).toArray 9 (0, 0)) by
    have h := HG4.out
    rw [show I2 = i + ys.length from NB.out.2.1.symm, splice_splice_splice CS X1 Y X2 i ys.length l1.out l2.out (by rw [l3.out]; have := NB.out; omega), EQ.out] at h
    exact h)
  clear hB4
  go_wp2
  go_ret
  exact ⟨some ⟨w.heap.size, 0, none⟩, N, by rw [FIN.out]; rfl, rl_of_row RW.out N (Nat.le_of_eq FIN.out), HB4.out, fun b o e => by injection e with e; injection e with e1; omega⟩
set_option maxHeartbeats 4000000 in
set_option maxRecDepth 100000 in
theorem lay_i (A : Option Addr) (c : Nat) (xs : List (Int)) (i many : Nat) (B : Option Addr) (d : Nat) (ys : List (Int)) (w : World) (h : Rl nv w A c xs) (h2 : Rl nv w B d ys) (hi : i + many ≤ xs.length) (hl : xs.length ≤ 4000001) (hl2 : ys.length ≤ 4000000) :
    Calls Try.prog 42 #[.slice A xs.length c, .int .i64 i, .int .i64 many, .slice B ys.length d] w fun e w' => ∃ A' c', e = .returned (.slice A' (xs.take i ++ ys ++ xs.drop (i + many)).length c') ∧ Rl nv w' A' c' (xs.take i ++ ys ++ xs.drop (i + many)) ∧ Below w.heap.size w w' ∧ Fr w.heap.size A' := by
  obtain ⟨N, hN⟩ : ∃ N, xs.length - many + ys.length = N := ⟨_, rfl⟩
  obtain ⟨M, hM⟩ : ∃ M, xs.length - many = M := ⟨_, rfl⟩
  obtain ⟨I2, hI2⟩ : ∃ M, i + ys.length = M := ⟨_, rfl⟩
  obtain ⟨I3, hI3⟩ : ∃ M, i + many = M := ⟨_, rfl⟩
  have q1 : (xs.length : Int) - (many : Int) = (M : Int) := by omega
  have q2 : (M : Int) + (ys.length : Int) = (N : Int) := by omega
  have q3 : (i : Int) + (ys.length : Int) = (I2 : Int) := by omega
  have q4 : (i : Int) + (many : Int) = (I3 : Int) := by omega
  have q5 : IntKind.i64.wrap (M : Int) = (M : Int) := IntWalk.i64_in _ (by omega)
  have q6 : IntKind.i64.wrap (N : Int) = (N : Int) := IntWalk.i64_in _ (by omega)
  have q7 : IntKind.i64.wrap (I2 : Int) = (I2 : Int) := IntWalk.i64_in _ (by omega)
  have q8 : IntKind.i64.wrap (I3 : Int) = (I3 : Int) := IntWalk.i64_in _ (by omega)
  have FIN := Lib.hid (show (xs.take i ++ ys ++ xs.drop (i + many)).length = N by rw [List.length_append, List.length_append, List.length_take, List.length_drop]; omega)
  obtain ⟨zs, hzs⟩ : ∃ zs, xs.take i ++ ys ++ xs.drop (i + many) = zs := ⟨_, rfl⟩
  rw [hzs] at FIN ⊢
  have HZ := Lib.hid hzs
  obtain ⟨CS, hcs, hmk⟩ := make_run et_i N (by omega)
  obtain ⟨A1, c1, hc1, hr1⟩ := cut_to et_i (g := nv) A c xs i (by omega) h.1
  obtain ⟨A3, c3, hc3, hr3⟩ := cut_from et_i (g := nv) A c xs I3 (by omega) h.1
  obtain ⟨D1, hd1, hp1⟩ := cut_own et_i w.heap.size N i (by omega)
  obtain ⟨D2, hd2, hp2⟩ := cut_own et_i w.heap.size N I2 (by omega)
  have R1 := Lib.hid (hr1 w h)
  have R2 := Lib.hid h2
  have R3 := Lib.hid (hr3 w h)
  have P1 := Lib.hid hp1
  have P2 := Lib.hid hp2
  obtain ⟨X1, hX1⟩ : ∃ X, X = (xs.take i).map nv := ⟨_, rfl⟩
  obtain ⟨Y, hY⟩ : ∃ X, X = ys.map nv := ⟨_, rfl⟩
  obtain ⟨X2, hX2⟩ : ∃ X, X = (xs.drop I3).map nv := ⟨_, rfl⟩
  have l1 := Lib.hid (show X1.length = i by rw [hX1, List.length_map, List.length_take]; omega)
  have l2 := Lib.hid (show Y.length = ys.length by rw [hY, List.length_map])
  have l3 := Lib.hid (show X2.length = xs.length - I3 by rw [hX2, List.length_map, List.length_drop])
  have S1 := Lib.hid (fun (W : World) (hb : Below w.heap.size w W) (h0 : 0 < X1.length) => show ∃ ad, A1 = some ad ∧ ∀ j v, X1[j]? = some v → W.cell? (ad.add j) = some v by rw [hX1] at h0 ⊢; exact rl_src (R1.out.below hb) h0)
  have S2 := Lib.hid (fun (W : World) (hb : Below w.heap.size w W) (h0 : 0 < Y.length) => show ∃ ad, B = some ad ∧ ∀ j v, Y[j]? = some v → W.cell? (ad.add j) = some v by rw [hY] at h0 ⊢; exact rl_src (R2.out.below hb) h0)
  have S3 := Lib.hid (fun (W : World) (hb : Below w.heap.size w W) (h0 : 0 < X2.length) => show ∃ ad, A3 = some ad ∧ ∀ j v, X2[j]? = some v → W.cell? (ad.add j) = some v by rw [hX2] at h0 ⊢; exact rl_src (R3.out.below hb) h0)
  have O1 := Lib.hid (show ∀ v ∈ X1, v.oneCell' = true by rw [hX1]; exact map_one nv_one _)
  have O2 := Lib.hid (show ∀ v ∈ Y, v.oneCell' = true by rw [hY]; exact map_one nv_one _)
  have O3 := Lib.hid (show ∀ v ∈ X2, v.oneCell' = true by rw [hX2]; exact map_one nv_one _)
  have EQ := Lib.hid (show X1 ++ (Y ++ X2) = zs.map nv by rw [hX1, hY, hX2, ← hzs, hI3]; simp)
  have NB := Lib.hid (show N = xs.length - many + ys.length ∧ i + ys.length = I2 ∧ i + many = I3 ∧ I3 ≤ xs.length ∧ CS.length = N by omega)
  have a1 : (i : Int) ≤ (xs.length : Int) := by omega
  have a2 : (I2 : Int) ≤ (N : Int) := by omega
  have HSZ := Lib.hid (heap_alloc_new w (.cells CS.toArray 3))
  clear h h2 hzs hr1 hr3 hp1 hp2 hX1 hY hX2 hN hM hI2 hI3 hcs
  go_enter Try.func42, Try.ntmps42
  go_wp2_with (refine wpList_copy_splice rfl _ _ 23 23 rfl 3 Try.underlying23 size_i _ _ _ _ _ _ rfl rfl w.heap.size 0 CS 3 HSZ.out X1 (by rw [l1.out]; have := NB.out; exact (Nat.min_eq_left (by omega)).symm) (fun h0 => ⟨rfl, S1.out _ (bda _ _) h0⟩) (by rw [l1.out]; have := NB.out; omega) O1.out w.heap.size w (bda _ _) (Nat.le_refl _) ?_; intro W2 HG2 hB2)
  have HB2 := Lib.hid hB2
  have SL2 := Lib.hid (show (splice CS 0 X1).length = N by have := NB.out; rw [length_splice _ _ _ (by rw [l1.out]; omega)]; omega)
  clear hB2
  have N1 := Lib.hid (show Y.length = Nat.min ys.length (N - i) by rw [l2.out]; have := NB.out; exact (Nat.min_eq_left (by omega)).symm)
  have H1 := Lib.hid (show 0 < Y.length → D1 = some ⟨w.heap.size, i, none⟩ ∧ ∃ ad, B = some ad ∧ ∀ j v, Y[j]? = some v → W2.cell? (ad.add j) = some v from fun h0 => ⟨P1.out (by rw [l2.out] at h0; have := NB.out; omega), S2.out _ HB2.out h0⟩)
  have F1 := Lib.hid (show i + Y.length ≤ (splice CS 0 X1).length by rw [l2.out, SL2.out]; have := NB.out; omega)
  obtain ⟨W3, hrun, hg3, hB3⟩ := copy_run (ty := 3) Try.underlying23 size_i D1 B (N - i) (N - i) ys.length d w.heap.size i (splice CS 0 X1) 3 HG2.out Y N1.out H1.out F1.out O2.out w.heap.size w HB2.out (Nat.le_refl _)
  have HG3 := Lib.hid hg3
  have HB3 := Lib.hid hB3
  clear hg3
  have SL3 := Lib.hid (show (splice (splice CS 0 X1) i Y).length = N by have := NB.out; rw [length_splice _ _ _ (by rw [l2.out, SL2.out]; omega)]; exact SL2.out)
  clear hB3
  go_wp2_with fail
  rw [hrun]
  go_upto_region 4 with (fail)
  clear hrun
  refine wp_region_still_tail 11 (by kernel_rfl) (by kernel_rfl) ?_
  simp only [List.take_succ_cons, List.take_zero, List.drop_succ_cons, List.drop_zero]
  repeat still_step
  refine wpStill_nil ?_
  change wpList _ _ _ _ _ W3.drew
  obtain ⟨W4, hrun, hg4, hB4⟩ := copy_run (ty := 3) Try.underlying23 size_i (w := W3.drew) D2 A3 (N - I2) (N - I2) (xs.length - I3) c3 w.heap.size I2 (splice (splice CS 0 X1) i Y) 3 HG3.out X2 (by rw [l3.out]; have := NB.out; exact (Nat.min_eq_left (by omega)).symm) (fun h0 => ⟨P2.out (by rw [l3.out] at h0; have := NB.out; omega), S3.out _ (below_drew HB3.out) h0⟩) (by rw [l3.out, SL3.out]; have := NB.out; omega) O3.out w.heap.size w (below_drew HB3.out) (Nat.le_refl _)
  have HG4 := Lib.hid hg4
  have HB4 := Lib.hid hB4
  clear hg4
  have RW := Lib.hid (show W4.heap[w.heap.size]? = some (.cells (zs.map nv).toArray 3 (0, 0)) by
    have h := HG4.out
    rw [show I2 = i + ys.length from NB.out.2.1.symm, splice_splice_splice CS X1 Y X2 i ys.length l1.out l2.out (by rw [l3.out]; have := NB.out; omega), EQ.out] at h
    exact h)
  clear hB4
  go_wp2
  go_ret
  exact ⟨some ⟨w.heap.size, 0, none⟩, N, by rw [FIN.out]; rfl, rl_of_row RW.out N (Nat.le_of_eq FIN.out), HB4.out, fun b o e => by injection e with e; injection e with e1; omega⟩
set_option maxHeartbeats 4000000 in
set_option maxRecDepth 100000 in
theorem clone_s (A : Option Addr) (c : Nat) (xs : List (List UInt8)) (w : World) (h : Rl sv w A c xs) (hl : xs.length ≤ 4000000) :
    Calls Try.prog 43 #[.slice A xs.length c] w fun e w' => ∃ A' c', e = .returned (.slice A' xs.length c') ∧ Rl sv w' A' c' xs ∧ Below w.heap.size w w' ∧ Fr w.heap.size A' := by
  have H := Lib.hid h
  have hc := h.1
  have heq := fun W => Lib.run_eql_slice_nil (P := Try.prog) W 22 9 A xs.length c 0 0 Try.underlying22
  cases hA : A with
  | none =>
    have h0 : xs = [] := by
      rcases Nat.eq_zero_or_pos xs.length with h0 | h0
      · exact List.eq_nil_of_length_eq_zero h0
      · obtain ⟨b, off, e, _⟩ := h.2 h0
        rw [hA] at e; cases e
    subst h0
    rw [hA] at heq
    simp only [Option.isNone_none, List.length_nil] at heq
    clear h H hA hc
    simp only [List.length_nil]
    go_enter Try.func43, Try.ntmps43
    go_wp2
    go_ret
    exact ⟨none, 0, rfl, Rl.nil_ _ _ _ _, Below.refl _ _, fun _ _ h => by cases h⟩
  | some a =>
    rw [hA] at heq
    simp only [Option.isNone_some] at heq
    subst hA
    clear h
    have OW := Lib.hid (World.ownsRow_made (e := 9) (base := w.heap.size) (size := 1) w #[] 0 (Nat.le_refl _) (by unfold maxLen; omega) rfl)
    have HX := Lib.hid (H.out.below (bda w (.cells #[] 9)))
    go_enter Try.func43, Try.ntmps43
    go_wp2_with (at_builtin; refine wpList_append_rl sv_one et_s rfl _ _ rfl w.heap.size _ 0 [] xs (some a) c _ rfl OW.out HX.out rfl rfl (by omega) (by simp) ?_)
    intro v' w2 hown hgrow
    obtain ⟨A3, c3, hv, hV, hF⟩ := rl_of_own hown
    have K2 := Lib.hid (show Below w.heap.size w w2 from (bda w _).grown hgrow (by simp) (fun k hk => (OW.out.lt k hk).1))
    have V2 := Lib.hid hV
    have F2 := Lib.hid hF
    subst hv
    clear hown hgrow hV hF
    go_wp2
    go_ret
    exact ⟨A3, c3, rfl, V2.out, K2.out, F2.out⟩
set_option maxHeartbeats 4000000 in
set_option maxRecDepth 100000 in
theorem clone_i (A : Option Addr) (c : Nat) (xs : List (Int)) (w : World) (h : Rl nv w A c xs) (hl : xs.length ≤ 4000000) :
    Calls Try.prog 44 #[.slice A xs.length c] w fun e w' => ∃ A' c', e = .returned (.slice A' xs.length c') ∧ Rl nv w' A' c' xs ∧ Below w.heap.size w w' ∧ Fr w.heap.size A' := by
  have H := Lib.hid h
  have hc := h.1
  have heq := fun W => Lib.run_eql_slice_nil (P := Try.prog) W 23 3 A xs.length c 0 0 Try.underlying23
  cases hA : A with
  | none =>
    have h0 : xs = [] := by
      rcases Nat.eq_zero_or_pos xs.length with h0 | h0
      · exact List.eq_nil_of_length_eq_zero h0
      · obtain ⟨b, off, e, _⟩ := h.2 h0
        rw [hA] at e; cases e
    subst h0
    rw [hA] at heq
    simp only [Option.isNone_none, List.length_nil] at heq
    clear h H hA hc
    simp only [List.length_nil]
    go_enter Try.func44, Try.ntmps44
    go_wp2
    go_ret
    exact ⟨none, 0, rfl, Rl.nil_ _ _ _ _, Below.refl _ _, fun _ _ h => by cases h⟩
  | some a =>
    rw [hA] at heq
    simp only [Option.isNone_some] at heq
    subst hA
    clear h
    have OW := Lib.hid (World.ownsRow_made (e := 3) (base := w.heap.size) (size := 1) w #[] 0 (Nat.le_refl _) (by unfold maxLen; omega) rfl)
    have HX := Lib.hid (H.out.below (bda w (.cells #[] 3)))
    go_enter Try.func44, Try.ntmps44
    go_wp2_with (at_builtin; refine wpList_append_rl nv_one et_i rfl _ _ rfl w.heap.size _ 0 [] xs (some a) c _ rfl OW.out HX.out rfl rfl (by omega) (by simp) ?_)
    intro v' w2 hown hgrow
    obtain ⟨A3, c3, hv, hV, hF⟩ := rl_of_own hown
    have K2 := Lib.hid (show Below w.heap.size w w2 from (bda w _).grown hgrow (by simp) (fun k hk => (OW.out.lt k hk).1))
    have V2 := Lib.hid hV
    have F2 := Lib.hid hF
    subst hv
    clear hown hgrow hV hF
    go_wp2
    go_ret
    exact ⟨A3, c3, rfl, V2.out, K2.out, F2.out⟩
set_option maxHeartbeats 4000000 in
set_option maxRecDepth 100000 in
theorem few_any (lf : Bool) (A : Option Addr) (c : Nat) (ks : List (List UInt8)) (B : Option Addr) (d : Nat) (ds : List Int) (w : World) (h : Rl sv w A c ks) (h2 : Rl nv w B d ds) :
    Calls Try.prog 11 #[.agg #[.bool lf, .slice A ks.length c, .slice B ds.length d]] w fun e w' => ∃ A' c' B' d', e = .returned (.agg #[.bool lf, .slice A' (ks.take 12).length c', .slice B' (ds.take 13).length d']) ∧ Rl sv w' A' c' (ks.take 12) ∧ Rl nv w' B' d' (ds.take 13) ∧ Below w.heap.size w w' := by
  obtain ⟨m1, hm1⟩ : ∃ m, (ks.take 12).length = m := ⟨_, rfl⟩
  obtain ⟨m2, hm2⟩ : ∃ m, (ds.take 13).length = m := ⟨_, rfl⟩
  obtain ⟨zs, hzs⟩ : ∃ z, ks.take 12 = z := ⟨_, rfl⟩
  obtain ⟨ys, hys⟩ : ∃ z, ds.take 13 = z := ⟨_, rfl⟩
  have e1 : min (ks.length : Int) 12 = (m1 : Int) := by rw [← hm1, List.length_take]; omega
  have e2 : min (ds.length : Int) 13 = (m2 : Int) := by rw [← hm2, List.length_take]; omega
  have lm1 : m1 ≤ 12 := by rw [← hm1, List.length_take]; omega
  have lm2 : m2 ≤ 13 := by rw [← hm2, List.length_take]; omega
  have t1 : ks.take m1 = ks.take 12 := by rw [← hm1, List.length_take]; rw [List.take_eq_take_iff]; omega
  have t2 : ds.take m2 = ds.take 13 := by rw [← hm2, List.length_take]; rw [List.take_eq_take_iff]; omega
  obtain ⟨A1, c1, hc1, hr1⟩ := cut_to et_s (g := sv) A c ks m1 (by rw [← hm1, List.length_take]; omega) h.1
  obtain ⟨A2, c2, hc2, hr2⟩ := cut_to et_i (g := nv) B d ds m2 (by rw [← hm2, List.length_take]; omega) h2.1
  rw [hm1, hm2]
  rw [t1, hzs] at hr1
  rw [t2, hys] at hr2
  rw [hzs] at hm1
  rw [hys] at hm2
  rw [hzs, hys]
  obtain ⟨W, hW⟩ : ∃ W : World, W = (w.alloc (.cells #[.bool lf, .slice A ks.length c, .slice B ds.length d] 25)).alloc (.cells #[.bool false, .slice none 0 0, .slice none 0 0] 25) := ⟨_, rfl⟩
  have ra := row_on (heap_alloc_new w (.cells #[.bool lf, .slice A ks.length c, .slice B ds.length d] 25)) (bda _ (.cells #[.bool false, .slice none 0 0, .slice none 0 0] 25))
  have rb := heap_alloc_new (w.alloc (.cells #[.bool lf, .slice A ks.length c, .slice B ds.length d] 25)) (.cells #[.bool false, .slice none 0 0, .slice none 0 0] 25)
  simp only [World.size_alloc] at rb
  rw [← hW] at ra rb
  have RA := Lib.hid ra
  have RB := Lib.hid rb
  have BW := Lib.hid (show Below w.heap.size w W by rw [hW]; exact bon (bda _ _) (bda _ _))
  have SW := Lib.hid (show W.heap.size = w.heap.size + 2 by rw [hW]; simp)
  have HW := Lib.hid hW
  have V1 := Lib.hid (hr1 W (h.below BW.out))
  have V2 := Lib.hid (fun U (hb : Below w.heap.size w U) => hr2 U (h2.below hb))
  have OW := Lib.hid (World.ownsRow_nil W (w.heap.size + 2) 9 1)
  have OI := Lib.hid (fun U => World.ownsRow_nil U (w.heap.size + 2) 3 1)
  have M1 := Lib.hid hm1
  have M2 := Lib.hid hm2
  clear h h2 hr1 hr2 ra rb hW hm1 hm2 t1 t2 hzs hys
  go_enter Try.func11, Try.ntmps11
  go_wp2_with (at_builtin; refine wpList_append_rl sv_one et_s rfl _ _ rfl (w.heap.size + 2) _ 0 [] zs A1 c1 m1 rfl (by rw [← HW.out]; exact OW.out) (by rw [← HW.out]; exact V1.out) M1.out.symm rfl (by omega) (by simp) ?_)
  rw [← HW.out]
  intro v3 w3 hown hgrow
  obtain ⟨A3, c3, hv, hV, hF⟩ := rl_of_own hown
  rw [M1.out] at hv
  have K3 := Lib.hid (show Below (w.heap.size + 2) W w3 from (Below.refl _ _).grown hgrow (Nat.le_of_eq SW.out.symm) (fun k hk => by cases hk))
  have V3 := Lib.hid hV
  have F3 := Lib.hid hF
  subst hv
  have qa := Lib.hid ((K3.out.block _ (by omega)).trans RA.out)
  have qb := Lib.hid ((K3.out.block _ (by omega)).trans RB.out)
  clear hown hgrow hV hF
  obtain ⟨U, hU⟩ : ∃ U : World, U = w3.setCell ⟨w.heap.size, 1, none⟩ (.slice A3 m1 c3) := ⟨_, rfl⟩
  have ua := Lib.hid (show U.heap[w.heap.size]? = some (.cells #[.bool lf, .slice A3 m1 c3, .slice B ds.length d] 25 (0, 0)) by rw [hU]; have := row_set (i := 1) qa.out (.slice A3 m1 c3); simpa using this)
  have ub := Lib.hid (show U.heap[w.heap.size + 1]? = some _ by rw [hU]; exact row_far qb.out (by omega) _)
  have UB := Lib.hid (show Below w.heap.size w U by rw [hU]; exact (BW.out.trans (K3.out.mono (by omega))).setCell (Nat.le_refl _) _)
  have UZ := Lib.hid (show w.heap.size + 2 ≤ U.heap.size by have := K3.out.size; have := SW.out; rw [hU]; simp; omega)
  have UV := Lib.hid (show Rl sv U A3 c3 zs by rw [hU]; exact V3.out.set F3.out (by omega) _ _)
  have HU := Lib.hid hU
  have f1 := row_c qa.out (i := 1) rfl
  have f2 := row_c qa.out (i := 2) rfl
  have z1 := frozen_of_row _ _ 1 _ _ qa.out
  clear hU
  go_wp2_with (at_builtin; refine wpList_append_rl nv_one et_i rfl _ _ rfl (w.heap.size + 2) _ 0 [] ys A2 c2 m2 rfl (OI.out _) (by rw [← HU.out]; exact V2.out U UB.out) M2.out.symm rfl (by omega) (by rw [← HU.out]; exact UZ.out) ?_)
  rw [← HU.out]
  intro v4 w4 hown hgrow
  obtain ⟨A4, c4, hv, hV, hF⟩ := rl_of_own hown
  rw [M2.out] at hv
  have K4 := Lib.hid (show Below (w.heap.size + 2) U w4 from (Below.refl _ _).grown hgrow UZ.out (fun k hk => by cases hk))
  have V4 := Lib.hid hV
  have F4 := Lib.hid hF
  subst hv
  have ra := Lib.hid ((K4.out.block _ (by omega)).trans ua.out)
  have rb := Lib.hid ((K4.out.block _ (by omega)).trans ub.out)
  have V5 := Lib.hid (show Rl sv w4 A3 c3 zs from UV.out.below ⟨K4.out.os, K4.out.tape, K4.out.output, K4.out.size, fun k hk => hgrow.block k hk (by simp [Value.ownBlock])⟩)
  clear hown hgrow hV hF f1 f2 z1
  have f0 := row_c ra.out (i := 0) rfl
  have f1 := row_c ra.out (i := 1) rfl
  have f2 := row_c ra.out (i := 2) rfl
  have z2 := frozen_of_row _ _ 2 _ _ ra.out
  have p0 := row_c rb.out (i := 0) rfl
  have p1 := row_c rb.out (i := 1) rfl
  have p2 := row_c rb.out (i := 2) rfl
  have y0 := frozen_of_row _ _ 0 _ _ rb.out
  have y1 := frozen_of_row _ _ 1 _ _ rb.out
  have y2 := frozen_of_row _ _ 2 _ _ rb.out
  go_wp2
  refine bodyPost_ret (v := .agg #[.bool lf, .slice A3 m1 c3, .slice A4 m2 c4]) (by simp [results, Try.results11, go_sem, p0, p1, p2]) rfl ⟨A3, c3, A4, c4, rfl, ?_, ?_, ?_⟩
  · exact (((V5.out.set F3.out (by omega) _ _).set F3.out (by omega) _ _).set F3.out (by omega) _ _).set F3.out (by omega) _ _
  · exact (((V4.out.set F4.out (by omega) _ _).set F4.out (by omega) _ _).set F4.out (by omega) _ _).set F4.out (by omega) _ _
  · exact ((((UB.out.trans (K4.out.mono (by omega))).setCell (Nat.le_refl _) _).setCell (by simp) _).setCell (by simp) _).setCell (by simp) _
end Go.Proofs.Ytkbdcbcjbgbglaa
