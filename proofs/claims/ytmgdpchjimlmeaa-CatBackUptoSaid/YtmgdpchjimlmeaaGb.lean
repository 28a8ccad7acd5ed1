/-
  pager.newHead: a head of which the heads' pages and those given are used.
-/
import Derived.Test.YtmgdpchjimlmeaaGa
namespace Go.Proofs.Ytmgdpchjimlmeaa
open Go.RowKit
set_option linter.unusedSimpArgs false
set_option linter.unusedVariables false
def nn (n : Nat) : Value := .int .i64 (n : Int)
theorem nn_one (n : Nat) : (nn n).oneCell' = true := rfl
/-- The heads' pages, and the first pages given. -/
def nU (F : List Nat) : Nat → Bool := fun i => decide (i < 2) || F.contains i
theorem nU_take {F : List Nat} {k : Nat} (h : k < F.length) (i : Nat) : (nU (F.take k) i || i == F[k]) = nU (F.take (k + 1)) i := by
  unfold nU
  rw [List.take_succ_eq_append_getElem h, List.contains_append]
  rw [Bool.or_assoc]; congr 1; congr 1
  rw [Bool.eq_iff_iff, beq_iff_eq, List.contains_iff_mem, List.mem_singleton]
theorem Us.ins {w w' : World} {b n : Nat} {U : Nat → Bool} {p : Nat} {D d : DataW Unit} (hp : p < 512) (h0 : w.ownsMap Try.prog 3 (unitElem (H := Unit)) b n D) (hD : ∀ kl, Maps.has D kl = inU U kl)
    (h : w'.ownsMap Try.prog 3 (unitElem (H := Unit)) b (n + 1) (D.put (.int .i64 (p : Int)) d)) : Us w' b (n + 1) (fun i => U i || i == p) :=
  ⟨_, h, fun kl => has_ins hp h0.isMap hD d kl⟩
theorem grown_row {w w' : World} {b g : Nat} {o : Obj} (h : w.grownBy w' (some b)) (hr : w.heap[g]? = some o) (hne : g ≠ b) : w'.heap[g]? = some o :=
  (h.block g (heap_lt hr) (fun e => hne (Option.some.inj e))).trans hr
theorem Us.grown {w w' : World} {b n g : Nat} {U : Nat → Bool} (h : Us w b n U) (hg : w.grownBy w' (some g)) (hne : b ≠ g) : Us w' b n U := h.kept hg (fun e => hne (Option.some.inj e))
theorem grown_trans {a b c : World} {row : Option Nat} (h : a.grownBy b row) (k : b.grownBy c row) : a.grownBy c row :=
  ⟨k.os.trans h.os, k.tape.trans h.tape, k.output.trans h.output, Nat.le_trans h.size k.size, fun i h1 h2 => (k.block i (Nat.lt_of_lt_of_le h1 h.size) h2).trans (h.block i h1 h2)⟩
theorem Rl.grown {α : Type} {g : α → Value} {w w' : World} {A : Option Addr} {c b : Nat} {xs : List α} (h : Rl g w A c xs) (hg : w.grownBy w' (some b)) (hb : ∀ k o, A = some ⟨k, o, none⟩ → k ≠ b) : Rl g w' A c xs :=
  ⟨h.1, fun h0 => by
    obtain ⟨k, off, e, hlt, hc⟩ := h.2 h0
    exact ⟨k, off, e, Nat.lt_of_lt_of_le hlt hg.size, fun j x hj => hg.cell (hc j x hj) (fun e' => hb k off e (Option.some.inj e'))⟩⟩
theorem below_of_grown {w w' : World} {b N : Nat} (h : w.grownBy w' (some b)) (hN : N ≤ b) (hs : N ≤ w.heap.size) : Below N w w' :=
  ⟨h.os, h.tape, h.output, h.size, fun i hi => h.block i (by omega) (fun e => by have := Option.some.inj e; omega)⟩

theorem meas_up {n k : Nat} (h : k < n) (hw : wrap64 ((k : Int) + 1) = (k : Int) + 1) : n - (intOf (.int .i64 (wrap64 ((k : Int) + 1)))).toNat < n - (intOf (.int .i64 (k : Int))).toNat := by
  rw [hw]
  show n - ((k : Int) + 1).toNat < n - ((k : Int)).toNat
  omega
theorem wup {k : Nat} (h : k < 1000000000) : wrap64 ((k : Int) + 1) = (k : Int) + 1 := IntWalk.wrap64_in _ ⟨by omega, by omega⟩

set_option maxHeartbeats 4000000 in
set_option maxRecDepth 100000 in
theorem newHead_any (T R : Int) (F : List Nat) (A : Option Addr) (c : Nat) (w : World) (hF : Rl nn w A c F) (hb : ∀ x ∈ F, x < 512) (hl : F.length ≤ 1000000) :
    Calls Try.prog 20 #[.int .i64 T, .int .i64 R, .slice A F.length c] w fun e w' => ∃ bm, e = .returned (.agg #[.int .i64 T, .int .i64 R, .map (some bm)]) ∧ w.heap.size ≤ bm ∧ Us w' bm (2 + F.length) (nU F) ∧ Below w.heap.size w w' := by
  have hmm := @run_makeMap Try.prog
  obtain ⟨W, hW⟩ : ∃ W : World, W = ((w.alloc (.cells #[.int .i64 0, .int .i64 0, .map none] 62)).alloc (.map #[] 0)).alloc (.cells #[.int .i64 T, .int .i64 R, .map (some (w.heap.size + 1))] 62) := ⟨_, rfl⟩
  have hbW : Below w.heap.size w W := by rw [hW]; exact bon (bon (bda _ _) (bda _ _)) (bda _ _)
  have R1 := Lib.hid (show W.heap[w.heap.size]? = some (.cells #[.int .i64 0, .int .i64 0, .map none] 62 (0, 0)) by rw [hW]; exact row_on (row_on (heap_alloc_new w _) (bda _ _)) (bda _ _))
  have R3 := Lib.hid (show W.heap[w.heap.size + 1 + 1]? = some (.cells #[.int .i64 T, .int .i64 R, .map (some (w.heap.size + 1))] 62 (0, 0)) by
    rw [hW]
    have := heap_alloc_new ((w.alloc (.cells #[.int .i64 0, .int .i64 0, .map none] 62)).alloc (.map #[] 0)) (.cells #[.int .i64 T, .int .i64 R, .map (some (w.heap.size + 1))] 62)
    simpa using this)
  have U0 := Lib.hid (show Us W (w.heap.size + 1) 0 (fun _ => false) by
    rw [hW]
    have := (Us.made (w.alloc (.cells #[.int .i64 0, .int .i64 0, .map none] 62))).below (bda _ (.cells #[.int .i64 T, .int .i64 R, .map (some (w.heap.size + 1))] 62))
    simpa using this)
  have FW := Lib.hid (hF.below hbW)
  have FL := Lib.hid (fun k o (e : A = some ⟨k, o, none⟩) (h0 : 0 < F.length) => show k < w.heap.size by
    obtain ⟨b, off, e2, hlt, _⟩ := hF.2 h0
    rw [e] at e2; injection e2 with e2; injection e2 with e2 _; omega)
  have BW := Lib.hid hbW
  have SW := Lib.hid (show w.heap.size + 1 ≤ W.heap.size by rw [hW]; simp)
  have HB := Lib.hid hb
  have HL := Lib.hid hl
  clear hF hb hl hbW
  go_enter Try.func20, Try.ntmps20
  go_wp2_with fail
  rw [← hW]
  clear hW hmm
  go_loopw [15] (fun kv wr => ∃ k : Nat, k ≤ 2 ∧ kv = .int .i64 k ∧ Hid (Us wr (w.heap.size + 1) k (fun i => decide (i < k))) ∧ Hid (W.grownBy wr (some (w.heap.size + 1)))) (fun kv _ => 2 - (intOf kv).toNat)
  case atStart => exact ⟨0, by omega, rfl, Lib.hid (U0.out.ext (fun i _ => by simp)), Lib.hid (World.grownBy.refl _ _)⟩
  case round =>
    obtain ⟨k, hk, rfl, hu, hg⟩ := hrel
    have r3 := row_c (i := 2) (grown_row hg.out R3.out (by omega)) rfl
    by_cases hk2 : k < 2
    · obtain ⟨D, hown, hD⟩ := hu.out
      have HD := Lib.hid hD
      have hkey := Maps.keyOf_int_mk Try.underlying3 (wf_nat (i := k) (by omega))
      clear hD hu
      have d1 : decide ((k : Int) < 2) = true := decide_eq_true (by omega)
      go_wp2_with (first | (at_mapUpdate; refine wpList_mapUpdate_own _ rfl _ _ _ 60 rfl 3 75 iK Try.underlying60 (unitElem (H := Unit)) (w.heap.size + 1) k D rfl hown (by unfold maxLen; omega) _ _ _ rfl rfl hkey _ [] unitElem_mk ?_; intro w1 hown1 hg1) | go_in)
      have U1 := Lib.hid (Us.ins (by omega) hown HD.out hown1)
      have G1 := Lib.hid (grown_trans hg.out hg1)
      clear hown hown1 hg1
      go_roundw
      case rel => exact ⟨k + 1, by omega, by go_num, Lib.hid (U1.out.ext (fun i _ => by rw [Bool.eq_iff_iff]; simp; omega)), G1⟩
      case measure => simp [intOf]; omega
    · obtain rfl : k = 2 := by omega
      clear hk2 hk
      rw [show (((2 : Nat) : Int)) = (2 : Int) from rfl]
      have FR := Lib.hid (fun j x (hj : F[j]? = some x) => show ∃ b off, A = some ⟨b, off, none⟩ ∧ wr.cell? ⟨b, off + j, none⟩ = some (nn x) by
        obtain ⟨b, off, e, hlt, hc⟩ := FW.out.cell hj
        have := FL.out b off e (by have := (List.getElem?_eq_some_iff.1 hj).1; omega)
        exact ⟨b, off, e, hg.out.cell hc (fun e' => by have := Option.some.inj e'; simp at this; omega)⟩)
      go_wp2_with fail
      go_loopw [25] (fun kv wr2 => ∃ k : Nat, k ≤ F.length ∧ kv = .int .i64 k ∧ Hid (Us wr2 (w.heap.size + 1) (2 + k) (nU (F.take k))) ∧ Hid (W.grownBy wr2 (some (w.heap.size + 1)))) (fun kv _ => F.length - (intOf kv).toNat)
      case atStart => exact ⟨0, by omega, rfl, Lib.hid (hu.out.ext (fun i _ => by simp [nU])), hg⟩
      case round =>
        obtain ⟨k, hk, rfl, hu2, hg2⟩ := hrel
        clear r3
        have r3 := row_c (i := 2) (grown_row hg2.out R3.out (by omega)) rfl
        by_cases hk2 : k < F.length
        · obtain ⟨D, hown, hD⟩ := hu2.out
          have HD := Lib.hid hD
          obtain ⟨x, hx⟩ : ∃ x, F[k] = x := ⟨_, rfl⟩
          have hj : F[k]? = some x := by rw [List.getElem?_eq_getElem hk2, hx]
          have hxb : x < 512 := HB.out x (by rw [← hx]; exact List.getElem_mem _)
          have NT := Lib.hid (fun i => nU_take (F := F) hk2 i)
          rw [hx] at NT
          obtain ⟨b, off, rfl, hc⟩ := FW.out.cell hj
          have hcc : wr.cell? ⟨b, off + k, none⟩ = some (.int .i64 (x : Int)) := hg2.out.cell hc.2 (fun e' => by have := Option.some.inj e'; have := FL.out b off rfl (by omega); simp at *; omega)
          have hkey := Maps.keyOf_int_mk Try.underlying3 (wf_nat hxb)
          have HX := Lib.hid hxb
          have k0 : (0 : Int) ≤ (k : Int) := by omega
          have k1 : (k : Int) < (F.length : Int) := by omega
          have KL := Lib.hid hk2
          have HLL := Lib.hid (show 2 + k < maxLen by have := HL.out; unfold maxLen; omega)
          clear hD hu2 hj hx hc hxb
          go_wp2_with (first | (at_mapUpdate; refine wpList_mapUpdate_own _ rfl _ _ _ 60 rfl 3 75 iK Try.underlying60 (unitElem (H := Unit)) (w.heap.size + 1) (2 + k) D rfl hown HLL.out _ _ _ rfl rfl hkey _ [] unitElem_mk ?_; intro w1 hown1 hg1) | go_in)
          have U1 := Lib.hid (Us.ins HX.out hown HD.out hown1)
          have G1 := Lib.hid (grown_trans hg2.out hg1)
          clear hown hown1 hg1
          have kb : k < 1000000 := by have := HL.out; omega
          have kw := Lib.hid (IntWalk.wrap64_in ((k : Int) + 1) ⟨by omega, by omega⟩)
          go_roundw
          case rel => exact ⟨k + 1, by omega, by rw [kw.out]; rfl, Lib.hid (U1.out.ext (fun i _ => NT.out i)), G1⟩
          case measure => exact meas_up KL.out kw.out
        · obtain rfl : k = F.length := by omega
          have UU := Lib.hid hu2.out
          rw [List.take_length] at UU
          have a0 := row_c (i := 0) (grown_row hg2.out R3.out (by omega)) rfl
          have a1 := row_c (i := 1) (grown_row hg2.out R3.out (by omega)) rfl
          have b1 := grown_row hg2.out R1.out (by omega)
          have hlt1 := heap_lt b1
          have f0 := row_c (i := 0) b1 rfl
          have f1 := row_c (i := 1) b1 rfl
          have f2 := row_c (i := 2) b1 rfl
          have z0 := frozen_of_row _ _ 0 _ _ b1
          have z1 := frozen_of_row _ _ 1 _ _ b1
          have z2 := frozen_of_row _ _ 2 _ _ b1
          have s0 := heap_setCell_same _ _ 0 _ _ (.int .i64 T) b1
          have s1 := heap_setCell_same _ _ 1 _ _ (.int .i64 R) s0
          have s2 := heap_setCell_same _ _ 2 _ _ (.map (some (w.heap.size + 1))) s1
          have S2 := Lib.hid s2
          have UB := Lib.hid (show Below w.heap.size w wr from BW.out.trans (below_of_grown hg2.out (by omega) BW.out.size))
          clear b1 hu2 hk2 hk hlt1 s0 s1 s2
          go_wp2_with fail
          have fr0 := row_c (i := 0) S2.out rfl
          have fr1 := row_c (i := 1) S2.out rfl
          have fr2 := row_c (i := 2) S2.out rfl
          refine bodyPost_ret (v := .agg #[.int .i64 T, .int .i64 R, .map (some (w.heap.size + 1))]) (by simp [results, Try.results20, go_sem, fr0, fr1, fr2]) rfl ?_
          refine ⟨_, rfl, by omega, ?_, ?_⟩
          · refine UU.out.same ?_
            rw [Below.heap_setCell _ _ _ _ (by simp), Below.heap_setCell _ _ _ _ (by simp), Below.heap_setCell _ _ _ _ (by simp)]
          · exact ((UB.out.setCell (Nat.le_refl _) _).setCell (Nat.le_refl _) _).setCell (Nat.le_refl _) _
end Go.Proofs.Ytmgdpchjimlmeaa
