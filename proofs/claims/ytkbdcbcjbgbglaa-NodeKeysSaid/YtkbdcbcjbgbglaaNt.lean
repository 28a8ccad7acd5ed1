/-
  Words for NodeHalves: what is split stands in order; Split of few keys; nodes of an empty one.
-/
import Derived.Test.YtkbdcbcjbgbglaaNs
import Derived.Test.YtkbdcbcjbgbglaaNn
namespace Go.Proofs.Ytkbdcbcjbgbglaa
open Go.RowKit
set_option linter.unusedVariables false
set_option linter.unusedSimpArgs false
theorem half_lt {ks : List (List UInt8)} (hs : Srt ks) {mid x : List UInt8} {i : Nat} (hm : ks[hf ks]? = some mid) (hx : (ks.take (hf ks))[i]? = some x) : x < mid := by
  have hi : i < hf ks := by have := (List.getElem?_eq_some_iff.1 hx).1; rw [List.length_take] at this; omega
  rw [List.getElem?_take, if_pos hi] at hx
  exact hs i _ x mid hi hx hm
theorem half_ge {lf : Bool} {ks : List (List UInt8)} (hs : Srt ks) {mid x : List UInt8} {i : Nat} (hm : ks[hf ks]? = some mid) (hx : (ks.drop (cutN lf ks))[i]? = some x) : ¬ x < mid ∧ (lf = false → x ≠ mid) := by
  rw [List.getElem?_drop] at hx
  unfold cutN at hx
  cases lf
  · simp only [Bool.false_eq_true, if_false] at hx
    have h1 := hs (hf ks) (hf ks + 1 + i) mid x (by omega) hm hx
    exact ⟨fun h => lt_ir _ (lt_tr h h1), fun _ e => by rw [e] at h1; exact lt_ir _ h1⟩
  · simp only [if_true] at hx
    refine ⟨fun h => ?_, fun h => by cases h⟩
    cases i with
    | zero => rw [Nat.add_zero, hm] at hx; injection hx with hx; rw [hx] at h; exact lt_ir _ h
    | succ i => exact lt_ir _ (lt_tr h (hs (hf ks) (hf ks + (i + 1)) mid x (by omega) hm hx))
theorem half_join {lf : Bool} {ks : List (List UInt8)} {mid : List UInt8} (hm : ks[hf ks]? = some mid) : jk lf (ks.take (hf ks)) mid (ks.drop (cutN lf ks)) = ks := by
  unfold jk cutN
  cases lf
  · simp only [Bool.false_eq_true, if_false]
    have h1 := take_some hm
    rw [← h1, List.take_append_drop]
  · simp only [if_true]
    exact List.take_append_drop _ _
set_option maxHeartbeats 4000000 in
set_option maxRecDepth 100000 in
theorem split_few (lf : Bool) (A : Option Addr) (c : Nat) (ks : List (List UInt8)) (B : Option Addr) (d : Nat) (ds : List Int) (w : World) (hl : ks.length ≤ 4000000) (hs : shapedB lf ks ds = true) (h4 : ks.length < 4) :
    Calls Try.prog 29 #[.agg #[.bool lf, .slice A ks.length c, .slice B ds.length d]] w fun e w' => e = .returned (.tuple #[.agg #[.bool false, .slice none 0 0, .slice none 0 0], .string ⟨#[]⟩, .agg #[.bool false, .slice none 0 0, .slice none 0 0], .bool false]) ∧ Below w.heap.size w w' := by
  have SH := Lib.hid (fun V => shaped_any lf A c ks B d ds V hl)
  rw [hs] at SH
  have e1 : decide (ks.length < 4) = true := decide_eq_true h4
  have e2 : decide ((ks.length : Int) < 4) = true := decide_eq_true (by omega)
  obtain ⟨W, hW⟩ : ∃ W : World, W = ((w.alloc (.cells #[.bool lf, .slice A ks.length c, .slice B ds.length d] 25)).alloc (.cells #[.bool false, .slice none 0 0, .slice none 0 0] 25)).alloc (.cells #[.bool false, .slice none 0 0, .slice none 0 0] 25) := ⟨_, rfl⟩
  have RA := Lib.hid (show W.heap[w.heap.size]? = some (.cells #[.bool lf, .slice A ks.length c, .slice B ds.length d] 25 (0, 0)) by rw [hW]; exact row_on (row_on (heap_alloc_new w _) (bda _ _)) (bda _ _))
  have RB := Lib.hid (show W.heap[w.heap.size + 1]? = some (.cells #[.bool false, .slice none 0 0, .slice none 0 0] 25 (0, 0)) by rw [hW]; have := row_on (heap_alloc_new (w.alloc (.cells #[.bool lf, .slice A ks.length c, .slice B ds.length d] 25)) (.cells #[.bool false, .slice none 0 0, .slice none 0 0] 25)) (bda _ (.cells #[.bool false, .slice none 0 0, .slice none 0 0] 25)); simpa using this)
  have RC := Lib.hid (show W.heap[w.heap.size + 1 + 1]? = some (.cells #[.bool false, .slice none 0 0, .slice none 0 0] 25 (0, 0)) by rw [hW]; have := heap_alloc_new ((w.alloc (.cells #[.bool lf, .slice A ks.length c, .slice B ds.length d] 25)).alloc (.cells #[.bool false, .slice none 0 0, .slice none 0 0] 25)) (.cells #[.bool false, .slice none 0 0, .slice none 0 0] 25); simpa using this)
  have BW := Lib.hid (show Below w.heap.size w W by rw [hW]; exact bon (bon (bda _ _) (bda _ _)) (bda _ _))
  have HW := Lib.hid hW
  clear hW hs h4
  go_enter Try.func29, Try.ntmps29
  go_wp2_with fail
  rw [← HW.out]
  refine (SH.out _).mono ?_
  rintro e w2 ⟨rfl, hb⟩
  have RA2 := Lib.hid (row_on RA.out hb)
  have RB2 := Lib.hid (row_on RB.out hb)
  have RC2 := Lib.hid (row_on RC.out hb)
  have K2 := Lib.hid (BW.out.trans (hb.mono BW.out.size))
  clear hb HW RA RB RC
  have f1 := row_c RA2.out (i := 1) rfl
  have p0 := row_c RB2.out (i := 0) rfl
  have pz0 := frozen_of_row _ _ 0 _ _ RB2.out
  have p1 := row_c RB2.out (i := 1) rfl
  have pz1 := frozen_of_row _ _ 1 _ _ RB2.out
  have p2 := row_c RB2.out (i := 2) rfl
  have pz2 := frozen_of_row _ _ 2 _ _ RB2.out
  have q0 := row_c RC2.out (i := 0) rfl
  have qz0 := frozen_of_row _ _ 0 _ _ RC2.out
  have q1 := row_c RC2.out (i := 1) rfl
  have qz1 := frozen_of_row _ _ 1 _ _ RC2.out
  have q2 := row_c RC2.out (i := 2) rfl
  have qz2 := frozen_of_row _ _ 2 _ _ RC2.out
  go_wp2
  refine bodyPost_ret (v := .tuple #[.agg #[.bool false, .slice none 0 0, .slice none 0 0], .string ⟨#[]⟩, .agg #[.bool false, .slice none 0 0, .slice none 0 0], .bool false]) (by simp [results, Try.results29, go_sem, p0, p1, p2, q0, q1, q2]) rfl ⟨rfl, ?_⟩
  exact (((((K2.out.setCell (by first | (simp; done) | (simp; omega)) _).setCell (by first | (simp; done) | (simp; omega)) _).setCell (by first | (simp; done) | (simp; omega)) _).setCell (by first | (simp; done) | (simp; omega)) _).setCell (by first | (simp; done) | (simp; omega)) _).setCell (by first | (simp; done) | (simp; omega)) _
set_option maxHeartbeats 4000000 in
set_option maxRecDepth 100000 in
theorem same_zero (lf : Bool) (A2 B2 : Option Addr) (c2 d2 : Nat) (ks : List (List UInt8)) (ds : List Int) (w : World) (hk : 0 < ks.length) :
    Calls Try.prog 38 #[.agg #[.bool false, .slice none 0 0, .slice none 0 0], .agg #[.bool lf, .slice A2 ks.length c2, .slice B2 ds.length d2]] w fun e w' => e = .returned (.bool false) ∧ Below w.heap.size w w' := by
  have q1 : (0 != ks.length) = true := by simp; omega
  have q2 : ((0 : Int) != (ks.length : Int)) = true := by simp; omega
  have q3 : ¬ ((0 : Int) = (ks.length : Int)) := by omega
  have q4 : ¬ (0 = ks.length) := by omega
  have q5 : ¬ ((ks.length : Int) = 0) := by omega
  have q6 : ¬ (ks.length = 0) := by omega
  have q7 : ks ≠ [] := fun e => by rw [e] at hk; simp at hk
  clear hk
  cases lf
  all_goals
    go_enter Try.func38, Try.ntmps38
    go_wp2
    go_ret
    exact ⟨rfl, bon (bda _ _) (bda _ _)⟩
set_option maxHeartbeats 4000000 in
set_option maxRecDepth 100000 in
theorem nodes_zero (lf : Bool) (A2 B2 : Option Addr) (c2 d2 : Nat) (ks : List (List UInt8)) (ds : List Int) (w : World) (hk : 0 < ks.length) :
    Calls Try.prog 17 #[.agg #[.bool false, .slice none 0 0, .slice none 0 0], .agg #[.bool lf, .slice A2 ks.length c2, .slice B2 ds.length d2]] w fun e w' => e = .returned (.bool false) ∧ Below w.heap.size w w' := by
  have SA := Lib.hid (fun V => same_zero lf A2 B2 c2 d2 ks ds V hk)
  go_enter Try.func17, Try.ntmps17
  go_wp2_with fail
  refine (SA.out _).mono ?_
  rintro e w2 ⟨rfl, hb⟩
  have K2 := Lib.hid (bon (bon (bda w _) (bda _ _)) hb)
  clear hb
  go_wp2
  go_ret
  exact ⟨rfl, K2.out⟩
end Go.Proofs.Ytkbdcbcjbgbglaa
