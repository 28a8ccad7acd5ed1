import Derived.Test.YtcfoepogbfngmaaDoorMB3
import Derived.Test.YtcfoepogbfngmaaDoorMB1
import Derived.Test.YtcfoepogbfngmaaDoorRows
import Derived.Test.YtcfoepogbfngmaaDoorMB0
import Derived.WalkKit
import Derived.ProofKit
import Derived.OpenShut
import Derived.ChangeSame
import Derived.LaidMore
import Derived.Stop.Joined
import Derived.Stop.LaidErr
import Derived.Lib.SmallJoins
section
/-
  The law's own tame, prec.
-/
namespace Go.Proofs.YtcfoepogbfngmaaDoor
open Go.RowKit
set_option linter.unusedSimpArgs false
set_option linter.unusedVariables false
theorem ok32_take6 {xs ts : List Nat} (h : ok32 xs) (ht : xs.take 6 = ts) : ok32 ts := by
  subst ht; exact fun x hx => h x (List.mem_of_mem_take hx)

def tameE (e : Int) : Int := (if e < 0 then -(e + 1) else e) % 601 - 300
theorem tameE_bd (e : Int) : -300 ≤ tameE e ∧ tameE e ≤ 300 := by unfold tameE; omega
/-- What a tame number is like. -/
def Tm (M E : Int) : Prop := Nf M E ∧ bl M ≤ 192 ∧ (M ≠ 0 → -300 ≤ E ∧ E + bl M ≤ 492)
theorem tm_of {z y : Int} (hz : z.natAbs < 2 ^ 192) (h0 : -300 ≤ y) (h1 : y ≤ 300) : Tm (nm z) (nx z y) := by
  have hb : bl z ≤ 192 := blen_le hz
  have he := bl_nm z y
  refine ⟨nf_n z y, ?_, fun hm => ?_⟩
  · by_cases h : z = 0
    · subst h; rw [nm_zero, bl_zero]; omega
    · unfold nx at he
      rw [if_neg h, if_neg h] at he
      omega
  · by_cases h : z = 0
    · subst h; exact absurd nm_zero hm
    · rw [if_neg h] at he
      have : nx z y = y + tz z.natAbs := by unfold nx; rw [if_neg h]
      omega
theorem Tm.inR {M E : Int} (h : Tm M E) : inR M E = true := by
  unfold Proofs.YtcfoepogbfngmaaDoor.inR
  rw [decide_eq_true_eq]
  by_cases hm : M = 0
  · exact .inl hm
  · have := h.2.2 hm
    have := h.2.1
    have : 0 < bl M := by
      unfold bl
      have := (blen_bd M.natAbs (by omega)).2.2
      omega
    right; omega
theorem Tm.rt {M E : Int} (h : Tm M E) : Rt M E := by
  refine ⟨h.1, ?_⟩
  by_cases hm : M = 0
  · have := nf_zero h.1 hm; omega
  · have := h.2.2 hm
    omega
theorem Tm.len {M E : Int} (h : Tm M E) : (digs M.natAbs).length ≤ 7 := by
  have := len_bl M
  have := h.2.1
  omega
theorem take6 {xs : List Nat} (h : ok32 xs) (s : Bool) : (sg s (val (xs.take 6))).natAbs < 2 ^ 192 := by
  rw [sg_abs]
  have h1 := val_lt (xs := xs.take 6) (fun x hx => h x (List.mem_of_mem_take hx))
  refine Nat.lt_of_lt_of_le h1 ?_
  rw [show (4294967296 : Nat) = 2 ^ 32 from rfl, ← Nat.pow_mul]
  exact Nat.pow_le_pow_right (by omega) (by rw [List.length_take]; omega)

set_option maxHeartbeats 4000000 in
set_option maxRecDepth 100000 in
theorem tame_n (A : Option Addr) (c : Nat) (s : Bool) (xs : List Nat) (y M E : Int) (w : World) (h : Dg w A c xs) (hT : T32 w) (hlx : xs.length ≤ 9223372036854775807) (y0 : -9223372036854775808 ≤ y) (y1 : y ≤ 9223372036854775807) (hM : nm (sg s (val (xs.take 6))) = M) (hE : nx (sg s (val (xs.take 6))) (tameE y) = E) (hy : y < 0):
    Calls Tryd.prog 5 #[.agg #[.bool s, .slice A xs.length c, .int .i64 y]] w fun e w' => Yr M E w e w' := by
  obtain ⟨ts, hts⟩ : ∃ t, xs.take 6 = t := ⟨_, rfl⟩
  have h6 := take6 h.2.1 s
  have hbd := tameE_bd y
  rw [hts] at hM hE h6
  obtain ⟨z, hz⟩ : ∃ z, sg s (val ts) = z := ⟨_, rfl⟩
  rw [hz] at hM hE h6
  obtain ⟨e, he⟩ : ∃ e, tameE y = e := ⟨_, rfl⟩
  rw [he] at hE hbd
  have hte : (-(y + 1)) % 601 - 300 = e := by rw [← he]; unfold tameE; rw [if_pos hy]
  have htl : ts.length = min xs.length 6 := by rw [← hts, List.length_take]; omega
  have hzl : (digs z.natAbs).length ≤ 7 := by
    have := len_bl z
    have : bl z ≤ 192 := blen_le h6
    omega
  have hq := (hM ▸ hE ▸ tm_of h6 hbd.1 hbd.2).inR
  have hok := ok32_take6 h.2.1 hts
  have MK := Lib.hid (fun W (hW : Dg W A c ts) => zmake_any A c s ts W hW (by omega))
  rw [hz] at MK
  obtain ⟨K, hK⟩ : ∃ K : Int, min (xs.length : Int) 6 = K := ⟨_, rfl⟩
  have hKt : K.toNat = ts.length := by omega
  rw [← hKt] at MK
  have HK := Lib.hid hK
  have HC := Lib.hid h.1
  have DM := Lib.hid (fun W A c (hW : Dg W A c (digs z.natAbs)) hT => make_yes A c (decide (z < 0)) (digs z.natAbs) e M E W hW (by omega) hT (by omega) (by omega) (by rw [sg_dz]; exact hM) (by rw [sg_dz]; exact hE) hq)
  have d1 : decide (y < 0) = true := by simp; omega
  have HT := Lib.hid hT
  clear hT
  have L0 := Lib.hid (((live_start w).add h).add (show Dg w A c ts by rw [← hts]; exact h.take 6))
  clear h h6 hM hE hz hq hok hzl he hts hK hKt
  go_enter Tryd.func5, Tryd.ntmps5
  go_wp2_with fail
  obtain ⟨v1, hW⟩ : ∃ W : World, W = ((w.alloc (.cells #[.bool s, .slice A xs.length c, .int .i64 y] 26)).alloc (.cells #[.bool false, .slice none 0 0, .int .i64 0] 26)) := ⟨_, rfl⟩
  rw [← hW]
  have hb : Below w.heap.size w v1 := by rw [hW]; exact (((Below.refl _ _).alloc (by simp <;> omega) _).alloc (by simp <;> omega) _)
  have L1 := Lib.hid (L0.out.step hb)
  have Rx_1 := Lib.hid (show v1.heap[w.heap.size]? = some (.cells #[.bool s, .slice A xs.length c, .int .i64 y] 26 (0, 0)) by rw [hW]; have := heap_alloc_new w (.cells #[.bool s, .slice A xs.length c, .int .i64 y] 26); rw [heap_alloc_old _ _ (by simp <;> omega)]; simpa using this)
  have Gx : w.heap.size ≤ w.heap.size := by have := L0.out.1.size; omega
  have Rr_1 := Lib.hid (show v1.heap[w.heap.size + 1]? = some (.cells #[.bool false, .slice none 0 0, .int .i64 0] 26 (0, 0)) by rw [hW]; have := heap_alloc_new (w.alloc (.cells #[.bool s, .slice A xs.length c, .int .i64 y] 26)) (.cells #[.bool false, .slice none 0 0, .int .i64 0] 26); simpa using this)
  have Gr : w.heap.size ≤ w.heap.size + 1 := by have := L0.out.1.size; omega
  have Nxr : w.heap.size < w.heap.size + 1 := by omega
  clear hW hb
  obtain ⟨v, hv⟩ : ∃ v : Int, -(y + 1) = v := ⟨_, rfl⟩
  rw [hv]
  rw [hv] at hte
  have v0 : 0 ≤ v := by omega
  have hr : Int.tmod v 601 = v % 601 := Int.tmod_eq_emod_of_nonneg v0
  have hs : IntKind.i64.wrap (v % 601 - 300) = e := by rw [IntWalk.i64_in _ (by omega)]; exact hte
  have hmin : min (xs.length : Int) 6 = K := HK.out
  have k0 : 0 ≤ K := by have := HK.out; omega
  have k1 : K ≤ (c : Int) := by have := HK.out; have := HC.out; omega
  clear hv hte y0 y1 hy d1 hbd htl hlx
  refine wp_operands_late (W := v1) rfl 19 21 22 [0, 1, 2, 3, 4, 5, 6, 7, 8, 9, 10, 11, 12, 13, 14, 15, 16, 17, 18, 20] [14, 15, 16, 17, 18, 19, 20, 21, 22, 23, 24, 25, 26, 27, 28, 29, 30, 13, 31, 32, 4] (fun i u ww => match i with | 19 => u = .bool true | 0 => u = .pointer (some ⟨w.heap.size, 0, none⟩) | 1 => u = .pointer (some ⟨w.heap.size, 0, none⟩) | 2 => u = .bool s | 3 => u = .pointer (some ⟨w.heap.size, 0, none⟩) | 4 => u = .pointer (some ⟨w.heap.size, 1, none⟩) | 5 => u = .slice A xs.length c | 6 => u = .pointer (some ⟨w.heap.size, 0, none⟩) | 7 => u = .pointer (some ⟨w.heap.size, 1, none⟩) | 8 => u = .slice A xs.length c | 9 => u = .int .i64 xs.length | 10 => u = .int .i64 K | 11 => u = .slice A K.toNat c | 12 => ∃ A c, u = .agg #[.bool (decide (z < 0)), .slice A (digs z.natAbs).length c] ∧ Dg ww A c (digs z.natAbs) | 13 => u = .int .i64 v | 14 => u = .int .i64 (v % 601) | 15 => u = .int .i64 e | 16 => ∃ A c, u = .tuple #[.agg #[.bool (decide (M < 0)), .slice A (digs M.natAbs).length c, .int .i64 E], .bool true] ∧ Dg ww A c (digs M.natAbs) | 17 => ∃ A c, u = .tuple #[.agg #[.bool (decide (M < 0)), .slice A (digs M.natAbs).length c, .int .i64 E], .bool true] ∧ Dg ww A c (digs M.natAbs) | 18 => ∃ A c, u = .agg #[.bool (decide (M < 0)), .slice A (digs M.natAbs).length c, .int .i64 E] ∧ Dg ww A c (digs M.natAbs) | 20 => ∃ g, u = .pointer (some ⟨g, 0, none⟩) ∧ ww.heap[g]? = some (.cells #[.bool false, .slice none 0 0, .int .i64 0] 26 (0, 0)) ∧ v1.heap.size ≤ g | _ => True)
    (by kernel_rfl) (by kernel_rfl) (by decide) (by kernel_rfl) (by kernel_rfl) (by kernel_rfl) (by decide) (by kernel_rfl) (by kernel_rfl) (by kernel_rfl) (by kernel_rfl) (by kernel_rfl) (by kernel_rfl) (by kernel_rfl) (by kernel_rfl) ?_ ?_ ?_
  · intro i u x y hi h hb
    have hi' : i = 19 ∨ i = 0 ∨ i = 1 ∨ i = 2 ∨ i = 3 ∨ i = 4 ∨ i = 5 ∨ i = 6 ∨ i = 7 ∨ i = 8 ∨ i = 9 ∨ i = 10 ∨ i = 11 ∨ i = 12 ∨ i = 13 ∨ i = 14 ∨ i = 15 ∨ i = 16 ∨ i = 17 ∨ i = 18 ∨ i = 20 := by simpa using hi
    rcases hi' with rfl | rfl | rfl | rfl | rfl | rfl | rfl | rfl | rfl | rfl | rfl | rfl | rfl | rfl | rfl | rfl | rfl | rfl | rfl | rfl | rfl
    · exact h
    · exact h
    · exact h
    · exact h
    · exact h
    · exact h
    · exact h
    · exact h
    · exact h
    · exact h
    · exact h
    · exact h
    · exact h
    · obtain ⟨A, c, e, hd⟩ := h
      exact ⟨A, c, e, hd.below hb⟩
    · exact h
    · exact h
    · exact h
    · obtain ⟨A, c, e, hd⟩ := h
      exact ⟨A, c, e, hd.below hb⟩
    · obtain ⟨A, c, e, hd⟩ := h
      exact ⟨A, c, e, hd.below hb⟩
    · obtain ⟨A, c, e, hd⟩ := h
      exact ⟨A, c, e, hd.below hb⟩
    · obtain ⟨g, e, hg, hge⟩ := h
      exact ⟨g, e, cells_of hg hb, hge⟩
  · intro i a x KK hi hF hb hw hK
    have hi' : i = 19 ∨ i = 0 ∨ i = 1 ∨ i = 2 ∨ i = 3 ∨ i = 4 ∨ i = 5 ∨ i = 6 ∨ i = 7 ∨ i = 8 ∨ i = 9 ∨ i = 10 ∨ i = 11 ∨ i = 12 ∨ i = 13 ∨ i = 14 ∨ i = 15 ∨ i = 16 ∨ i = 17 ∨ i = 18 ∨ i = 20 := by simpa using hi
    rcases hi' with rfl | rfl | rfl | rfl | rfl | rfl | rfl | rfl | rfl | rfl | rfl | rfl | rfl | rfl | rfl | rfl | rfl | rfl | rfl | rfl | rfl
    · simp only [wpOp, List.getElem?_toArray, List.getElem?_cons_succ, List.getElem?_cons_zero, Region.wanted, if_true]
      refine Or.inl ?_
      obtain ⟨A', c', e0, hd⟩ := hw 17 (by kernel_rfl)
      have e0 : a.eval (.tmp 13) = _ := e0
      clear hw hF
      simp only [Oper.wp, execOp]
      rw [e0]
      go_simp
      exact hK _ x (by first | rfl | simp) (Below.refl _ _)
    · simp only [wpOp, List.getElem?_toArray, List.getElem?_cons_zero, Region.wanted, if_true]
      refine Or.inl ?_
      have e0 : a.eval (.tmp 1) = .pointer (some ⟨w.heap.size, 0, none⟩) := hF.2.2 1 (by decide)
      clear hw hF
      simp only [Oper.wp, execOp]
      rw [e0]
      go_simp
      exact hK _ x (by first | rfl | simp) (Below.refl _ _)
    · simp only [wpOp, List.getElem?_toArray, List.getElem?_cons_succ, List.getElem?_cons_zero, Region.wanted, if_true]
      refine Or.inl ?_
      have e0 : a.eval (.tmp 14) = .pointer (some ⟨w.heap.size, 0, none⟩) := hw 0 (by kernel_rfl)
      clear hw hF
      simp only [Oper.wp, execOp]
      rw [e0]
      go_simp
      exact hK _ x (by first | rfl | simp) (Below.refl _ _)
    · simp only [wpOp, List.getElem?_toArray, List.getElem?_cons_succ, List.getElem?_cons_zero, Region.wanted, if_true]
      refine Or.inl ?_
      have e0 : a.eval (.tmp 15) = .pointer (some ⟨w.heap.size, 0, none⟩) := hw 1 (by kernel_rfl)
      have f0 := row_cell Rx_1.out hb 0
      have f1 := row_cell Rx_1.out hb 1
      have f2 := row_cell Rx_1.out hb 2
      simp only [List.getElem?_toArray, List.getElem?_cons_succ, List.getElem?_cons_zero] at f0 f1 f2
      clear hw hF
      simp only [Oper.wp, execOp]
      rw [e0]
      go_simp
      exact hK _ x (by first | rfl | simp) (Below.refl _ _)
    · simp only [wpOp, List.getElem?_toArray, List.getElem?_cons_succ, List.getElem?_cons_zero, Region.wanted, if_true]
      refine Or.inl ?_
      have e0 : a.eval (.tmp 1) = .pointer (some ⟨w.heap.size, 0, none⟩) := hF.2.2 1 (by decide)
      clear hw hF
      simp only [Oper.wp, execOp]
      rw [e0]
      go_simp
      exact hK _ x (by first | rfl | simp) (Below.refl _ _)
    · simp only [wpOp, List.getElem?_toArray, List.getElem?_cons_succ, List.getElem?_cons_zero, Region.wanted, if_true]
      refine Or.inl ?_
      have e0 : a.eval (.tmp 17) = .pointer (some ⟨w.heap.size, 0, none⟩) := hw 3 (by kernel_rfl)
      clear hw hF
      simp only [Oper.wp, execOp]
      rw [e0]
      go_simp
      exact hK _ x (by first | rfl | simp) (Below.refl _ _)
    · simp only [wpOp, List.getElem?_toArray, List.getElem?_cons_succ, List.getElem?_cons_zero, Region.wanted, if_true]
      refine Or.inl ?_
      have e0 : a.eval (.tmp 18) = .pointer (some ⟨w.heap.size, 1, none⟩) := hw 4 (by kernel_rfl)
      have f0 := row_cell Rx_1.out hb 0
      have f1 := row_cell Rx_1.out hb 1
      have f2 := row_cell Rx_1.out hb 2
      simp only [List.getElem?_toArray, List.getElem?_cons_succ, List.getElem?_cons_zero] at f0 f1 f2
      clear hw hF
      simp only [Oper.wp, execOp]
      rw [e0]
      go_simp
      exact hK _ x (by first | rfl | simp) (Below.refl _ _)
    · simp only [wpOp, List.getElem?_toArray, List.getElem?_cons_succ, List.getElem?_cons_zero, Region.wanted, if_true]
      refine Or.inl ?_
      have e0 : a.eval (.tmp 1) = .pointer (some ⟨w.heap.size, 0, none⟩) := hF.2.2 1 (by decide)
      clear hw hF
      simp only [Oper.wp, execOp]
      rw [e0]
      go_simp
      exact hK _ x (by first | rfl | simp) (Below.refl _ _)
    · simp only [wpOp, List.getElem?_toArray, List.getElem?_cons_succ, List.getElem?_cons_zero, Region.wanted, if_true]
      refine Or.inl ?_
      have e0 : a.eval (.tmp 20) = .pointer (some ⟨w.heap.size, 0, none⟩) := hw 6 (by kernel_rfl)
      clear hw hF
      simp only [Oper.wp, execOp]
      rw [e0]
      go_simp
      exact hK _ x (by first | rfl | simp) (Below.refl _ _)
    · simp only [wpOp, List.getElem?_toArray, List.getElem?_cons_succ, List.getElem?_cons_zero, Region.wanted, if_true]
      refine Or.inl ?_
      have e0 : a.eval (.tmp 21) = .pointer (some ⟨w.heap.size, 1, none⟩) := hw 7 (by kernel_rfl)
      have f0 := row_cell Rx_1.out hb 0
      have f1 := row_cell Rx_1.out hb 1
      have f2 := row_cell Rx_1.out hb 2
      simp only [List.getElem?_toArray, List.getElem?_cons_succ, List.getElem?_cons_zero] at f0 f1 f2
      clear hw hF
      simp only [Oper.wp, execOp]
      rw [e0]
      go_simp
      exact hK _ x (by first | rfl | simp) (Below.refl _ _)
    · simp only [wpOp, List.getElem?_toArray, List.getElem?_cons_succ, List.getElem?_cons_zero, Region.wanted, if_true]
      refine Or.inl ?_
      have e0 : a.tmps.getD 22 undef = .slice A xs.length c := hw 8 (by kernel_rfl)
      clear hw hF
      simp only [Oper.wp, execOp]
      go_simp
      exact hK _ x (by first | rfl | simp) (Below.refl _ _)
    · simp only [wpOp, List.getElem?_toArray, List.getElem?_cons_succ, List.getElem?_cons_zero, Region.wanted, if_true]
      refine Or.inl ?_
      have e0 : a.tmps.getD 23 undef = .int .i64 xs.length := hw 9 (by kernel_rfl)
      clear hw hF
      simp only [Oper.wp, execOp]
      go_simp
      exact hK _ x (by first | rfl | simp) (Below.refl _ _)
    · simp only [wpOp, List.getElem?_toArray, List.getElem?_cons_succ, List.getElem?_cons_zero, Region.wanted, if_true]
      refine Or.inl ?_
      have e0 : a.tmps.getD 19 undef = .slice A xs.length c := hw 5 (by kernel_rfl)
      have e1 : a.tmps.getD 24 undef = .int .i64 K := hw 10 (by kernel_rfl)
      clear hw hF
      simp only [Oper.wp, execOp]
      go_simp
      exact hK _ x (by first | rfl | simp) (Below.refl _ _)
    · simp only [wpOp, List.getElem?_toArray, List.getElem?_cons_succ, List.getElem?_cons_zero, Region.wanted, if_true]
      refine Or.inl ?_
      have e0 : a.tmps.getD 16 undef = .bool s := hw 2 (by kernel_rfl)
      have e1 : a.tmps.getD 25 undef = .slice A K.toNat c := hw 11 (by kernel_rfl)
      clear hw hF
      simp only [Oper.wp, execOp]
      go_simp
      refine (MK.out _ ((L1.out.step hb).get (A := A) (c := c) (xs := ts) (by simp))).mono ?_
      rintro e y ⟨A2, c2, rfl, hd2, hbb⟩
      exact hK _ y ⟨A2, c2, rfl, hd2⟩ hbb
    · simp only [wpOp, List.getElem?_toArray, List.getElem?_cons_succ, List.getElem?_cons_zero, Region.wanted, if_true]
      refine Or.inl ?_
      have e0 : a.eval (.tmp 3) = .int .i64 v := hF.2.2 3 (by decide)
      clear hw hF
      simp only [Oper.wp, execOp]
      rw [e0]
      go_simp
      exact hK _ x (by first | rfl | simp) (Below.refl _ _)
    · simp only [wpOp, List.getElem?_toArray, List.getElem?_cons_succ, List.getElem?_cons_zero, Region.wanted, if_true]
      refine Or.inl ?_
      have e0 : a.eval (.tmp 27) = .int .i64 v := hw 13 (by kernel_rfl)
      clear hw hF
      simp only [Oper.wp, execOp]
      rw [e0]
      go_simp
      exact hK _ x (by first | rfl | simp) (Below.refl _ _)
    · simp only [wpOp, List.getElem?_toArray, List.getElem?_cons_succ, List.getElem?_cons_zero, Region.wanted, if_true]
      refine Or.inl ?_
      have e0 : a.eval (.tmp 28) = .int .i64 (v % 601) := hw 14 (by kernel_rfl)
      clear hw hF
      simp only [Oper.wp, execOp]
      rw [e0]
      go_simp
      exact hK _ x (by first | rfl | simp) (Below.refl _ _)
    · simp only [wpOp, List.getElem?_toArray, List.getElem?_cons_succ, List.getElem?_cons_zero, Region.wanted, if_true]
      refine Or.inl ?_
      obtain ⟨A', c', e0, hd⟩ := hw 12 (by kernel_rfl)
      have e0 : a.tmps.getD 26 undef = _ := e0
      have e1 : a.tmps.getD 29 undef = .int .i64 e := hw 15 (by kernel_rfl)
      clear hw hF
      simp only [Oper.wp, execOp]
      go_simp
      refine (DM.out _ A' c' hd (t32_live HT.out (L1.out.step hb))).mono ?_
      rintro e y ⟨A2, c2, rfl, hd2, hbb⟩
      exact hK _ y ⟨A2, c2, rfl, hd2⟩ hbb
    · simp only [wpOp, List.getElem?_toArray, List.getElem?_cons_succ, List.getElem?_cons_zero, Region.wanted, if_true]
      refine Or.inl ?_
      obtain ⟨A', c', e0, hd⟩ := hw 16 (by kernel_rfl)
      have e0 : a.eval (.tmp 30) = _ := e0
      clear hw hF
      simp only [Oper.wp, execOp]
      rw [e0]
      go_simp
      exact hK _ x ⟨A', c', rfl, hd⟩ (Below.refl _ _)
    · simp only [wpOp, List.getElem?_toArray, List.getElem?_cons_succ, List.getElem?_cons_zero, Region.wanted, if_true]
      refine Or.inl ?_
      obtain ⟨A', c', e0, hd⟩ := hw 17 (by kernel_rfl)
      have e0 : a.eval (.tmp 13) = _ := e0
      clear hw hF
      simp only [Oper.wp, execOp]
      rw [e0]
      go_simp
      exact hK _ x ⟨A', c', rfl, hd⟩ (Below.refl _ _)
    · simp only [wpOp, List.getElem?_toArray, List.getElem?_cons_succ, List.getElem?_cons_zero, Region.wanted, if_true]
      refine Or.inl ?_
      clear hw hF
      simp only [Oper.wp, execOp]
      go_simp
      exact hK _ _ ⟨_, rfl, heap_alloc_new _ _, hb.size⟩ (below1 _ _)
  · intro a x hF0 hb hR
    have hF : Fr6 [32, 14, 15, 16, 17, 18, 19, 20, 21, 22, 23, 24, 25, 26, 27, 28, 29, 30, 13, 31, 4] _ a := hF0
    have e0 : a.tmps.getD 14 undef = .pointer (some ⟨w.heap.size, 0, none⟩) := hR 0 (by decide)
    have e1 : a.tmps.getD 15 undef = .pointer (some ⟨w.heap.size, 0, none⟩) := hR 1 (by decide)
    have e2 : a.tmps.getD 16 undef = .bool s := hR 2 (by decide)
    have e3 : a.tmps.getD 17 undef = .pointer (some ⟨w.heap.size, 0, none⟩) := hR 3 (by decide)
    have e4 : a.tmps.getD 18 undef = .pointer (some ⟨w.heap.size, 1, none⟩) := hR 4 (by decide)
    have e5 : a.tmps.getD 19 undef = .slice A xs.length c := hR 5 (by decide)
    have e6 : a.tmps.getD 20 undef = .pointer (some ⟨w.heap.size, 0, none⟩) := hR 6 (by decide)
    have e7 : a.tmps.getD 21 undef = .pointer (some ⟨w.heap.size, 1, none⟩) := hR 7 (by decide)
    have e8 : a.tmps.getD 22 undef = .slice A xs.length c := hR 8 (by decide)
    have e9 : a.tmps.getD 23 undef = .int .i64 xs.length := hR 9 (by decide)
    have e10 : a.tmps.getD 24 undef = .int .i64 K := hR 10 (by decide)
    have e11 : a.tmps.getD 25 undef = .slice A K.toNat c := hR 11 (by decide)
    obtain ⟨B12, d12, h12, hd12⟩ := hR 12 (by decide)
    have e12 : a.tmps.getD 26 undef = _ := h12
    have e13 : a.tmps.getD 27 undef = .int .i64 v := hR 13 (by decide)
    have e14 : a.tmps.getD 28 undef = .int .i64 (v % 601) := hR 14 (by decide)
    have e15 : a.tmps.getD 29 undef = .int .i64 e := hR 15 (by decide)
    obtain ⟨B16, d16, h16, hd16⟩ := hR 16 (by decide)
    have e16 : a.tmps.getD 30 undef = _ := h16
    obtain ⟨B17, d17, h17, hd17⟩ := hR 17 (by decide)
    have e17 : a.tmps.getD 13 undef = _ := h17
    obtain ⟨B18, d18, h18, hd18⟩ := hR 18 (by decide)
    have e18 : a.tmps.getD 31 undef = _ := h18
    obtain ⟨g20, h20, hg20, hge20⟩ := hR 20 (by decide)
    have e20 : a.tmps.getD 4 undef = _ := h20
    refine ⟨⟨?_, ?_⟩, fun hx => ?_⟩
    · rw [hF.fold (by kernel_rfl)]
      simp only [List.foldl_cons, List.foldl_nil, e0, e1, e2, e3, e4, e5, e6, e7, e8, e9, e10, e11, e12, e13, e14, e15, e16, e17, e18, e20]
      generalize a.tmps.getD 32 undef = vx at *
      simp only [Act.put, List.setIfInBounds_toArray, List.set_cons_zero, List.set_cons_succ]
      clear e0 e1 e2 e3 e4 e5 e6 e7 e8 e9 e10 e11 e12 e13 e14 e15 e16 e17 e18 e20 hR hF hF0 h12 h16 h17 h18 h20
      obtain ⟨w2, hW⟩ : ∃ W : World, W = x := ⟨_, rfl⟩
      rw [← hW]
      rw [← hW] at hb hd12 hd16 hd17 hd18 hg20
      have L2 := Lib.hid (((((L1.out.step hb).add hd12).add hd16).add hd17).add hd18)
      have Rx_2 := Lib.hid (cells_of Rx_1.out hb)
      have Rr_2 := Lib.hid (cells_of Rr_1.out hb)
      have Rq20_2 := Lib.hid hg20
      have Gq20 : w.heap.size ≤ g20 := Nat.le_trans L1.out.1.size hge20
      have Nxq20 : w.heap.size < g20 := by have := heap_lt Rx_1.out; omega
      have Nrq20 : w.heap.size + 1 < g20 := by have := heap_lt Rr_1.out; omega
      clear hW hb hd12 hd16 hd17 hd18 hg20 hge20
      have fq200 := row_c (i := 0) Rq20_2.out rfl
      have zq200 := frozen_of_row _ _ 0 _ _ Rq20_2.out
      have fq201 := row_c (i := 1) Rq20_2.out rfl
      have zq201 := frozen_of_row _ _ 1 _ _ Rq20_2.out
      have fq202 := row_c (i := 2) Rq20_2.out rfl
      have zq202 := frozen_of_row _ _ 2 _ _ Rq20_2.out
      have xq20 := heap_lt Rq20_2.out
      simp only [wpOps_cons]
      simp only [wpOp, List.getElem?_toArray, List.getElem?_cons_succ, List.getElem?_cons_zero, Region.wanted, if_true]
      refine Or.inl ?_
      simp only [Oper.wp, execOp]
      go_simp
      simp only [wpOps_cons]
      simp only [wpOp, List.getElem?_toArray, List.getElem?_cons_succ, List.getElem?_cons_zero, Region.wanted, if_true]
      refine Or.inl ?_
      simp only [Oper.wp, execOp]
      go_simp
      simp only [wpOps_cons]
      simp only [wpOp, List.getElem?_toArray, List.getElem?_cons_succ, List.getElem?_cons_zero, Region.wanted, if_true]
      refine Or.inl ?_
      simp only [Oper.wp, execOp]
      go_simp
      try simp only [wpOps]
      clear fq200 zq200 fq201 zq201 fq202 zq202 xq20
      obtain ⟨w3, hW⟩ : ∃ W : World, W = (((w2.setCell ⟨g20, 0, none⟩ (.bool (decide (M < 0)))).setCell ⟨g20, 1, none⟩ (.slice B18 (digs M.natAbs).length d18)).setCell ⟨g20, 2, none⟩ (.int .i64 E)) := ⟨_, rfl⟩
      rw [← hW]
      have hO : Only (g20) w2 w3 := by rw [hW]; exact ((((Only.refl (g20) w2).setCell 0 _).setCell 1 _).setCell 2 _)
      have L3 := Lib.hid (live_only L2.out hO Rq20_2.out noint_dy Gq20)
      have Rx_3 := Lib.hid ((hO.block _ (by omega)).trans Rx_2.out)
      have Rr_3 := Lib.hid ((hO.block _ (by omega)).trans Rr_2.out)
      have Rq20_3 := Lib.hid (show w3.heap[g20]? = some (.cells #[.bool (decide (M < 0)), .slice B18 (digs M.natAbs).length d18, .int .i64 E] 26 (0, 0)) by rw [hW]; exact (heap_setCell_same _ _ 2 _ _ _ (heap_setCell_same _ _ 1 _ _ _ (heap_setCell_same _ _ 0 _ _ _ Rq20_2.out))))
      clear hW hO
      have fr0 := row_c (i := 0) Rr_3.out rfl
      have zr0 := frozen_of_row _ _ 0 _ _ Rr_3.out
      have fr1 := row_c (i := 1) Rr_3.out rfl
      have zr1 := frozen_of_row _ _ 1 _ _ Rr_3.out
      have fr2 := row_c (i := 2) Rr_3.out rfl
      have zr2 := frozen_of_row _ _ 2 _ _ Rr_3.out
      have xr := heap_lt Rr_3.out
      have fq200 := row_c (i := 0) Rq20_3.out rfl
      have zq200 := frozen_of_row _ _ 0 _ _ Rq20_3.out
      have fq201 := row_c (i := 1) Rq20_3.out rfl
      have zq201 := frozen_of_row _ _ 1 _ _ Rq20_3.out
      have fq202 := row_c (i := 2) Rq20_3.out rfl
      have zq202 := frozen_of_row _ _ 2 _ _ Rq20_3.out
      have xq20 := heap_lt Rq20_3.out
      go_wp2
      refine bodyPost_ret (v := .agg #[.bool (decide (M < 0)), .slice B18 (digs M.natAbs).length d18, .int .i64 E]) (by simp [results, Tryd.results5, go_sem, fr0, fr1, fr2, fq200, fq201, fq202]) rfl ?_
      
      refine ⟨B18, d18, rfl, ?_, ?_⟩
      · exact (fin3 L3.out Rr_3.out noint3 Gr).get (A := B18) (c := d18) (xs := digs M.natAbs) (by simp)
      · exact (fin3 L3.out Rr_3.out noint3 Gr).1
    · rw [hF.fold (by kernel_rfl)]
      simp only [List.foldl_cons, List.foldl_nil, e0, e1, e2, e3, e4, e5, e6, e7, e8, e9, e10, e11, e12, e13, e14, e15, e16, e17, e18, e20]
      generalize a.tmps.getD 32 undef = vx at *
      simp only [Act.put, List.setIfInBounds_toArray, List.set_cons_zero, List.set_cons_succ]
      clear e0 e1 e2 e3 e4 e5 e6 e7 e8 e9 e10 e11 e12 e13 e14 e15 e16 e17 e18 e20 hR hF hF0 h12 h16 h17 h18 h20
      obtain ⟨w2, hW⟩ : ∃ W : World, W = x := ⟨_, rfl⟩
      rw [← hW]
      rw [← hW] at hb hd12 hd16 hd17 hd18 hg20
      have L2 := Lib.hid (((((L1.out.step hb).add hd12).add hd16).add hd17).add hd18)
      have Rx_2 := Lib.hid (cells_of Rx_1.out hb)
      have Rr_2 := Lib.hid (cells_of Rr_1.out hb)
      have Rq20_2 := Lib.hid hg20
      have Gq20 : w.heap.size ≤ g20 := Nat.le_trans L1.out.1.size hge20
      have Nxq20 : w.heap.size < g20 := by have := heap_lt Rx_1.out; omega
      have Nrq20 : w.heap.size + 1 < g20 := by have := heap_lt Rr_1.out; omega
      clear hW hb hd12 hd16 hd17 hd18 hg20 hge20
      have fq200 := row_c (i := 0) Rq20_2.out rfl
      have zq200 := frozen_of_row _ _ 0 _ _ Rq20_2.out
      have fq201 := row_c (i := 1) Rq20_2.out rfl
      have zq201 := frozen_of_row _ _ 1 _ _ Rq20_2.out
      have fq202 := row_c (i := 2) Rq20_2.out rfl
      have zq202 := frozen_of_row _ _ 2 _ _ Rq20_2.out
      have xq20 := heap_lt Rq20_2.out
      simp only [wpOps_cons]
      simp only [wpOp, List.getElem?_toArray, List.getElem?_cons_succ, List.getElem?_cons_zero, Region.wanted, if_true]
      refine Or.inl ?_
      simp only [Oper.wp, execOp]
      go_simp
      simp only [wpOps_cons]
      simp only [wpOp, List.getElem?_toArray, List.getElem?_cons_succ, List.getElem?_cons_zero, Region.wanted, if_true]
      refine Or.inl ?_
      simp only [Oper.wp, execOp]
      go_simp
      simp only [wpOps_cons]
      simp only [wpOp, List.getElem?_toArray, List.getElem?_cons_succ, List.getElem?_cons_zero, Region.wanted, if_true]
      refine Or.inl ?_
      simp only [Oper.wp, execOp]
      go_simp
      try simp only [wpOps]
      clear fq200 zq200 fq201 zq201 fq202 zq202 xq20
      obtain ⟨w3, hW⟩ : ∃ W : World, W = (((w2.setCell ⟨g20, 0, none⟩ (.bool (decide (M < 0)))).setCell ⟨g20, 1, none⟩ (.slice B18 (digs M.natAbs).length d18)).setCell ⟨g20, 2, none⟩ (.int .i64 E)) := ⟨_, rfl⟩
      rw [← hW]
      have hO : Only (g20) w2 w3 := by rw [hW]; exact ((((Only.refl (g20) w2).setCell 0 _).setCell 1 _).setCell 2 _)
      have L3 := Lib.hid (live_only L2.out hO Rq20_2.out noint_dy Gq20)
      have Rx_3 := Lib.hid ((hO.block _ (by omega)).trans Rx_2.out)
      have Rr_3 := Lib.hid ((hO.block _ (by omega)).trans Rr_2.out)
      have Rq20_3 := Lib.hid (show w3.heap[g20]? = some (.cells #[.bool (decide (M < 0)), .slice B18 (digs M.natAbs).length d18, .int .i64 E] 26 (0, 0)) by rw [hW]; exact (heap_setCell_same _ _ 2 _ _ _ (heap_setCell_same _ _ 1 _ _ _ (heap_setCell_same _ _ 0 _ _ _ Rq20_2.out))))
      clear hW hO
      have fr0 := row_c (i := 0) Rr_3.out rfl
      have zr0 := frozen_of_row _ _ 0 _ _ Rr_3.out
      have fr1 := row_c (i := 1) Rr_3.out rfl
      have zr1 := frozen_of_row _ _ 1 _ _ Rr_3.out
      have fr2 := row_c (i := 2) Rr_3.out rfl
      have zr2 := frozen_of_row _ _ 2 _ _ Rr_3.out
      have xr := heap_lt Rr_3.out
      have fq200 := row_c (i := 0) Rq20_3.out rfl
      have zq200 := frozen_of_row _ _ 0 _ _ Rq20_3.out
      have fq201 := row_c (i := 1) Rq20_3.out rfl
      have zq201 := frozen_of_row _ _ 1 _ _ Rq20_3.out
      have fq202 := row_c (i := 2) Rq20_3.out rfl
      have zq202 := frozen_of_row _ _ 2 _ _ Rq20_3.out
      have xq20 := heap_lt Rq20_3.out
      go_wp2
      refine bodyPost_ret (v := .agg #[.bool (decide (M < 0)), .slice B18 (digs M.natAbs).length d18, .int .i64 E]) (by simp [results, Tryd.results5, go_sem, fr0, fr1, fr2, fq200, fq201, fq202]) rfl ?_
      
      refine ⟨B18, d18, rfl, ?_, ?_⟩
      · exact (fin3 L3.out Rr_3.out noint3 Gr).get (A := B18) (c := d18) (xs := digs M.natAbs) (by simp)
      · exact (fin3 L3.out Rr_3.out noint3 Gr).1
    · have e19 : a.tmps.getD 32 undef = .bool true := hx
      rw [hF.fold (by kernel_rfl)]
      simp only [List.foldl_cons, List.foldl_nil, e0, e1, e2, e3, e4, e5, e6, e7, e8, e9, e10, e11, e12, e13, e14, e15, e16, e17, e18, e20, e19]
      simp only [Act.put, List.setIfInBounds_toArray, List.set_cons_zero, List.set_cons_succ]
      clear e0 e1 e2 e3 e4 e5 e6 e7 e8 e9 e10 e11 e12 e13 e14 e15 e16 e17 e18 e20 e19 hR hF hF0 h12 h16 h17 h18 h20 hx
      obtain ⟨w2, hW⟩ : ∃ W : World, W = x := ⟨_, rfl⟩
      rw [← hW]
      rw [← hW] at hb hd12 hd16 hd17 hd18 hg20
      have L2 := Lib.hid (((((L1.out.step hb).add hd12).add hd16).add hd17).add hd18)
      have Rx_2 := Lib.hid (cells_of Rx_1.out hb)
      have Rr_2 := Lib.hid (cells_of Rr_1.out hb)
      have Rq20_2 := Lib.hid hg20
      have Gq20 : w.heap.size ≤ g20 := Nat.le_trans L1.out.1.size hge20
      have Nxq20 : w.heap.size < g20 := by have := heap_lt Rx_1.out; omega
      have Nrq20 : w.heap.size + 1 < g20 := by have := heap_lt Rr_1.out; omega
      clear hW hb hd12 hd16 hd17 hd18 hg20 hge20
      have fq200 := row_c (i := 0) Rq20_2.out rfl
      have zq200 := frozen_of_row _ _ 0 _ _ Rq20_2.out
      have fq201 := row_c (i := 1) Rq20_2.out rfl
      have zq201 := frozen_of_row _ _ 1 _ _ Rq20_2.out
      have fq202 := row_c (i := 2) Rq20_2.out rfl
      have zq202 := frozen_of_row _ _ 2 _ _ Rq20_2.out
      have xq20 := heap_lt Rq20_2.out
      simp only [wpOps_cons]
      simp only [wpOp, List.getElem?_toArray, List.getElem?_cons_succ, List.getElem?_cons_zero, Region.wanted, if_true]
      refine Or.inl ?_
      simp only [Oper.wp, execOp]
      go_simp
      simp only [wpOps_cons]
      simp only [wpOp, List.getElem?_toArray, List.getElem?_cons_succ, List.getElem?_cons_zero, Region.wanted, if_true]
      refine Or.inl ?_
      simp only [Oper.wp, execOp]
      go_simp
      try simp only [wpOps]
      clear fq200 zq200 fq201 zq201 fq202 zq202 xq20
      obtain ⟨w3, hW⟩ : ∃ W : World, W = (((w2.setCell ⟨g20, 0, none⟩ (.bool (decide (M < 0)))).setCell ⟨g20, 1, none⟩ (.slice B18 (digs M.natAbs).length d18)).setCell ⟨g20, 2, none⟩ (.int .i64 E)) := ⟨_, rfl⟩
      rw [← hW]
      have hO : Only (g20) w2 w3 := by rw [hW]; exact ((((Only.refl (g20) w2).setCell 0 _).setCell 1 _).setCell 2 _)
      have L3 := Lib.hid (live_only L2.out hO Rq20_2.out noint_dy Gq20)
      have Rx_3 := Lib.hid ((hO.block _ (by omega)).trans Rx_2.out)
      have Rr_3 := Lib.hid ((hO.block _ (by omega)).trans Rr_2.out)
      have Rq20_3 := Lib.hid (show w3.heap[g20]? = some (.cells #[.bool (decide (M < 0)), .slice B18 (digs M.natAbs).length d18, .int .i64 E] 26 (0, 0)) by rw [hW]; exact (heap_setCell_same _ _ 2 _ _ _ (heap_setCell_same _ _ 1 _ _ _ (heap_setCell_same _ _ 0 _ _ _ Rq20_2.out))))
      clear hW hO
      have fr0 := row_c (i := 0) Rr_3.out rfl
      have zr0 := frozen_of_row _ _ 0 _ _ Rr_3.out
      have fr1 := row_c (i := 1) Rr_3.out rfl
      have zr1 := frozen_of_row _ _ 1 _ _ Rr_3.out
      have fr2 := row_c (i := 2) Rr_3.out rfl
      have zr2 := frozen_of_row _ _ 2 _ _ Rr_3.out
      have xr := heap_lt Rr_3.out
      have fq200 := row_c (i := 0) Rq20_3.out rfl
      have zq200 := frozen_of_row _ _ 0 _ _ Rq20_3.out
      have fq201 := row_c (i := 1) Rq20_3.out rfl
      have zq201 := frozen_of_row _ _ 1 _ _ Rq20_3.out
      have fq202 := row_c (i := 2) Rq20_3.out rfl
      have zq202 := frozen_of_row _ _ 2 _ _ Rq20_3.out
      have xq20 := heap_lt Rq20_3.out
      go_wp2
      refine bodyPost_ret (v := .agg #[.bool (decide (M < 0)), .slice B18 (digs M.natAbs).length d18, .int .i64 E]) (by simp [results, Tryd.results5, go_sem, fr0, fr1, fr2, fq200, fq201, fq202]) rfl ?_
      
      refine ⟨B18, d18, rfl, ?_, ?_⟩
      · exact (fin3 L3.out Rr_3.out noint3 Gr).get (A := B18) (c := d18) (xs := digs M.natAbs) (by simp)
      · exact (fin3 L3.out Rr_3.out noint3 Gr).1

set_option maxHeartbeats 4000000 in
set_option maxRecDepth 100000 in
theorem tame_p (A : Option Addr) (c : Nat) (s : Bool) (xs : List Nat) (y M E : Int) (w : World) (h : Dg w A c xs) (hT : T32 w) (hlx : xs.length ≤ 9223372036854775807) (y0 : -9223372036854775808 ≤ y) (y1 : y ≤ 9223372036854775807) (hM : nm (sg s (val (xs.take 6))) = M) (hE : nx (sg s (val (xs.take 6))) (tameE y) = E) (hy : 0 ≤ y):
    Calls Tryd.prog 5 #[.agg #[.bool s, .slice A xs.length c, .int .i64 y]] w fun e w' => Yr M E w e w' := by
  obtain ⟨ts, hts⟩ : ∃ t, xs.take 6 = t := ⟨_, rfl⟩
  have h6 := take6 h.2.1 s
  have hbd := tameE_bd y
  rw [hts] at hM hE h6
  obtain ⟨z, hz⟩ : ∃ z, sg s (val ts) = z := ⟨_, rfl⟩
  rw [hz] at hM hE h6
  obtain ⟨e, he⟩ : ∃ e, tameE y = e := ⟨_, rfl⟩
  rw [he] at hE hbd
  have hte : (y) % 601 - 300 = e := by rw [← he]; unfold tameE; rw [if_neg (by omega)]
  have htl : ts.length = min xs.length 6 := by rw [← hts, List.length_take]; omega
  have hzl : (digs z.natAbs).length ≤ 7 := by
    have := len_bl z
    have : bl z ≤ 192 := blen_le h6
    omega
  have hq := (hM ▸ hE ▸ tm_of h6 hbd.1 hbd.2).inR
  have hok := ok32_take6 h.2.1 hts
  have MK := Lib.hid (fun W (hW : Dg W A c ts) => zmake_any A c s ts W hW (by omega))
  rw [hz] at MK
  obtain ⟨K, hK⟩ : ∃ K : Int, min (xs.length : Int) 6 = K := ⟨_, rfl⟩
  have hKt : K.toNat = ts.length := by omega
  rw [← hKt] at MK
  have HK := Lib.hid hK
  have HC := Lib.hid h.1
  have DM := Lib.hid (fun W A c (hW : Dg W A c (digs z.natAbs)) hT => make_yes A c (decide (z < 0)) (digs z.natAbs) e M E W hW (by omega) hT (by omega) (by omega) (by rw [sg_dz]; exact hM) (by rw [sg_dz]; exact hE) hq)
  have d1 : decide (y < 0) = false := by simp; omega
  have HT := Lib.hid hT
  clear hT
  have L0 := Lib.hid (((live_start w).add h).add (show Dg w A c ts by rw [← hts]; exact h.take 6))
  clear h h6 hM hE hz hq hok hzl he hts hK hKt
  go_enter Tryd.func5, Tryd.ntmps5
  go_wp2_with fail
  obtain ⟨v1, hW⟩ : ∃ W : World, W = ((w.alloc (.cells #[.bool s, .slice A xs.length c, .int .i64 y] 26)).alloc (.cells #[.bool false, .slice none 0 0, .int .i64 0] 26)) := ⟨_, rfl⟩
  rw [← hW]
  have hb : Below w.heap.size w v1 := by rw [hW]; exact (((Below.refl _ _).alloc (by simp <;> omega) _).alloc (by simp <;> omega) _)
  have L1 := Lib.hid (L0.out.step hb)
  have Rx_1 := Lib.hid (show v1.heap[w.heap.size]? = some (.cells #[.bool s, .slice A xs.length c, .int .i64 y] 26 (0, 0)) by rw [hW]; have := heap_alloc_new w (.cells #[.bool s, .slice A xs.length c, .int .i64 y] 26); rw [heap_alloc_old _ _ (by simp <;> omega)]; simpa using this)
  have Gx : w.heap.size ≤ w.heap.size := by have := L0.out.1.size; omega
  have Rr_1 := Lib.hid (show v1.heap[w.heap.size + 1]? = some (.cells #[.bool false, .slice none 0 0, .int .i64 0] 26 (0, 0)) by rw [hW]; have := heap_alloc_new (w.alloc (.cells #[.bool s, .slice A xs.length c, .int .i64 y] 26)) (.cells #[.bool false, .slice none 0 0, .int .i64 0] 26); simpa using this)
  have Gr : w.heap.size ≤ w.heap.size + 1 := by have := L0.out.1.size; omega
  have Nxr : w.heap.size < w.heap.size + 1 := by omega
  clear hW hb
  obtain ⟨v, hv⟩ : ∃ v : Int, y = v := ⟨_, rfl⟩
  rw [hv]
  rw [hv] at hte
  have v0 : 0 ≤ v := by omega
  have hr : Int.tmod v 601 = v % 601 := Int.tmod_eq_emod_of_nonneg v0
  have hs : IntKind.i64.wrap (v % 601 - 300) = e := by rw [IntWalk.i64_in _ (by omega)]; exact hte
  have hmin : min (xs.length : Int) 6 = K := HK.out
  have k0 : 0 ≤ K := by have := HK.out; omega
  have k1 : K ≤ (c : Int) := by have := HK.out; have := HC.out; omega
  clear hv hte y0 y1 hy d1 hbd htl hlx
  refine wp_operands_late (W := v1) rfl 19 21 22 [0, 1, 2, 3, 4, 5, 6, 7, 8, 9, 10, 11, 12, 13, 14, 15, 16, 17, 18, 20] [14, 15, 16, 17, 18, 19, 20, 21, 22, 23, 24, 25, 26, 27, 28, 29, 30, 13, 31, 32, 4] (fun i u ww => match i with | 19 => u = .bool true | 0 => u = .pointer (some ⟨w.heap.size, 0, none⟩) | 1 => u = .pointer (some ⟨w.heap.size, 0, none⟩) | 2 => u = .bool s | 3 => u = .pointer (some ⟨w.heap.size, 0, none⟩) | 4 => u = .pointer (some ⟨w.heap.size, 1, none⟩) | 5 => u = .slice A xs.length c | 6 => u = .pointer (some ⟨w.heap.size, 0, none⟩) | 7 => u = .pointer (some ⟨w.heap.size, 1, none⟩) | 8 => u = .slice A xs.length c | 9 => u = .int .i64 xs.length | 10 => u = .int .i64 K | 11 => u = .slice A K.toNat c | 12 => ∃ A c, u = .agg #[.bool (decide (z < 0)), .slice A (digs z.natAbs).length c] ∧ Dg ww A c (digs z.natAbs) | 13 => u = .int .i64 v | 14 => u = .int .i64 (v % 601) | 15 => u = .int .i64 e | 16 => ∃ A c, u = .tuple #[.agg #[.bool (decide (M < 0)), .slice A (digs M.natAbs).length c, .int .i64 E], .bool true] ∧ Dg ww A c (digs M.natAbs) | 17 => ∃ A c, u = .tuple #[.agg #[.bool (decide (M < 0)), .slice A (digs M.natAbs).length c, .int .i64 E], .bool true] ∧ Dg ww A c (digs M.natAbs) | 18 => ∃ A c, u = .agg #[.bool (decide (M < 0)), .slice A (digs M.natAbs).length c, .int .i64 E] ∧ Dg ww A c (digs M.natAbs) | 20 => ∃ g, u = .pointer (some ⟨g, 0, none⟩) ∧ ww.heap[g]? = some (.cells #[.bool false, .slice none 0 0, .int .i64 0] 26 (0, 0)) ∧ v1.heap.size ≤ g | _ => True)
    (by kernel_rfl) (by kernel_rfl) (by decide) (by kernel_rfl) (by kernel_rfl) (by kernel_rfl) (by decide) (by kernel_rfl) (by kernel_rfl) (by kernel_rfl) (by kernel_rfl) (by kernel_rfl) (by kernel_rfl) (by kernel_rfl) (by kernel_rfl) ?_ ?_ ?_
  · intro i u x y hi h hb
    have hi' : i = 19 ∨ i = 0 ∨ i = 1 ∨ i = 2 ∨ i = 3 ∨ i = 4 ∨ i = 5 ∨ i = 6 ∨ i = 7 ∨ i = 8 ∨ i = 9 ∨ i = 10 ∨ i = 11 ∨ i = 12 ∨ i = 13 ∨ i = 14 ∨ i = 15 ∨ i = 16 ∨ i = 17 ∨ i = 18 ∨ i = 20 := by simpa using hi
    rcases hi' with rfl | rfl | rfl | rfl | rfl | rfl | rfl | rfl | rfl | rfl | rfl | rfl | rfl | rfl | rfl | rfl | rfl | rfl | rfl | rfl | rfl
    · exact h
    · exact h
    · exact h
    · exact h
    · exact h
    · exact h
    · exact h
    · exact h
    · exact h
    · exact h
    · exact h
    · exact h
    · exact h
    · obtain ⟨A, c, e, hd⟩ := h
      exact ⟨A, c, e, hd.below hb⟩
    · exact h
    · exact h
    · exact h
    · obtain ⟨A, c, e, hd⟩ := h
      exact ⟨A, c, e, hd.below hb⟩
    · obtain ⟨A, c, e, hd⟩ := h
      exact ⟨A, c, e, hd.below hb⟩
    · obtain ⟨A, c, e, hd⟩ := h
      exact ⟨A, c, e, hd.below hb⟩
    · obtain ⟨g, e, hg, hge⟩ := h
      exact ⟨g, e, cells_of hg hb, hge⟩
  · intro i a x KK hi hF hb hw hK
    have hi' : i = 19 ∨ i = 0 ∨ i = 1 ∨ i = 2 ∨ i = 3 ∨ i = 4 ∨ i = 5 ∨ i = 6 ∨ i = 7 ∨ i = 8 ∨ i = 9 ∨ i = 10 ∨ i = 11 ∨ i = 12 ∨ i = 13 ∨ i = 14 ∨ i = 15 ∨ i = 16 ∨ i = 17 ∨ i = 18 ∨ i = 20 := by simpa using hi
    rcases hi' with rfl | rfl | rfl | rfl | rfl | rfl | rfl | rfl | rfl | rfl | rfl | rfl | rfl | rfl | rfl | rfl | rfl | rfl | rfl | rfl | rfl
    · simp only [wpOp, List.getElem?_toArray, List.getElem?_cons_succ, List.getElem?_cons_zero, Region.wanted, if_true]
      refine Or.inl ?_
      obtain ⟨A', c', e0, hd⟩ := hw 17 (by kernel_rfl)
      have e0 : a.eval (.tmp 13) = _ := e0
      clear hw hF
      simp only [Oper.wp, execOp]
      rw [e0]
      go_simp
      exact hK _ x (by first | rfl | simp) (Below.refl _ _)
    · simp only [wpOp, List.getElem?_toArray, List.getElem?_cons_zero, Region.wanted, if_true]
      refine Or.inl ?_
      have e0 : a.eval (.tmp 1) = .pointer (some ⟨w.heap.size, 0, none⟩) := hF.2.2 1 (by decide)
      clear hw hF
      simp only [Oper.wp, execOp]
      rw [e0]
      go_simp
      exact hK _ x (by first | rfl | simp) (Below.refl _ _)
    · simp only [wpOp, List.getElem?_toArray, List.getElem?_cons_succ, List.getElem?_cons_zero, Region.wanted, if_true]
      refine Or.inl ?_
      have e0 : a.eval (.tmp 14) = .pointer (some ⟨w.heap.size, 0, none⟩) := hw 0 (by kernel_rfl)
      clear hw hF
      simp only [Oper.wp, execOp]
      rw [e0]
      go_simp
      exact hK _ x (by first | rfl | simp) (Below.refl _ _)
    · simp only [wpOp, List.getElem?_toArray, List.getElem?_cons_succ, List.getElem?_cons_zero, Region.wanted, if_true]
      refine Or.inl ?_
      have e0 : a.eval (.tmp 15) = .pointer (some ⟨w.heap.size, 0, none⟩) := hw 1 (by kernel_rfl)
      have f0 := row_cell Rx_1.out hb 0
      have f1 := row_cell Rx_1.out hb 1
      have f2 := row_cell Rx_1.out hb 2
      simp only [List.getElem?_toArray, List.getElem?_cons_succ, List.getElem?_cons_zero] at f0 f1 f2
      clear hw hF
      simp only [Oper.wp, execOp]
      rw [e0]
      go_simp
      exact hK _ x (by first | rfl | simp) (Below.refl _ _)
    · simp only [wpOp, List.getElem?_toArray, List.getElem?_cons_succ, List.getElem?_cons_zero, Region.wanted, if_true]
      refine Or.inl ?_
      have e0 : a.eval (.tmp 1) = .pointer (some ⟨w.heap.size, 0, none⟩) := hF.2.2 1 (by decide)
      clear hw hF
      simp only [Oper.wp, execOp]
      rw [e0]
      go_simp
      exact hK _ x (by first | rfl | simp) (Below.refl _ _)
    · simp only [wpOp, List.getElem?_toArray, List.getElem?_cons_succ, List.getElem?_cons_zero, Region.wanted, if_true]
      refine Or.inl ?_
      have e0 : a.eval (.tmp 17) = .pointer (some ⟨w.heap.size, 0, none⟩) := hw 3 (by kernel_rfl)
      clear hw hF
      simp only [Oper.wp, execOp]
      rw [e0]
      go_simp
      exact hK _ x (by first | rfl | simp) (Below.refl _ _)
    · simp only [wpOp, List.getElem?_toArray, List.getElem?_cons_succ, List.getElem?_cons_zero, Region.wanted, if_true]
      refine Or.inl ?_
      have e0 : a.eval (.tmp 18) = .pointer (some ⟨w.heap.size, 1, none⟩) := hw 4 (by kernel_rfl)
      have f0 := row_cell Rx_1.out hb 0
      have f1 := row_cell Rx_1.out hb 1
      have f2 := row_cell Rx_1.out hb 2
      simp only [List.getElem?_toArray, List.getElem?_cons_succ, List.getElem?_cons_zero] at f0 f1 f2
      clear hw hF
      simp only [Oper.wp, execOp]
      rw [e0]
      go_simp
      exact hK _ x (by first | rfl | simp) (Below.refl _ _)
    · simp only [wpOp, List.getElem?_toArray, List.getElem?_cons_succ, List.getElem?_cons_zero, Region.wanted, if_true]
      refine Or.inl ?_
      have e0 : a.eval (.tmp 1) = .pointer (some ⟨w.heap.size, 0, none⟩) := hF.2.2 1 (by decide)
      clear hw hF
      simp only [Oper.wp, execOp]
      rw [e0]
      go_simp
      exact hK _ x (by first | rfl | simp) (Below.refl _ _)
    · simp only [wpOp, List.getElem?_toArray, List.getElem?_cons_succ, List.getElem?_cons_zero, Region.wanted, if_true]
      refine Or.inl ?_
      have e0 : a.eval (.tmp 20) = .pointer (some ⟨w.heap.size, 0, none⟩) := hw 6 (by kernel_rfl)
      clear hw hF
      simp only [Oper.wp, execOp]
      rw [e0]
      go_simp
      exact hK _ x (by first | rfl | simp) (Below.refl _ _)
    · simp only [wpOp, List.getElem?_toArray, List.getElem?_cons_succ, List.getElem?_cons_zero, Region.wanted, if_true]
      refine Or.inl ?_
      have e0 : a.eval (.tmp 21) = .pointer (some ⟨w.heap.size, 1, none⟩) := hw 7 (by kernel_rfl)
      have f0 := row_cell Rx_1.out hb 0
      have f1 := row_cell Rx_1.out hb 1
      have f2 := row_cell Rx_1.out hb 2
      simp only [List.getElem?_toArray, List.getElem?_cons_succ, List.getElem?_cons_zero] at f0 f1 f2
      clear hw hF
      simp only [Oper.wp, execOp]
      rw [e0]
      go_simp
      exact hK _ x (by first | rfl | simp) (Below.refl _ _)
    · simp only [wpOp, List.getElem?_toArray, List.getElem?_cons_succ, List.getElem?_cons_zero, Region.wanted, if_true]
      refine Or.inl ?_
      have e0 : a.tmps.getD 22 undef = .slice A xs.length c := hw 8 (by kernel_rfl)
      clear hw hF
      simp only [Oper.wp, execOp]
      go_simp
      exact hK _ x (by first | rfl | simp) (Below.refl _ _)
    · simp only [wpOp, List.getElem?_toArray, List.getElem?_cons_succ, List.getElem?_cons_zero, Region.wanted, if_true]
      refine Or.inl ?_
      have e0 : a.tmps.getD 23 undef = .int .i64 xs.length := hw 9 (by kernel_rfl)
      clear hw hF
      simp only [Oper.wp, execOp]
      go_simp
      exact hK _ x (by first | rfl | simp) (Below.refl _ _)
    · simp only [wpOp, List.getElem?_toArray, List.getElem?_cons_succ, List.getElem?_cons_zero, Region.wanted, if_true]
      refine Or.inl ?_
      have e0 : a.tmps.getD 19 undef = .slice A xs.length c := hw 5 (by kernel_rfl)
      have e1 : a.tmps.getD 24 undef = .int .i64 K := hw 10 (by kernel_rfl)
      clear hw hF
      simp only [Oper.wp, execOp]
      go_simp
      exact hK _ x (by first | rfl | simp) (Below.refl _ _)
    · simp only [wpOp, List.getElem?_toArray, List.getElem?_cons_succ, List.getElem?_cons_zero, Region.wanted, if_true]
      refine Or.inl ?_
      have e0 : a.tmps.getD 16 undef = .bool s := hw 2 (by kernel_rfl)
      have e1 : a.tmps.getD 25 undef = .slice A K.toNat c := hw 11 (by kernel_rfl)
      clear hw hF
      simp only [Oper.wp, execOp]
      go_simp
      refine (MK.out _ ((L1.out.step hb).get (A := A) (c := c) (xs := ts) (by simp))).mono ?_
      rintro e y ⟨A2, c2, rfl, hd2, hbb⟩
      exact hK _ y ⟨A2, c2, rfl, hd2⟩ hbb
    · simp only [wpOp, List.getElem?_toArray, List.getElem?_cons_succ, List.getElem?_cons_zero, Region.wanted, if_true]
      refine Or.inl ?_
      have e0 : a.eval (.tmp 3) = .int .i64 v := hF.2.2 3 (by decide)
      clear hw hF
      simp only [Oper.wp, execOp]
      rw [e0]
      go_simp
      exact hK _ x (by first | rfl | simp) (Below.refl _ _)
    · simp only [wpOp, List.getElem?_toArray, List.getElem?_cons_succ, List.getElem?_cons_zero, Region.wanted, if_true]
      refine Or.inl ?_
      have e0 : a.eval (.tmp 27) = .int .i64 v := hw 13 (by kernel_rfl)
      clear hw hF
      simp only [Oper.wp, execOp]
      rw [e0]
      go_simp
      exact hK _ x (by first | rfl | simp) (Below.refl _ _)
    · simp only [wpOp, List.getElem?_toArray, List.getElem?_cons_succ, List.getElem?_cons_zero, Region.wanted, if_true]
      refine Or.inl ?_
      have e0 : a.eval (.tmp 28) = .int .i64 (v % 601) := hw 14 (by kernel_rfl)
      clear hw hF
      simp only [Oper.wp, execOp]
      rw [e0]
      go_simp
      exact hK _ x (by first | rfl | simp) (Below.refl _ _)
    · simp only [wpOp, List.getElem?_toArray, List.getElem?_cons_succ, List.getElem?_cons_zero, Region.wanted, if_true]
      refine Or.inl ?_
      obtain ⟨A', c', e0, hd⟩ := hw 12 (by kernel_rfl)
      have e0 : a.tmps.getD 26 undef = _ := e0
      have e1 : a.tmps.getD 29 undef = .int .i64 e := hw 15 (by kernel_rfl)
      clear hw hF
      simp only [Oper.wp, execOp]
      go_simp
      refine (DM.out _ A' c' hd (t32_live HT.out (L1.out.step hb))).mono ?_
      rintro e y ⟨A2, c2, rfl, hd2, hbb⟩
      exact hK _ y ⟨A2, c2, rfl, hd2⟩ hbb
    · simp only [wpOp, List.getElem?_toArray, List.getElem?_cons_succ, List.getElem?_cons_zero, Region.wanted, if_true]
      refine Or.inl ?_
      obtain ⟨A', c', e0, hd⟩ := hw 16 (by kernel_rfl)
      have e0 : a.eval (.tmp 30) = _ := e0
      clear hw hF
      simp only [Oper.wp, execOp]
      rw [e0]
      go_simp
      exact hK _ x ⟨A', c', rfl, hd⟩ (Below.refl _ _)
    · simp only [wpOp, List.getElem?_toArray, List.getElem?_cons_succ, List.getElem?_cons_zero, Region.wanted, if_true]
      refine Or.inl ?_
      obtain ⟨A', c', e0, hd⟩ := hw 17 (by kernel_rfl)
      have e0 : a.eval (.tmp 13) = _ := e0
      clear hw hF
      simp only [Oper.wp, execOp]
      rw [e0]
      go_simp
      exact hK _ x ⟨A', c', rfl, hd⟩ (Below.refl _ _)
    · simp only [wpOp, List.getElem?_toArray, List.getElem?_cons_succ, List.getElem?_cons_zero, Region.wanted, if_true]
      refine Or.inl ?_
      clear hw hF
      simp only [Oper.wp, execOp]
      go_simp
      exact hK _ _ ⟨_, rfl, heap_alloc_new _ _, hb.size⟩ (below1 _ _)
  · intro a x hF0 hb hR
    have hF : Fr6 [32, 14, 15, 16, 17, 18, 19, 20, 21, 22, 23, 24, 25, 26, 27, 28, 29, 30, 13, 31, 4] _ a := hF0
    have e0 : a.tmps.getD 14 undef = .pointer (some ⟨w.heap.size, 0, none⟩) := hR 0 (by decide)
    have e1 : a.tmps.getD 15 undef = .pointer (some ⟨w.heap.size, 0, none⟩) := hR 1 (by decide)
    have e2 : a.tmps.getD 16 undef = .bool s := hR 2 (by decide)
    have e3 : a.tmps.getD 17 undef = .pointer (some ⟨w.heap.size, 0, none⟩) := hR 3 (by decide)
    have e4 : a.tmps.getD 18 undef = .pointer (some ⟨w.heap.size, 1, none⟩) := hR 4 (by decide)
    have e5 : a.tmps.getD 19 undef = .slice A xs.length c := hR 5 (by decide)
    have e6 : a.tmps.getD 20 undef = .pointer (some ⟨w.heap.size, 0, none⟩) := hR 6 (by decide)
    have e7 : a.tmps.getD 21 undef = .pointer (some ⟨w.heap.size, 1, none⟩) := hR 7 (by decide)
    have e8 : a.tmps.getD 22 undef = .slice A xs.length c := hR 8 (by decide)
    have e9 : a.tmps.getD 23 undef = .int .i64 xs.length := hR 9 (by decide)
    have e10 : a.tmps.getD 24 undef = .int .i64 K := hR 10 (by decide)
    have e11 : a.tmps.getD 25 undef = .slice A K.toNat c := hR 11 (by decide)
    obtain ⟨B12, d12, h12, hd12⟩ := hR 12 (by decide)
    have e12 : a.tmps.getD 26 undef = _ := h12
    have e13 : a.tmps.getD 27 undef = .int .i64 v := hR 13 (by decide)
    have e14 : a.tmps.getD 28 undef = .int .i64 (v % 601) := hR 14 (by decide)
    have e15 : a.tmps.getD 29 undef = .int .i64 e := hR 15 (by decide)
    obtain ⟨B16, d16, h16, hd16⟩ := hR 16 (by decide)
    have e16 : a.tmps.getD 30 undef = _ := h16
    obtain ⟨B17, d17, h17, hd17⟩ := hR 17 (by decide)
    have e17 : a.tmps.getD 13 undef = _ := h17
    obtain ⟨B18, d18, h18, hd18⟩ := hR 18 (by decide)
    have e18 : a.tmps.getD 31 undef = _ := h18
    obtain ⟨g20, h20, hg20, hge20⟩ := hR 20 (by decide)
    have e20 : a.tmps.getD 4 undef = _ := h20
    refine ⟨⟨?_, ?_⟩, fun hx => ?_⟩
    · rw [hF.fold (by kernel_rfl)]
      simp only [List.foldl_cons, List.foldl_nil, e0, e1, e2, e3, e4, e5, e6, e7, e8, e9, e10, e11, e12, e13, e14, e15, e16, e17, e18, e20]
      generalize a.tmps.getD 32 undef = vx at *
      simp only [Act.put, List.setIfInBounds_toArray, List.set_cons_zero, List.set_cons_succ]
      clear e0 e1 e2 e3 e4 e5 e6 e7 e8 e9 e10 e11 e12 e13 e14 e15 e16 e17 e18 e20 hR hF hF0 h12 h16 h17 h18 h20
      obtain ⟨w2, hW⟩ : ∃ W : World, W = x := ⟨_, rfl⟩
      rw [← hW]
      rw [← hW] at hb hd12 hd16 hd17 hd18 hg20
      have L2 := Lib.hid (((((L1.out.step hb).add hd12).add hd16).add hd17).add hd18)
      have Rx_2 := Lib.hid (cells_of Rx_1.out hb)
      have Rr_2 := Lib.hid (cells_of Rr_1.out hb)
      have Rq20_2 := Lib.hid hg20
      have Gq20 : w.heap.size ≤ g20 := Nat.le_trans L1.out.1.size hge20
      have Nxq20 : w.heap.size < g20 := by have := heap_lt Rx_1.out; omega
      have Nrq20 : w.heap.size + 1 < g20 := by have := heap_lt Rr_1.out; omega
      clear hW hb hd12 hd16 hd17 hd18 hg20 hge20
      have fq200 := row_c (i := 0) Rq20_2.out rfl
      have zq200 := frozen_of_row _ _ 0 _ _ Rq20_2.out
      have fq201 := row_c (i := 1) Rq20_2.out rfl
      have zq201 := frozen_of_row _ _ 1 _ _ Rq20_2.out
      have fq202 := row_c (i := 2) Rq20_2.out rfl
      have zq202 := frozen_of_row _ _ 2 _ _ Rq20_2.out
      have xq20 := heap_lt Rq20_2.out
      simp only [wpOps_cons]
      simp only [wpOp, List.getElem?_toArray, List.getElem?_cons_succ, List.getElem?_cons_zero, Region.wanted, if_true]
      refine Or.inl ?_
      simp only [Oper.wp, execOp]
      go_simp
      simp only [wpOps_cons]
      simp only [wpOp, List.getElem?_toArray, List.getElem?_cons_succ, List.getElem?_cons_zero, Region.wanted, if_true]
      refine Or.inl ?_
      simp only [Oper.wp, execOp]
      go_simp
      simp only [wpOps_cons]
      simp only [wpOp, List.getElem?_toArray, List.getElem?_cons_succ, List.getElem?_cons_zero, Region.wanted, if_true]
      refine Or.inl ?_
      simp only [Oper.wp, execOp]
      go_simp
      try simp only [wpOps]
      clear fq200 zq200 fq201 zq201 fq202 zq202 xq20
      obtain ⟨w3, hW⟩ : ∃ W : World, W = (((w2.setCell ⟨g20, 0, none⟩ (.bool (decide (M < 0)))).setCell ⟨g20, 1, none⟩ (.slice B18 (digs M.natAbs).length d18)).setCell ⟨g20, 2, none⟩ (.int .i64 E)) := ⟨_, rfl⟩
      rw [← hW]
      have hO : Only (g20) w2 w3 := by rw [hW]; exact ((((Only.refl (g20) w2).setCell 0 _).setCell 1 _).setCell 2 _)
      have L3 := Lib.hid (live_only L2.out hO Rq20_2.out noint_dy Gq20)
      have Rx_3 := Lib.hid ((hO.block _ (by omega)).trans Rx_2.out)
      have Rr_3 := Lib.hid ((hO.block _ (by omega)).trans Rr_2.out)
      have Rq20_3 := Lib.hid (show w3.heap[g20]? = some (.cells #[.bool (decide (M < 0)), .slice B18 (digs M.natAbs).length d18, .int .i64 E] 26 (0, 0)) by rw [hW]; exact (heap_setCell_same _ _ 2 _ _ _ (heap_setCell_same _ _ 1 _ _ _ (heap_setCell_same _ _ 0 _ _ _ Rq20_2.out))))
      clear hW hO
      have fr0 := row_c (i := 0) Rr_3.out rfl
      have zr0 := frozen_of_row _ _ 0 _ _ Rr_3.out
      have fr1 := row_c (i := 1) Rr_3.out rfl
      have zr1 := frozen_of_row _ _ 1 _ _ Rr_3.out
      have fr2 := row_c (i := 2) Rr_3.out rfl
      have zr2 := frozen_of_row _ _ 2 _ _ Rr_3.out
      have xr := heap_lt Rr_3.out
      have fq200 := row_c (i := 0) Rq20_3.out rfl
      have zq200 := frozen_of_row _ _ 0 _ _ Rq20_3.out
      have fq201 := row_c (i := 1) Rq20_3.out rfl
      have zq201 := frozen_of_row _ _ 1 _ _ Rq20_3.out
      have fq202 := row_c (i := 2) Rq20_3.out rfl
      have zq202 := frozen_of_row _ _ 2 _ _ Rq20_3.out
      have xq20 := heap_lt Rq20_3.out
      go_wp2
      refine bodyPost_ret (v := .agg #[.bool (decide (M < 0)), .slice B18 (digs M.natAbs).length d18, .int .i64 E]) (by simp [results, Tryd.results5, go_sem, fr0, fr1, fr2, fq200, fq201, fq202]) rfl ?_
      
      refine ⟨B18, d18, rfl, ?_, ?_⟩
      · exact (fin3 L3.out Rr_3.out noint3 Gr).get (A := B18) (c := d18) (xs := digs M.natAbs) (by simp)
      · exact (fin3 L3.out Rr_3.out noint3 Gr).1
    · rw [hF.fold (by kernel_rfl)]
      simp only [List.foldl_cons, List.foldl_nil, e0, e1, e2, e3, e4, e5, e6, e7, e8, e9, e10, e11, e12, e13, e14, e15, e16, e17, e18, e20]
      generalize a.tmps.getD 32 undef = vx at *
      simp only [Act.put, List.setIfInBounds_toArray, List.set_cons_zero, List.set_cons_succ]
      clear e0 e1 e2 e3 e4 e5 e6 e7 e8 e9 e10 e11 e12 e13 e14 e15 e16 e17 e18 e20 hR hF hF0 h12 h16 h17 h18 h20
      obtain ⟨w2, hW⟩ : ∃ W : World, W = x := ⟨_, rfl⟩
      rw [← hW]
      rw [← hW] at hb hd12 hd16 hd17 hd18 hg20
      have L2 := Lib.hid (((((L1.out.step hb).add hd12).add hd16).add hd17).add hd18)
      have Rx_2 := Lib.hid (cells_of Rx_1.out hb)
      have Rr_2 := Lib.hid (cells_of Rr_1.out hb)
      have Rq20_2 := Lib.hid hg20
      have Gq20 : w.heap.size ≤ g20 := Nat.le_trans L1.out.1.size hge20
      have Nxq20 : w.heap.size < g20 := by have := heap_lt Rx_1.out; omega
      have Nrq20 : w.heap.size + 1 < g20 := by have := heap_lt Rr_1.out; omega
      clear hW hb hd12 hd16 hd17 hd18 hg20 hge20
      have fq200 := row_c (i := 0) Rq20_2.out rfl
      have zq200 := frozen_of_row _ _ 0 _ _ Rq20_2.out
      have fq201 := row_c (i := 1) Rq20_2.out rfl
      have zq201 := frozen_of_row _ _ 1 _ _ Rq20_2.out
      have fq202 := row_c (i := 2) Rq20_2.out rfl
      have zq202 := frozen_of_row _ _ 2 _ _ Rq20_2.out
      have xq20 := heap_lt Rq20_2.out
      simp only [wpOps_cons]
      simp only [wpOp, List.getElem?_toArray, List.getElem?_cons_succ, List.getElem?_cons_zero, Region.wanted, if_true]
      refine Or.inl ?_
      simp only [Oper.wp, execOp]
      go_simp
      simp only [wpOps_cons]
      simp only [wpOp, List.getElem?_toArray, List.getElem?_cons_succ, List.getElem?_cons_zero, Region.wanted, if_true]
      refine Or.inl ?_
      simp only [Oper.wp, execOp]
      go_simp
      simp only [wpOps_cons]
      simp only [wpOp, List.getElem?_toArray, List.getElem?_cons_succ, List.getElem?_cons_zero, Region.wanted, if_true]
      refine Or.inl ?_
      simp only [Oper.wp, execOp]
      go_simp
      try simp only [wpOps]
      clear fq200 zq200 fq201 zq201 fq202 zq202 xq20
      obtain ⟨w3, hW⟩ : ∃ W : World, W = (((w2.setCell ⟨g20, 0, none⟩ (.bool (decide (M < 0)))).setCell ⟨g20, 1, none⟩ (.slice B18 (digs M.natAbs).length d18)).setCell ⟨g20, 2, none⟩ (.int .i64 E)) := ⟨_, rfl⟩
      rw [← hW]
      have hO : Only (g20) w2 w3 := by rw [hW]; exact ((((Only.refl (g20) w2).setCell 0 _).setCell 1 _).setCell 2 _)
      have L3 := Lib.hid (live_only L2.out hO Rq20_2.out noint_dy Gq20)
      have Rx_3 := Lib.hid ((hO.block _ (by omega)).trans Rx_2.out)
      have Rr_3 := Lib.hid ((hO.block _ (by omega)).trans Rr_2.out)
      have Rq20_3 := Lib.hid (show w3.heap[g20]? = some (.cells #[.bool (decide (M < 0)), .slice B18 (digs M.natAbs).length d18, .int .i64 E] 26 (0, 0)) by rw [hW]; exact (heap_setCell_same _ _ 2 _ _ _ (heap_setCell_same _ _ 1 _ _ _ (heap_setCell_same _ _ 0 _ _ _ Rq20_2.out))))
      clear hW hO
      have fr0 := row_c (i := 0) Rr_3.out rfl
      have zr0 := frozen_of_row _ _ 0 _ _ Rr_3.out
      have fr1 := row_c (i := 1) Rr_3.out rfl
      have zr1 := frozen_of_row _ _ 1 _ _ Rr_3.out
      have fr2 := row_c (i := 2) Rr_3.out rfl
      have zr2 := frozen_of_row _ _ 2 _ _ Rr_3.out
      have xr := heap_lt Rr_3.out
      have fq200 := row_c (i := 0) Rq20_3.out rfl
      have zq200 := frozen_of_row _ _ 0 _ _ Rq20_3.out
      have fq201 := row_c (i := 1) Rq20_3.out rfl
      have zq201 := frozen_of_row _ _ 1 _ _ Rq20_3.out
      have fq202 := row_c (i := 2) Rq20_3.out rfl
      have zq202 := frozen_of_row _ _ 2 _ _ Rq20_3.out
      have xq20 := heap_lt Rq20_3.out
      go_wp2
      refine bodyPost_ret (v := .agg #[.bool (decide (M < 0)), .slice B18 (digs M.natAbs).length d18, .int .i64 E]) (by simp [results, Tryd.results5, go_sem, fr0, fr1, fr2, fq200, fq201, fq202]) rfl ?_
      
      refine ⟨B18, d18, rfl, ?_, ?_⟩
      · exact (fin3 L3.out Rr_3.out noint3 Gr).get (A := B18) (c := d18) (xs := digs M.natAbs) (by simp)
      · exact (fin3 L3.out Rr_3.out noint3 Gr).1
    · have e19 : a.tmps.getD 32 undef = .bool true := hx
      rw [hF.fold (by kernel_rfl)]
      simp only [List.foldl_cons, List.foldl_nil, e0, e1, e2, e3, e4, e5, e6, e7, e8, e9, e10, e11, e12, e13, e14, e15, e16, e17, e18, e20, e19]
      simp only [Act.put, List.setIfInBounds_toArray, List.set_cons_zero, List.set_cons_succ]
      clear e0 e1 e2 e3 e4 e5 e6 e7 e8 e9 e10 e11 e12 e13 e14 e15 e16 e17 e18 e20 e19 hR hF hF0 h12 h16 h17 h18 h20 hx
      obtain ⟨w2, hW⟩ : ∃ W : World, W = x := ⟨_, rfl⟩
      rw [← hW]
      rw [← hW] at hb hd12 hd16 hd17 hd18 hg20
      have L2 := Lib.hid (((((L1.out.step hb).add hd12).add hd16).add hd17).add hd18)
      have Rx_2 := Lib.hid (cells_of Rx_1.out hb)
      have Rr_2 := Lib.hid (cells_of Rr_1.out hb)
      have Rq20_2 := Lib.hid hg20
      have Gq20 : w.heap.size ≤ g20 := Nat.le_trans L1.out.1.size hge20
      have Nxq20 : w.heap.size < g20 := by have := heap_lt Rx_1.out; omega
      have Nrq20 : w.heap.size + 1 < g20 := by have := heap_lt Rr_1.out; omega
      clear hW hb hd12 hd16 hd17 hd18 hg20 hge20
      have fq200 := row_c (i := 0) Rq20_2.out rfl
      have zq200 := frozen_of_row _ _ 0 _ _ Rq20_2.out
      have fq201 := row_c (i := 1) Rq20_2.out rfl
      have zq201 := frozen_of_row _ _ 1 _ _ Rq20_2.out
      have fq202 := row_c (i := 2) Rq20_2.out rfl
      have zq202 := frozen_of_row _ _ 2 _ _ Rq20_2.out
      have xq20 := heap_lt Rq20_2.out
      simp only [wpOps_cons]
      simp only [wpOp, List.getElem?_toArray, List.getElem?_cons_succ, List.getElem?_cons_zero, Region.wanted, if_true]
      refine Or.inl ?_
      simp only [Oper.wp, execOp]
      go_simp
      simp only [wpOps_cons]
      simp only [wpOp, List.getElem?_toArray, List.getElem?_cons_succ, List.getElem?_cons_zero, Region.wanted, if_true]
      refine Or.inl ?_
      simp only [Oper.wp, execOp]
      go_simp
      try simp only [wpOps]
      clear fq200 zq200 fq201 zq201 fq202 zq202 xq20
      obtain ⟨w3, hW⟩ : ∃ W : World, W = (((w2.setCell ⟨g20, 0, none⟩ (.bool (decide (M < 0)))).setCell ⟨g20, 1, none⟩ (.slice B18 (digs M.natAbs).length d18)).setCell ⟨g20, 2, none⟩ (.int .i64 E)) := ⟨_, rfl⟩
      rw [← hW]
      have hO : Only (g20) w2 w3 := by rw [hW]; exact ((((Only.refl (g20) w2).setCell 0 _).setCell 1 _).setCell 2 _)
      have L3 := Lib.hid (live_only L2.out hO Rq20_2.out noint_dy Gq20)
      have Rx_3 := Lib.hid ((hO.block _ (by omega)).trans Rx_2.out)
      have Rr_3 := Lib.hid ((hO.block _ (by omega)).trans Rr_2.out)
      have Rq20_3 := Lib.hid (show w3.heap[g20]? = some (.cells #[.bool (decide (M < 0)), .slice B18 (digs M.natAbs).length d18, .int .i64 E] 26 (0, 0)) by rw [hW]; exact (heap_setCell_same _ _ 2 _ _ _ (heap_setCell_same _ _ 1 _ _ _ (heap_setCell_same _ _ 0 _ _ _ Rq20_2.out))))
      clear hW hO
      have fr0 := row_c (i := 0) Rr_3.out rfl
      have zr0 := frozen_of_row _ _ 0 _ _ Rr_3.out
      have fr1 := row_c (i := 1) Rr_3.out rfl
      have zr1 := frozen_of_row _ _ 1 _ _ Rr_3.out
      have fr2 := row_c (i := 2) Rr_3.out rfl
      have zr2 := frozen_of_row _ _ 2 _ _ Rr_3.out
      have xr := heap_lt Rr_3.out
      have fq200 := row_c (i := 0) Rq20_3.out rfl
      have zq200 := frozen_of_row _ _ 0 _ _ Rq20_3.out
      have fq201 := row_c (i := 1) Rq20_3.out rfl
      have zq201 := frozen_of_row _ _ 1 _ _ Rq20_3.out
      have fq202 := row_c (i := 2) Rq20_3.out rfl
      have zq202 := frozen_of_row _ _ 2 _ _ Rq20_3.out
      have xq20 := heap_lt Rq20_3.out
      go_wp2
      refine bodyPost_ret (v := .agg #[.bool (decide (M < 0)), .slice B18 (digs M.natAbs).length d18, .int .i64 E]) (by simp [results, Tryd.results5, go_sem, fr0, fr1, fr2, fq200, fq201, fq202]) rfl ?_
      
      refine ⟨B18, d18, rfl, ?_, ?_⟩
      · exact (fin3 L3.out Rr_3.out noint3 Gr).get (A := B18) (c := d18) (xs := digs M.natAbs) (by simp)
      · exact (fin3 L3.out Rr_3.out noint3 Gr).1
end Go.Proofs.YtcfoepogbfngmaaDoor
end

section
/-
  The law's own prec, examples.
-/
namespace Go.Proofs.YtcfoepogbfngmaaDoor
open Go.RowKit
set_option linter.unusedSimpArgs false
set_option linter.unusedVariables false
theorem tame_any {A : Option Addr} {c : Nat} {s : Bool} {xs : List Nat} {y M E : Int} {w : World} (h : Dg w A c xs) (hT : T32 w) (hlx : xs.length ≤ 9223372036854775807) (y0 : -9223372036854775808 ≤ y) (y1 : y ≤ 9223372036854775807) (hM : nm (sg s (val (xs.take 6))) = M) (hE : nx (sg s (val (xs.take 6))) (tameE y) = E) :
    Calls Tryd.prog 5 #[.agg #[.bool s, .slice A xs.length c, .int .i64 y]] w fun e w' => Yr M E w e w' := by
  by_cases hy : y < 0
  · exact tame_n A c s xs y M E w h hT hlx y0 y1 hM hE hy
  · exact tame_p A c s xs y M E w h hT hlx y0 y1 hM hE (by omega)
theorem tame_tm {s : Bool} {xs : List Nat} {y : Int} (hk : ok32 xs) : Tm (nm (sg s (val (xs.take 6)))) (nx (sg s (val (xs.take 6))) (tameE y)) :=
  tm_of (take6 hk s) (tameE_bd y).1 (tameE_bd y).2
def precV (p : Int) : Int := 2 + (if p < 0 then -(p + 1) else p) % 199
theorem precV_bd (p : Int) : 2 ≤ precV p ∧ precV p ≤ 200 := by unfold precV; omega
theorem dg_lit {w : World} {g k : Nat} {i : Int} {T : TypeId} (h : w.heap[g]? = some (.cells #[.int .u32 i] T (0, 0))) (hi : i = (k : Int)) (hk : k < 4294967296) : Dg w (some ⟨g, 0, none⟩) 1 [k] :=
  ⟨Nat.le_refl _, by intro x hx; simp at hx; omega, fun _ => ⟨g, 0, rfl, heap_lt h, fun j hj => by
    have : j = 0 := by simp at hj; omega
    subst this hi
    exact row_c h rfl⟩⟩
theorem nm_of {z M E : Int} {y : Int} (h : Nf M E) (hv : M * 2 ^ (E - y).toNat = z) (hle : y ≤ E) : nm z = M ∧ nx z y = E :=
  nf_of h (by rw [dv_down hle, hv])
theorem rd13 : RdOf (dv 13 0) 3 false 3 2 ∧ RdOf (dv 13 0) 3 true 7 1 := by
  refine ⟨⟨.inr (by decide), .inr ⟨1, 6, ?_, ?_, ?_⟩⟩, ⟨.inr (by decide), .inr ⟨1, 7, ?_, ?_, ?_⟩⟩⟩
  · unfold Sz dv; decide +kernel
  · unfold Rn dv; decide +kernel
  · unfold dv; decide +kernel
  · unfold Sz dv; decide +kernel
  · unfold Rn dv; decide +kernel
  · unfold dv; decide +kernel
theorem same5 {A B : Option Addr} {c d : Nat} {m x : Int} {w : World} (h : Dg w A c (digs m.natAbs)) (h' : Dg w B d [5]) (hm : m = 5) (hx : x = -4) :
    Calls Tryd.prog 8 #[.agg #[.bool (decide (m < 0)), .slice A (digs m.natAbs).length c, .int .i64 x], .agg #[.bool false, .slice B 1 d, .int .i64 (-4)]] w fun e w' => e = .returned (.bool true) ∧ Below w.heap.size w w' := by
  have e : digs (5 : Int).natAbs = [5] := digs_one (by omega) (by omega)
  have := dsame_d (n := 5) (y := -4) (q := true) (B := B) (d := d) h (by rw [e]; exact h') (by rw [hm, e]; simp) (x := x) (by simp [hm, hx])
  rw [e] at this
  exact this

theorem third : RdOf (dv 1 0 / dv 3 0) 4 false 5 (-4) := by
  have e1 : dv 1 0 / dv 3 0 = (1 : Rat) / 3 := by unfold dv; decide +kernel
  rw [e1]
  refine ⟨.inr (by decide), .inr ⟨-5, 10, ?_, ?_, ?_⟩⟩
  · unfold Sz; decide +kernel
  · unfold Rn dv; decide +kernel
  · unfold dv; decide +kernel

set_option maxHeartbeats 8000000 in
set_option maxRecDepth 100000 in
theorem dexamples_any  (w : World) (hT : T32 w):
    Calls Tryd.prog 4 #[] w fun e w' => e = .returned (.bool true) ∧ Below w.heap.size w w' := by
  obtain ⟨ma, hma⟩ : ∃ m : Int, m = 13 := ⟨_, rfl⟩
  obtain ⟨xa, hxa⟩ : ∃ m : Int, m = 0 := ⟨_, rfl⟩
  have Na := Lib.hid (show nm 13 = ma ∧ nx 13 0 = xa by rw [hma, hxa]; exact nm_of (.inr (by decide)) (by decide) (by decide))
  have Ta := Lib.hid (show Rt ma xa by rw [hma, hxa]; exact ⟨.inr (by decide), by decide, by decide⟩)
  have Ia := Lib.hid (show inR ma xa = true by rw [hma, hxa]; decide +kernel)
  have Da := Lib.hid (inr_len Ia.out)
  obtain ⟨mb, hmb⟩ : ∃ m : Int, m = 3 := ⟨_, rfl⟩
  obtain ⟨xb, hxb⟩ : ∃ m : Int, m = 2 := ⟨_, rfl⟩
  have Nb := Lib.hid (show nm 12 = mb ∧ nx 12 0 = xb by rw [hmb, hxb]; exact nm_of (.inr (by decide)) (by decide) (by decide))
  have Tb := Lib.hid (show Rt mb xb by rw [hmb, hxb]; exact ⟨.inr (by decide), by decide, by decide⟩)
  have Ib := Lib.hid (show inR mb xb = true by rw [hmb, hxb]; decide +kernel)
  have Db := Lib.hid (inr_len Ib.out)
  obtain ⟨mc, hmc⟩ : ∃ m : Int, m = 7 := ⟨_, rfl⟩
  obtain ⟨xc, hxc⟩ : ∃ m : Int, m = 1 := ⟨_, rfl⟩
  have Nc := Lib.hid (show nm 14 = mc ∧ nx 14 0 = xc by rw [hmc, hxc]; exact nm_of (.inr (by decide)) (by decide) (by decide))
  have Tc := Lib.hid (show Rt mc xc by rw [hmc, hxc]; exact ⟨.inr (by decide), by decide, by decide⟩)
  have Ic := Lib.hid (show inR mc xc = true by rw [hmc, hxc]; decide +kernel)
  have Dc := Lib.hid (inr_len Ic.out)
  obtain ⟨md, hmd⟩ : ∃ m : Int, m = 1 := ⟨_, rfl⟩
  obtain ⟨xd, hxd⟩ : ∃ m : Int, m = 0 := ⟨_, rfl⟩
  have Nd := Lib.hid (show nm 1 = md ∧ nx 1 0 = xd by rw [hmd, hxd]; exact nm_of (.inr (by decide)) (by decide) (by decide))
  have Td := Lib.hid (show Rt md xd by rw [hmd, hxd]; exact ⟨.inr (by decide), by decide, by decide⟩)
  have Id := Lib.hid (show inR md xd = true by rw [hmd, hxd]; decide +kernel)
  have Dd := Lib.hid (inr_len Id.out)
  obtain ⟨me, hme⟩ : ∃ m : Int, m = 3 := ⟨_, rfl⟩
  obtain ⟨xe, hxe⟩ : ∃ m : Int, m = 0 := ⟨_, rfl⟩
  have Ne := Lib.hid (show nm 3 = me ∧ nx 3 0 = xe by rw [hme, hxe]; exact nm_of (.inr (by decide)) (by decide) (by decide))
  have Te := Lib.hid (show Rt me xe by rw [hme, hxe]; exact ⟨.inr (by decide), by decide, by decide⟩)
  have Ie := Lib.hid (show inR me xe = true by rw [hme, hxe]; decide +kernel)
  have De := Lib.hid (inr_len Ie.out)
  have RA := Lib.hid (show RdOf (dv ma xa) 3 false mb xb by rw [hma, hxa, hmb, hxb]; exact rd13.1)
  have RB := Lib.hid (show RdOf (dv ma xa) 3 true mc xc by rw [hma, hxa, hmc, hxc]; exact rd13.2)
  obtain ⟨mf, hmf⟩ : ∃ m : Int, m = 5 := ⟨_, rfl⟩
  obtain ⟨xf, hxf⟩ : ∃ m : Int, m = -4 := ⟨_, rfl⟩
  have RC := Lib.hid (show RdOf (dv md xd / dv me xe) 4 false mf xf by rw [hmd, hxd, hme, hxe, hmf, hxf]; exact third)
  have IF := Lib.hid (show inR mf xf = true by rw [hmf, hxf]; decide +kernel)
  have DF := Lib.hid (inr_len IF.out)
  have e0 := Lib.hid (show me ≠ 0 by rw [hme]; decide)
  have SF := Lib.hid (fun (A B : Option Addr) (c d : Nat) W (h : Dg W A c (digs mf.natAbs)) (h' : Dg W B d [5]) => same5 h h' hmf hxf)
  have RR := Lib.hid (fun W => dright_any none 0 false [] 1 W (Dg.nil_ _ _) false rfl (by simp))
  have HT := Lib.hid hT
  clear hT
  have L0 := Lib.hid (live_start w)
  clear hma hxa hmb hxb hmc hxc hmd hxd hme hxe hmf hxf
  go_enter Tryd.func4, Tryd.ntmps4
  go_wp2_with fail
  refine (from_yes 13 ma xa _ (t32_live HT.out L0.out) (by omega) (by omega) Na.out.1 Na.out.2).mono ?_
  rintro e w1 ⟨A1, c1, rfl, hd, hb⟩
  have L1 := Lib.hid ((L0.out.step hb).add hd)
  clear hb hd
  go_wp2_with fail
  refine (round_yes (m := ma) (x := xa) (M := mb) (E := xb) (L1.out.get (A := A1) (c := c1) (xs := digs ma.natAbs) (by simp)) Da.out Ta.out (t32_live HT.out L1.out) (p := 3) rfl (by omega) (by omega) RA.out Ib.out).mono ?_
  rintro e w2 ⟨A2, c2, rfl, hd, hb⟩
  have L2 := Lib.hid ((L1.out.step hb).add hd)
  clear hb hd
  go_wp2_with fail
  obtain ⟨w3, hW⟩ : ∃ W : World, W = (w2.alloc (.cells #[.bool (decide (mb < 0)), .slice A2 (digs mb.natAbs).length c2, .int .i64 xb] 26)) := ⟨_, rfl⟩
  rw [← hW]
  have hb : Below w2.heap.size w2 w3 := by rw [hW]; exact ((Below.refl _ _).alloc (by simp <;> omega) _)
  have L3 := Lib.hid (L2.out.step hb)
  have Ra_3 := Lib.hid (show w3.heap[w2.heap.size]? = some (.cells #[.bool (decide (mb < 0)), .slice A2 (digs mb.natAbs).length c2, .int .i64 xb] 26 (0, 0)) by rw [hW]; have := heap_alloc_new w2 (.cells #[.bool (decide (mb < 0)), .slice A2 (digs mb.natAbs).length c2, .int .i64 xb] 26); simpa using this)
  have Ga : w.heap.size ≤ w2.heap.size := by have := L2.out.1.size; omega
  clear hW hb
  refine (from_yes 13 ma xa _ (t32_live HT.out L3.out) (by omega) (by omega) Na.out.1 Na.out.2).mono ?_
  rintro e w4 ⟨A4, c4, rfl, hd, hb⟩
  have L4 := Lib.hid ((L3.out.step hb).add hd)
  have Ra_4 := Lib.hid (cells_of Ra_3.out hb)
  clear hb hd
  go_wp2_with fail
  refine (round_yes (m := ma) (x := xa) (M := mc) (E := xc) (L4.out.get (A := A4) (c := c4) (xs := digs ma.natAbs) (by simp)) Da.out Ta.out (t32_live HT.out L4.out) (p := 3) rfl (by omega) (by omega) RB.out Ic.out).mono ?_
  rintro e w5 ⟨A5, c5, rfl, hd, hb⟩
  have L5 := Lib.hid ((L4.out.step hb).add hd)
  have Ra_5 := Lib.hid (cells_of Ra_4.out hb)
  clear hb hd
  go_wp2_with fail
  obtain ⟨w6, hW⟩ : ∃ W : World, W = (w5.alloc (.cells #[.bool (decide (mc < 0)), .slice A5 (digs mc.natAbs).length c5, .int .i64 xc] 26)) := ⟨_, rfl⟩
  rw [← hW]
  have hb : Below w5.heap.size w5 w6 := by rw [hW]; exact ((Below.refl _ _).alloc (by simp <;> omega) _)
  have L6 := Lib.hid (L5.out.step hb)
  have Ra_6 := Lib.hid (cells_of Ra_5.out hb)
  have Rb_6 := Lib.hid (show w6.heap[w5.heap.size]? = some (.cells #[.bool (decide (mc < 0)), .slice A5 (digs mc.natAbs).length c5, .int .i64 xc] 26 (0, 0)) by rw [hW]; have := heap_alloc_new w5 (.cells #[.bool (decide (mc < 0)), .slice A5 (digs mc.natAbs).length c5, .int .i64 xc] 26); simpa using this)
  have Gb : w.heap.size ≤ w5.heap.size := by have := L5.out.1.size; omega
  have Nab : w2.heap.size < w5.heap.size := by have := heap_lt Ra_5.out; omega
  clear hW hb
  refine (from_yes 1 md xd _ (t32_live HT.out L6.out) (by omega) (by omega) Nd.out.1 Nd.out.2).mono ?_
  rintro e w7 ⟨A7, c7, rfl, hd, hb⟩
  have L7 := Lib.hid ((L6.out.step hb).add hd)
  have Ra_7 := Lib.hid (cells_of Ra_6.out hb)
  have Rb_7 := Lib.hid (cells_of Rb_6.out hb)
  clear hb hd
  go_wp2_with fail
  refine (from_yes 3 me xe _ (t32_live HT.out L7.out) (by omega) (by omega) Ne.out.1 Ne.out.2).mono ?_
  rintro e w8 ⟨A8, c8, rfl, hd, hb⟩
  have L8 := Lib.hid ((L7.out.step hb).add hd)
  have Ra_8 := Lib.hid (cells_of Ra_7.out hb)
  have Rb_8 := Lib.hid (cells_of Rb_7.out hb)
  clear hb hd
  go_wp2_with fail
  refine (div_yes (m := md) (x := xd) (n := me) (y := xe) (M := mf) (E := xf) (L8.out.get (A := A7) (c := c7) (xs := digs md.natAbs) (by simp)) (L8.out.get (A := A8) (c := c8) (xs := digs me.natAbs) (by simp)) Dd.out De.out Td.out Te.out (t32_live HT.out L8.out) (p := 4) rfl (by omega) (by omega) e0.out RC.out IF.out).mono ?_
  rintro e w9 ⟨A9, c9, rfl, hd, hb⟩
  have L9 := Lib.hid ((L8.out.step hb).add hd)
  have Ra_9 := Lib.hid (cells_of Ra_8.out hb)
  have Rb_9 := Lib.hid (cells_of Rb_8.out hb)
  clear hb hd
  have fa0 := row_c (i := 0) Ra_9.out rfl
  have za0 := frozen_of_row _ _ 0 _ _ Ra_9.out
  have fa1 := row_c (i := 1) Ra_9.out rfl
  have za1 := frozen_of_row _ _ 1 _ _ Ra_9.out
  have fa2 := row_c (i := 2) Ra_9.out rfl
  have za2 := frozen_of_row _ _ 2 _ _ Ra_9.out
  have xa := heap_lt Ra_9.out
  have fb0 := row_c (i := 0) Rb_9.out rfl
  have zb0 := frozen_of_row _ _ 0 _ _ Rb_9.out
  have fb1 := row_c (i := 1) Rb_9.out rfl
  have zb1 := frozen_of_row _ _ 1 _ _ Rb_9.out
  have fb2 := row_c (i := 2) Rb_9.out rfl
  have zb2 := frozen_of_row _ _ 2 _ _ Rb_9.out
  have xb := heap_lt Rb_9.out
  go_wp2_with fail
  obtain ⟨w10, hW⟩ : ∃ W : World, W = (w9.alloc (.cells #[.bool (decide (mf < 0)), .slice A9 (digs mf.natAbs).length c9, .int .i64 xf] 26)) := ⟨_, rfl⟩
  rw [← hW]
  have hb : Below w9.heap.size w9 w10 := by rw [hW]; exact ((Below.refl _ _).alloc (by simp <;> omega) _)
  have L10 := Lib.hid (L9.out.step hb)
  have Ra_10 := Lib.hid (cells_of Ra_9.out hb)
  have Rb_10 := Lib.hid (cells_of Rb_9.out hb)
  have Rc_10 := Lib.hid (show w10.heap[w9.heap.size]? = some (.cells #[.bool (decide (mf < 0)), .slice A9 (digs mf.natAbs).length c9, .int .i64 xf] 26 (0, 0)) by rw [hW]; have := heap_alloc_new w9 (.cells #[.bool (decide (mf < 0)), .slice A9 (digs mf.natAbs).length c9, .int .i64 xf] 26); simpa using this)
  have Gc : w.heap.size ≤ w9.heap.size := by have := L9.out.1.size; omega
  have Nac : w2.heap.size < w9.heap.size := by have := heap_lt Ra_9.out; omega
  have Nbc : w5.heap.size < w9.heap.size := by have := heap_lt Rb_9.out; omega
  clear hW hb
  clear fa0 za0 fa1 za1 fa2 za2 xa fb0 zb0 fb1 zb1 fb2 zb2 xb
  have fa0 := row_c (i := 0) Ra_10.out rfl
  have za0 := frozen_of_row _ _ 0 _ _ Ra_10.out
  have fa1 := row_c (i := 1) Ra_10.out rfl
  have za1 := frozen_of_row _ _ 1 _ _ Ra_10.out
  have fa2 := row_c (i := 2) Ra_10.out rfl
  have za2 := frozen_of_row _ _ 2 _ _ Ra_10.out
  have xa := heap_lt Ra_10.out
  have KD := Lib.hid (bd0 w10)
  have LD := Lib.hid (L10.out.step KD.out)
  go_region_held3 (fun w' => ∀ b o, b < w10.heap.size → w'.cell? ⟨b, o, none⟩ = w10.cell? ⟨b, o, none⟩)
    (first | with_reducible exact (bcell KD.out).1 | with_reducible exact (bcell K12.out).1 | with_reducible exact (bcell K13.out).1)
    (first
      | (go_at_call 11; (with_reducible refine (from_yes 12 mb xb _ (t32_live HT.out LD.out) (by omega) (by omega) Nb.out.1 Nb.out.2).mono ?_); rintro e w12 ⟨A12, c12, rfl, hd, hb⟩; (have K12 := Lib.hid (KD.out.trans (hb.mono KD.out.size))); (have L12 := Lib.hid ((LD.out.step hb).add hd)); clear hb hd)
      | (go_at_call 8; (with_reducible refine (dsame_d (m := mb) (n := mb) (x := xb) (y := xb) (q := true) (L12.out.get (A := A2) (c := c2) (xs := digs mb.natAbs) (by simp)) (L12.out.get (A := A12) (c := c12) (xs := digs mb.natAbs) (by simp)) Db.out (by simp)).mono ?_); rintro e w13 ⟨rfl, hb⟩; (have K13 := Lib.hid (K12.out.trans (hb.mono K12.out.size))); (have L13 := Lib.hid (L12.out.step hb)); clear hb ))
  rename_i hHeld
  clear hHeld
  clear fa0 za0 fa1 za1 fa2 za2 xa
  have Ra_13 := Lib.hid (cells_of Ra_10.out K13.out)
  have Rb_13 := Lib.hid (cells_of Rb_10.out K13.out)
  have Rc_13 := Lib.hid (cells_of Rc_10.out K13.out)
  clear KD LD
  have fb0 := row_c (i := 0) Rb_13.out rfl
  have zb0 := frozen_of_row _ _ 0 _ _ Rb_13.out
  have fb1 := row_c (i := 1) Rb_13.out rfl
  have zb1 := frozen_of_row _ _ 1 _ _ Rb_13.out
  have fb2 := row_c (i := 2) Rb_13.out rfl
  have zb2 := frozen_of_row _ _ 2 _ _ Rb_13.out
  have xb := heap_lt Rb_13.out
  go_wp2_with fail
  clear fb0 zb0 fb1 zb1 fb2 zb2 xb
  have fb0 := row_c (i := 0) Rb_13.out rfl
  have zb0 := frozen_of_row _ _ 0 _ _ Rb_13.out
  have fb1 := row_c (i := 1) Rb_13.out rfl
  have zb1 := frozen_of_row _ _ 1 _ _ Rb_13.out
  have fb2 := row_c (i := 2) Rb_13.out rfl
  have zb2 := frozen_of_row _ _ 2 _ _ Rb_13.out
  have xb := heap_lt Rb_13.out
  have KD := Lib.hid (bd0 w13)
  have LD := Lib.hid (L13.out.step KD.out)
  go_region_held3 (fun w' => ∀ b o, b < w13.heap.size → w'.cell? ⟨b, o, none⟩ = w13.cell? ⟨b, o, none⟩)
    (first | with_reducible exact (bcell KD.out).1 | with_reducible exact (bcell K15.out).1 | with_reducible exact (bcell K16.out).1)
    (first
      | (go_at_call 11; (with_reducible refine (from_yes 14 mc xc _ (t32_live HT.out LD.out) (by omega) (by omega) Nc.out.1 Nc.out.2).mono ?_); rintro e w15 ⟨A15, c15, rfl, hd, hb⟩; (have K15 := Lib.hid (KD.out.trans (hb.mono KD.out.size))); (have L15 := Lib.hid ((LD.out.step hb).add hd)); clear hb hd)
      | (go_at_call 8; (with_reducible refine (dsame_d (m := mc) (n := mc) (x := xc) (y := xc) (q := true) (L15.out.get (A := A5) (c := c5) (xs := digs mc.natAbs) (by simp)) (L15.out.get (A := A15) (c := c15) (xs := digs mc.natAbs) (by simp)) Dc.out (by simp)).mono ?_); rintro e w16 ⟨rfl, hb⟩; (have K16 := Lib.hid (K15.out.trans (hb.mono K15.out.size))); (have L16 := Lib.hid (L15.out.step hb)); clear hb ))
  rename_i hHeld
  clear hHeld
  clear fb0 zb0 fb1 zb1 fb2 zb2 xb
  have Ra_16 := Lib.hid (cells_of Ra_13.out K16.out)
  have Rb_16 := Lib.hid (cells_of Rb_13.out K16.out)
  have Rc_16 := Lib.hid (cells_of Rc_13.out K16.out)
  clear KD LD
  have fc0 := row_c (i := 0) Rc_16.out rfl
  have zc0 := frozen_of_row _ _ 0 _ _ Rc_16.out
  have fc1 := row_c (i := 1) Rc_16.out rfl
  have zc1 := frozen_of_row _ _ 1 _ _ Rc_16.out
  have fc2 := row_c (i := 2) Rc_16.out rfl
  have zc2 := frozen_of_row _ _ 2 _ _ Rc_16.out
  have xc := heap_lt Rc_16.out
  go_wp2_with fail
  obtain ⟨w17, hW⟩ : ∃ W : World, W = (w16.alloc (.cells #[.int .u32 5] 41)) := ⟨_, rfl⟩
  rw [← hW]
  have hb : Below w16.heap.size w16 w17 := by rw [hW]; exact ((Below.refl _ _).alloc (by simp <;> omega) _)
  have L17 := Lib.hid (L16.out.step hb)
  have Ra_17 := Lib.hid (cells_of Ra_16.out hb)
  have Rb_17 := Lib.hid (cells_of Rb_16.out hb)
  have Rc_17 := Lib.hid (cells_of Rc_16.out hb)
  have Rlit_17 := Lib.hid (show w17.heap[w16.heap.size]? = some (.cells #[.int .u32 5] 41 (0, 0)) by rw [hW]; have := heap_alloc_new w16 (.cells #[.int .u32 5] 41); simpa using this)
  have Glit : w.heap.size ≤ w16.heap.size := by have := L16.out.1.size; omega
  have Nalit : w2.heap.size < w16.heap.size := by have := heap_lt Ra_16.out; omega
  have Nblit : w5.heap.size < w16.heap.size := by have := heap_lt Rb_16.out; omega
  have Nclit : w9.heap.size < w16.heap.size := by have := heap_lt Rc_16.out; omega
  clear hW hb
  clear fc0 zc0 fc1 zc1 fc2 zc2 xc
  refine (SF.out A9 (some ⟨w16.heap.size, 0, none⟩) c9 1 _ (L17.out.get (A := A9) (c := c9) (xs := digs mf.natAbs) (by simp)) (dg_lit Rlit_17.out rfl (by omega))).mono ?_
  rintro e w18 ⟨rfl, hb⟩
  have L18 := Lib.hid (L17.out.step hb)
  have Ra_18 := Lib.hid (cells_of Ra_17.out hb)
  have Rb_18 := Lib.hid (cells_of Rb_17.out hb)
  have Rc_18 := Lib.hid (cells_of Rc_17.out hb)
  have Rlit_18 := Lib.hid (cells_of Rlit_17.out hb)
  clear hb 
  go_wp2_with fail
  refine (RR.out _).mono ?_
  rintro e w19 ⟨rfl, hb⟩
  have L19 := Lib.hid (L18.out.step hb)
  have Ra_19 := Lib.hid (cells_of Ra_18.out hb)
  have Rb_19 := Lib.hid (cells_of Rb_18.out hb)
  have Rc_19 := Lib.hid (cells_of Rc_18.out hb)
  have Rlit_19 := Lib.hid (cells_of Rlit_18.out hb)
  clear hb 
  go_wp2
  go_ret
  exact ⟨rfl, L19.out.1⟩
end Go.Proofs.YtcfoepogbfngmaaDoor
end

section
/-
  Plain arithmetic: how great what is reckoned of numbers is.
-/
namespace Go.Proofs.YtcfoepogbfngmaaDoor
set_option linter.unusedVariables false
/-- A number's exponent is L at least, its size H at most. -/
def Bd (L H M E : Int) : Prop := Nf M E ∧ (M = 0 ∨ (L ≤ E ∧ E + bl M ≤ H))
theorem bl_pos {M : Int} (h : M ≠ 0) : 0 < bl M := by
  have := (blen_bd M.natAbs (by omega)).2.2
  unfold bl; omega
theorem Bd.inR {L H M E : Int} (h : Bd L H M E) (hL : -65536 ≤ L) (hH : H ≤ 65536) : inR M E = true := by
  unfold Go.Proofs.YtcfoepogbfngmaaDoor.inR
  rw [decide_eq_true_eq]
  rcases h.2 with h0 | ⟨a, b⟩
  · exact .inl h0
  · by_cases hm : M = 0
    · exact .inl hm
    · have := bl_pos hm
      right; omega
theorem Bd.mono {L H L' H' M E : Int} (h : Bd L H M E) (hL : L' ≤ L) (hH : H ≤ H') : Bd L' H' M E := by
  refine ⟨h.1, ?_⟩
  rcases h.2 with h0 | ⟨a, b⟩
  · exact .inl h0
  · exact .inr ⟨by omega, by omega⟩
/-- Between powers of 2. -/
theorem sz_bd {M E a b : Int} (h : M ≠ 0) (ha : 2 ^ a ≤ (dv M E).abs) (hb : (dv M E).abs < 2 ^ b) : a < E + bl M ∧ E + bl M ≤ b := by
  have ⟨h1, h2⟩ := sz_dv (e := E) h
  have x := zpow_lt.1 (rle_lt ha h2)
  have y := zpow_lt.1 (rle_lt h1 hb)
  omega
theorem Bd.of {m e L H : Int} (hL : L ≤ e) (hH : e + bl m ≤ H) {M E : Int} (h : IsD (dv m e) M E) : Bd L H M E := by
  obtain ⟨rfl, rfl⟩ := h.of
  refine ⟨nf_n m e, ?_⟩
  by_cases h0 : m = 0
  · left; rw [h0]; rfl
  · right
    have := bl_nm m e
    rw [if_neg h0] at this
    have h3 : nx m e = e + tz m.natAbs := by unfold nx; rw [if_neg h0]
    omega
theorem abs_le_size {L H M E : Int} (h : Bd L H M E) : (dv M E).abs ≤ 2 ^ H := by
  by_cases h0 : M = 0
  · rw [h0, dv_zero, Rat.abs_zero]; exact Rat.le_of_lt (zpow_pos _)
  · rcases h.2 with h1 | ⟨_, b⟩
    · exact absurd h1 h0
    · exact Rat.le_of_lt (rlt_le (sz_dv h0).2 (zpow_le.2 b))
theorem Bd.add {L H m x n y M E : Int} (h : Bd L H m x) (h' : Bd L H n y) (hs : IsD (dv m x + dv n y) M E) : Bd L (H + 1) M E := by
  by_cases hm : m = 0
  · rw [hm, dv_zero, Rat.zero_add] at hs
    obtain ⟨rfl, rfl⟩ := hs.uniq ⟨h'.1, rfl⟩
    exact h'.mono (by omega) (by omega)
  · by_cases hn : n = 0
    · rw [hn, dv_zero, Rat.add_zero] at hs
      obtain ⟨rfl, rfl⟩ := hs.uniq ⟨h.1, rfl⟩
      exact h.mono (by omega) (by omega)
    · have a := h.2.resolve_left hm
      have b := h'.2.resolve_left hn
      refine ⟨hs.1, ?_⟩
      by_cases hM : M = 0
      · exact .inl hM
      · right
        have hsum := sum_upto m x n y
        rw [← hsum] at hs
        obtain ⟨e1, e2⟩ := hs.of
        have hz : upto m x (min x y) + upto n y (min x y) ≠ 0 := by
          intro e; rw [e] at e1; exact hM (by rw [← e1]; rfl)
        refine ⟨?_, ?_⟩
        · rw [← e2]; unfold nx; rw [if_neg hz]; omega
        · have h2 := abs_le_size h
          have h3 := abs_le_size h'
          have h4 : (dv M E).abs < 2 ^ (H + 1) := by
            rw [hs.2, hsum]
            have s1 := (sz_dv (e := x) hm).2
            have s2 := (sz_dv (e := y) hn).2
            have s3 := zpow_le.2 a.2
            have s4 := zpow_le.2 b.2
            have s5 : (2 : Rat) ^ (H + 1) = 2 ^ H * 2 := by rw [zpow_add2, Rat.zpow_one]
            generalize dv m x = p at *
            generalize dv n y = q at *
            have t1 : (p + q).abs ≤ p.abs + q.abs := by
              rcases (Rat.le_total : 0 ≤ p ∨ p ≤ 0) with hp | hp <;> rcases (Rat.le_total : 0 ≤ q ∨ q ≤ 0) with hq | hq <;> rcases (Rat.le_total : 0 ≤ p + q ∨ p + q ≤ 0) with hr | hr <;>
                (first | rw [Rat.abs_of_nonneg hp] | rw [Rat.abs_of_nonpos hp]) <;> (first | rw [Rat.abs_of_nonneg hq] | rw [Rat.abs_of_nonpos hq]) <;> (first | rw [Rat.abs_of_nonneg hr] | rw [Rat.abs_of_nonpos hr]) <;> grind
            grind
          have h5 := zpow_lt.1 (rle_lt (sz_dv (e := E) hM).1 h4)
          omega
theorem bd_neg {L H m x : Int} (h : Bd L H m x) : Bd L H (-m) x := by
  refine ⟨by rcases h.1 with h1 | h1; exact .inl (by omega); exact .inr (by omega), ?_⟩
  rcases h.2 with h1 | h1
  · left; omega
  · right; unfold bl at *; rw [Int.natAbs_neg]; exact h1
theorem Bd.sub {L H m x n y M E : Int} (h : Bd L H m x) (h' : Bd L H n y) (hs : IsD (dv m x - dv n y) M E) : Bd L (H + 1) M E :=
  h.add (bd_neg h') (by rw [dv_neg, ← Rat.sub_eq_add_neg]; exact hs)
theorem bl_mul (m n : Int) : bl (m * n) ≤ bl m + bl n := by
  unfold bl
  rw [Int.natAbs_mul]
  by_cases hm : m.natAbs = 0
  · rw [hm, Nat.zero_mul, blen_zero]; omega
  · by_cases hn : n.natAbs = 0
    · rw [hn, Nat.mul_zero, blen_zero]; omega
    · refine blen_le ?_
      rw [Nat.pow_add]
      have a := (blen_bd _ hm).2.1
      have b := (blen_bd _ hn).2.1
      exact Nat.lt_of_le_of_lt (Nat.mul_le_mul_right _ (Nat.le_of_lt a)) (Nat.mul_lt_mul_of_pos_left b (Nat.pow_pos (by omega)))
theorem Bd.mul {L H L' H' m x n y M E : Int} (h : Bd L H m x) (h' : Bd L' H' n y) (hs : IsD (dv m x * dv n y) M E) : Bd (L + L') (H + H') M E := by
  rw [dv_mul] at hs
  by_cases hm : m = 0
  · obtain ⟨rfl, rfl⟩ := hs.of; refine ⟨nf_n _ _, .inl ?_⟩; rw [hm, Int.zero_mul]; rfl
  · by_cases hn : n = 0
    · obtain ⟨rfl, rfl⟩ := hs.of; refine ⟨nf_n _ _, .inl ?_⟩; rw [hn, Int.mul_zero]; rfl
    · have a := h.2.resolve_left hm
      have b := h'.2.resolve_left hn
      have := bl_mul m n
      exact Bd.of (by omega) (by omega) hs
theorem Bd.scale {L H m x n M E : Int} (h : Bd L H m x) (hs : IsD (dv m (x + n)) M E) : Bd (L + n) (H + n) M E := by
  by_cases hm : m = 0
  · obtain ⟨rfl, rfl⟩ := hs.of; refine ⟨nf_n _ _, .inl ?_⟩; rw [hm]; rfl
  · have a := h.2.resolve_left hm
    exact Bd.of (by omega) (by omega) hs
theorem rd_bd {L H M E : Int} {r : Rat} {p : Nat} {up : Bool} (h1 : 1 ≤ p) (h : RdOf r p up M E) (hr : r = 0 ∨ (2 ^ L ≤ r.abs ∧ r.abs < 2 ^ H)) : Bd (L - p) (H + 1) M E := by
  obtain ⟨n, ⟨_, h0⟩ | ⟨s, t, hs, ht, hv⟩⟩ := h
  · exact ⟨n, .inl h0⟩
  · rcases hr with h0 | ⟨hlo, hhi⟩
    · exact absurd h0 hs.ne
    · have x1 := zpow_lt.1 (rle_lt hlo hs.2)
      have x2 := zpow_lt.1 (rle_lt hs.1 hhi)
      have ⟨c1, c2⟩ := rn_abs hs ht
      have hbt : bl t ≤ p + 1 := by
        unfold bl; exact blen_le (Nat.lt_of_le_of_lt c1 (Nat.pow_lt_pow_right (by omega) (by omega)))
      exact Bd.of (m := t) (e := s) (by omega) (by omega) ⟨n, hv⟩
theorem Bd.round {L H m x M E : Int} {p : Nat} {up : Bool} (h1 : 1 ≤ p) (h : Bd L H m x) (hr : RdOf (dv m x) p up M E) : Bd (L - p) (H + 1) M E := by
  refine rd_bd h1 hr ?_
  by_cases hm : m = 0
  · left; rw [hm, dv_zero]
  · right
    have a := h.2.resolve_left hm
    have ⟨s1, s2⟩ := sz_dv (e := x) hm
    have := bl_pos hm
    exact ⟨Rat.le_trans (zpow_le.2 (by omega)) s1, rlt_le s2 (zpow_le.2 a.2)⟩
theorem rd_exists (m x : Int) (hn : Nf m x) (p : Nat) (up : Bool) (h1 : 1 ≤ p) : ∃ M E, RdOf (dv m x) p up M E := by
  by_cases hc : bl m ≤ p
  · exact ⟨m, x, rd_self hn hc⟩
  · have ⟨hs, hr⟩ := kept_rn (q := m.natAbs) (p := p) (more := false) (away := (up != decide (m < 0))) (r := dv (m.natAbs : Int) x) (e := x) (by unfold bl at hc; omega) h1 Rat.le_refl (dv_lt.2 (by omega)) (by simp)
    by_cases hneg : m < 0
    · have e : dv m x = -dv (m.natAbs : Int) x := by rw [← dv_neg]; congr 1; omega
      have h2 := hr.neg
      rw [show decide (m < 0) = true by simpa using hneg] at h2
      have e1 : (!(up != true)) = up := by cases up <;> rfl
      rw [e1] at h2
      refine ⟨_, _, nf_n _ _, .inr ⟨_, _, ?_, by rw [e]; exact h2, dv_n _ _⟩⟩
      rw [e]; unfold Sz at hs ⊢; rw [Rat.abs_neg]; exact hs
    · have e : dv m x = dv (m.natAbs : Int) x := by congr 1; omega
      rw [show decide (m < 0) = false by simpa using hneg] at hr
      have e1 : (up != false) = up := by cases up <;> rfl
      rw [e1] at hr
      exact ⟨_, _, nf_n _ _, .inr ⟨_, _, by rw [e]; exact hs, by rw [e]; exact hr, dv_n _ _⟩⟩
theorem isD_ex (m x : Int) : ∃ M E, IsD (dv m x) M E := ⟨_, _, isD_n m x⟩
theorem isD_add (m x n y : Int) : ∃ M E, IsD (dv m x + dv n y) M E := ⟨_, _, by rw [← sum_upto m x n y]; exact isD_n _ _⟩
theorem isD_sub (m x n y : Int) : ∃ M E, IsD (dv m x - dv n y) M E := by
  obtain ⟨M, E, h⟩ := isD_add m x (-n) y
  exact ⟨M, E, by rw [dv_neg, ← Rat.sub_eq_add_neg] at h; exact h⟩
theorem isD_mul (m x n y : Int) : ∃ M E, IsD (dv m x * dv n y) M E := ⟨_, _, by rw [dv_mul]; exact isD_n _ _⟩
/-- Rounded both ways: the same just if it has as few bits. -/
theorem rd_low {m x M E : Int} {p : Nat} {up : Bool} (h1 : 1 ≤ p) (hn : Nf m x) (h : RdOf (dv m x) p up M E) : decide (M = m ∧ E = x) = decide (bl m ≤ p) := by
  rw [decide_eq_decide]
  constructor
  · rintro ⟨rfl, rfl⟩; exact h.bits h1
  · intro hb; exact h.uniq (rd_self hn hb)
end Go.Proofs.YtcfoepogbfngmaaDoor
end

section
/-
  From a law's walk to its statement: what comes in is opened, read again behind the call, and handed on.
-/
namespace Go.Proofs.YtcfoepogbfngmaaDoor
open Go.RowKit Go.WideShapes Go.ChangeShapes Go.ChangeAt
set_option maxRecDepth 100000
theorem own : ownKnob Tryd.prog.godebug = none := by kernel_rfl
theorem laidOut : laidOutB Tryd.prog = true := by kernel_rfl
theorem below_cell_lt {w : World} {b o : Nat} {v : Value} (h : w.cell? ⟨b, o, none⟩ = some v) : b < w.heap.size := by
  rcases Nat.lt_or_ge b w.heap.size with hlt | hge
  · exact hlt
  · have e := Array.getElem?_eq_none hge
    simp [World.cell?, e] at h
theorem cellsElem : Tryd.prog.cellsOf 41 = 1 := by kernel_rfl
/-- A slice of digits that came in. -/
theorem open_dg {H : Type} {enc : TypeId × Value → H} {W : World} {base : Nat} {spare : Nat → Bool} {held : Bool} {v : Value} {d : DataW H} {ps : List MemPlace}
    (hval : Value.okWide Tryd.prog W .any base 22 v) (hd : DataW.Trod enc Tryd.prog W 0 spare held 22 v d ps) : ∃ A c xs, v = .slice A xs.length c ∧ Dg W A c xs := by
  obtain ⟨a0, len, cap, rfl⟩ := okWide_slice Tryd.underlying22 hval
  obtain ⟨fuel, hf⟩ := hd
  rcases open_ints Tryd.underlying22 Tryd.underlying41 cellsElem hf with ⟨hcs, _⟩ | ⟨a, len', cap', zs, hcs, _, hl, hm, hz, _, hcell, hwz⟩
  · simp [Value.cells] at hcs
    obtain ⟨rfl, rfl, rfl⟩ := hcs
    exact ⟨none, 0, [], rfl, Dg.nil_ _ _⟩
  · simp [Value.cells] at hcs
    obtain ⟨rfl, rfl, rfl⟩ := hcs
    have hlz : len ≤ zs.length := by rw [hz]; split <;> omega
    have hn : ∀ n ∈ zs, 0 ≤ n ∧ n ≤ 4294967295 := fun n hn => by simpa [Lit.wf, IntKind.min, IntKind.max, IntKind.signed, IntKind.bits] using hwz n hn
    have hxl : ((zs.take len).map Int.toNat).length = len := by simp; omega
    refine ⟨some a, cap, (zs.take len).map Int.toNat, by rw [hxl], by rw [hxl]; exact hl, ?_, fun h0 => ?_⟩
    · intro x hx
      obtain ⟨z, hz', rfl⟩ := List.mem_map.1 hx
      have := hn z (List.mem_of_mem_take hz')
      omega
    · rw [hxl] at h0
      obtain ⟨b, off, spot⟩ := a
      have hspot : spot = none := by simpa [Addr.add] using World.cell?_spot (hcell 0 (by omega))
      subst hspot
      refine ⟨b, off, rfl, below_cell_lt (v := .int .u32 (zs.getD 0 0)) (o := off) (by have := hcell 0 (by omega); simpa [Addr.add] using this), fun j hj => ?_⟩
      rw [hxl] at hj
      have hc := hcell j (by omega)
      rw [Addr.add_lit] at hc
      rw [hc]
      have hjz : j < zs.length := by omega
      have hb := hn zs[j] (List.getElem_mem hjz)
      simp [hj, List.getElem?_eq_getElem hjz]
      omega
section
variable {H : Type} {enc : TypeId × Value → H} {P : Program}
/-- A law's end: true; older memory stays; each argument reads as it read. -/
theorem law_post {f : Func} {s : ChangeSpec} {W W' : World} {args : Array Value} {ds : List (DataW H)} {before : List MemPlace} {tb : TypeId}
    (hW : DataW.Whole enc P f.params.toList s.vars false W args.toList ds [] before) (hb : Below W.heap.size W W') (hv : s.vars = []) (hrt : f.resultTypes = #[tb]) (htb : P.underlying tb = some .bool)
    (hsr : (s.fn H (ds ++ [])).results = [.lit (.bool true)]) (hsv : (s.fn H (ds ++ [])).vars = [])
    (hargs : ∀ sp : Nat → Bool, (∀ p ∈ before, sp p.block = true) → DataW.TrodAll enc P W' 0 sp true f.params.toList args.toList (s.fn H (ds ++ [])).args before) :
    s.post enc P f false true false false W args (.bool true) W' := by
  have hlt : ∀ p ∈ before, p.block < W.heap.size := fun p hp => hW.lt p hp
  have hold : ∀ p ∈ before, (fun b => decide (b < W.heap.size)) p.block = true := fun p hp => by simpa using hlt p hp
  have hvars : ∀ sp : Nat → Bool, DataW.TrodVars enc P W' sp s.vars (s.fn H (ds ++ [])).vars [] := fun sp => by rw [hv, hsv]; rfl
  refine ⟨ds, [], before, [], before, [], hW, ?_, hargs _ hold, hvars _, World.keptBut_mono (fun p hp => ⟨hp, by simpa using hp⟩) (hb.frame (· ∈ before)), fun h => by cases h⟩
  rw [hrt, hsr]
  exact trodAll_cons_mk (shut_bool htb _) trodAll_mk0
end
/-- An argument reads behind the call as it read ahead of it. -/
theorem again {H : Type} {enc : TypeId × Value → H} {W W' : World} {t : TypeId} {v : Value} {d : DataW H} {ps : List MemPlace} (hr : Tryd.prog.readableRec t = true) (hrow : t < Tryd.prog.types.size)
    (h : DataW.Trod enc Tryd.prog W 0 (fun _ => true) true t v d ps) (hb : Below W.heap.size W W') (hlt : ∀ x ∈ ps, x.block < W.heap.size) (sp : Nat → Bool) (hsp : ∀ x ∈ ps, sp x.block = true) :
    DataW.Trod enc Tryd.prog W' 0 sp true t v d ps :=
  WideElems.Trod_stays laidOut hr hrow h (fun x hx => hb.same (hlt x hx)) hsp
end Go.Proofs.YtcfoepogbfngmaaDoor
end

section
/-
  From a walk of layer 5 to its card: what the laid table gives, and a number that comes in.
-/
namespace Go.Proofs.YtcfoepogbfngmaaDoor
open Go.RowKit Go.WideShapes Go.ChangeShapes Go.ChangeAt Go.Deep
set_option maxRecDepth 100000
theorem i64_lo {a : Int} (g : (Lit.int .i64 a).wf = true) : -9223372036854775808 ≤ a := by
  simp only [Lit.wf, Bool.and_eq_true, decide_eq_true_eq] at g; exact g.1
theorem i64_hi {a : Int} (g : (Lit.int .i64 a).wf = true) : a ≤ 9223372036854775807 := by
  simp only [Lit.wf, Bool.and_eq_true, decide_eq_true_eq] at g; exact g.2
theorem i32_lo {a : Int} (g : (Lit.int .i32 a).wf = true) : -2147483648 ≤ a := by
  simp only [Lit.wf, Bool.and_eq_true, decide_eq_true_eq] at g; exact g.1
theorem i32_hi {a : Int} (g : (Lit.int .i32 a).wf = true) : a ≤ 2147483647 := by
  simp only [Lit.wf, Bool.and_eq_true, decide_eq_true_eq] at g; exact g.2
theorem t32Type : (Tryd.prog.globals[0]?).map (·.type) = some 99 := by kernel_rfl
/-- THE TABLE OF BITS, out of the row's condition. -/
theorem t32_laid {W : World} {xs : List (String × DataW Unit)} (h : laidMet Tryd.prog (("math/bits.deBruijn32tab", Lib.tabData .u8 tab32) :: xs) W) : T32 W :=
  Lib.tabIs_of_head g32 t32Type Tryd.underlying99 Tryd.underlying5 (by kernel_rfl) (by kernel_rfl) h
/-- Digits that came in as a part. -/
theorem open_dg0 {H : Type} {enc : TypeId × Value → H} {W : World} {spare : Nat → Bool} {held : Bool} {a0 : Option Addr} {len cap : Nat} {y : DataW H × List MemPlace}
    (hd : ∃ n, DataW.trod enc Tryd.prog W 0 spare held n 22 [.slice a0 len cap] = some y) : ∃ A c xs, Value.slice a0 len cap = .slice A xs.length c ∧ Dg W A c xs ∧ xs.length ≤ 9223372036854775807 := by
  obtain ⟨fuel, hf⟩ := hd
  obtain ⟨d, ps⟩ := y
  rcases open_ints Tryd.underlying22 Tryd.underlying41 cellsElem hf with ⟨hcs, _⟩ | ⟨a, len', cap', zs, hcs, _, hl, hm, hz, _, hcell, hwz⟩
  · simp at hcs
    obtain ⟨rfl, rfl, rfl⟩ := hcs
    exact ⟨none, 0, [], rfl, Dg.nil_ _ _, by simp⟩
  · simp at hcs
    obtain ⟨rfl, rfl, rfl⟩ := hcs
    have hlz : len ≤ zs.length := by rw [hz]; split <;> omega
    have hn : ∀ n ∈ zs, 0 ≤ n ∧ n ≤ 4294967295 := fun n hn => by simpa [Lit.wf, IntKind.min, IntKind.max, IntKind.signed, IntKind.bits] using hwz n hn
    have hxl : ((zs.take len).map Int.toNat).length = len := by simp; omega
    refine ⟨some a, cap, (zs.take len).map Int.toNat, by rw [hxl], ⟨by rw [hxl]; exact hl, ?_, fun h0 => ?_⟩, by rw [hxl]; unfold maxLen at hm; omega⟩
    · intro x hx
      obtain ⟨z, hz', rfl⟩ := List.mem_map.1 hx
      have := hn z (List.mem_of_mem_take hz')
      omega
    · rw [hxl] at h0
      obtain ⟨b, off, spot⟩ := a
      have hspot : spot = none := by simpa [Addr.add] using World.cell?_spot (hcell 0 (by omega))
      subst hspot
      refine ⟨b, off, rfl, below_cell_lt (v := .int .u32 (zs.getD 0 0)) (o := off) (by have := hcell 0 (by omega); simpa [Addr.add] using this), fun j hj => ?_⟩
      rw [hxl] at hj
      have hc := hcell j (by omega)
      rw [Addr.add_lit] at hc
      rw [hc]
      have hjz : j < zs.length := by omega
      have hb := hn zs[j] (List.getElem_mem hjz)
      simp [hj, List.getElem?_eq_getElem hjz]
      omega
/-- A number that came in. -/
theorem open_d {H : Type} {enc : TypeId × Value → H} {W : World} {base : Nat} {v : Value} {d : DataW H} {ps : List MemPlace}
    (hval : Value.okWide Tryd.prog W .any base 26 v) (hd : DataW.Trod enc Tryd.prog W 0 (fun _ => true) true 26 v d ps) :
    ∃ s A c xs e, v = .agg #[.bool s, .slice A xs.length c, .int .i64 e] ∧ Dg W A c xs ∧ xs.length ≤ 9223372036854775807 ∧ -9223372036854775808 ≤ e ∧ e ≤ 9223372036854775807 := by
  obtain ⟨cs, rfl, hsz⟩ := okWide_struct Tryd.underlying26 hval
  obtain ⟨v0, v1, v2, rfl⟩ := Go.Joins.array3 (hsz.trans (by kernel_rfl))
  obtain ⟨fuel, hf⟩ := hd
  obtain ⟨y0, y1, n, _, _, h0, h1⟩ := trod_struct2 Tryd.underlying26 hf
  have c0 : Tryd.prog.cellsOf 24 = 2 := by kernel_rfl
  have c1 : Tryd.prog.cellsOf 3 = 1 := by kernel_rfl
  have c2 : Tryd.prog.cellsOf 4 = 1 := by kernel_rfl
  have c3 : Tryd.prog.cellsOf 22 = 1 := by kernel_rfl
  simp only [Value.cells, c0, c1, List.drop_zero] at h0 h1
  obtain ⟨z0, z1, k, _, _, g0, g1⟩ := trod_struct2 Tryd.underlying24 h0
  simp only [c2, c3] at g0 g1
  obtain ⟨s, e0, _⟩ := DataW.trod_bool Tryd.underlying4 g0
  obtain rfl : v0 = .bool s := by simpa using e0
  obtain ⟨a0, len, cap, e1⟩ := Go.Joins.slice_form Tryd.underlying22 g1
  obtain rfl : v1 = .slice a0 len cap := by simpa using e1
  obtain ⟨e, e2, _, hw⟩ := DataW.trod_int Tryd.underlying3 h1
  obtain rfl : v2 = .int .i64 e := by simpa using e2
  obtain ⟨A, c, xs, ee, g, gl⟩ := open_dg0 ⟨k, g1⟩
  exact ⟨s, A, c, xs, e, by rw [ee], g, gl, i64_lo hw, i64_hi hw⟩
end Go.Proofs.YtcfoepogbfngmaaDoor
end
