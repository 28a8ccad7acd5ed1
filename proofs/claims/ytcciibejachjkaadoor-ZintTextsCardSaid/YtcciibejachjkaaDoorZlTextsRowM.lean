import Derived.Test.YtcciibejachjkaaDoorMB3
import Derived.Test.YtcciibejachjkaaDoorMB2
import Derived.Test.YtcciibejachjkaaDoorTie
import Derived.Test.YtcciibejachjkaaDoorCards
import Derived.SevenTiedAt
import Derived.OpenShut
import Derived.ChangeMaps5
import Derived.SizedLaws
section
/-
  ZintTexts.
-/
namespace Go.Proofs.YtcciibejachjkaaDoor
open Go.RowKit
set_option linter.unusedSimpArgs false
set_option linter.unusedVariables false
theorem dd_len_le (k : Nat) : ∀ n, n < 10 ^ (k + 1) → (Lib.decDigits n).length ≤ k + 1 := by
  induction k with
  | zero => intro n h; rw [dd_small (by omega)]; simp
  | succ k ih =>
    intro n h
    by_cases h1 : n < 10
    · rw [dd_small h1]; simp
    · rw [dd_big h1, List.length_append]
      have h2 := ih (n / 10) (by rw [Nat.pow_succ] at h; omega)
      simp; omega
theorem dd_lim {m : Int} (h : (digs m.natAbs).length ≤ 12) : (Lib.decDigits m.natAbs).length ≤ 116 := by
  have h1 := val_lt (ok_digs m.natAbs)
  rw [val_digs] at h1
  have h2 := Nat.pow_le_pow_right (n := 4294967296) (by omega) h
  exact dd_len_le 115 _ (Nat.lt_of_lt_of_le h1 (Nat.le_trans h2 (by decide +kernel)))
theorem ix_rn (s : ByteArray) (i : Int) (k c : Nat) (hi : i = (k : Int)) (h : k < s.size) (hc : Bt s.data.toList k = c) (x : World) : (Instr.index 9 (.string s) (.int .i64 i)).run Tryd.prog x = .ok (.int .u8 (c : Int)) x := by
  subst hi hc
  rw [run_index_string x 9 s .i64 (k : Int) Tryd.underlying9, dif_pos ⟨by omega, by omega⟩]
  simp only [Int.toNat_natCast, bt_get]
theorem digs_len_le2 {a b n : Nat} (h : a ≤ b) (hb : (digs b).length ≤ n) : (digs a).length ≤ n := Nat.le_trans (digs_len_mono _ _ h) hb
theorem digs_mul10 {z : Int} (h : (digs z.natAbs).length ≤ 12) : (digs (z * 10).natAbs).length ≤ 1000000 := by
  rw [Int.natAbs_mul]
  have h1 := digs_mul_len z.natAbs (10 : Int).natAbs
  have h2 := digs_small (n := (10 : Int).natAbs) (by decide)
  omega
theorem digs_dd {d : Nat} (h : d ≤ 9) : (digs (d : Int).natAbs).length ≤ 1000000 := Nat.le_trans (digs_small (by omega)) (by omega)
theorem wrap_u8 {d : Nat} (h : d ≤ 9) : IntKind.u8.wrap (d : Int) = (d : Int) := by
  simp [IntKind.wrap, IntKind.signed, IntKind.bits]; omega

set_option maxHeartbeats 8000000 in
set_option maxRecDepth 100000 in
theorem zlTexts_ny (Ax : Option Addr) (cx : Nat) (sx : Bool) (xsx : List Nat) (w : World) (hx : Dg w Ax cx xsx) (lx : xsx.length ≤ 9223372036854775807) (hT : P10 w) (rest b : ByteArray) (qr : rest.data.toList.length ≤ 4611686018427387904) (qb : b.data.toList.length ≤ 4611686018427387904) (hs : sg sx (val (xsx.take 12)) < 0) (mz : Int) (more : ByteArray) (qz : b.data.toList = zb mz ++ more.data.toList) (lz : (digs mz.natAbs).length ≤ 400):
    Calls Tryd.prog 3 #[.agg #[.bool sx, .slice Ax xsx.length cx], .string rest, .string b] w fun e w' => e = .returned (.bool true) ∧ Below w.heap.size w w' := by
  obtain ⟨ts, hts⟩ : ∃ t, xsx.take 12 = t := ⟨_, rfl⟩
  rw [hts] at hs
  obtain ⟨m, hm⟩ : ∃ z, sg sx (val ts) = z := ⟨_, rfl⟩
  rw [hm] at hs
  have htk : Dg w Ax cx ts := by rw [← hts]; exact hx.take 12
  have htl : ts.length = min xsx.length 12 := by rw [← hts, List.length_take]; omega
  have hml : (digs m.natAbs).length ≤ 12 := by
    have e : m.natAbs = val ts := by rw [← hm]; unfold sg; cases sx <;> simp
    rw [e]
    exact Nat.le_trans (digs_len_le htk.2.1) (by omega)
  have MK := Lib.hid (fun W (hW : Dg W Ax cx ts) => zmake_any Ax cx sx ts W hW (by omega))
  rw [hm] at MK
  obtain ⟨K, hK⟩ : ∃ K : Int, min (xsx.length : Int) 12 = K := ⟨_, rfl⟩
  have hKt : K.toNat = ts.length := by omega
  rw [← hKt] at MK
  have HK := Lib.hid hK
  have HC := Lib.hid hx.1
  have HML := Lib.hid hml
  obtain ⟨S, hS⟩ : ∃ S : ByteArray, S.data.toList = zb m := ⟨⟨(zb m).toArray⟩, rfl⟩
  have DB := Lib.hid (fun W A c hW => zby_yes (A := A) (c := c) (Nat.le_trans hml (by omega)) hS W hW)
  have Sl : S.data.toList.length ≤ 100 := by
    have l1 := zbytes_len (decide (m < 0)) (digs m.natAbs)
    rw [hS]; unfold zb; omega
  have eS : S.size = S.data.toList.length := by simp
  have er : rest.size = rest.data.toList.length := by simp
  have HSZ := Lib.hid (show ¬ 9223372036854775807 < S.size + rest.size by omega)
  have hcat : (S ++ rest).data.toList = zb m ++ rest.data.toList := by rw [← hS]; simp [ByteArray.data_append]
  have DT := Lib.hid (fun W => ztk_yes (b := S ++ rest) (t := rest) (m := m) hcat (Nat.le_trans hml (by omega)) (by rw [hcat, List.length_append, ← hS]; omega) W)
  obtain ⟨TX, hTX⟩ : ∃ t : ByteArray, t.data.toList = tz m := ⟨⟨(tz m).toArray⟩, rfl⟩
  have hts2 := dd_lim hml
  have HTS := Lib.hid (show TX.size ≤ 200 by rw [show TX.size = (tz m).length by rw [← hTX]; simp, tz_len]; unfold frm; split <;> omega)
  clear hts2
  have HTX := Lib.hid hTX
  have eX : TX.size = (tz m).length := by rw [← hTX]; simp
  have hfr : frm m = 1 := by unfold frm; rw [if_pos hs]
  have hlong := tz_long m
  rw [hfr, ← eX] at hlong
  have HFR := Lib.hid hfr
  have EX2 := Lib.hid eX
  have HLONG := Lib.hid hlong
  have D0 := Lib.hid (show decide (m < 0) = true by simpa using hs)
  obtain ⟨z0, hz0⟩ : ∃ z : Int, z = ((tn m 1 : Nat) : Int) := ⟨_, rfl⟩
  have hz00 : z0 = 0 := by rw [hz0, ← hfr, tn_zero]; rfl
  have HZ0 := Lib.hid hz0
  have FZ : ∀ W, Calls Tryd.prog 10 #[.int .i64 0] W fun e w' => Zr z0 W e w' := fun W => by
    rw [hz00]; exact zfrom_any 0 W (by omega) (by omega)
  have FZ := Lib.hid FZ
  have HB0 := Lib.hid (show Bt (tz m) 0 = 45 from tz_sign m hs)
  obtain ⟨Tz, hTz⟩ : ∃ t : ByteArray, t.data.toList = zb mz := ⟨⟨(zb mz).toArray⟩, rfl⟩
  have DBZ := Lib.hid (fun W A c hW => zby_yes (A := A) (c := c) lz hTz W hW)
  have DZ := Lib.hid (fun W => ztk_yes (b := b) (t := more) (m := mz) qz lz (by omega) W)
  have hEq : Tz ++ more = b := by apply ByteArray.ext; apply Array.toList_inj.1; rw [qz, ← hTz]; simp [ByteArray.data_append]
  have HEQ := Lib.hid hEq
  have eT : Tz.size = Tz.data.toList.length := by simp
  have em : more.size = more.data.toList.length := by simp
  have HSZ2 := Lib.hid (show ¬ 9223372036854775807 < Tz.size + more.size by
    have l1 := congrArg List.length qz
    rw [List.length_append, ← hTz] at l1
    omega)
  have LZ := Lib.hid lz
  have HT := Lib.hid hT
  clear hT
  have L0 := Lib.hid (((live_start w).add hx).add htk)
  clear hx lx hs hts hm htk htl hml hK hKt hS Sl eS er hcat hTX eX hfr hlong hz0 hz00 qr qb qz hTz hEq eT em lz
  go_enter Tryd.func3, Tryd.ntmps3
  go_wp2_with fail
  obtain ⟨v1, hW⟩ : ∃ W : World, W = (w.alloc (.cells #[.bool sx, .slice Ax xsx.length cx] 24)) := ⟨_, rfl⟩
  rw [← hW]
  have hb : Below w.heap.size w v1 := by rw [hW]; exact ((Below.refl _ _).alloc (by simp <;> omega) _)
  have L1 := Lib.hid (L0.out.step hb)
  have Rx_1 := Lib.hid (show v1.heap[w.heap.size]? = some (.cells #[.bool sx, .slice Ax xsx.length cx] 24 (0, 0)) by rw [hW]; have := heap_alloc_new w (.cells #[.bool sx, .slice Ax xsx.length cx] 24); simpa using this)
  have Gx : w.heap.size ≤ w.heap.size := by have := L0.out.1.size; omega
  clear hW hb
  refine (examples_any _ (p10_below HT.out L1.out.1)).mono ?_
  rintro e w2 ⟨rfl, hb⟩
  have L2 := Lib.hid (L1.out.step hb)
  have Rx_2 := Lib.hid (cells_of Rx_1.out hb)
  clear hb 
  go_wp2_with fail
  have hmin : min (xsx.length : Int) 12 = K := HK.out
  have k0 : 0 ≤ K := by have := HK.out; omega
  have k1 : K ≤ (cx : Int) := by have := HK.out; have := HC.out; omega
  refine wp_operands (W := w2) rfl 11 [28, 29, 30, 31, 32, 33, 34, 35, 36, 37, 8] (fun i u ww => match i with | 0 => u = .pointer (some ⟨w.heap.size, 0, none⟩) | 1 => u = .bool sx | 2 => u = .pointer (some ⟨w.heap.size, 1, none⟩) | 3 => u = .slice Ax xsx.length cx | 4 => u = .pointer (some ⟨w.heap.size, 1, none⟩) | 5 => u = .slice Ax xsx.length cx | 6 => u = .int .i64 xsx.length | 7 => u = .int .i64 K | 8 => u = .slice Ax K.toNat cx | 9 => ∃ A c, u = .agg #[.bool (decide (m < 0)), .slice A (digs m.natAbs).length c] ∧ Dg ww A c (digs m.natAbs) | 10 => ∃ g, u = .pointer (some ⟨g, 0, none⟩) ∧ ww.heap[g]? = some (.cells #[.bool false, .slice none 0 0] 24 (0, 0)) ∧ w2.heap.size ≤ g | _ => True) (fun i => decide (i ∈ ([10] : List Nat)))
    (by decide) rfl (by kernel_rfl) (by kernel_rfl) (by decide) (by kernel_rfl) ?_ ?_ ?_ ?_
  · intro i u x y hi h hb
    have hi' : i = 0 ∨ i = 1 ∨ i = 2 ∨ i = 3 ∨ i = 4 ∨ i = 5 ∨ i = 6 ∨ i = 7 ∨ i = 8 ∨ i = 9 ∨ i = 10 := by omega
    rcases hi' with rfl | rfl | rfl | rfl | rfl | rfl | rfl | rfl | rfl | rfl | rfl
    · exact h
    · exact h
    · exact h
    · exact h
    · exact h
    · exact h
    · exact h
    · exact h
    · exact h
    · obtain ⟨A, c, e, hd⟩ := h
      exact ⟨A, c, e, hd.below hb⟩
    · obtain ⟨g, e, hg, hge⟩ := h
      exact ⟨g, e, cells_of hg hb, hge⟩
  · intro i u x hi h
    have hi' : i = 10 := by simpa using hi
    subst hi'
    all_goals
      obtain ⟨g, e, hg, _⟩ := h
      exact ⟨g, e, heap_lt hg⟩
  · intro i a x KK hi hF hb hw hK
    have hi' : i = 0 ∨ i = 1 ∨ i = 2 ∨ i = 3 ∨ i = 4 ∨ i = 5 ∨ i = 6 ∨ i = 7 ∨ i = 8 ∨ i = 9 ∨ i = 10 := by omega
    rcases hi' with rfl | rfl | rfl | rfl | rfl | rfl | rfl | rfl | rfl | rfl | rfl
    · simp only [wpOp, List.getElem?_toArray, List.getElem?_cons_zero, Region.wanted, if_true]
      refine Or.inl ?_
      have e0 : a.eval (.tmp 3) = .pointer (some ⟨w.heap.size, 0, none⟩) := hF.2.2 3 (by decide)
      clear hw hF
      simp only [Oper.wp, execOp]
      rw [e0]
      go_simp
      exact hK _ x (by first | rfl | simp) (Below.refl _ _) (fun h => by simp at h)
    · simp only [wpOp, List.getElem?_toArray, List.getElem?_cons_succ, List.getElem?_cons_zero, Region.wanted, if_true]
      refine Or.inl ?_
      have e0 : a.eval (.tmp 28) = .pointer (some ⟨w.heap.size, 0, none⟩) := hw 0 (by kernel_rfl)
      have f0 := row_cell Rx_2.out hb 0
      have f1 := row_cell Rx_2.out hb 1
      simp only [List.getElem?_toArray, List.getElem?_cons_succ, List.getElem?_cons_zero] at f0 f1
      clear hw hF
      simp only [Oper.wp, execOp]
      rw [e0]
      go_simp
      exact hK _ x (by first | rfl | simp) (Below.refl _ _) (fun h => by simp at h)
    · simp only [wpOp, List.getElem?_toArray, List.getElem?_cons_succ, List.getElem?_cons_zero, Region.wanted, if_true]
      refine Or.inl ?_
      have e0 : a.eval (.tmp 3) = .pointer (some ⟨w.heap.size, 0, none⟩) := hF.2.2 3 (by decide)
      clear hw hF
      simp only [Oper.wp, execOp]
      rw [e0]
      go_simp
      exact hK _ x (by first | rfl | simp) (Below.refl _ _) (fun h => by simp at h)
    · simp only [wpOp, List.getElem?_toArray, List.getElem?_cons_succ, List.getElem?_cons_zero, Region.wanted, if_true]
      refine Or.inl ?_
      have e0 : a.eval (.tmp 30) = .pointer (some ⟨w.heap.size, 1, none⟩) := hw 2 (by kernel_rfl)
      have f0 := row_cell Rx_2.out hb 0
      have f1 := row_cell Rx_2.out hb 1
      simp only [List.getElem?_toArray, List.getElem?_cons_succ, List.getElem?_cons_zero] at f0 f1
      clear hw hF
      simp only [Oper.wp, execOp]
      rw [e0]
      go_simp
      exact hK _ x (by first | rfl | simp) (Below.refl _ _) (fun h => by simp at h)
    · simp only [wpOp, List.getElem?_toArray, List.getElem?_cons_succ, List.getElem?_cons_zero, Region.wanted, if_true]
      refine Or.inl ?_
      have e0 : a.eval (.tmp 3) = .pointer (some ⟨w.heap.size, 0, none⟩) := hF.2.2 3 (by decide)
      clear hw hF
      simp only [Oper.wp, execOp]
      rw [e0]
      go_simp
      exact hK _ x (by first | rfl | simp) (Below.refl _ _) (fun h => by simp at h)
    · simp only [wpOp, List.getElem?_toArray, List.getElem?_cons_succ, List.getElem?_cons_zero, Region.wanted, if_true]
      refine Or.inl ?_
      have e0 : a.eval (.tmp 32) = .pointer (some ⟨w.heap.size, 1, none⟩) := hw 4 (by kernel_rfl)
      have f0 := row_cell Rx_2.out hb 0
      have f1 := row_cell Rx_2.out hb 1
      simp only [List.getElem?_toArray, List.getElem?_cons_succ, List.getElem?_cons_zero] at f0 f1
      clear hw hF
      simp only [Oper.wp, execOp]
      rw [e0]
      go_simp
      exact hK _ x (by first | rfl | simp) (Below.refl _ _) (fun h => by simp at h)
    · simp only [wpOp, List.getElem?_toArray, List.getElem?_cons_succ, List.getElem?_cons_zero, Region.wanted, if_true]
      refine Or.inl ?_
      have e0 : a.tmps.getD 33 undef = .slice Ax xsx.length cx := hw 5 (by kernel_rfl)
      clear hw hF
      simp only [Oper.wp, execOp]
      go_simp
      exact hK _ x (by first | rfl | simp) (Below.refl _ _) (fun h => by simp at h)
    · simp only [wpOp, List.getElem?_toArray, List.getElem?_cons_succ, List.getElem?_cons_zero, Region.wanted, if_true]
      refine Or.inl ?_
      have e0 : a.tmps.getD 34 undef = .int .i64 xsx.length := hw 6 (by kernel_rfl)
      clear hw hF
      simp only [Oper.wp, execOp]
      go_simp
      exact hK _ x (by first | rfl | simp) (Below.refl _ _) (fun h => by simp at h)
    · simp only [wpOp, List.getElem?_toArray, List.getElem?_cons_succ, List.getElem?_cons_zero, Region.wanted, if_true]
      refine Or.inl ?_
      have e0 : a.tmps.getD 31 undef = .slice Ax xsx.length cx := hw 3 (by kernel_rfl)
      have e1 : a.tmps.getD 35 undef = .int .i64 K := hw 7 (by kernel_rfl)
      clear hw hF
      simp only [Oper.wp, execOp]
      go_simp
      exact hK _ x (by first | rfl | simp) (Below.refl _ _) (fun h => by simp at h)
    · simp only [wpOp, List.getElem?_toArray, List.getElem?_cons_succ, List.getElem?_cons_zero, Region.wanted, if_true]
      refine Or.inl ?_
      have e0 : a.tmps.getD 29 undef = .bool sx := hw 1 (by kernel_rfl)
      have e1 : a.tmps.getD 36 undef = .slice Ax K.toNat cx := hw 8 (by kernel_rfl)
      clear hw hF
      simp only [Oper.wp, execOp]
      go_simp
      refine (MK.out _ ((L2.out.step hb).get (A := Ax) (c := cx) (xs := ts) (by simp))).mono ?_
      rintro e y ⟨A2, c2, rfl, hd2, hbb⟩
      exact hK _ y ⟨A2, c2, rfl, hd2⟩ hbb (fun h => by simp at h)
    · simp only [wpOp, List.getElem?_toArray, List.getElem?_cons_succ, List.getElem?_cons_zero, Region.wanted, if_true]
      refine Or.inl ?_
      clear hw hF
      simp only [Oper.wp, execOp]
      go_simp
      exact hK _ _ ⟨_, rfl, heap_alloc_new _ _, hb.size⟩ (below1 _ _) (fun _ => rfl)
  · intro a x hF0 hb hR _
    have hF : Fr6 [28, 29, 30, 31, 32, 33, 34, 35, 36, 37, 8] _ a := hF0
    have e0 : a.tmps.getD 28 undef = .pointer (some ⟨w.heap.size, 0, none⟩) := hR 0 (by decide)
    have e1 : a.tmps.getD 29 undef = .bool sx := hR 1 (by decide)
    have e2 : a.tmps.getD 30 undef = .pointer (some ⟨w.heap.size, 1, none⟩) := hR 2 (by decide)
    have e3 : a.tmps.getD 31 undef = .slice Ax xsx.length cx := hR 3 (by decide)
    have e4 : a.tmps.getD 32 undef = .pointer (some ⟨w.heap.size, 1, none⟩) := hR 4 (by decide)
    have e5 : a.tmps.getD 33 undef = .slice Ax xsx.length cx := hR 5 (by decide)
    have e6 : a.tmps.getD 34 undef = .int .i64 xsx.length := hR 6 (by decide)
    have e7 : a.tmps.getD 35 undef = .int .i64 K := hR 7 (by decide)
    have e8 : a.tmps.getD 36 undef = .slice Ax K.toNat cx := hR 8 (by decide)
    obtain ⟨B9, d9, h9, hd9⟩ := hR 9 (by decide)
    have e9 : a.tmps.getD 37 undef = _ := h9
    obtain ⟨g10, h10, hg10, hge10⟩ := hR 10 (by decide)
    have e10 : a.tmps.getD 8 undef = _ := h10
    rw [hF.fold (by kernel_rfl)]
    simp only [List.foldl_cons, List.foldl_nil, e0, e1, e2, e3, e4, e5, e6, e7, e8, e9, e10]
    simp only [Act.put, List.setIfInBounds_toArray, List.set_cons_zero, List.set_cons_succ]
    clear e0 e1 e2 e3 e4 e5 e6 e7 e8 e9 e10 hR hF hF0 h9 h10
    obtain ⟨w3, hW⟩ : ∃ W : World, W = x := ⟨_, rfl⟩
    rw [← hW]
    rw [← hW] at hb hd9 hg10
    have L3 := Lib.hid ((L2.out.step hb).add hd9)
    have Rx_3 := Lib.hid (cells_of Rx_2.out hb)
    have Rq10_3 := Lib.hid hg10
    have Gq10 : w.heap.size ≤ g10 := Nat.le_trans L2.out.1.size hge10
    have Nxq10 : w.heap.size < g10 := by have := heap_lt Rx_2.out; omega
    clear hW hb hd9 hg10 hge10
    have fq100 := row_c (i := 0) Rq10_3.out rfl
    have zq100 := frozen_of_row _ _ 0 _ _ Rq10_3.out
    have fq101 := row_c (i := 1) Rq10_3.out rfl
    have zq101 := frozen_of_row _ _ 1 _ _ Rq10_3.out
    have xq10 := heap_lt Rq10_3.out
    first | simp only [wpOps_cons] | rw [wpOps_cons] | (change wpOps _ _ _ [11] _ _; simp only [wpOps_cons])
    simp only [wpOp, List.getElem?_toArray, List.getElem?_cons_succ, List.getElem?_cons_zero, Region.wanted, if_true]
    refine Or.inl ?_
    simp only [Oper.wp, execOp]
    go_simp
    try simp only [wpOps]
    clear fq100 zq100 fq101 zq101 xq10
    obtain ⟨w4, hW⟩ : ∃ W : World, W = ((w3.setCell ⟨g10, 0, none⟩ (.bool (decide (m < 0)))).setCell ⟨g10, 1, none⟩ (.slice B9 (digs m.natAbs).length d9)) := ⟨_, rfl⟩
    rw [← hW]
    have hO : Only (g10) w3 w4 := by rw [hW]; exact (((Only.refl (g10) w3).setCell 0 _).setCell 1 _)
    have L4 := Lib.hid (live_only L3.out hO Rq10_3.out noint_int Gq10)
    have Rx_4 := Lib.hid ((hO.block _ (by omega)).trans Rx_3.out)
    have Rq10_4 := Lib.hid (show w4.heap[g10]? = some (.cells #[.bool (decide (m < 0)), .slice B9 (digs m.natAbs).length d9] 24 (0, 0)) by rw [hW]; exact (heap_setCell_same _ _ 1 _ _ _ (heap_setCell_same _ _ 0 _ _ _ Rq10_3.out)))
    clear hW hO
    clear hmin k0 k1
    have fq100 := row_c (i := 0) Rq10_4.out rfl
    have zq100 := frozen_of_row _ _ 0 _ _ Rq10_4.out
    have fq101 := row_c (i := 1) Rq10_4.out rfl
    have zq101 := frozen_of_row _ _ 1 _ _ Rq10_4.out
    have xq10 := heap_lt Rq10_4.out
    go_wp2_with fail
    refine (DB.out _ _ _ (L4.out.get (A := B9) (c := d9) (xs := digs m.natAbs) (by simp))).mono ?_
    rintro e w5 ⟨rfl, hb⟩
    have L5 := Lib.hid (L4.out.step hb)
    clear fq100 zq100 fq101 zq101 xq10
    have Rx_5 := Lib.hid (cells_of Rx_4.out hb)
    have Rq10_5 := Lib.hid (cells_of Rq10_4.out hb)
    clear hb 
    have hsz := HSZ.out
    go_wp2_with fail
    refine (DT.out _).mono ?_
    rintro e w6 ⟨A6, c6, rfl, hd, hb⟩
    have L6 := Lib.hid ((L5.out.step hb).add hd)
    have Rx_6 := Lib.hid (cells_of Rx_5.out hb)
    have Rq10_6 := Lib.hid (cells_of Rq10_5.out hb)
    clear hb hd
    clear hsz
    have fq100 := row_c (i := 0) Rq10_6.out rfl
    have zq100 := frozen_of_row _ _ 0 _ _ Rq10_6.out
    have fq101 := row_c (i := 1) Rq10_6.out rfl
    have zq101 := frozen_of_row _ _ 1 _ _ Rq10_6.out
    have xq10 := heap_lt Rq10_6.out
    go_wp2_with fail
    obtain ⟨w7, hW⟩ : ∃ W : World, W = (w6.alloc (.cells #[.bool (decide (m < 0)), .slice A6 (digs m.natAbs).length c6] 24)) := ⟨_, rfl⟩
    rw [← hW]
    have hb : Below w6.heap.size w6 w7 := by rw [hW]; exact ((Below.refl _ _).alloc (by simp <;> omega) _)
    have L7 := Lib.hid (L6.out.step hb)
    have Rx_7 := Lib.hid (cells_of Rx_6.out hb)
    have Rq10_7 := Lib.hid (cells_of Rq10_6.out hb)
    have Rcc_7 := Lib.hid (show w7.heap[w6.heap.size]? = some (.cells #[.bool (decide (m < 0)), .slice A6 (digs m.natAbs).length c6] 24 (0, 0)) by rw [hW]; have := heap_alloc_new w6 (.cells #[.bool (decide (m < 0)), .slice A6 (digs m.natAbs).length c6] 24); simpa using this)
    have Gcc : w.heap.size ≤ w6.heap.size := by have := L6.out.1.size; omega
    have Nxcc : w.heap.size < w6.heap.size := by have := heap_lt Rx_6.out; omega
    have Nq10cc : g10 < w6.heap.size := by have := heap_lt Rq10_6.out; omega
    clear hW hb
    clear fq100 zq100 fq101 zq101 xq10
    refine (same_n (L7.out.get (A := B9) (c := d9) (xs := digs m.natAbs) (by simp)) (L7.out.get (A := A6) (c := c6) (xs := digs m.natAbs) (by simp)) (Nat.le_trans HML.out (by omega))).mono ?_
    rintro e w8 ⟨rfl, hb⟩
    have L8 := Lib.hid (L7.out.step hb)
    have Rx_8 := Lib.hid (cells_of Rx_7.out hb)
    have Rq10_8 := Lib.hid (cells_of Rq10_7.out hb)
    have Rcc_8 := Lib.hid (cells_of Rcc_7.out hb)
    clear hb 
    have fq100 := row_c (i := 0) Rq10_8.out rfl
    have zq100 := frozen_of_row _ _ 0 _ _ Rq10_8.out
    have fq101 := row_c (i := 1) Rq10_8.out rfl
    have zq101 := frozen_of_row _ _ 1 _ _ Rq10_8.out
    have xq10 := heap_lt Rq10_8.out
    go_wp2_with fail
    refine (ztx_n (L8.out.get (A := B9) (c := d9) (xs := digs m.natAbs) (by simp)) (Nat.le_trans HML.out (by omega)) (p10_below HT.out L8.out.1) HTX.out).mono ?_
    rintro e w9 ⟨rfl, hb⟩
    have L9 := Lib.hid (L8.out.step hb)
    clear fq100 zq100 fq101 zq101 xq10
    have Rx_9 := Lib.hid (cells_of Rx_8.out hb)
    have Rq10_9 := Lib.hid (cells_of Rq10_8.out hb)
    have Rcc_9 := Lib.hid (cells_of Rcc_8.out hb)
    clear hb 
    have d0 := D0.out
    have hlong := HLONG.out
    have dl : decide ((TX.size : Int) ≤ 1) = false := decide_eq_false (by omega)
    have dl2 : ¬ (TX.size : Int) ≤ 1 := by omega
    have dl3 : ¬ TX = ByteArray.empty := fun e => by subst e; simp at hlong
    have n0 : 0 < TX.size := by omega
    have e0 : (0 : Int) < (TX.size : Int) := by omega
    have hb0 : (TX[0]'n0).toNat = 45 := by rw [bt_get TX 0 n0, HTX.out]; exact HB0.out
    have fq100 := row_c (i := 0) Rq10_9.out rfl
    have zq100 := frozen_of_row _ _ 0 _ _ Rq10_9.out
    have fq101 := row_c (i := 1) Rq10_9.out rfl
    have zq101 := frozen_of_row _ _ 1 _ _ Rq10_9.out
    have xq10 := heap_lt Rq10_9.out
    go_wp2_with fail
    refine (FZ.out _).mono ?_
    rintro e w10 ⟨A10, c10, rfl, hd, hb⟩
    have L10 := Lib.hid ((L9.out.step hb).add hd)
    clear fq100 zq100 fq101 zq101 xq10
    have Rx_10 := Lib.hid (cells_of Rx_9.out hb)
    have Rq10_10 := Lib.hid (cells_of Rq10_9.out hb)
    have Rcc_10 := Lib.hid (cells_of Rcc_9.out hb)
    clear hb hd
    clear d0 dl dl2 dl3 hlong n0 e0 hb0
    go_wp2_with fail
    obtain ⟨w11, hW⟩ : ∃ W : World, W = (w10.alloc (.cells #[.bool (decide (z0 < 0)), .slice A10 (digs z0.natAbs).length c10] 24)) := ⟨_, rfl⟩
    rw [← hW]
    have hb : Below w10.heap.size w10 w11 := by rw [hW]; exact ((Below.refl _ _).alloc (by simp <;> omega) _)
    have L11 := Lib.hid (L10.out.step hb)
    have Rx_11 := Lib.hid (cells_of Rx_10.out hb)
    have Rq10_11 := Lib.hid (cells_of Rq10_10.out hb)
    have Rcc_11 := Lib.hid (cells_of Rcc_10.out hb)
    have Rnn_11 := Lib.hid (show w11.heap[w10.heap.size]? = some (.cells #[.bool (decide (z0 < 0)), .slice A10 (digs z0.natAbs).length c10] 24 (0, 0)) by rw [hW]; have := heap_alloc_new w10 (.cells #[.bool (decide (z0 < 0)), .slice A10 (digs z0.natAbs).length c10] 24); simpa using this)
    have Gnn : w.heap.size ≤ w10.heap.size := by have := L10.out.1.size; omega
    have Nxnn : w.heap.size < w10.heap.size := by have := heap_lt Rx_10.out; omega
    have Nq10nn : g10 < w10.heap.size := by have := heap_lt Rq10_10.out; omega
    have Nccnn : w6.heap.size < w10.heap.size := by have := heap_lt Rcc_10.out; omega
    clear hW hb
    go_loopg [18] (TX.size - 1) (fun g kv wr => ∃ (k : Nat) (z : Int) (A3 : Option Addr) (c3 : Nat), kv = .int .i64 k ∧ Hid (k + g = TX.size) ∧ Hid (1 ≤ k) ∧ Hid (z = ((tn m k : Nat) : Int)) ∧ Hid (Live w wr [(A3, c3, digs z.natAbs), (B9, d9, digs m.natAbs)]) ∧ Hid (wr.heap[g10]? = some (.cells #[.bool (decide (m < 0)), .slice B9 (digs m.natAbs).length d9] 24 (0, 0))) ∧ Hid (wr.heap[w10.heap.size]? = some (.cells #[.bool (decide (z < 0)), .slice A3 (digs z.natAbs).length c3] 24 (0, 0))))
    case atStart => exact ⟨1, z0, A10, c10, rfl, Lib.hid (by have := HLONG.out; omega), Lib.hid (Nat.le_refl _), HZ0, Lib.hid ((((live_start w).step L11.out.1).add (L11.out.get (A := B9) (c := d9) (xs := digs m.natAbs) (by simp))).add (L11.out.get (A := A10) (c := c10) (xs := digs z0.natAbs) (by simp))), Rq10_11, Rnn_11⟩
    case round =>
      obtain ⟨k, z, A3, c3, rfl, HK, HF, HZ, LR, RRQ, HR⟩ := hrel
      by_cases hlt : k < TX.size
      · skip
        obtain ⟨D, hD⟩ : ∃ D, Bt (tz m) k = D := ⟨_, rfl⟩
        have hdd := tz_digit m k (by have := HF.out; rw [HFR.out]; exact this) (by have := EX2.out; omega)
        rw [hD] at hdd
        obtain ⟨dd, hDe⟩ : ∃ d, D = d + 48 := ⟨D - 48, by omega⟩
        have HDE := Lib.hid hDe
        have hb1 : (TX[k]'hlt).toNat = D := by rw [bt_get TX k hlt, HTX.out]; exact hD
        have hst := tn_step m k (by have := HF.out; rw [HFR.out]; exact this) (by have := EX2.out; omega)
        rw [hD] at hst
        obtain ⟨z2, hz2⟩ : ∃ z : Int, z = ((tn m (k + 1) : Nat) : Int) := ⟨_, rfl⟩
        have HZ2 := Lib.hid hz2
        have HZZ := Lib.hid (show z * 10 + (dd : Int) = z2 by rw [hz2, hst, HZ.out, hDe]; omega)
        have HHD := Lib.hid (show D = 48 → k = 1 → TX.size = 1 from fun e1 e2 => by rw [EX2.out]; exact tz_head m (by rw [HFR.out, ← e2, hD, e1]))
        have HLD := Lib.hid (digs_len_le2 (show z.natAbs ≤ m.natAbs by have := HZ.out; have := tn_le m k; omega) HML.out)
        have HLM := Lib.hid (digs_mul10 HLD.out)
        have HLE := Lib.hid (digs_dd (show dd ≤ 9 by omega))
        have dle9 : dd ≤ 9 := by omega
        have HDD := Lib.hid dle9
        have ilt : (k : Int) < (TX.size : Int) := by omega
        have HLT := Lib.hid hlt
        have HD := Lib.hid hD
        have KS1 := Lib.hid (show k + 1 + (gk - 1) = TX.size by have := HK.out; omega)
        have KM1 := Lib.hid (show gk - 1 < gk by have := HK.out; omega)
        have KF1 := Lib.hid (show 1 ≤ k + 1 by have := HF.out; omega)
        have KW1 := Lib.hid (show wrap64 ((k : Int) + 1) = ((k + 1 : Nat) : Int) from IntWalk.wrap64_in _ ⟨by omega, by have := HTS.out; omega⟩)
        clear hst hz2 hdd hD hDe dle9
        go_upto_region 20 with (fail)
        go_cut [18, 119] from 88 to 129 (fun kv v wx => kv = .int .i64 (k : Int) ∧ v = .bool false ∧ wx = wr)
        case first =>
          have x1 : decide ((D : Int) < 48) = false := decide_eq_false (by have := HDE.out; omega)
          have x2 : decide ((57 : Int) < (D : Int)) = false := decide_eq_false (by have := HDE.out; have := HDD.out; omega)
          have x7 : ¬ ((D : Int) < 48) := by have := HDE.out; omega
          have x8 : ¬ ((57 : Int) < (D : Int)) := by have := HDE.out; have := HDD.out; omega
          have EX : (¬ (D : Int) = 48) ∨ ((D : Int) = 48 ∧ ¬ (k : Int) = 1) ∨ ((D : Int) = 48 ∧ (k : Int) = 1 ∧ decide (1 < TX.size) = false ∧ decide ((1 : Int) < (TX.size : Int)) = false ∧ ¬ (1 < TX.size) ∧ Hid (k = 1)) := by
            by_cases e1 : D = 48
            · by_cases e2 : k = 1
              · have e3 := HHD.out e1 e2
                exact .inr (.inr ⟨by omega, by omega, decide_eq_false (by omega), decide_eq_false (by omega), by omega, Lib.hid e2⟩)
              · exact .inr (.inl ⟨by omega, by omega⟩)
            · exact .inl (by omega)
          rcases EX with x3 | ⟨x3, x4⟩ | ⟨x3, x4, x5, x6, x9, HK1⟩
          · go_wp2_with fail
            go_meet
            case rel => exact ⟨rfl, rfl, rfl⟩
          · go_wp2_with fail
            go_meet
            case rel => exact ⟨rfl, rfl, rfl⟩
          · try have h12 : (1 : Int) < (TX.size : Int) := by omega
            have h13 := HLONG.out
            first | (exfalso; omega) | (clear h13 x4; have e0 := HK1.out; clear HK1; subst e0; go_wp2_with fail; go_meet; case rel => exact ⟨rfl, rfl, rfl⟩)
        case rest =>
          obtain ⟨rfl, rfl, hwc⟩ := hcut
          obtain rfl : wr = wc := hwc.symm
          clear hb1
          go_wp2_with fail
          refine wp_operands (W := wr) rfl 10 [120, 121, 122, 123, 124, 125, 126, 127, 128, 129] (fun i u ww => match i with | 0 => u = .agg #[.bool (decide (z < 0)), .slice A3 (digs z.natAbs).length c3] | 1 => ∃ A c, u = .agg #[.bool (decide ((10 : Int) < 0)), .slice A (digs (10 : Int).natAbs).length c] ∧ Dg ww A c (digs (10 : Int).natAbs) | 2 => ∃ A c, u = .agg #[.bool (decide (z * 10 < 0)), .slice A (digs (z * 10).natAbs).length c] ∧ Dg ww A c (digs (z * 10).natAbs) | 3 => u = .string TX | 4 => u = .int .i64 k | 5 => u = .int .u8 (D : Int) | 6 => u = .int .u8 dd | 7 => u = .int .i64 dd | 8 => ∃ A c, u = .agg #[.bool (decide ((dd : Int) < 0)), .slice A (digs ((dd : Int)).natAbs).length c] ∧ Dg ww A c (digs (dd : Int).natAbs) | 9 => ∃ A c, u = .agg #[.bool (decide (z2 < 0)), .slice A (digs (z2).natAbs).length c] ∧ Dg ww A c (digs z2.natAbs) | _ => True) (fun i => decide (i ∈ ([] : List Nat)))
            (by decide) rfl (by kernel_rfl) (by kernel_rfl) (by decide) (by kernel_rfl) ?_ ?_ ?_ ?_
          · intro i u x y hi h hb
            have hi' : i = 0 ∨ i = 1 ∨ i = 2 ∨ i = 3 ∨ i = 4 ∨ i = 5 ∨ i = 6 ∨ i = 7 ∨ i = 8 ∨ i = 9 := by omega
            rcases hi' with rfl | rfl | rfl | rfl | rfl | rfl | rfl | rfl | rfl | rfl
            · exact h
            · obtain ⟨A, c, e, hd⟩ := h
              exact ⟨A, c, e, hd.below hb⟩
            · obtain ⟨A, c, e, hd⟩ := h
              exact ⟨A, c, e, hd.below hb⟩
            · exact h
            · exact h
            · exact h
            · exact h
            · exact h
            · obtain ⟨A, c, e, hd⟩ := h
              exact ⟨A, c, e, hd.below hb⟩
            · obtain ⟨A, c, e, hd⟩ := h
              exact ⟨A, c, e, hd.below hb⟩
          · intro i u x hi; simp at hi
          · intro i a x KK hi hF hb hw hK
            have hi' : i = 0 ∨ i = 1 ∨ i = 2 ∨ i = 3 ∨ i = 4 ∨ i = 5 ∨ i = 6 ∨ i = 7 ∨ i = 8 ∨ i = 9 := by omega
            rcases hi' with rfl | rfl | rfl | rfl | rfl | rfl | rfl | rfl | rfl | rfl
            · simp only [wpOp, List.getElem?_toArray, List.getElem?_cons_zero, Region.wanted, if_true]
              refine Or.inl ?_
              have e0 : a.eval (.tmp 17) = .pointer (some ⟨w10.heap.size, 0, none⟩) := hF.2.2 17 (by decide)
              have f0 := row_cell HR.out hb 0
              have f1 := row_cell HR.out hb 1
              simp only [List.getElem?_toArray, List.getElem?_cons_succ, List.getElem?_cons_zero] at f0 f1
              clear hw hF
              simp only [Oper.wp, execOp]
              rw [e0]
              go_simp
              exact hK _ x (by first | rfl | simp) (Below.refl _ _) (fun h => by simp at h)
            · simp only [wpOp, List.getElem?_toArray, List.getElem?_cons_succ, List.getElem?_cons_zero, Region.wanted, if_true]
              refine Or.inl ?_
              clear hw hF
              simp only [Oper.wp, execOp]
              go_simp
              refine (zfrom_any 10 _ (by omega) (by omega)).mono ?_
              rintro e y ⟨A2, c2, rfl, hd2, hbb⟩
              exact hK _ y ⟨A2, c2, rfl, hd2⟩ hbb (fun h => by simp at h)
            · simp only [wpOp, List.getElem?_toArray, List.getElem?_cons_succ, List.getElem?_cons_zero, Region.wanted, if_true]
              refine Or.inl ?_
              have e0 : a.tmps.getD 120 undef = .agg #[.bool (decide (z < 0)), .slice A3 (digs z.natAbs).length c3] := hw 0 (by kernel_rfl)
              obtain ⟨A', c', e1, hd⟩ := hw 1 (by kernel_rfl)
              have e1 : a.tmps.getD 121 undef = _ := e1
              clear hw hF
              simp only [Oper.wp, execOp]
              go_simp
              refine (zmul_n ((LR.out.step hb).get (A := A3) (c := c3) (xs := digs z.natAbs) (by simp)) hd (Nat.le_trans HLD.out (by omega)) (Nat.le_trans (digs_small (n := (10 : Int).natAbs) (by decide)) (by omega)) rfl).mono ?_
              rintro e y ⟨A2, c2, rfl, hd2, hbb⟩
              exact hK _ y ⟨A2, c2, rfl, hd2⟩ hbb (fun h => by simp at h)
            · simp only [wpOp, List.getElem?_toArray, List.getElem?_cons_succ, List.getElem?_cons_zero, Region.wanted, if_true]
              refine Or.inl ?_
              have e0 : a.eval (.tmp 15) = .string TX := hF.2.2 15 (by decide)
              clear hw hF
              simp only [Oper.wp, execOp]
              rw [e0]
              go_simp
              exact hK _ x (by first | rfl | simp) (Below.refl _ _) (fun h => by simp at h)
            · simp only [wpOp, List.getElem?_toArray, List.getElem?_cons_succ, List.getElem?_cons_zero, Region.wanted, if_true]
              refine Or.inl ?_
              have e0 : a.eval (.tmp 18) = .int .i64 k := hF.2.2 18 (by decide)
              clear hw hF
              simp only [Oper.wp, execOp]
              rw [e0]
              go_simp
              exact hK _ x (by first | rfl | simp) (Below.refl _ _) (fun h => by simp at h)
            · simp only [wpOp, List.getElem?_toArray, List.getElem?_cons_succ, List.getElem?_cons_zero, Region.wanted, if_true]
              refine Or.inl ?_
              have e0 : a.eval (.tmp 123) = .string TX := hw 3 (by kernel_rfl)
              have e1 : a.eval (.tmp 124) = .int .i64 k := hw 4 (by kernel_rfl)
              have II := ix_rn TX (k : Int) k D rfl HLT.out (by rw [HTX.out]; exact HD.out)
              clear hw hF
              simp only [Oper.wp, execOp]
              rw [e0, e1]
              go_simp
              exact hK _ x (by first | rfl | simp) (Below.refl _ _) (fun h => by simp at h)
            · simp only [wpOp, List.getElem?_toArray, List.getElem?_cons_succ, List.getElem?_cons_zero, Region.wanted, if_true]
              refine Or.inl ?_
              have e0 : a.eval (.tmp 125) = .int .u8 (D : Int) := hw 5 (by kernel_rfl)
              have hs1 : (D : Int) - 48 = (dd : Int) := by have := HDE.out; omega
              have hs2 : IntKind.u8.wrap (dd : Int) = (dd : Int) := wrap_u8 HDD.out
              clear hw hF
              simp only [Oper.wp, execOp]
              rw [e0]
              go_simp
              exact hK _ x (by first | rfl | simp) (Below.refl _ _) (fun h => by simp at h)
            · simp only [wpOp, List.getElem?_toArray, List.getElem?_cons_succ, List.getElem?_cons_zero, Region.wanted, if_true]
              refine Or.inl ?_
              have e0 : a.eval (.tmp 126) = .int .u8 dd := hw 6 (by kernel_rfl)
              have hs2 : IntKind.i64.wrap (dd : Int) = (dd : Int) := wrap_i64_eq _ (by omega) (by have := HDD.out; omega)
              clear hw hF
              simp only [Oper.wp, execOp]
              rw [e0]
              go_simp
              exact hK _ x (by first | rfl | simp) (Below.refl _ _) (fun h => by simp at h)
            · simp only [wpOp, List.getElem?_toArray, List.getElem?_cons_succ, List.getElem?_cons_zero, Region.wanted, if_true]
              refine Or.inl ?_
              have e0 : a.tmps.getD 127 undef = .int .i64 dd := hw 7 (by kernel_rfl)
              clear hw hF
              simp only [Oper.wp, execOp]
              go_simp
              refine (zfrom_any (dd : Int) _ (by have := HDD.out; omega) (by have := HDD.out; omega)).mono ?_
              rintro e y ⟨A2, c2, rfl, hd2, hbb⟩
              exact hK _ y ⟨A2, c2, rfl, hd2⟩ hbb (fun h => by simp at h)
            · simp only [wpOp, List.getElem?_toArray, List.getElem?_cons_succ, List.getElem?_cons_zero, Region.wanted, if_true]
              refine Or.inl ?_
              obtain ⟨A', c', e0, hd⟩ := hw 2 (by kernel_rfl)
              have e0 : a.tmps.getD 122 undef = _ := e0
              obtain ⟨A', c', e1, hd'⟩ := hw 8 (by kernel_rfl)
              have e1 : a.tmps.getD 128 undef = _ := e1
              clear hw hF
              simp only [Oper.wp, execOp]
              go_simp
              refine (zadd_n hd hd' HLM.out HLE.out HZZ.out).mono ?_
              rintro e y ⟨A2, c2, rfl, hd2, hbb⟩
              exact hK _ y ⟨A2, c2, rfl, hd2⟩ hbb (fun h => by simp at h)
          · intro a x hF0 hb hR _
            have hF : Fr6 [120, 121, 122, 123, 124, 125, 126, 127, 128, 129] _ a := hF0
            have e0 : a.tmps.getD 120 undef = .agg #[.bool (decide (z < 0)), .slice A3 (digs z.natAbs).length c3] := hR 0 (by decide)
            obtain ⟨Bi1, di1, h1, hd1⟩ := hR 1 (by decide)
            have e1 : a.tmps.getD 121 undef = _ := h1
            obtain ⟨Bi2, di2, h2, hd2⟩ := hR 2 (by decide)
            have e2 : a.tmps.getD 122 undef = _ := h2
            have e3 : a.tmps.getD 123 undef = .string TX := hR 3 (by decide)
            have e4 : a.tmps.getD 124 undef = .int .i64 k := hR 4 (by decide)
            have e5 : a.tmps.getD 125 undef = .int .u8 (D : Int) := hR 5 (by decide)
            have e6 : a.tmps.getD 126 undef = .int .u8 dd := hR 6 (by decide)
            have e7 : a.tmps.getD 127 undef = .int .i64 dd := hR 7 (by decide)
            obtain ⟨Bi8, di8, h8, hd8⟩ := hR 8 (by decide)
            have e8 : a.tmps.getD 128 undef = _ := h8
            obtain ⟨Bi9, di9, h9, hd9⟩ := hR 9 (by decide)
            have e9 : a.tmps.getD 129 undef = _ := h9
            rw [hF.fold (by kernel_rfl)]
            simp only [List.foldl_cons, List.foldl_nil, e0, e1, e2, e3, e4, e5, e6, e7, e8, e9]
            simp only [Act.put, List.setIfInBounds_toArray, List.set_cons_zero, List.set_cons_succ]
            clear e0 e1 e2 e3 e4 e5 e6 e7 e8 e9 hR hF hF0 h1 h2 h8 h9
            obtain ⟨w12, hW⟩ : ∃ W : World, W = x := ⟨_, rfl⟩
            rw [← hW]
            rw [← hW] at hb hd1 hd2 hd8 hd9
            have L12 := Lib.hid (((((LR.out.step hb).add hd1).add hd2).add hd8).add hd9)
            have Rq10_12 := Lib.hid (cells_of RRQ.out hb)
            have Rnn_12 := Lib.hid (cells_of HR.out hb)
            clear hW hb hd1 hd2 hd8 hd9
            have fnn0 := row_c (i := 0) Rnn_12.out rfl
            have znn0 := frozen_of_row _ _ 0 _ _ Rnn_12.out
            have fnn1 := row_c (i := 1) Rnn_12.out rfl
            have znn1 := frozen_of_row _ _ 1 _ _ Rnn_12.out
            have xnn := heap_lt Rnn_12.out
            first | simp only [wpOps_cons] | rw [wpOps_cons] | (change wpOps _ _ _ [10] _ _; simp only [wpOps_cons])
            simp only [wpOp, List.getElem?_toArray, List.getElem?_cons_succ, List.getElem?_cons_zero, Region.wanted, if_true]
            refine Or.inl ?_
            simp only [Oper.wp, execOp]
            go_simp
            try simp only [wpOps]
            clear fnn0 znn0 fnn1 znn1 xnn
            obtain ⟨w13, hW⟩ : ∃ W : World, W = ((w12.setCell ⟨w10.heap.size, 0, none⟩ (.bool (decide (z2 < 0)))).setCell ⟨w10.heap.size, 1, none⟩ (.slice Bi9 (digs z2.natAbs).length di9)) := ⟨_, rfl⟩
            rw [← hW]
            have hO : Only (w10.heap.size) w12 w13 := by rw [hW]; exact (((Only.refl (w10.heap.size) w12).setCell 0 _).setCell 1 _)
            have L13 := Lib.hid (live_only L12.out hO Rnn_12.out noint_int Gnn)
            have Rq10_13 := Lib.hid ((hO.block _ (by omega)).trans Rq10_12.out)
            have Rnn_13 := Lib.hid (show w13.heap[w10.heap.size]? = some (.cells #[.bool (decide (z2 < 0)), .slice Bi9 (digs z2.natAbs).length di9] 24 (0, 0)) by rw [hW]; exact (heap_setCell_same _ _ 1 _ _ _ (heap_setCell_same _ _ 0 _ _ _ Rnn_12.out)))
            clear hW hO
            go_wp2
            go_roundg (gk - 1)
            case rel => exact ⟨k + 1, z2, Bi9, di9, congrArg (Value.int .i64) KW1.out, KS1, KF1, HZ2, Lib.hid ((((live_start w).step L13.out.1).add (L13.out.get (A := B9) (c := d9) (xs := digs m.natAbs) (by simp))).add (L13.out.get (A := Bi9) (c := di9) (xs := digs z2.natAbs) (by simp))), Rq10_13, Rnn_13⟩
            case measure => exact KM1.out
      · have hk2 : k = TX.size := by have := HK.out; omega
        have HZA := Lib.hid (show z.natAbs = m.natAbs by rw [HZ.out, hk2, EX2.out, tn_all]; rfl)
        clear hlt
        subst hk2
        have HLZ := Lib.hid (show (digs z.natAbs).length ≤ 12 by rw [HZA.out]; exact HML.out)
        go_wp2_with fail
        refine wp_operands (W := wr) rfl 7 [130, 131, 132, 133, 134, 135, 136] (fun i u ww => match i with | 0 => u = .pointer (some ⟨g10, 0, none⟩) | 1 => u = .bool (decide (m < 0)) | 2 => u = .pointer (some ⟨w10.heap.size, 1, none⟩) | 3 => u = .slice A3 (digs z.natAbs).length c3 | 4 => ∃ A c, u = .agg #[.bool (decide (m < 0)), .slice A (digs (m).natAbs).length c] ∧ Dg ww A c (digs m.natAbs) | 5 => u = .agg #[.bool (decide (m < 0)), .slice B9 (digs m.natAbs).length d9] | 6 => u = .bool true | _ => True) (fun i => decide (i ∈ ([] : List Nat)))
          (by decide) rfl (by kernel_rfl) (by kernel_rfl) (by decide) (by kernel_rfl) ?_ ?_ ?_ ?_
        · intro i u x y hi h hb
          have hi' : i = 0 ∨ i = 1 ∨ i = 2 ∨ i = 3 ∨ i = 4 ∨ i = 5 ∨ i = 6 := by omega
          rcases hi' with rfl | rfl | rfl | rfl | rfl | rfl | rfl
          · exact h
          · exact h
          · exact h
          · exact h
          · obtain ⟨A, c, e, hd⟩ := h
            exact ⟨A, c, e, hd.below hb⟩
          · exact h
          · exact h
        · intro i u x hi; simp at hi
        · intro i a x KK hi hF hb hw hK
          have hi' : i = 0 ∨ i = 1 ∨ i = 2 ∨ i = 3 ∨ i = 4 ∨ i = 5 ∨ i = 6 := by omega
          rcases hi' with rfl | rfl | rfl | rfl | rfl | rfl | rfl
          · simp only [wpOp, List.getElem?_toArray, List.getElem?_cons_zero, Region.wanted, if_true]
            refine Or.inl ?_
            have e0 : a.eval (.tmp 8) = .pointer (some ⟨g10, 0, none⟩) := hF.2.2 8 (by decide)
            clear hw hF
            simp only [Oper.wp, execOp]
            rw [e0]
            go_simp
            exact hK _ x (by first | rfl | simp) (Below.refl _ _) (fun h => by simp at h)
          · simp only [wpOp, List.getElem?_toArray, List.getElem?_cons_succ, List.getElem?_cons_zero, Region.wanted, if_true]
            refine Or.inl ?_
            have e0 : a.eval (.tmp 130) = .pointer (some ⟨g10, 0, none⟩) := hw 0 (by kernel_rfl)
            have f0 := row_cell RRQ.out hb 0
            have f1 := row_cell RRQ.out hb 1
            simp only [List.getElem?_toArray, List.getElem?_cons_succ, List.getElem?_cons_zero] at f0 f1
            clear hw hF
            simp only [Oper.wp, execOp]
            rw [e0]
            go_simp
            exact hK _ x (by first | rfl | simp) (Below.refl _ _) (fun h => by simp at h)
          · simp only [wpOp, List.getElem?_toArray, List.getElem?_cons_succ, List.getElem?_cons_zero, Region.wanted, if_true]
            refine Or.inl ?_
            have e0 : a.eval (.tmp 17) = .pointer (some ⟨w10.heap.size, 0, none⟩) := hF.2.2 17 (by decide)
            clear hw hF
            simp only [Oper.wp, execOp]
            rw [e0]
            go_simp
            exact hK _ x (by first | rfl | simp) (Below.refl _ _) (fun h => by simp at h)
          · simp only [wpOp, List.getElem?_toArray, List.getElem?_cons_succ, List.getElem?_cons_zero, Region.wanted, if_true]
            refine Or.inl ?_
            have e0 : a.eval (.tmp 132) = .pointer (some ⟨w10.heap.size, 1, none⟩) := hw 2 (by kernel_rfl)
            have f0 := row_cell HR.out hb 0
            have f1 := row_cell HR.out hb 1
            simp only [List.getElem?_toArray, List.getElem?_cons_succ, List.getElem?_cons_zero] at f0 f1
            clear hw hF
            simp only [Oper.wp, execOp]
            rw [e0]
            go_simp
            exact hK _ x (by first | rfl | simp) (Below.refl _ _) (fun h => by simp at h)
          · simp only [wpOp, List.getElem?_toArray, List.getElem?_cons_succ, List.getElem?_cons_zero, Region.wanted, if_true]
            refine Or.inl ?_
            have e0 : a.tmps.getD 131 undef = .bool (decide (m < 0)) := hw 1 (by kernel_rfl)
            have e1 : a.tmps.getD 133 undef = .slice A3 (digs z.natAbs).length c3 := hw 3 (by kernel_rfl)
            clear hw hF
            simp only [Oper.wp, execOp]
            go_simp
            refine (zmk_n ((LR.out.step hb).get (A := A3) (c := c3) (xs := digs z.natAbs) (by simp)) (Nat.le_trans HLZ.out (by omega)) HZA.out).mono ?_
            rintro e y ⟨A2, c2, rfl, hd2, hbb⟩
            exact hK _ y ⟨A2, c2, rfl, hd2⟩ hbb (fun h => by simp at h)
          · simp only [wpOp, List.getElem?_toArray, List.getElem?_cons_succ, List.getElem?_cons_zero, Region.wanted, if_true]
            refine Or.inl ?_
            have e0 : a.eval (.tmp 8) = .pointer (some ⟨g10, 0, none⟩) := hF.2.2 8 (by decide)
            have f0 := row_cell RRQ.out hb 0
            have f1 := row_cell RRQ.out hb 1
            simp only [List.getElem?_toArray, List.getElem?_cons_succ, List.getElem?_cons_zero] at f0 f1
            clear hw hF
            simp only [Oper.wp, execOp]
            rw [e0]
            go_simp
            exact hK _ x (by first | rfl | simp) (Below.refl _ _) (fun h => by simp at h)
          · simp only [wpOp, List.getElem?_toArray, List.getElem?_cons_succ, List.getElem?_cons_zero, Region.wanted, if_true]
            refine Or.inl ?_
            obtain ⟨A', c', e0, hd⟩ := hw 4 (by kernel_rfl)
            have e0 : a.tmps.getD 134 undef = _ := e0
            have e1 : a.tmps.getD 135 undef = .agg #[.bool (decide (m < 0)), .slice B9 (digs m.natAbs).length d9] := hw 5 (by kernel_rfl)
            clear hw hF
            simp only [Oper.wp, execOp]
            go_simp
            refine (same_n hd ((LR.out.step hb).get (A := B9) (c := d9) (xs := digs m.natAbs) (by simp)) (Nat.le_trans HML.out (by omega))).mono ?_
            rintro e y ⟨rfl, hbb⟩
            exact hK _ y rfl hbb (fun h => by simp at h)
        · intro a x hF0 hb hR _
          have hF : Fr6 [130, 131, 132, 133, 134, 135, 136] _ a := hF0
          have e0 : a.tmps.getD 130 undef = .pointer (some ⟨g10, 0, none⟩) := hR 0 (by decide)
          have e1 : a.tmps.getD 131 undef = .bool (decide (m < 0)) := hR 1 (by decide)
          have e2 : a.tmps.getD 132 undef = .pointer (some ⟨w10.heap.size, 1, none⟩) := hR 2 (by decide)
          have e3 : a.tmps.getD 133 undef = .slice A3 (digs z.natAbs).length c3 := hR 3 (by decide)
          obtain ⟨B4, d4, h4, hd4⟩ := hR 4 (by decide)
          have e4 : a.tmps.getD 134 undef = _ := h4
          have e5 : a.tmps.getD 135 undef = .agg #[.bool (decide (m < 0)), .slice B9 (digs m.natAbs).length d9] := hR 5 (by decide)
          have e6 : a.tmps.getD 136 undef = .bool true := hR 6 (by decide)
          rw [hF.fold (by kernel_rfl)]
          simp only [List.foldl_cons, List.foldl_nil, e0, e1, e2, e3, e4, e5, e6]
          simp only [Act.put, List.setIfInBounds_toArray, List.set_cons_zero, List.set_cons_succ]
          clear e0 e1 e2 e3 e4 e5 e6 hR hF hF0 h4
          obtain ⟨w62, hW⟩ : ∃ W : World, W = x := ⟨_, rfl⟩
          rw [← hW]
          rw [← hW] at hb hd4
          have L62 := Lib.hid ((LR.out.step hb).add hd4)
          have Rq10_62 := Lib.hid (cells_of RRQ.out hb)
          have Rnn_62 := Lib.hid (cells_of HR.out hb)
          clear hW hb hd4
          first | simp only [wpOps_cons] | rw [wpOps_cons] | (change wpOps _ _ _ [7] _ _; simp only [wpOps_cons])
          simp only [wpOp, List.getElem?_toArray, List.getElem?_cons_succ, List.getElem?_cons_zero, Region.wanted, if_true]
          refine Or.inl ?_
          simp only [Oper.wp, execOp]
          go_simp
          try simp only [wpOps]
          go_wp2_with fail
          refine (DZ.out _).mono ?_
          rintro e w63 ⟨A63, c63, rfl, hd, hb⟩
          have L63 := Lib.hid ((L62.out.step hb).add hd)
          have Rq10_63 := Lib.hid (cells_of Rq10_62.out hb)
          have Rnn_63 := Lib.hid (cells_of Rnn_62.out hb)
          clear hb hd
          go_wp2_with fail
          obtain ⟨w64, hW⟩ : ∃ W : World, W = (w63.alloc (.cells #[.bool (decide (mz < 0)), .slice A63 (digs mz.natAbs).length c63] 24)) := ⟨_, rfl⟩
          rw [← hW]
          have hb : Below w63.heap.size w63 w64 := by rw [hW]; exact ((Below.refl _ _).alloc (by simp <;> omega) _)
          have L64 := Lib.hid (L63.out.step hb)
          have Rq10_64 := Lib.hid (cells_of Rq10_63.out hb)
          have Rnn_64 := Lib.hid (cells_of Rnn_63.out hb)
          have Rdz_64 := Lib.hid (show w64.heap[w63.heap.size]? = some (.cells #[.bool (decide (mz < 0)), .slice A63 (digs mz.natAbs).length c63] 24 (0, 0)) by rw [hW]; have := heap_alloc_new w63 (.cells #[.bool (decide (mz < 0)), .slice A63 (digs mz.natAbs).length c63] 24); simpa using this)
          have Gdz : w.heap.size ≤ w63.heap.size := by have := L63.out.1.size; omega
          have Nq10dz : g10 < w63.heap.size := by have := heap_lt Rq10_63.out; omega
          have Nnndz : w10.heap.size < w63.heap.size := by have := heap_lt Rnn_63.out; omega
          clear hW hb
          have fdz0 := row_c (i := 0) Rdz_64.out rfl
          have zdz0 := frozen_of_row _ _ 0 _ _ Rdz_64.out
          have fdz1 := row_c (i := 1) Rdz_64.out rfl
          have zdz1 := frozen_of_row _ _ 1 _ _ Rdz_64.out
          have xdz := heap_lt Rdz_64.out
          go_wp2_with fail
          refine (DBZ.out _ _ _ (L64.out.get (A := A63) (c := c63) (xs := digs mz.natAbs) (by simp))).mono ?_
          rintro e w65 ⟨rfl, hb⟩
          have L65 := Lib.hid (L64.out.step hb)
          clear fdz0 zdz0 fdz1 zdz1 xdz
          have Rq10_65 := Lib.hid (cells_of Rq10_64.out hb)
          have Rnn_65 := Lib.hid (cells_of Rnn_64.out hb)
          have Rdz_65 := Lib.hid (cells_of Rdz_64.out hb)
          clear hb 
          have hsz := HSZ2.out
          have hEq := HEQ.out
          have fdz0 := row_c (i := 0) Rdz_65.out rfl
          have zdz0 := frozen_of_row _ _ 0 _ _ Rdz_65.out
          have fdz1 := row_c (i := 1) Rdz_65.out rfl
          have zdz1 := frozen_of_row _ _ 1 _ _ Rdz_65.out
          have xdz := heap_lt Rdz_65.out
          go_wp2_with fail
          refine (right_any A63 c63 (decide (mz < 0)) (digs mz.natAbs) _ (L65.out.get (A := A63) (c := c63) (xs := digs mz.natAbs) (by simp)) true (zb_right mz) (Nat.le_trans LZ.out (by omega))).mono ?_
          rintro e w66 ⟨rfl, hb⟩
          have L66 := Lib.hid (L65.out.step hb)
          clear fdz0 zdz0 fdz1 zdz1 xdz
          have Rq10_66 := Lib.hid (cells_of Rq10_65.out hb)
          have Rnn_66 := Lib.hid (cells_of Rnn_65.out hb)
          have Rdz_66 := Lib.hid (cells_of Rdz_65.out hb)
          clear hb 
          go_wp2
          go_ret
          exact ⟨rfl, L66.out.1⟩

set_option maxHeartbeats 8000000 in
set_option maxRecDepth 100000 in
theorem zlTexts_nn (Ax : Option Addr) (cx : Nat) (sx : Bool) (xsx : List Nat) (w : World) (hx : Dg w Ax cx xsx) (lx : xsx.length ≤ 9223372036854775807) (hT : P10 w) (rest b : ByteArray) (qr : rest.data.toList.length ≤ 4611686018427387904) (qb : b.data.toList.length ≤ 4611686018427387904) (hs : sg sx (val (xsx.take 12)) < 0) (qz : ¬ ∃ m r, (digs m.natAbs).length ≤ 400 ∧ b.data.toList = zb m ++ r):
    Calls Tryd.prog 3 #[.agg #[.bool sx, .slice Ax xsx.length cx], .string rest, .string b] w fun e w' => e = .returned (.bool true) ∧ Below w.heap.size w w' := by
  obtain ⟨ts, hts⟩ : ∃ t, xsx.take 12 = t := ⟨_, rfl⟩
  rw [hts] at hs
  obtain ⟨m, hm⟩ : ∃ z, sg sx (val ts) = z := ⟨_, rfl⟩
  rw [hm] at hs
  have htk : Dg w Ax cx ts := by rw [← hts]; exact hx.take 12
  have htl : ts.length = min xsx.length 12 := by rw [← hts, List.length_take]; omega
  have hml : (digs m.natAbs).length ≤ 12 := by
    have e : m.natAbs = val ts := by rw [← hm]; unfold sg; cases sx <;> simp
    rw [e]
    exact Nat.le_trans (digs_len_le htk.2.1) (by omega)
  have MK := Lib.hid (fun W (hW : Dg W Ax cx ts) => zmake_any Ax cx sx ts W hW (by omega))
  rw [hm] at MK
  obtain ⟨K, hK⟩ : ∃ K : Int, min (xsx.length : Int) 12 = K := ⟨_, rfl⟩
  have hKt : K.toNat = ts.length := by omega
  rw [← hKt] at MK
  have HK := Lib.hid hK
  have HC := Lib.hid hx.1
  have HML := Lib.hid hml
  obtain ⟨S, hS⟩ : ∃ S : ByteArray, S.data.toList = zb m := ⟨⟨(zb m).toArray⟩, rfl⟩
  have DB := Lib.hid (fun W A c hW => zby_yes (A := A) (c := c) (Nat.le_trans hml (by omega)) hS W hW)
  have Sl : S.data.toList.length ≤ 100 := by
    have l1 := zbytes_len (decide (m < 0)) (digs m.natAbs)
    rw [hS]; unfold zb; omega
  have eS : S.size = S.data.toList.length := by simp
  have er : rest.size = rest.data.toList.length := by simp
  have HSZ := Lib.hid (show ¬ 9223372036854775807 < S.size + rest.size by omega)
  have hcat : (S ++ rest).data.toList = zb m ++ rest.data.toList := by rw [← hS]; simp [ByteArray.data_append]
  have DT := Lib.hid (fun W => ztk_yes (b := S ++ rest) (t := rest) (m := m) hcat (Nat.le_trans hml (by omega)) (by rw [hcat, List.length_append, ← hS]; omega) W)
  obtain ⟨TX, hTX⟩ : ∃ t : ByteArray, t.data.toList = tz m := ⟨⟨(tz m).toArray⟩, rfl⟩
  have hts2 := dd_lim hml
  have HTS := Lib.hid (show TX.size ≤ 200 by rw [show TX.size = (tz m).length by rw [← hTX]; simp, tz_len]; unfold frm; split <;> omega)
  clear hts2
  have HTX := Lib.hid hTX
  have eX : TX.size = (tz m).length := by rw [← hTX]; simp
  have hfr : frm m = 1 := by unfold frm; rw [if_pos hs]
  have hlong := tz_long m
  rw [hfr, ← eX] at hlong
  have HFR := Lib.hid hfr
  have EX2 := Lib.hid eX
  have HLONG := Lib.hid hlong
  have D0 := Lib.hid (show decide (m < 0) = true by simpa using hs)
  obtain ⟨z0, hz0⟩ : ∃ z : Int, z = ((tn m 1 : Nat) : Int) := ⟨_, rfl⟩
  have hz00 : z0 = 0 := by rw [hz0, ← hfr, tn_zero]; rfl
  have HZ0 := Lib.hid hz0
  have FZ : ∀ W, Calls Tryd.prog 10 #[.int .i64 0] W fun e w' => Zr z0 W e w' := fun W => by
    rw [hz00]; exact zfrom_any 0 W (by omega) (by omega)
  have FZ := Lib.hid FZ
  have l0 : (digs (0 : Int).natAbs).length ≤ 400 := by decide +kernel
  obtain ⟨Tz, hTz⟩ : ∃ t : ByteArray, t.data.toList = zb 0 := ⟨⟨(zb 0).toArray⟩, rfl⟩
  obtain ⟨mz, hmz⟩ : ∃ z : Int, z = 0 := ⟨_, rfl⟩
  have DBZ : ∀ W (A : Option Addr) (c : Nat), Dg W A c (digs mz.natAbs) → Calls Tryd.prog 6 #[.agg #[.bool (decide (mz < 0)), .slice A (digs mz.natAbs).length c]] W fun e w' => e = .returned (.tuple #[.string Tz, .int .i64 0]) ∧ Below W.heap.size W w' := fun W A c hW => by
    subst hmz; exact zby_yes l0 hTz W hW
  have DBZ := Lib.hid DBZ
  have DZ := Lib.hid (fun W => show Calls Tryd.prog 7 #[.string b] W fun e w' => Zt mz ⟨#[]⟩ 2 W e w' by rw [hmz]; exact ztk_no (b := b) (by omega) qz W)
  have HB0 := Lib.hid (show Bt (tz m) 0 = 45 from tz_sign m hs)
  have HT := Lib.hid hT
  clear hT
  have L0 := Lib.hid (((live_start w).add hx).add htk)
  clear hx lx hs hts hm htk htl hml hK hKt hS Sl eS er hcat hTX eX hfr hlong hz0 hz00 qr qb qz hTz l0 hmz
  go_enter Tryd.func3, Tryd.ntmps3
  go_wp2_with fail
  obtain ⟨v1, hW⟩ : ∃ W : World, W = (w.alloc (.cells #[.bool sx, .slice Ax xsx.length cx] 24)) := ⟨_, rfl⟩
  rw [← hW]
  have hb : Below w.heap.size w v1 := by rw [hW]; exact ((Below.refl _ _).alloc (by simp <;> omega) _)
  have L1 := Lib.hid (L0.out.step hb)
  have Rx_1 := Lib.hid (show v1.heap[w.heap.size]? = some (.cells #[.bool sx, .slice Ax xsx.length cx] 24 (0, 0)) by rw [hW]; have := heap_alloc_new w (.cells #[.bool sx, .slice Ax xsx.length cx] 24); simpa using this)
  have Gx : w.heap.size ≤ w.heap.size := by have := L0.out.1.size; omega
  clear hW hb
  refine (examples_any _ (p10_below HT.out L1.out.1)).mono ?_
  rintro e w2 ⟨rfl, hb⟩
  have L2 := Lib.hid (L1.out.step hb)
  have Rx_2 := Lib.hid (cells_of Rx_1.out hb)
  clear hb 
  go_wp2_with fail
  have hmin : min (xsx.length : Int) 12 = K := HK.out
  have k0 : 0 ≤ K := by have := HK.out; omega
  have k1 : K ≤ (cx : Int) := by have := HK.out; have := HC.out; omega
  refine wp_operands (W := w2) rfl 11 [28, 29, 30, 31, 32, 33, 34, 35, 36, 37, 8] (fun i u ww => match i with | 0 => u = .pointer (some ⟨w.heap.size, 0, none⟩) | 1 => u = .bool sx | 2 => u = .pointer (some ⟨w.heap.size, 1, none⟩) | 3 => u = .slice Ax xsx.length cx | 4 => u = .pointer (some ⟨w.heap.size, 1, none⟩) | 5 => u = .slice Ax xsx.length cx | 6 => u = .int .i64 xsx.length | 7 => u = .int .i64 K | 8 => u = .slice Ax K.toNat cx | 9 => ∃ A c, u = .agg #[.bool (decide (m < 0)), .slice A (digs m.natAbs).length c] ∧ Dg ww A c (digs m.natAbs) | 10 => ∃ g, u = .pointer (some ⟨g, 0, none⟩) ∧ ww.heap[g]? = some (.cells #[.bool false, .slice none 0 0] 24 (0, 0)) ∧ w2.heap.size ≤ g | _ => True) (fun i => decide (i ∈ ([10] : List Nat)))
    (by decide) rfl (by kernel_rfl) (by kernel_rfl) (by decide) (by kernel_rfl) ?_ ?_ ?_ ?_
  · intro i u x y hi h hb
    have hi' : i = 0 ∨ i = 1 ∨ i = 2 ∨ i = 3 ∨ i = 4 ∨ i = 5 ∨ i = 6 ∨ i = 7 ∨ i = 8 ∨ i = 9 ∨ i = 10 := by omega
    rcases hi' with rfl | rfl | rfl | rfl | rfl | rfl | rfl | rfl | rfl | rfl | rfl
    · exact h
    · exact h
    · exact h
    · exact h
    · exact h
    · exact h
    · exact h
    · exact h
    · exact h
    · obtain ⟨A, c, e, hd⟩ := h
      exact ⟨A, c, e, hd.below hb⟩
    · obtain ⟨g, e, hg, hge⟩ := h
      exact ⟨g, e, cells_of hg hb, hge⟩
  · intro i u x hi h
    have hi' : i = 10 := by simpa using hi
    subst hi'
    all_goals
      obtain ⟨g, e, hg, _⟩ := h
      exact ⟨g, e, heap_lt hg⟩
  · intro i a x KK hi hF hb hw hK
    have hi' : i = 0 ∨ i = 1 ∨ i = 2 ∨ i = 3 ∨ i = 4 ∨ i = 5 ∨ i = 6 ∨ i = 7 ∨ i = 8 ∨ i = 9 ∨ i = 10 := by omega
    rcases hi' with rfl | rfl | rfl | rfl | rfl | rfl | rfl | rfl | rfl | rfl | rfl
    · simp only [wpOp, List.getElem?_toArray, List.getElem?_cons_zero, Region.wanted, if_true]
      refine Or.inl ?_
      have e0 : a.eval (.tmp 3) = .pointer (some ⟨w.heap.size, 0, none⟩) := hF.2.2 3 (by decide)
      clear hw hF
      simp only [Oper.wp, execOp]
      rw [e0]
      go_simp
      exact hK _ x (by first | rfl | simp) (Below.refl _ _) (fun h => by simp at h)
    · simp only [wpOp, List.getElem?_toArray, List.getElem?_cons_succ, List.getElem?_cons_zero, Region.wanted, if_true]
      refine Or.inl ?_
      have e0 : a.eval (.tmp 28) = .pointer (some ⟨w.heap.size, 0, none⟩) := hw 0 (by kernel_rfl)
      have f0 := row_cell Rx_2.out hb 0
      have f1 := row_cell Rx_2.out hb 1
      simp only [List.getElem?_toArray, List.getElem?_cons_succ, List.getElem?_cons_zero] at f0 f1
      clear hw hF
      simp only [Oper.wp, execOp]
      rw [e0]
      go_simp
      exact hK _ x (by first | rfl | simp) (Below.refl _ _) (fun h => by simp at h)
    · simp only [wpOp, List.getElem?_toArray, List.getElem?_cons_succ, List.getElem?_cons_zero, Region.wanted, if_true]
      refine Or.inl ?_
      have e0 : a.eval (.tmp 3) = .pointer (some ⟨w.heap.size, 0, none⟩) := hF.2.2 3 (by decide)
      clear hw hF
      simp only [Oper.wp, execOp]
      rw [e0]
      go_simp
      exact hK _ x (by first | rfl | simp) (Below.refl _ _) (fun h => by simp at h)
    · simp only [wpOp, List.getElem?_toArray, List.getElem?_cons_succ, List.getElem?_cons_zero, Region.wanted, if_true]
      refine Or.inl ?_
      have e0 : a.eval (.tmp 30) = .pointer (some ⟨w.heap.size, 1, none⟩) := hw 2 (by kernel_rfl)
      have f0 := row_cell Rx_2.out hb 0
      have f1 := row_cell Rx_2.out hb 1
      simp only [List.getElem?_toArray, List.getElem?_cons_succ, List.getElem?_cons_zero] at f0 f1
      clear hw hF
      simp only [Oper.wp, execOp]
      rw [e0]
      go_simp
      exact hK _ x (by first | rfl | simp) (Below.refl _ _) (fun h => by simp at h)
    · simp only [wpOp, List.getElem?_toArray, List.getElem?_cons_succ, List.getElem?_cons_zero, Region.wanted, if_true]
      refine Or.inl ?_
      have e0 : a.eval (.tmp 3) = .pointer (some ⟨w.heap.size, 0, none⟩) := hF.2.2 3 (by decide)
      clear hw hF
      simp only [Oper.wp, execOp]
      rw [e0]
      go_simp
      exact hK _ x (by first | rfl | simp) (Below.refl _ _) (fun h => by simp at h)
    · simp only [wpOp, List.getElem?_toArray, List.getElem?_cons_succ, List.getElem?_cons_zero, Region.wanted, if_true]
      refine Or.inl ?_
      have e0 : a.eval (.tmp 32) = .pointer (some ⟨w.heap.size, 1, none⟩) := hw 4 (by kernel_rfl)
      have f0 := row_cell Rx_2.out hb 0
      have f1 := row_cell Rx_2.out hb 1
      simp only [List.getElem?_toArray, List.getElem?_cons_succ, List.getElem?_cons_zero] at f0 f1
      clear hw hF
      simp only [Oper.wp, execOp]
      rw [e0]
      go_simp
      exact hK _ x (by first | rfl | simp) (Below.refl _ _) (fun h => by simp at h)
    · simp only [wpOp, List.getElem?_toArray, List.getElem?_cons_succ, List.getElem?_cons_zero, Region.wanted, if_true]
      refine Or.inl ?_
      have e0 : a.tmps.getD 33 undef = .slice Ax xsx.length cx := hw 5 (by kernel_rfl)
      clear hw hF
      simp only [Oper.wp, execOp]
      go_simp
      exact hK _ x (by first | rfl | simp) (Below.refl _ _) (fun h => by simp at h)
    · simp only [wpOp, List.getElem?_toArray, List.getElem?_cons_succ, List.getElem?_cons_zero, Region.wanted, if_true]
      refine Or.inl ?_
      have e0 : a.tmps.getD 34 undef = .int .i64 xsx.length := hw 6 (by kernel_rfl)
      clear hw hF
      simp only [Oper.wp, execOp]
      go_simp
      exact hK _ x (by first | rfl | simp) (Below.refl _ _) (fun h => by simp at h)
    · simp only [wpOp, List.getElem?_toArray, List.getElem?_cons_succ, List.getElem?_cons_zero, Region.wanted, if_true]
      refine Or.inl ?_
      have e0 : a.tmps.getD 31 undef = .slice Ax xsx.length cx := hw 3 (by kernel_rfl)
      have e1 : a.tmps.getD 35 undef = .int .i64 K := hw 7 (by kernel_rfl)
      clear hw hF
      simp only [Oper.wp, execOp]
      go_simp
      exact hK _ x (by first | rfl | simp) (Below.refl _ _) (fun h => by simp at h)
    · simp only [wpOp, List.getElem?_toArray, List.getElem?_cons_succ, List.getElem?_cons_zero, Region.wanted, if_true]
      refine Or.inl ?_
      have e0 : a.tmps.getD 29 undef = .bool sx := hw 1 (by kernel_rfl)
      have e1 : a.tmps.getD 36 undef = .slice Ax K.toNat cx := hw 8 (by kernel_rfl)
      clear hw hF
      simp only [Oper.wp, execOp]
      go_simp
      refine (MK.out _ ((L2.out.step hb).get (A := Ax) (c := cx) (xs := ts) (by simp))).mono ?_
      rintro e y ⟨A2, c2, rfl, hd2, hbb⟩
      exact hK _ y ⟨A2, c2, rfl, hd2⟩ hbb (fun h => by simp at h)
    · simp only [wpOp, List.getElem?_toArray, List.getElem?_cons_succ, List.getElem?_cons_zero, Region.wanted, if_true]
      refine Or.inl ?_
      clear hw hF
      simp only [Oper.wp, execOp]
      go_simp
      exact hK _ _ ⟨_, rfl, heap_alloc_new _ _, hb.size⟩ (below1 _ _) (fun _ => rfl)
  · intro a x hF0 hb hR _
    have hF : Fr6 [28, 29, 30, 31, 32, 33, 34, 35, 36, 37, 8] _ a := hF0
    have e0 : a.tmps.getD 28 undef = .pointer (some ⟨w.heap.size, 0, none⟩) := hR 0 (by decide)
    have e1 : a.tmps.getD 29 undef = .bool sx := hR 1 (by decide)
    have e2 : a.tmps.getD 30 undef = .pointer (some ⟨w.heap.size, 1, none⟩) := hR 2 (by decide)
    have e3 : a.tmps.getD 31 undef = .slice Ax xsx.length cx := hR 3 (by decide)
    have e4 : a.tmps.getD 32 undef = .pointer (some ⟨w.heap.size, 1, none⟩) := hR 4 (by decide)
    have e5 : a.tmps.getD 33 undef = .slice Ax xsx.length cx := hR 5 (by decide)
    have e6 : a.tmps.getD 34 undef = .int .i64 xsx.length := hR 6 (by decide)
    have e7 : a.tmps.getD 35 undef = .int .i64 K := hR 7 (by decide)
    have e8 : a.tmps.getD 36 undef = .slice Ax K.toNat cx := hR 8 (by decide)
    obtain ⟨B9, d9, h9, hd9⟩ := hR 9 (by decide)
    have e9 : a.tmps.getD 37 undef = _ := h9
    obtain ⟨g10, h10, hg10, hge10⟩ := hR 10 (by decide)
    have e10 : a.tmps.getD 8 undef = _ := h10
    rw [hF.fold (by kernel_rfl)]
    simp only [List.foldl_cons, List.foldl_nil, e0, e1, e2, e3, e4, e5, e6, e7, e8, e9, e10]
    simp only [Act.put, List.setIfInBounds_toArray, List.set_cons_zero, List.set_cons_succ]
    clear e0 e1 e2 e3 e4 e5 e6 e7 e8 e9 e10 hR hF hF0 h9 h10
    obtain ⟨w3, hW⟩ : ∃ W : World, W = x := ⟨_, rfl⟩
    rw [← hW]
    rw [← hW] at hb hd9 hg10
    have L3 := Lib.hid ((L2.out.step hb).add hd9)
    have Rx_3 := Lib.hid (cells_of Rx_2.out hb)
    have Rq10_3 := Lib.hid hg10
    have Gq10 : w.heap.size ≤ g10 := Nat.le_trans L2.out.1.size hge10
    have Nxq10 : w.heap.size < g10 := by have := heap_lt Rx_2.out; omega
    clear hW hb hd9 hg10 hge10
    have fq100 := row_c (i := 0) Rq10_3.out rfl
    have zq100 := frozen_of_row _ _ 0 _ _ Rq10_3.out
    have fq101 := row_c (i := 1) Rq10_3.out rfl
    have zq101 := frozen_of_row _ _ 1 _ _ Rq10_3.out
    have xq10 := heap_lt Rq10_3.out
    first | simp only [wpOps_cons] | rw [wpOps_cons] | (change wpOps _ _ _ [11] _ _; simp only [wpOps_cons])
    simp only [wpOp, List.getElem?_toArray, List.getElem?_cons_succ, List.getElem?_cons_zero, Region.wanted, if_true]
    refine Or.inl ?_
    simp only [Oper.wp, execOp]
    go_simp
    try simp only [wpOps]
    clear fq100 zq100 fq101 zq101 xq10
    obtain ⟨w4, hW⟩ : ∃ W : World, W = ((w3.setCell ⟨g10, 0, none⟩ (.bool (decide (m < 0)))).setCell ⟨g10, 1, none⟩ (.slice B9 (digs m.natAbs).length d9)) := ⟨_, rfl⟩
    rw [← hW]
    have hO : Only (g10) w3 w4 := by rw [hW]; exact (((Only.refl (g10) w3).setCell 0 _).setCell 1 _)
    have L4 := Lib.hid (live_only L3.out hO Rq10_3.out noint_int Gq10)
    have Rx_4 := Lib.hid ((hO.block _ (by omega)).trans Rx_3.out)
    have Rq10_4 := Lib.hid (show w4.heap[g10]? = some (.cells #[.bool (decide (m < 0)), .slice B9 (digs m.natAbs).length d9] 24 (0, 0)) by rw [hW]; exact (heap_setCell_same _ _ 1 _ _ _ (heap_setCell_same _ _ 0 _ _ _ Rq10_3.out)))
    clear hW hO
    clear hmin k0 k1
    have fq100 := row_c (i := 0) Rq10_4.out rfl
    have zq100 := frozen_of_row _ _ 0 _ _ Rq10_4.out
    have fq101 := row_c (i := 1) Rq10_4.out rfl
    have zq101 := frozen_of_row _ _ 1 _ _ Rq10_4.out
    have xq10 := heap_lt Rq10_4.out
    go_wp2_with fail
    refine (DB.out _ _ _ (L4.out.get (A := B9) (c := d9) (xs := digs m.natAbs) (by simp))).mono ?_
    rintro e w5 ⟨rfl, hb⟩
    have L5 := Lib.hid (L4.out.step hb)
    clear fq100 zq100 fq101 zq101 xq10
    have Rx_5 := Lib.hid (cells_of Rx_4.out hb)
    have Rq10_5 := Lib.hid (cells_of Rq10_4.out hb)
    clear hb 
    have hsz := HSZ.out
    go_wp2_with fail
    refine (DT.out _).mono ?_
    rintro e w6 ⟨A6, c6, rfl, hd, hb⟩
    have L6 := Lib.hid ((L5.out.step hb).add hd)
    have Rx_6 := Lib.hid (cells_of Rx_5.out hb)
    have Rq10_6 := Lib.hid (cells_of Rq10_5.out hb)
    clear hb hd
    clear hsz
    have fq100 := row_c (i := 0) Rq10_6.out rfl
    have zq100 := frozen_of_row _ _ 0 _ _ Rq10_6.out
    have fq101 := row_c (i := 1) Rq10_6.out rfl
    have zq101 := frozen_of_row _ _ 1 _ _ Rq10_6.out
    have xq10 := heap_lt Rq10_6.out
    go_wp2_with fail
    obtain ⟨w7, hW⟩ : ∃ W : World, W = (w6.alloc (.cells #[.bool (decide (m < 0)), .slice A6 (digs m.natAbs).length c6] 24)) := ⟨_, rfl⟩
    rw [← hW]
    have hb : Below w6.heap.size w6 w7 := by rw [hW]; exact ((Below.refl _ _).alloc (by simp <;> omega) _)
    have L7 := Lib.hid (L6.out.step hb)
    have Rx_7 := Lib.hid (cells_of Rx_6.out hb)
    have Rq10_7 := Lib.hid (cells_of Rq10_6.out hb)
    have Rcc_7 := Lib.hid (show w7.heap[w6.heap.size]? = some (.cells #[.bool (decide (m < 0)), .slice A6 (digs m.natAbs).length c6] 24 (0, 0)) by rw [hW]; have := heap_alloc_new w6 (.cells #[.bool (decide (m < 0)), .slice A6 (digs m.natAbs).length c6] 24); simpa using this)
    have Gcc : w.heap.size ≤ w6.heap.size := by have := L6.out.1.size; omega
    have Nxcc : w.heap.size < w6.heap.size := by have := heap_lt Rx_6.out; omega
    have Nq10cc : g10 < w6.heap.size := by have := heap_lt Rq10_6.out; omega
    clear hW hb
    clear fq100 zq100 fq101 zq101 xq10
    refine (same_n (L7.out.get (A := B9) (c := d9) (xs := digs m.natAbs) (by simp)) (L7.out.get (A := A6) (c := c6) (xs := digs m.natAbs) (by simp)) (Nat.le_trans HML.out (by omega))).mono ?_
    rintro e w8 ⟨rfl, hb⟩
    have L8 := Lib.hid (L7.out.step hb)
    have Rx_8 := Lib.hid (cells_of Rx_7.out hb)
    have Rq10_8 := Lib.hid (cells_of Rq10_7.out hb)
    have Rcc_8 := Lib.hid (cells_of Rcc_7.out hb)
    clear hb 
    have fq100 := row_c (i := 0) Rq10_8.out rfl
    have zq100 := frozen_of_row _ _ 0 _ _ Rq10_8.out
    have fq101 := row_c (i := 1) Rq10_8.out rfl
    have zq101 := frozen_of_row _ _ 1 _ _ Rq10_8.out
    have xq10 := heap_lt Rq10_8.out
    go_wp2_with fail
    refine (ztx_n (L8.out.get (A := B9) (c := d9) (xs := digs m.natAbs) (by simp)) (Nat.le_trans HML.out (by omega)) (p10_below HT.out L8.out.1) HTX.out).mono ?_
    rintro e w9 ⟨rfl, hb⟩
    have L9 := Lib.hid (L8.out.step hb)
    clear fq100 zq100 fq101 zq101 xq10
    have Rx_9 := Lib.hid (cells_of Rx_8.out hb)
    have Rq10_9 := Lib.hid (cells_of Rq10_8.out hb)
    have Rcc_9 := Lib.hid (cells_of Rcc_8.out hb)
    clear hb 
    have d0 := D0.out
    have hlong := HLONG.out
    have dl : decide ((TX.size : Int) ≤ 1) = false := decide_eq_false (by omega)
    have dl2 : ¬ (TX.size : Int) ≤ 1 := by omega
    have dl3 : ¬ TX = ByteArray.empty := fun e => by subst e; simp at hlong
    have n0 : 0 < TX.size := by omega
    have e0 : (0 : Int) < (TX.size : Int) := by omega
    have hb0 : (TX[0]'n0).toNat = 45 := by rw [bt_get TX 0 n0, HTX.out]; exact HB0.out
    have fq100 := row_c (i := 0) Rq10_9.out rfl
    have zq100 := frozen_of_row _ _ 0 _ _ Rq10_9.out
    have fq101 := row_c (i := 1) Rq10_9.out rfl
    have zq101 := frozen_of_row _ _ 1 _ _ Rq10_9.out
    have xq10 := heap_lt Rq10_9.out
    go_wp2_with fail
    refine (FZ.out _).mono ?_
    rintro e w10 ⟨A10, c10, rfl, hd, hb⟩
    have L10 := Lib.hid ((L9.out.step hb).add hd)
    clear fq100 zq100 fq101 zq101 xq10
    have Rx_10 := Lib.hid (cells_of Rx_9.out hb)
    have Rq10_10 := Lib.hid (cells_of Rq10_9.out hb)
    have Rcc_10 := Lib.hid (cells_of Rcc_9.out hb)
    clear hb hd
    clear d0 dl dl2 dl3 hlong n0 e0 hb0
    go_wp2_with fail
    obtain ⟨w11, hW⟩ : ∃ W : World, W = (w10.alloc (.cells #[.bool (decide (z0 < 0)), .slice A10 (digs z0.natAbs).length c10] 24)) := ⟨_, rfl⟩
    rw [← hW]
    have hb : Below w10.heap.size w10 w11 := by rw [hW]; exact ((Below.refl _ _).alloc (by simp <;> omega) _)
    have L11 := Lib.hid (L10.out.step hb)
    have Rx_11 := Lib.hid (cells_of Rx_10.out hb)
    have Rq10_11 := Lib.hid (cells_of Rq10_10.out hb)
    have Rcc_11 := Lib.hid (cells_of Rcc_10.out hb)
    have Rnn_11 := Lib.hid (show w11.heap[w10.heap.size]? = some (.cells #[.bool (decide (z0 < 0)), .slice A10 (digs z0.natAbs).length c10] 24 (0, 0)) by rw [hW]; have := heap_alloc_new w10 (.cells #[.bool (decide (z0 < 0)), .slice A10 (digs z0.natAbs).length c10] 24); simpa using this)
    have Gnn : w.heap.size ≤ w10.heap.size := by have := L10.out.1.size; omega
    have Nxnn : w.heap.size < w10.heap.size := by have := heap_lt Rx_10.out; omega
    have Nq10nn : g10 < w10.heap.size := by have := heap_lt Rq10_10.out; omega
    have Nccnn : w6.heap.size < w10.heap.size := by have := heap_lt Rcc_10.out; omega
    clear hW hb
    go_loopg [18] (TX.size - 1) (fun g kv wr => ∃ (k : Nat) (z : Int) (A3 : Option Addr) (c3 : Nat), kv = .int .i64 k ∧ Hid (k + g = TX.size) ∧ Hid (1 ≤ k) ∧ Hid (z = ((tn m k : Nat) : Int)) ∧ Hid (Live w wr [(A3, c3, digs z.natAbs), (B9, d9, digs m.natAbs)]) ∧ Hid (wr.heap[g10]? = some (.cells #[.bool (decide (m < 0)), .slice B9 (digs m.natAbs).length d9] 24 (0, 0))) ∧ Hid (wr.heap[w10.heap.size]? = some (.cells #[.bool (decide (z < 0)), .slice A3 (digs z.natAbs).length c3] 24 (0, 0))))
    case atStart => exact ⟨1, z0, A10, c10, rfl, Lib.hid (by have := HLONG.out; omega), Lib.hid (Nat.le_refl _), HZ0, Lib.hid ((((live_start w).step L11.out.1).add (L11.out.get (A := B9) (c := d9) (xs := digs m.natAbs) (by simp))).add (L11.out.get (A := A10) (c := c10) (xs := digs z0.natAbs) (by simp))), Rq10_11, Rnn_11⟩
    case round =>
      obtain ⟨k, z, A3, c3, rfl, HK, HF, HZ, LR, RRQ, HR⟩ := hrel
      by_cases hlt : k < TX.size
      · skip
        obtain ⟨D, hD⟩ : ∃ D, Bt (tz m) k = D := ⟨_, rfl⟩
        have hdd := tz_digit m k (by have := HF.out; rw [HFR.out]; exact this) (by have := EX2.out; omega)
        rw [hD] at hdd
        obtain ⟨dd, hDe⟩ : ∃ d, D = d + 48 := ⟨D - 48, by omega⟩
        have HDE := Lib.hid hDe
        have hb1 : (TX[k]'hlt).toNat = D := by rw [bt_get TX k hlt, HTX.out]; exact hD
        have hst := tn_step m k (by have := HF.out; rw [HFR.out]; exact this) (by have := EX2.out; omega)
        rw [hD] at hst
        obtain ⟨z2, hz2⟩ : ∃ z : Int, z = ((tn m (k + 1) : Nat) : Int) := ⟨_, rfl⟩
        have HZ2 := Lib.hid hz2
        have HZZ := Lib.hid (show z * 10 + (dd : Int) = z2 by rw [hz2, hst, HZ.out, hDe]; omega)
        have HHD := Lib.hid (show D = 48 → k = 1 → TX.size = 1 from fun e1 e2 => by rw [EX2.out]; exact tz_head m (by rw [HFR.out, ← e2, hD, e1]))
        have HLD := Lib.hid (digs_len_le2 (show z.natAbs ≤ m.natAbs by have := HZ.out; have := tn_le m k; omega) HML.out)
        have HLM := Lib.hid (digs_mul10 HLD.out)
        have HLE := Lib.hid (digs_dd (show dd ≤ 9 by omega))
        have dle9 : dd ≤ 9 := by omega
        have HDD := Lib.hid dle9
        have ilt : (k : Int) < (TX.size : Int) := by omega
        have HLT := Lib.hid hlt
        have HD := Lib.hid hD
        have KS1 := Lib.hid (show k + 1 + (gk - 1) = TX.size by have := HK.out; omega)
        have KM1 := Lib.hid (show gk - 1 < gk by have := HK.out; omega)
        have KF1 := Lib.hid (show 1 ≤ k + 1 by have := HF.out; omega)
        have KW1 := Lib.hid (show wrap64 ((k : Int) + 1) = ((k + 1 : Nat) : Int) from IntWalk.wrap64_in _ ⟨by omega, by have := HTS.out; omega⟩)
        clear hst hz2 hdd hD hDe dle9
        go_upto_region 20 with (fail)
        go_cut [18, 119] from 88 to 129 (fun kv v wx => kv = .int .i64 (k : Int) ∧ v = .bool false ∧ wx = wr)
        case first =>
          have x1 : decide ((D : Int) < 48) = false := decide_eq_false (by have := HDE.out; omega)
          have x2 : decide ((57 : Int) < (D : Int)) = false := decide_eq_false (by have := HDE.out; have := HDD.out; omega)
          have x7 : ¬ ((D : Int) < 48) := by have := HDE.out; omega
          have x8 : ¬ ((57 : Int) < (D : Int)) := by have := HDE.out; have := HDD.out; omega
          have EX : (¬ (D : Int) = 48) ∨ ((D : Int) = 48 ∧ ¬ (k : Int) = 1) ∨ ((D : Int) = 48 ∧ (k : Int) = 1 ∧ decide (1 < TX.size) = false ∧ decide ((1 : Int) < (TX.size : Int)) = false ∧ ¬ (1 < TX.size) ∧ Hid (k = 1)) := by
            by_cases e1 : D = 48
            · by_cases e2 : k = 1
              · have e3 := HHD.out e1 e2
                exact .inr (.inr ⟨by omega, by omega, decide_eq_false (by omega), decide_eq_false (by omega), by omega, Lib.hid e2⟩)
              · exact .inr (.inl ⟨by omega, by omega⟩)
            · exact .inl (by omega)
          rcases EX with x3 | ⟨x3, x4⟩ | ⟨x3, x4, x5, x6, x9, HK1⟩
          · go_wp2_with fail
            go_meet
            case rel => exact ⟨rfl, rfl, rfl⟩
          · go_wp2_with fail
            go_meet
            case rel => exact ⟨rfl, rfl, rfl⟩
          · try have h12 : (1 : Int) < (TX.size : Int) := by omega
            have h13 := HLONG.out
            first | (exfalso; omega) | (clear h13 x4; have e0 := HK1.out; clear HK1; subst e0; go_wp2_with fail; go_meet; case rel => exact ⟨rfl, rfl, rfl⟩)
        case rest =>
          obtain ⟨rfl, rfl, hwc⟩ := hcut
          obtain rfl : wr = wc := hwc.symm
          clear hb1
          go_wp2_with fail
          refine wp_operands (W := wr) rfl 10 [120, 121, 122, 123, 124, 125, 126, 127, 128, 129] (fun i u ww => match i with | 0 => u = .agg #[.bool (decide (z < 0)), .slice A3 (digs z.natAbs).length c3] | 1 => ∃ A c, u = .agg #[.bool (decide ((10 : Int) < 0)), .slice A (digs (10 : Int).natAbs).length c] ∧ Dg ww A c (digs (10 : Int).natAbs) | 2 => ∃ A c, u = .agg #[.bool (decide (z * 10 < 0)), .slice A (digs (z * 10).natAbs).length c] ∧ Dg ww A c (digs (z * 10).natAbs) | 3 => u = .string TX | 4 => u = .int .i64 k | 5 => u = .int .u8 (D : Int) | 6 => u = .int .u8 dd | 7 => u = .int .i64 dd | 8 => ∃ A c, u = .agg #[.bool (decide ((dd : Int) < 0)), .slice A (digs ((dd : Int)).natAbs).length c] ∧ Dg ww A c (digs (dd : Int).natAbs) | 9 => ∃ A c, u = .agg #[.bool (decide (z2 < 0)), .slice A (digs (z2).natAbs).length c] ∧ Dg ww A c (digs z2.natAbs) | _ => True) (fun i => decide (i ∈ ([] : List Nat)))
            (by decide) rfl (by kernel_rfl) (by kernel_rfl) (by decide) (by kernel_rfl) ?_ ?_ ?_ ?_
          · intro i u x y hi h hb
            have hi' : i = 0 ∨ i = 1 ∨ i = 2 ∨ i = 3 ∨ i = 4 ∨ i = 5 ∨ i = 6 ∨ i = 7 ∨ i = 8 ∨ i = 9 := by omega
            rcases hi' with rfl | rfl | rfl | rfl | rfl | rfl | rfl | rfl | rfl | rfl
            · exact h
            · obtain ⟨A, c, e, hd⟩ := h
              exact ⟨A, c, e, hd.below hb⟩
            · obtain ⟨A, c, e, hd⟩ := h
              exact ⟨A, c, e, hd.below hb⟩
            · exact h
            · exact h
            · exact h
            · exact h
            · exact h
            · obtain ⟨A, c, e, hd⟩ := h
              exact ⟨A, c, e, hd.below hb⟩
            · obtain ⟨A, c, e, hd⟩ := h
              exact ⟨A, c, e, hd.below hb⟩
          · intro i u x hi; simp at hi
          · intro i a x KK hi hF hb hw hK
            have hi' : i = 0 ∨ i = 1 ∨ i = 2 ∨ i = 3 ∨ i = 4 ∨ i = 5 ∨ i = 6 ∨ i = 7 ∨ i = 8 ∨ i = 9 := by omega
            rcases hi' with rfl | rfl | rfl | rfl | rfl | rfl | rfl | rfl | rfl | rfl
            · simp only [wpOp, List.getElem?_toArray, List.getElem?_cons_zero, Region.wanted, if_true]
              refine Or.inl ?_
              have e0 : a.eval (.tmp 17) = .pointer (some ⟨w10.heap.size, 0, none⟩) := hF.2.2 17 (by decide)
              have f0 := row_cell HR.out hb 0
              have f1 := row_cell HR.out hb 1
              simp only [List.getElem?_toArray, List.getElem?_cons_succ, List.getElem?_cons_zero] at f0 f1
              clear hw hF
              simp only [Oper.wp, execOp]
              rw [e0]
              go_simp
              exact hK _ x (by first | rfl | simp) (Below.refl _ _) (fun h => by simp at h)
            · simp only [wpOp, List.getElem?_toArray, List.getElem?_cons_succ, List.getElem?_cons_zero, Region.wanted, if_true]
              refine Or.inl ?_
              clear hw hF
              simp only [Oper.wp, execOp]
              go_simp
              refine (zfrom_any 10 _ (by omega) (by omega)).mono ?_
              rintro e y ⟨A2, c2, rfl, hd2, hbb⟩
              exact hK _ y ⟨A2, c2, rfl, hd2⟩ hbb (fun h => by simp at h)
            · simp only [wpOp, List.getElem?_toArray, List.getElem?_cons_succ, List.getElem?_cons_zero, Region.wanted, if_true]
              refine Or.inl ?_
              have e0 : a.tmps.getD 120 undef = .agg #[.bool (decide (z < 0)), .slice A3 (digs z.natAbs).length c3] := hw 0 (by kernel_rfl)
              obtain ⟨A', c', e1, hd⟩ := hw 1 (by kernel_rfl)
              have e1 : a.tmps.getD 121 undef = _ := e1
              clear hw hF
              simp only [Oper.wp, execOp]
              go_simp
              refine (zmul_n ((LR.out.step hb).get (A := A3) (c := c3) (xs := digs z.natAbs) (by simp)) hd (Nat.le_trans HLD.out (by omega)) (Nat.le_trans (digs_small (n := (10 : Int).natAbs) (by decide)) (by omega)) rfl).mono ?_
              rintro e y ⟨A2, c2, rfl, hd2, hbb⟩
              exact hK _ y ⟨A2, c2, rfl, hd2⟩ hbb (fun h => by simp at h)
            · simp only [wpOp, List.getElem?_toArray, List.getElem?_cons_succ, List.getElem?_cons_zero, Region.wanted, if_true]
              refine Or.inl ?_
              have e0 : a.eval (.tmp 15) = .string TX := hF.2.2 15 (by decide)
              clear hw hF
              simp only [Oper.wp, execOp]
              rw [e0]
              go_simp
              exact hK _ x (by first | rfl | simp) (Below.refl _ _) (fun h => by simp at h)
            · simp only [wpOp, List.getElem?_toArray, List.getElem?_cons_succ, List.getElem?_cons_zero, Region.wanted, if_true]
              refine Or.inl ?_
              have e0 : a.eval (.tmp 18) = .int .i64 k := hF.2.2 18 (by decide)
              clear hw hF
              simp only [Oper.wp, execOp]
              rw [e0]
              go_simp
              exact hK _ x (by first | rfl | simp) (Below.refl _ _) (fun h => by simp at h)
            · simp only [wpOp, List.getElem?_toArray, List.getElem?_cons_succ, List.getElem?_cons_zero, Region.wanted, if_true]
              refine Or.inl ?_
              have e0 : a.eval (.tmp 123) = .string TX := hw 3 (by kernel_rfl)
              have e1 : a.eval (.tmp 124) = .int .i64 k := hw 4 (by kernel_rfl)
              have II := ix_rn TX (k : Int) k D rfl HLT.out (by rw [HTX.out]; exact HD.out)
              clear hw hF
              simp only [Oper.wp, execOp]
              rw [e0, e1]
              go_simp
              exact hK _ x (by first | rfl | simp) (Below.refl _ _) (fun h => by simp at h)
            · simp only [wpOp, List.getElem?_toArray, List.getElem?_cons_succ, List.getElem?_cons_zero, Region.wanted, if_true]
              refine Or.inl ?_
              have e0 : a.eval (.tmp 125) = .int .u8 (D : Int) := hw 5 (by kernel_rfl)
              have hs1 : (D : Int) - 48 = (dd : Int) := by have := HDE.out; omega
              have hs2 : IntKind.u8.wrap (dd : Int) = (dd : Int) := wrap_u8 HDD.out
              clear hw hF
              simp only [Oper.wp, execOp]
              rw [e0]
              go_simp
              exact hK _ x (by first | rfl | simp) (Below.refl _ _) (fun h => by simp at h)
            · simp only [wpOp, List.getElem?_toArray, List.getElem?_cons_succ, List.getElem?_cons_zero, Region.wanted, if_true]
              refine Or.inl ?_
              have e0 : a.eval (.tmp 126) = .int .u8 dd := hw 6 (by kernel_rfl)
              have hs2 : IntKind.i64.wrap (dd : Int) = (dd : Int) := wrap_i64_eq _ (by omega) (by have := HDD.out; omega)
              clear hw hF
              simp only [Oper.wp, execOp]
              rw [e0]
              go_simp
              exact hK _ x (by first | rfl | simp) (Below.refl _ _) (fun h => by simp at h)
            · simp only [wpOp, List.getElem?_toArray, List.getElem?_cons_succ, List.getElem?_cons_zero, Region.wanted, if_true]
              refine Or.inl ?_
              have e0 : a.tmps.getD 127 undef = .int .i64 dd := hw 7 (by kernel_rfl)
              clear hw hF
              simp only [Oper.wp, execOp]
              go_simp
              refine (zfrom_any (dd : Int) _ (by have := HDD.out; omega) (by have := HDD.out; omega)).mono ?_
              rintro e y ⟨A2, c2, rfl, hd2, hbb⟩
              exact hK _ y ⟨A2, c2, rfl, hd2⟩ hbb (fun h => by simp at h)
            · simp only [wpOp, List.getElem?_toArray, List.getElem?_cons_succ, List.getElem?_cons_zero, Region.wanted, if_true]
              refine Or.inl ?_
              obtain ⟨A', c', e0, hd⟩ := hw 2 (by kernel_rfl)
              have e0 : a.tmps.getD 122 undef = _ := e0
              obtain ⟨A', c', e1, hd'⟩ := hw 8 (by kernel_rfl)
              have e1 : a.tmps.getD 128 undef = _ := e1
              clear hw hF
              simp only [Oper.wp, execOp]
              go_simp
              refine (zadd_n hd hd' HLM.out HLE.out HZZ.out).mono ?_
              rintro e y ⟨A2, c2, rfl, hd2, hbb⟩
              exact hK _ y ⟨A2, c2, rfl, hd2⟩ hbb (fun h => by simp at h)
          · intro a x hF0 hb hR _
            have hF : Fr6 [120, 121, 122, 123, 124, 125, 126, 127, 128, 129] _ a := hF0
            have e0 : a.tmps.getD 120 undef = .agg #[.bool (decide (z < 0)), .slice A3 (digs z.natAbs).length c3] := hR 0 (by decide)
            obtain ⟨Bi1, di1, h1, hd1⟩ := hR 1 (by decide)
            have e1 : a.tmps.getD 121 undef = _ := h1
            obtain ⟨Bi2, di2, h2, hd2⟩ := hR 2 (by decide)
            have e2 : a.tmps.getD 122 undef = _ := h2
            have e3 : a.tmps.getD 123 undef = .string TX := hR 3 (by decide)
            have e4 : a.tmps.getD 124 undef = .int .i64 k := hR 4 (by decide)
            have e5 : a.tmps.getD 125 undef = .int .u8 (D : Int) := hR 5 (by decide)
            have e6 : a.tmps.getD 126 undef = .int .u8 dd := hR 6 (by decide)
            have e7 : a.tmps.getD 127 undef = .int .i64 dd := hR 7 (by decide)
            obtain ⟨Bi8, di8, h8, hd8⟩ := hR 8 (by decide)
            have e8 : a.tmps.getD 128 undef = _ := h8
            obtain ⟨Bi9, di9, h9, hd9⟩ := hR 9 (by decide)
            have e9 : a.tmps.getD 129 undef = _ := h9
            rw [hF.fold (by kernel_rfl)]
            simp only [List.foldl_cons, List.foldl_nil, e0, e1, e2, e3, e4, e5, e6, e7, e8, e9]
            simp only [Act.put, List.setIfInBounds_toArray, List.set_cons_zero, List.set_cons_succ]
            clear e0 e1 e2 e3 e4 e5 e6 e7 e8 e9 hR hF hF0 h1 h2 h8 h9
            obtain ⟨w12, hW⟩ : ∃ W : World, W = x := ⟨_, rfl⟩
            rw [← hW]
            rw [← hW] at hb hd1 hd2 hd8 hd9
            have L12 := Lib.hid (((((LR.out.step hb).add hd1).add hd2).add hd8).add hd9)
            have Rq10_12 := Lib.hid (cells_of RRQ.out hb)
            have Rnn_12 := Lib.hid (cells_of HR.out hb)
            clear hW hb hd1 hd2 hd8 hd9
            have fnn0 := row_c (i := 0) Rnn_12.out rfl
            have znn0 := frozen_of_row _ _ 0 _ _ Rnn_12.out
            have fnn1 := row_c (i := 1) Rnn_12.out rfl
            have znn1 := frozen_of_row _ _ 1 _ _ Rnn_12.out
            have xnn := heap_lt Rnn_12.out
            first | simp only [wpOps_cons] | rw [wpOps_cons] | (change wpOps _ _ _ [10] _ _; simp only [wpOps_cons])
            simp only [wpOp, List.getElem?_toArray, List.getElem?_cons_succ, List.getElem?_cons_zero, Region.wanted, if_true]
            refine Or.inl ?_
            simp only [Oper.wp, execOp]
            go_simp
            try simp only [wpOps]
            clear fnn0 znn0 fnn1 znn1 xnn
            obtain ⟨w13, hW⟩ : ∃ W : World, W = ((w12.setCell ⟨w10.heap.size, 0, none⟩ (.bool (decide (z2 < 0)))).setCell ⟨w10.heap.size, 1, none⟩ (.slice Bi9 (digs z2.natAbs).length di9)) := ⟨_, rfl⟩
            rw [← hW]
            have hO : Only (w10.heap.size) w12 w13 := by rw [hW]; exact (((Only.refl (w10.heap.size) w12).setCell 0 _).setCell 1 _)
            have L13 := Lib.hid (live_only L12.out hO Rnn_12.out noint_int Gnn)
            have Rq10_13 := Lib.hid ((hO.block _ (by omega)).trans Rq10_12.out)
            have Rnn_13 := Lib.hid (show w13.heap[w10.heap.size]? = some (.cells #[.bool (decide (z2 < 0)), .slice Bi9 (digs z2.natAbs).length di9] 24 (0, 0)) by rw [hW]; exact (heap_setCell_same _ _ 1 _ _ _ (heap_setCell_same _ _ 0 _ _ _ Rnn_12.out)))
            clear hW hO
            go_wp2
            go_roundg (gk - 1)
            case rel => exact ⟨k + 1, z2, Bi9, di9, congrArg (Value.int .i64) KW1.out, KS1, KF1, HZ2, Lib.hid ((((live_start w).step L13.out.1).add (L13.out.get (A := B9) (c := d9) (xs := digs m.natAbs) (by simp))).add (L13.out.get (A := Bi9) (c := di9) (xs := digs z2.natAbs) (by simp))), Rq10_13, Rnn_13⟩
            case measure => exact KM1.out
      · have hk2 : k = TX.size := by have := HK.out; omega
        have HZA := Lib.hid (show z.natAbs = m.natAbs by rw [HZ.out, hk2, EX2.out, tn_all]; rfl)
        clear hlt
        subst hk2
        have HLZ := Lib.hid (show (digs z.natAbs).length ≤ 12 by rw [HZA.out]; exact HML.out)
        go_wp2_with fail
        refine wp_operands (W := wr) rfl 7 [130, 131, 132, 133, 134, 135, 136] (fun i u ww => match i with | 0 => u = .pointer (some ⟨g10, 0, none⟩) | 1 => u = .bool (decide (m < 0)) | 2 => u = .pointer (some ⟨w10.heap.size, 1, none⟩) | 3 => u = .slice A3 (digs z.natAbs).length c3 | 4 => ∃ A c, u = .agg #[.bool (decide (m < 0)), .slice A (digs (m).natAbs).length c] ∧ Dg ww A c (digs m.natAbs) | 5 => u = .agg #[.bool (decide (m < 0)), .slice B9 (digs m.natAbs).length d9] | 6 => u = .bool true | _ => True) (fun i => decide (i ∈ ([] : List Nat)))
          (by decide) rfl (by kernel_rfl) (by kernel_rfl) (by decide) (by kernel_rfl) ?_ ?_ ?_ ?_
        · intro i u x y hi h hb
          have hi' : i = 0 ∨ i = 1 ∨ i = 2 ∨ i = 3 ∨ i = 4 ∨ i = 5 ∨ i = 6 := by omega
          rcases hi' with rfl | rfl | rfl | rfl | rfl | rfl | rfl
          · exact h
          · exact h
          · exact h
          · exact h
          · obtain ⟨A, c, e, hd⟩ := h
            exact ⟨A, c, e, hd.below hb⟩
          · exact h
          · exact h
        · intro i u x hi; simp at hi
        · intro i a x KK hi hF hb hw hK
          have hi' : i = 0 ∨ i = 1 ∨ i = 2 ∨ i = 3 ∨ i = 4 ∨ i = 5 ∨ i = 6 := by omega
          rcases hi' with rfl | rfl | rfl | rfl | rfl | rfl | rfl
          · simp only [wpOp, List.getElem?_toArray, List.getElem?_cons_zero, Region.wanted, if_true]
            refine Or.inl ?_
            have e0 : a.eval (.tmp 8) = .pointer (some ⟨g10, 0, none⟩) := hF.2.2 8 (by decide)
            clear hw hF
            simp only [Oper.wp, execOp]
            rw [e0]
            go_simp
            exact hK _ x (by first | rfl | simp) (Below.refl _ _) (fun h => by simp at h)
          · simp only [wpOp, List.getElem?_toArray, List.getElem?_cons_succ, List.getElem?_cons_zero, Region.wanted, if_true]
            refine Or.inl ?_
            have e0 : a.eval (.tmp 130) = .pointer (some ⟨g10, 0, none⟩) := hw 0 (by kernel_rfl)
            have f0 := row_cell RRQ.out hb 0
            have f1 := row_cell RRQ.out hb 1
            simp only [List.getElem?_toArray, List.getElem?_cons_succ, List.getElem?_cons_zero] at f0 f1
            clear hw hF
            simp only [Oper.wp, execOp]
            rw [e0]
            go_simp
            exact hK _ x (by first | rfl | simp) (Below.refl _ _) (fun h => by simp at h)
          · simp only [wpOp, List.getElem?_toArray, List.getElem?_cons_succ, List.getElem?_cons_zero, Region.wanted, if_true]
            refine Or.inl ?_
            have e0 : a.eval (.tmp 17) = .pointer (some ⟨w10.heap.size, 0, none⟩) := hF.2.2 17 (by decide)
            clear hw hF
            simp only [Oper.wp, execOp]
            rw [e0]
            go_simp
            exact hK _ x (by first | rfl | simp) (Below.refl _ _) (fun h => by simp at h)
          · simp only [wpOp, List.getElem?_toArray, List.getElem?_cons_succ, List.getElem?_cons_zero, Region.wanted, if_true]
            refine Or.inl ?_
            have e0 : a.eval (.tmp 132) = .pointer (some ⟨w10.heap.size, 1, none⟩) := hw 2 (by kernel_rfl)
            have f0 := row_cell HR.out hb 0
            have f1 := row_cell HR.out hb 1
            simp only [List.getElem?_toArray, List.getElem?_cons_succ, List.getElem?_cons_zero] at f0 f1
            clear hw hF
            simp only [Oper.wp, execOp]
            rw [e0]
            go_simp
            exact hK _ x (by first | rfl | simp) (Below.refl _ _) (fun h => by simp at h)
          · simp only [wpOp, List.getElem?_toArray, List.getElem?_cons_succ, List.getElem?_cons_zero, Region.wanted, if_true]
            refine Or.inl ?_
            have e0 : a.tmps.getD 131 undef = .bool (decide (m < 0)) := hw 1 (by kernel_rfl)
            have e1 : a.tmps.getD 133 undef = .slice A3 (digs z.natAbs).length c3 := hw 3 (by kernel_rfl)
            clear hw hF
            simp only [Oper.wp, execOp]
            go_simp
            refine (zmk_n ((LR.out.step hb).get (A := A3) (c := c3) (xs := digs z.natAbs) (by simp)) (Nat.le_trans HLZ.out (by omega)) HZA.out).mono ?_
            rintro e y ⟨A2, c2, rfl, hd2, hbb⟩
            exact hK _ y ⟨A2, c2, rfl, hd2⟩ hbb (fun h => by simp at h)
          · simp only [wpOp, List.getElem?_toArray, List.getElem?_cons_succ, List.getElem?_cons_zero, Region.wanted, if_true]
            refine Or.inl ?_
            have e0 : a.eval (.tmp 8) = .pointer (some ⟨g10, 0, none⟩) := hF.2.2 8 (by decide)
            have f0 := row_cell RRQ.out hb 0
            have f1 := row_cell RRQ.out hb 1
            simp only [List.getElem?_toArray, List.getElem?_cons_succ, List.getElem?_cons_zero] at f0 f1
            clear hw hF
            simp only [Oper.wp, execOp]
            rw [e0]
            go_simp
            exact hK _ x (by first | rfl | simp) (Below.refl _ _) (fun h => by simp at h)
          · simp only [wpOp, List.getElem?_toArray, List.getElem?_cons_succ, List.getElem?_cons_zero, Region.wanted, if_true]
            refine Or.inl ?_
            obtain ⟨A', c', e0, hd⟩ := hw 4 (by kernel_rfl)
            have e0 : a.tmps.getD 134 undef = _ := e0
            have e1 : a.tmps.getD 135 undef = .agg #[.bool (decide (m < 0)), .slice B9 (digs m.natAbs).length d9] := hw 5 (by kernel_rfl)
            clear hw hF
            simp only [Oper.wp, execOp]
            go_simp
            refine (same_n hd ((LR.out.step hb).get (A := B9) (c := d9) (xs := digs m.natAbs) (by simp)) (Nat.le_trans HML.out (by omega))).mono ?_
            rintro e y ⟨rfl, hbb⟩
            exact hK _ y rfl hbb (fun h => by simp at h)
        · intro a x hF0 hb hR _
          have hF : Fr6 [130, 131, 132, 133, 134, 135, 136] _ a := hF0
          have e0 : a.tmps.getD 130 undef = .pointer (some ⟨g10, 0, none⟩) := hR 0 (by decide)
          have e1 : a.tmps.getD 131 undef = .bool (decide (m < 0)) := hR 1 (by decide)
          have e2 : a.tmps.getD 132 undef = .pointer (some ⟨w10.heap.size, 1, none⟩) := hR 2 (by decide)
          have e3 : a.tmps.getD 133 undef = .slice A3 (digs z.natAbs).length c3 := hR 3 (by decide)
          obtain ⟨B4, d4, h4, hd4⟩ := hR 4 (by decide)
          have e4 : a.tmps.getD 134 undef = _ := h4
          have e5 : a.tmps.getD 135 undef = .agg #[.bool (decide (m < 0)), .slice B9 (digs m.natAbs).length d9] := hR 5 (by decide)
          have e6 : a.tmps.getD 136 undef = .bool true := hR 6 (by decide)
          rw [hF.fold (by kernel_rfl)]
          simp only [List.foldl_cons, List.foldl_nil, e0, e1, e2, e3, e4, e5, e6]
          simp only [Act.put, List.setIfInBounds_toArray, List.set_cons_zero, List.set_cons_succ]
          clear e0 e1 e2 e3 e4 e5 e6 hR hF hF0 h4
          obtain ⟨w62, hW⟩ : ∃ W : World, W = x := ⟨_, rfl⟩
          rw [← hW]
          rw [← hW] at hb hd4
          have L62 := Lib.hid ((LR.out.step hb).add hd4)
          have Rq10_62 := Lib.hid (cells_of RRQ.out hb)
          have Rnn_62 := Lib.hid (cells_of HR.out hb)
          clear hW hb hd4
          first | simp only [wpOps_cons] | rw [wpOps_cons] | (change wpOps _ _ _ [7] _ _; simp only [wpOps_cons])
          simp only [wpOp, List.getElem?_toArray, List.getElem?_cons_succ, List.getElem?_cons_zero, Region.wanted, if_true]
          refine Or.inl ?_
          simp only [Oper.wp, execOp]
          go_simp
          try simp only [wpOps]
          go_wp2_with fail
          refine (DZ.out _).mono ?_
          rintro e w63 ⟨A63, c63, rfl, hd, hb⟩
          have L63 := Lib.hid ((L62.out.step hb).add hd)
          have Rq10_63 := Lib.hid (cells_of Rq10_62.out hb)
          have Rnn_63 := Lib.hid (cells_of Rnn_62.out hb)
          clear hb hd
          go_wp2_with fail
          obtain ⟨w64, hW⟩ : ∃ W : World, W = (w63.alloc (.cells #[.bool (decide (mz < 0)), .slice A63 (digs mz.natAbs).length c63] 24)) := ⟨_, rfl⟩
          rw [← hW]
          have hb : Below w63.heap.size w63 w64 := by rw [hW]; exact ((Below.refl _ _).alloc (by simp <;> omega) _)
          have L64 := Lib.hid (L63.out.step hb)
          have Rq10_64 := Lib.hid (cells_of Rq10_63.out hb)
          have Rnn_64 := Lib.hid (cells_of Rnn_63.out hb)
          have Rdz_64 := Lib.hid (show w64.heap[w63.heap.size]? = some (.cells #[.bool (decide (mz < 0)), .slice A63 (digs mz.natAbs).length c63] 24 (0, 0)) by rw [hW]; have := heap_alloc_new w63 (.cells #[.bool (decide (mz < 0)), .slice A63 (digs mz.natAbs).length c63] 24); simpa using this)
          have Gdz : w.heap.size ≤ w63.heap.size := by have := L63.out.1.size; omega
          have Nq10dz : g10 < w63.heap.size := by have := heap_lt Rq10_63.out; omega
          have Nnndz : w10.heap.size < w63.heap.size := by have := heap_lt Rnn_63.out; omega
          clear hW hb
          have fdz0 := row_c (i := 0) Rdz_64.out rfl
          have zdz0 := frozen_of_row _ _ 0 _ _ Rdz_64.out
          have fdz1 := row_c (i := 1) Rdz_64.out rfl
          have zdz1 := frozen_of_row _ _ 1 _ _ Rdz_64.out
          have xdz := heap_lt Rdz_64.out
          go_wp2_with fail
          refine (DBZ.out _ _ _ (L64.out.get (A := A63) (c := c63) (xs := digs mz.natAbs) (by simp))).mono ?_
          rintro e w65 ⟨rfl, hb⟩
          have L65 := Lib.hid (L64.out.step hb)
          clear fdz0 zdz0 fdz1 zdz1 xdz
          have Rq10_65 := Lib.hid (cells_of Rq10_64.out hb)
          have Rnn_65 := Lib.hid (cells_of Rnn_64.out hb)
          have Rdz_65 := Lib.hid (cells_of Rdz_64.out hb)
          clear hb 
          go_wp2
          go_ret
          exact ⟨rfl, L65.out.1⟩

set_option maxHeartbeats 8000000 in
set_option maxRecDepth 100000 in
theorem zlTexts_py (Ax : Option Addr) (cx : Nat) (sx : Bool) (xsx : List Nat) (w : World) (hx : Dg w Ax cx xsx) (lx : xsx.length ≤ 9223372036854775807) (hT : P10 w) (rest b : ByteArray) (qr : rest.data.toList.length ≤ 4611686018427387904) (qb : b.data.toList.length ≤ 4611686018427387904) (hs : ¬ sg sx (val (xsx.take 12)) < 0) (mz : Int) (more : ByteArray) (qz : b.data.toList = zb mz ++ more.data.toList) (lz : (digs mz.natAbs).length ≤ 400):
    Calls Tryd.prog 3 #[.agg #[.bool sx, .slice Ax xsx.length cx], .string rest, .string b] w fun e w' => e = .returned (.bool true) ∧ Below w.heap.size w w' := by
  obtain ⟨ts, hts⟩ : ∃ t, xsx.take 12 = t := ⟨_, rfl⟩
  rw [hts] at hs
  obtain ⟨m, hm⟩ : ∃ z, sg sx (val ts) = z := ⟨_, rfl⟩
  rw [hm] at hs
  have htk : Dg w Ax cx ts := by rw [← hts]; exact hx.take 12
  have htl : ts.length = min xsx.length 12 := by rw [← hts, List.length_take]; omega
  have hml : (digs m.natAbs).length ≤ 12 := by
    have e : m.natAbs = val ts := by rw [← hm]; unfold sg; cases sx <;> simp
    rw [e]
    exact Nat.le_trans (digs_len_le htk.2.1) (by omega)
  have MK := Lib.hid (fun W (hW : Dg W Ax cx ts) => zmake_any Ax cx sx ts W hW (by omega))
  rw [hm] at MK
  obtain ⟨K, hK⟩ : ∃ K : Int, min (xsx.length : Int) 12 = K := ⟨_, rfl⟩
  have hKt : K.toNat = ts.length := by omega
  rw [← hKt] at MK
  have HK := Lib.hid hK
  have HC := Lib.hid hx.1
  have HML := Lib.hid hml
  obtain ⟨S, hS⟩ : ∃ S : ByteArray, S.data.toList = zb m := ⟨⟨(zb m).toArray⟩, rfl⟩
  have DB := Lib.hid (fun W A c hW => zby_yes (A := A) (c := c) (Nat.le_trans hml (by omega)) hS W hW)
  have Sl : S.data.toList.length ≤ 100 := by
    have l1 := zbytes_len (decide (m < 0)) (digs m.natAbs)
    rw [hS]; unfold zb; omega
  have eS : S.size = S.data.toList.length := by simp
  have er : rest.size = rest.data.toList.length := by simp
  have HSZ := Lib.hid (show ¬ 9223372036854775807 < S.size + rest.size by omega)
  have hcat : (S ++ rest).data.toList = zb m ++ rest.data.toList := by rw [← hS]; simp [ByteArray.data_append]
  have DT := Lib.hid (fun W => ztk_yes (b := S ++ rest) (t := rest) (m := m) hcat (Nat.le_trans hml (by omega)) (by rw [hcat, List.length_append, ← hS]; omega) W)
  obtain ⟨TX, hTX⟩ : ∃ t : ByteArray, t.data.toList = tz m := ⟨⟨(tz m).toArray⟩, rfl⟩
  have hts2 := dd_lim hml
  have HTS := Lib.hid (show TX.size ≤ 200 by rw [show TX.size = (tz m).length by rw [← hTX]; simp, tz_len]; unfold frm; split <;> omega)
  clear hts2
  have HTX := Lib.hid hTX
  have eX : TX.size = (tz m).length := by rw [← hTX]; simp
  have hfr : frm m = 0 := by unfold frm; rw [if_neg hs]
  have hlong := tz_long m
  rw [hfr, ← eX] at hlong
  have HFR := Lib.hid hfr
  have EX2 := Lib.hid eX
  have HLONG := Lib.hid hlong
  have D0 := Lib.hid (show decide (m < 0) = false by simpa using hs)
  obtain ⟨z0, hz0⟩ : ∃ z : Int, z = ((tn m 0 : Nat) : Int) := ⟨_, rfl⟩
  have hz00 : z0 = 0 := by rw [hz0, ← hfr, tn_zero]; rfl
  have HZ0 := Lib.hid hz0
  have FZ : ∀ W, Calls Tryd.prog 10 #[.int .i64 0] W fun e w' => Zr z0 W e w' := fun W => by
    rw [hz00]; exact zfrom_any 0 W (by omega) (by omega)
  have FZ := Lib.hid FZ
  obtain ⟨Tz, hTz⟩ : ∃ t : ByteArray, t.data.toList = zb mz := ⟨⟨(zb mz).toArray⟩, rfl⟩
  have DBZ := Lib.hid (fun W A c hW => zby_yes (A := A) (c := c) lz hTz W hW)
  have DZ := Lib.hid (fun W => ztk_yes (b := b) (t := more) (m := mz) qz lz (by omega) W)
  have hEq : Tz ++ more = b := by apply ByteArray.ext; apply Array.toList_inj.1; rw [qz, ← hTz]; simp [ByteArray.data_append]
  have HEQ := Lib.hid hEq
  have eT : Tz.size = Tz.data.toList.length := by simp
  have em : more.size = more.data.toList.length := by simp
  have HSZ2 := Lib.hid (show ¬ 9223372036854775807 < Tz.size + more.size by
    have l1 := congrArg List.length qz
    rw [List.length_append, ← hTz] at l1
    omega)
  have LZ := Lib.hid lz
  have HT := Lib.hid hT
  clear hT
  have L0 := Lib.hid (((live_start w).add hx).add htk)
  clear hx lx hs hts hm htk htl hml hK hKt hS Sl eS er hcat hTX eX hfr hlong hz0 hz00 qr qb qz hTz hEq eT em lz
  go_enter Tryd.func3, Tryd.ntmps3
  go_wp2_with fail
  obtain ⟨v1, hW⟩ : ∃ W : World, W = (w.alloc (.cells #[.bool sx, .slice Ax xsx.length cx] 24)) := ⟨_, rfl⟩
  rw [← hW]
  have hb : Below w.heap.size w v1 := by rw [hW]; exact ((Below.refl _ _).alloc (by simp <;> omega) _)
  have L1 := Lib.hid (L0.out.step hb)
  have Rx_1 := Lib.hid (show v1.heap[w.heap.size]? = some (.cells #[.bool sx, .slice Ax xsx.length cx] 24 (0, 0)) by rw [hW]; have := heap_alloc_new w (.cells #[.bool sx, .slice Ax xsx.length cx] 24); simpa using this)
  have Gx : w.heap.size ≤ w.heap.size := by have := L0.out.1.size; omega
  clear hW hb
  refine (examples_any _ (p10_below HT.out L1.out.1)).mono ?_
  rintro e w2 ⟨rfl, hb⟩
  have L2 := Lib.hid (L1.out.step hb)
  have Rx_2 := Lib.hid (cells_of Rx_1.out hb)
  clear hb 
  go_wp2_with fail
  have hmin : min (xsx.length : Int) 12 = K := HK.out
  have k0 : 0 ≤ K := by have := HK.out; omega
  have k1 : K ≤ (cx : Int) := by have := HK.out; have := HC.out; omega
  refine wp_operands (W := w2) rfl 11 [28, 29, 30, 31, 32, 33, 34, 35, 36, 37, 8] (fun i u ww => match i with | 0 => u = .pointer (some ⟨w.heap.size, 0, none⟩) | 1 => u = .bool sx | 2 => u = .pointer (some ⟨w.heap.size, 1, none⟩) | 3 => u = .slice Ax xsx.length cx | 4 => u = .pointer (some ⟨w.heap.size, 1, none⟩) | 5 => u = .slice Ax xsx.length cx | 6 => u = .int .i64 xsx.length | 7 => u = .int .i64 K | 8 => u = .slice Ax K.toNat cx | 9 => ∃ A c, u = .agg #[.bool (decide (m < 0)), .slice A (digs m.natAbs).length c] ∧ Dg ww A c (digs m.natAbs) | 10 => ∃ g, u = .pointer (some ⟨g, 0, none⟩) ∧ ww.heap[g]? = some (.cells #[.bool false, .slice none 0 0] 24 (0, 0)) ∧ w2.heap.size ≤ g | _ => True) (fun i => decide (i ∈ ([10] : List Nat)))
    (by decide) rfl (by kernel_rfl) (by kernel_rfl) (by decide) (by kernel_rfl) ?_ ?_ ?_ ?_
  · intro i u x y hi h hb
    have hi' : i = 0 ∨ i = 1 ∨ i = 2 ∨ i = 3 ∨ i = 4 ∨ i = 5 ∨ i = 6 ∨ i = 7 ∨ i = 8 ∨ i = 9 ∨ i = 10 := by omega
    rcases hi' with rfl | rfl | rfl | rfl | rfl | rfl | rfl | rfl | rfl | rfl | rfl
    · exact h
    · exact h
    · exact h
    · exact h
    · exact h
    · exact h
    · exact h
    · exact h
    · exact h
    · obtain ⟨A, c, e, hd⟩ := h
      exact ⟨A, c, e, hd.below hb⟩
    · obtain ⟨g, e, hg, hge⟩ := h
      exact ⟨g, e, cells_of hg hb, hge⟩
  · intro i u x hi h
    have hi' : i = 10 := by simpa using hi
    subst hi'
    all_goals
      obtain ⟨g, e, hg, _⟩ := h
      exact ⟨g, e, heap_lt hg⟩
  · intro i a x KK hi hF hb hw hK
    have hi' : i = 0 ∨ i = 1 ∨ i = 2 ∨ i = 3 ∨ i = 4 ∨ i = 5 ∨ i = 6 ∨ i = 7 ∨ i = 8 ∨ i = 9 ∨ i = 10 := by omega
    rcases hi' with rfl | rfl | rfl | rfl | rfl | rfl | rfl | rfl | rfl | rfl | rfl
    · simp only [wpOp, List.getElem?_toArray, List.getElem?_cons_zero, Region.wanted, if_true]
      refine Or.inl ?_
      have e0 : a.eval (.tmp 3) = .pointer (some ⟨w.heap.size, 0, none⟩) := hF.2.2 3 (by decide)
      clear hw hF
      simp only [Oper.wp, execOp]
      rw [e0]
      go_simp
      exact hK _ x (by first | rfl | simp) (Below.refl _ _) (fun h => by simp at h)
    · simp only [wpOp, List.getElem?_toArray, List.getElem?_cons_succ, List.getElem?_cons_zero, Region.wanted, if_true]
      refine Or.inl ?_
      have e0 : a.eval (.tmp 28) = .pointer (some ⟨w.heap.size, 0, none⟩) := hw 0 (by kernel_rfl)
      have f0 := row_cell Rx_2.out hb 0
      have f1 := row_cell Rx_2.out hb 1
      simp only [List.getElem?_toArray, List.getElem?_cons_succ, List.getElem?_cons_zero] at f0 f1
      clear hw hF
      simp only [Oper.wp, execOp]
      rw [e0]
      go_simp
      exact hK _ x (by first | rfl | simp) (Below.refl _ _) (fun h => by simp at h)
    · simp only [wpOp, List.getElem?_toArray, List.getElem?_cons_succ, List.getElem?_cons_zero, Region.wanted, if_true]
      refine Or.inl ?_
      have e0 : a.eval (.tmp 3) = .pointer (some ⟨w.heap.size, 0, none⟩) := hF.2.2 3 (by decide)
      clear hw hF
      simp only [Oper.wp, execOp]
      rw [e0]
      go_simp
      exact hK _ x (by first | rfl | simp) (Below.refl _ _) (fun h => by simp at h)
    · simp only [wpOp, List.getElem?_toArray, List.getElem?_cons_succ, List.getElem?_cons_zero, Region.wanted, if_true]
      refine Or.inl ?_
      have e0 : a.eval (.tmp 30) = .pointer (some ⟨w.heap.size, 1, none⟩) := hw 2 (by kernel_rfl)
      have f0 := row_cell Rx_2.out hb 0
      have f1 := row_cell Rx_2.out hb 1
      simp only [List.getElem?_toArray, List.getElem?_cons_succ, List.getElem?_cons_zero] at f0 f1
      clear hw hF
      simp only [Oper.wp, execOp]
      rw [e0]
      go_simp
      exact hK _ x (by first | rfl | simp) (Below.refl _ _) (fun h => by simp at h)
    · simp only [wpOp, List.getElem?_toArray, List.getElem?_cons_succ, List.getElem?_cons_zero, Region.wanted, if_true]
      refine Or.inl ?_
      have e0 : a.eval (.tmp 3) = .pointer (some ⟨w.heap.size, 0, none⟩) := hF.2.2 3 (by decide)
      clear hw hF
      simp only [Oper.wp, execOp]
      rw [e0]
      go_simp
      exact hK _ x (by first | rfl | simp) (Below.refl _ _) (fun h => by simp at h)
    · simp only [wpOp, List.getElem?_toArray, List.getElem?_cons_succ, List.getElem?_cons_zero, Region.wanted, if_true]
      refine Or.inl ?_
      have e0 : a.eval (.tmp 32) = .pointer (some ⟨w.heap.size, 1, none⟩) := hw 4 (by kernel_rfl)
      have f0 := row_cell Rx_2.out hb 0
      have f1 := row_cell Rx_2.out hb 1
      simp only [List.getElem?_toArray, List.getElem?_cons_succ, List.getElem?_cons_zero] at f0 f1
      clear hw hF
      simp only [Oper.wp, execOp]
      rw [e0]
      go_simp
      exact hK _ x (by first | rfl | simp) (Below.refl _ _) (fun h => by simp at h)
    · simp only [wpOp, List.getElem?_toArray, List.getElem?_cons_succ, List.getElem?_cons_zero, Region.wanted, if_true]
      refine Or.inl ?_
      have e0 : a.tmps.getD 33 undef = .slice Ax xsx.length cx := hw 5 (by kernel_rfl)
      clear hw hF
      simp only [Oper.wp, execOp]
      go_simp
      exact hK _ x (by first | rfl | simp) (Below.refl _ _) (fun h => by simp at h)
    · simp only [wpOp, List.getElem?_toArray, List.getElem?_cons_succ, List.getElem?_cons_zero, Region.wanted, if_true]
      refine Or.inl ?_
      have e0 : a.tmps.getD 34 undef = .int .i64 xsx.length := hw 6 (by kernel_rfl)
      clear hw hF
      simp only [Oper.wp, execOp]
      go_simp
      exact hK _ x (by first | rfl | simp) (Below.refl _ _) (fun h => by simp at h)
    · simp only [wpOp, List.getElem?_toArray, List.getElem?_cons_succ, List.getElem?_cons_zero, Region.wanted, if_true]
      refine Or.inl ?_
      have e0 : a.tmps.getD 31 undef = .slice Ax xsx.length cx := hw 3 (by kernel_rfl)
      have e1 : a.tmps.getD 35 undef = .int .i64 K := hw 7 (by kernel_rfl)
      clear hw hF
      simp only [Oper.wp, execOp]
      go_simp
      exact hK _ x (by first | rfl | simp) (Below.refl _ _) (fun h => by simp at h)
    · simp only [wpOp, List.getElem?_toArray, List.getElem?_cons_succ, List.getElem?_cons_zero, Region.wanted, if_true]
      refine Or.inl ?_
      have e0 : a.tmps.getD 29 undef = .bool sx := hw 1 (by kernel_rfl)
      have e1 : a.tmps.getD 36 undef = .slice Ax K.toNat cx := hw 8 (by kernel_rfl)
      clear hw hF
      simp only [Oper.wp, execOp]
      go_simp
      refine (MK.out _ ((L2.out.step hb).get (A := Ax) (c := cx) (xs := ts) (by simp))).mono ?_
      rintro e y ⟨A2, c2, rfl, hd2, hbb⟩
      exact hK _ y ⟨A2, c2, rfl, hd2⟩ hbb (fun h => by simp at h)
    · simp only [wpOp, List.getElem?_toArray, List.getElem?_cons_succ, List.getElem?_cons_zero, Region.wanted, if_true]
      refine Or.inl ?_
      clear hw hF
      simp only [Oper.wp, execOp]
      go_simp
      exact hK _ _ ⟨_, rfl, heap_alloc_new _ _, hb.size⟩ (below1 _ _) (fun _ => rfl)
  · intro a x hF0 hb hR _
    have hF : Fr6 [28, 29, 30, 31, 32, 33, 34, 35, 36, 37, 8] _ a := hF0
    have e0 : a.tmps.getD 28 undef = .pointer (some ⟨w.heap.size, 0, none⟩) := hR 0 (by decide)
    have e1 : a.tmps.getD 29 undef = .bool sx := hR 1 (by decide)
    have e2 : a.tmps.getD 30 undef = .pointer (some ⟨w.heap.size, 1, none⟩) := hR 2 (by decide)
    have e3 : a.tmps.getD 31 undef = .slice Ax xsx.length cx := hR 3 (by decide)
    have e4 : a.tmps.getD 32 undef = .pointer (some ⟨w.heap.size, 1, none⟩) := hR 4 (by decide)
    have e5 : a.tmps.getD 33 undef = .slice Ax xsx.length cx := hR 5 (by decide)
    have e6 : a.tmps.getD 34 undef = .int .i64 xsx.length := hR 6 (by decide)
    have e7 : a.tmps.getD 35 undef = .int .i64 K := hR 7 (by decide)
    have e8 : a.tmps.getD 36 undef = .slice Ax K.toNat cx := hR 8 (by decide)
    obtain ⟨B9, d9, h9, hd9⟩ := hR 9 (by decide)
    have e9 : a.tmps.getD 37 undef = _ := h9
    obtain ⟨g10, h10, hg10, hge10⟩ := hR 10 (by decide)
    have e10 : a.tmps.getD 8 undef = _ := h10
    rw [hF.fold (by kernel_rfl)]
    simp only [List.foldl_cons, List.foldl_nil, e0, e1, e2, e3, e4, e5, e6, e7, e8, e9, e10]
    simp only [Act.put, List.setIfInBounds_toArray, List.set_cons_zero, List.set_cons_succ]
    clear e0 e1 e2 e3 e4 e5 e6 e7 e8 e9 e10 hR hF hF0 h9 h10
    obtain ⟨w3, hW⟩ : ∃ W : World, W = x := ⟨_, rfl⟩
    rw [← hW]
    rw [← hW] at hb hd9 hg10
    have L3 := Lib.hid ((L2.out.step hb).add hd9)
    have Rx_3 := Lib.hid (cells_of Rx_2.out hb)
    have Rq10_3 := Lib.hid hg10
    have Gq10 : w.heap.size ≤ g10 := Nat.le_trans L2.out.1.size hge10
    have Nxq10 : w.heap.size < g10 := by have := heap_lt Rx_2.out; omega
    clear hW hb hd9 hg10 hge10
    have fq100 := row_c (i := 0) Rq10_3.out rfl
    have zq100 := frozen_of_row _ _ 0 _ _ Rq10_3.out
    have fq101 := row_c (i := 1) Rq10_3.out rfl
    have zq101 := frozen_of_row _ _ 1 _ _ Rq10_3.out
    have xq10 := heap_lt Rq10_3.out
    first | simp only [wpOps_cons] | rw [wpOps_cons] | (change wpOps _ _ _ [11] _ _; simp only [wpOps_cons])
    simp only [wpOp, List.getElem?_toArray, List.getElem?_cons_succ, List.getElem?_cons_zero, Region.wanted, if_true]
    refine Or.inl ?_
    simp only [Oper.wp, execOp]
    go_simp
    try simp only [wpOps]
    clear fq100 zq100 fq101 zq101 xq10
    obtain ⟨w4, hW⟩ : ∃ W : World, W = ((w3.setCell ⟨g10, 0, none⟩ (.bool (decide (m < 0)))).setCell ⟨g10, 1, none⟩ (.slice B9 (digs m.natAbs).length d9)) := ⟨_, rfl⟩
    rw [← hW]
    have hO : Only (g10) w3 w4 := by rw [hW]; exact (((Only.refl (g10) w3).setCell 0 _).setCell 1 _)
    have L4 := Lib.hid (live_only L3.out hO Rq10_3.out noint_int Gq10)
    have Rx_4 := Lib.hid ((hO.block _ (by omega)).trans Rx_3.out)
    have Rq10_4 := Lib.hid (show w4.heap[g10]? = some (.cells #[.bool (decide (m < 0)), .slice B9 (digs m.natAbs).length d9] 24 (0, 0)) by rw [hW]; exact (heap_setCell_same _ _ 1 _ _ _ (heap_setCell_same _ _ 0 _ _ _ Rq10_3.out)))
    clear hW hO
    clear hmin k0 k1
    have fq100 := row_c (i := 0) Rq10_4.out rfl
    have zq100 := frozen_of_row _ _ 0 _ _ Rq10_4.out
    have fq101 := row_c (i := 1) Rq10_4.out rfl
    have zq101 := frozen_of_row _ _ 1 _ _ Rq10_4.out
    have xq10 := heap_lt Rq10_4.out
    go_wp2_with fail
    refine (DB.out _ _ _ (L4.out.get (A := B9) (c := d9) (xs := digs m.natAbs) (by simp))).mono ?_
    rintro e w5 ⟨rfl, hb⟩
    have L5 := Lib.hid (L4.out.step hb)
    clear fq100 zq100 fq101 zq101 xq10
    have Rx_5 := Lib.hid (cells_of Rx_4.out hb)
    have Rq10_5 := Lib.hid (cells_of Rq10_4.out hb)
    clear hb 
    have hsz := HSZ.out
    go_wp2_with fail
    refine (DT.out _).mono ?_
    rintro e w6 ⟨A6, c6, rfl, hd, hb⟩
    have L6 := Lib.hid ((L5.out.step hb).add hd)
    have Rx_6 := Lib.hid (cells_of Rx_5.out hb)
    have Rq10_6 := Lib.hid (cells_of Rq10_5.out hb)
    clear hb hd
    clear hsz
    have fq100 := row_c (i := 0) Rq10_6.out rfl
    have zq100 := frozen_of_row _ _ 0 _ _ Rq10_6.out
    have fq101 := row_c (i := 1) Rq10_6.out rfl
    have zq101 := frozen_of_row _ _ 1 _ _ Rq10_6.out
    have xq10 := heap_lt Rq10_6.out
    go_wp2_with fail
    obtain ⟨w7, hW⟩ : ∃ W : World, W = (w6.alloc (.cells #[.bool (decide (m < 0)), .slice A6 (digs m.natAbs).length c6] 24)) := ⟨_, rfl⟩
    rw [← hW]
    have hb : Below w6.heap.size w6 w7 := by rw [hW]; exact ((Below.refl _ _).alloc (by simp <;> omega) _)
    have L7 := Lib.hid (L6.out.step hb)
    have Rx_7 := Lib.hid (cells_of Rx_6.out hb)
    have Rq10_7 := Lib.hid (cells_of Rq10_6.out hb)
    have Rcc_7 := Lib.hid (show w7.heap[w6.heap.size]? = some (.cells #[.bool (decide (m < 0)), .slice A6 (digs m.natAbs).length c6] 24 (0, 0)) by rw [hW]; have := heap_alloc_new w6 (.cells #[.bool (decide (m < 0)), .slice A6 (digs m.natAbs).length c6] 24); simpa using this)
    have Gcc : w.heap.size ≤ w6.heap.size := by have := L6.out.1.size; omega
    have Nxcc : w.heap.size < w6.heap.size := by have := heap_lt Rx_6.out; omega
    have Nq10cc : g10 < w6.heap.size := by have := heap_lt Rq10_6.out; omega
    clear hW hb
    clear fq100 zq100 fq101 zq101 xq10
    refine (same_n (L7.out.get (A := B9) (c := d9) (xs := digs m.natAbs) (by simp)) (L7.out.get (A := A6) (c := c6) (xs := digs m.natAbs) (by simp)) (Nat.le_trans HML.out (by omega))).mono ?_
    rintro e w8 ⟨rfl, hb⟩
    have L8 := Lib.hid (L7.out.step hb)
    have Rx_8 := Lib.hid (cells_of Rx_7.out hb)
    have Rq10_8 := Lib.hid (cells_of Rq10_7.out hb)
    have Rcc_8 := Lib.hid (cells_of Rcc_7.out hb)
    clear hb 
    have fq100 := row_c (i := 0) Rq10_8.out rfl
    have zq100 := frozen_of_row _ _ 0 _ _ Rq10_8.out
    have fq101 := row_c (i := 1) Rq10_8.out rfl
    have zq101 := frozen_of_row _ _ 1 _ _ Rq10_8.out
    have xq10 := heap_lt Rq10_8.out
    go_wp2_with fail
    refine (ztx_n (L8.out.get (A := B9) (c := d9) (xs := digs m.natAbs) (by simp)) (Nat.le_trans HML.out (by omega)) (p10_below HT.out L8.out.1) HTX.out).mono ?_
    rintro e w9 ⟨rfl, hb⟩
    have L9 := Lib.hid (L8.out.step hb)
    clear fq100 zq100 fq101 zq101 xq10
    have Rx_9 := Lib.hid (cells_of Rx_8.out hb)
    have Rq10_9 := Lib.hid (cells_of Rq10_8.out hb)
    have Rcc_9 := Lib.hid (cells_of Rcc_8.out hb)
    clear hb 
    have d0 := D0.out
    have hlong := HLONG.out
    have dl : decide ((TX.size : Int) ≤ 0) = false := decide_eq_false (by omega)
    have dl2 : ¬ (TX.size : Int) ≤ 0 := by omega
    have dl3 : ¬ TX = ByteArray.empty := fun e => by subst e; simp at hlong
    have fq100 := row_c (i := 0) Rq10_9.out rfl
    have zq100 := frozen_of_row _ _ 0 _ _ Rq10_9.out
    have fq101 := row_c (i := 1) Rq10_9.out rfl
    have zq101 := frozen_of_row _ _ 1 _ _ Rq10_9.out
    have xq10 := heap_lt Rq10_9.out
    go_wp2_with fail
    refine (FZ.out _).mono ?_
    rintro e w10 ⟨A10, c10, rfl, hd, hb⟩
    have L10 := Lib.hid ((L9.out.step hb).add hd)
    clear fq100 zq100 fq101 zq101 xq10
    have Rx_10 := Lib.hid (cells_of Rx_9.out hb)
    have Rq10_10 := Lib.hid (cells_of Rq10_9.out hb)
    have Rcc_10 := Lib.hid (cells_of Rcc_9.out hb)
    clear hb hd
    clear d0 dl dl2 dl3 hlong
    go_wp2_with fail
    obtain ⟨w11, hW⟩ : ∃ W : World, W = (w10.alloc (.cells #[.bool (decide (z0 < 0)), .slice A10 (digs z0.natAbs).length c10] 24)) := ⟨_, rfl⟩
    rw [← hW]
    have hb : Below w10.heap.size w10 w11 := by rw [hW]; exact ((Below.refl _ _).alloc (by simp <;> omega) _)
    have L11 := Lib.hid (L10.out.step hb)
    have Rx_11 := Lib.hid (cells_of Rx_10.out hb)
    have Rq10_11 := Lib.hid (cells_of Rq10_10.out hb)
    have Rcc_11 := Lib.hid (cells_of Rcc_10.out hb)
    have Rnn_11 := Lib.hid (show w11.heap[w10.heap.size]? = some (.cells #[.bool (decide (z0 < 0)), .slice A10 (digs z0.natAbs).length c10] 24 (0, 0)) by rw [hW]; have := heap_alloc_new w10 (.cells #[.bool (decide (z0 < 0)), .slice A10 (digs z0.natAbs).length c10] 24); simpa using this)
    have Gnn : w.heap.size ≤ w10.heap.size := by have := L10.out.1.size; omega
    have Nxnn : w.heap.size < w10.heap.size := by have := heap_lt Rx_10.out; omega
    have Nq10nn : g10 < w10.heap.size := by have := heap_lt Rq10_10.out; omega
    have Nccnn : w6.heap.size < w10.heap.size := by have := heap_lt Rcc_10.out; omega
    clear hW hb
    go_loopg [18] (TX.size - 0) (fun g kv wr => ∃ (k : Nat) (z : Int) (A3 : Option Addr) (c3 : Nat), kv = .int .i64 k ∧ Hid (k + g = TX.size) ∧ Hid (0 ≤ k) ∧ Hid (z = ((tn m k : Nat) : Int)) ∧ Hid (Live w wr [(A3, c3, digs z.natAbs), (B9, d9, digs m.natAbs)]) ∧ Hid (wr.heap[g10]? = some (.cells #[.bool (decide (m < 0)), .slice B9 (digs m.natAbs).length d9] 24 (0, 0))) ∧ Hid (wr.heap[w10.heap.size]? = some (.cells #[.bool (decide (z < 0)), .slice A3 (digs z.natAbs).length c3] 24 (0, 0))))
    case atStart => exact ⟨0, z0, A10, c10, rfl, Lib.hid (by have := HLONG.out; omega), Lib.hid (Nat.le_refl _), HZ0, Lib.hid ((((live_start w).step L11.out.1).add (L11.out.get (A := B9) (c := d9) (xs := digs m.natAbs) (by simp))).add (L11.out.get (A := A10) (c := c10) (xs := digs z0.natAbs) (by simp))), Rq10_11, Rnn_11⟩
    case round =>
      obtain ⟨k, z, A3, c3, rfl, HK, HF, HZ, LR, RRQ, HR⟩ := hrel
      by_cases hlt : k < TX.size
      · skip
        obtain ⟨D, hD⟩ : ∃ D, Bt (tz m) k = D := ⟨_, rfl⟩
        have hdd := tz_digit m k (by have := HF.out; rw [HFR.out]; exact this) (by have := EX2.out; omega)
        rw [hD] at hdd
        obtain ⟨dd, hDe⟩ : ∃ d, D = d + 48 := ⟨D - 48, by omega⟩
        have HDE := Lib.hid hDe
        have hb1 : (TX[k]'hlt).toNat = D := by rw [bt_get TX k hlt, HTX.out]; exact hD
        have hst := tn_step m k (by have := HF.out; rw [HFR.out]; exact this) (by have := EX2.out; omega)
        rw [hD] at hst
        obtain ⟨z2, hz2⟩ : ∃ z : Int, z = ((tn m (k + 1) : Nat) : Int) := ⟨_, rfl⟩
        have HZ2 := Lib.hid hz2
        have HZZ := Lib.hid (show z * 10 + (dd : Int) = z2 by rw [hz2, hst, HZ.out, hDe]; omega)
        have HHD := Lib.hid (show D = 48 → k = 0 → TX.size = 1 from fun e1 e2 => by rw [EX2.out]; exact tz_head m (by rw [HFR.out, ← e2, hD, e1]))
        have HLD := Lib.hid (digs_len_le2 (show z.natAbs ≤ m.natAbs by have := HZ.out; have := tn_le m k; omega) HML.out)
        have HLM := Lib.hid (digs_mul10 HLD.out)
        have HLE := Lib.hid (digs_dd (show dd ≤ 9 by omega))
        have dle9 : dd ≤ 9 := by omega
        have HDD := Lib.hid dle9
        have ilt : (k : Int) < (TX.size : Int) := by omega
        have HLT := Lib.hid hlt
        have HD := Lib.hid hD
        have KS1 := Lib.hid (show k + 1 + (gk - 1) = TX.size by have := HK.out; omega)
        have KM1 := Lib.hid (show gk - 1 < gk by have := HK.out; omega)
        have KF1 := Lib.hid (show 0 ≤ k + 1 by have := HF.out; omega)
        have KW1 := Lib.hid (show wrap64 ((k : Int) + 1) = ((k + 1 : Nat) : Int) from IntWalk.wrap64_in _ ⟨by omega, by have := HTS.out; omega⟩)
        clear hst hz2 hdd hD hDe dle9
        go_upto_region 20 with (fail)
        go_cut [18, 119] from 88 to 129 (fun kv v wx => kv = .int .i64 (k : Int) ∧ v = .bool false ∧ wx = wr)
        case first =>
          have x1 : decide ((D : Int) < 48) = false := decide_eq_false (by have := HDE.out; omega)
          have x2 : decide ((57 : Int) < (D : Int)) = false := decide_eq_false (by have := HDE.out; have := HDD.out; omega)
          have x7 : ¬ ((D : Int) < 48) := by have := HDE.out; omega
          have x8 : ¬ ((57 : Int) < (D : Int)) := by have := HDE.out; have := HDD.out; omega
          have EX : (¬ (D : Int) = 48) ∨ ((D : Int) = 48 ∧ ¬ (k : Int) = 0) ∨ ((D : Int) = 48 ∧ (k : Int) = 0 ∧ decide (1 < TX.size) = false ∧ decide ((1 : Int) < (TX.size : Int)) = false ∧ ¬ (1 < TX.size) ∧ Hid (k = 0)) := by
            by_cases e1 : D = 48
            · by_cases e2 : k = 0
              · have e3 := HHD.out e1 e2
                exact .inr (.inr ⟨by omega, by omega, decide_eq_false (by omega), decide_eq_false (by omega), by omega, Lib.hid e2⟩)
              · exact .inr (.inl ⟨by omega, by omega⟩)
            · exact .inl (by omega)
          rcases EX with x3 | ⟨x3, x4⟩ | ⟨x3, x4, x5, x6, x9, HK1⟩
          · go_wp2_with fail
            go_meet
            case rel => exact ⟨rfl, rfl, rfl⟩
          · go_wp2_with fail
            go_meet
            case rel => exact ⟨rfl, rfl, rfl⟩
          · try have h12 : (1 : Int) < (TX.size : Int) := by omega
            have h13 := HLONG.out
            first | (exfalso; omega) | (clear h13 x4; have e0 := HK1.out; clear HK1; subst e0; go_wp2_with fail; go_meet; case rel => exact ⟨rfl, rfl, rfl⟩)
        case rest =>
          obtain ⟨rfl, rfl, hwc⟩ := hcut
          obtain rfl : wr = wc := hwc.symm
          clear hb1
          go_wp2_with fail
          refine wp_operands (W := wr) rfl 10 [120, 121, 122, 123, 124, 125, 126, 127, 128, 129] (fun i u ww => match i with | 0 => u = .agg #[.bool (decide (z < 0)), .slice A3 (digs z.natAbs).length c3] | 1 => ∃ A c, u = .agg #[.bool (decide ((10 : Int) < 0)), .slice A (digs (10 : Int).natAbs).length c] ∧ Dg ww A c (digs (10 : Int).natAbs) | 2 => ∃ A c, u = .agg #[.bool (decide (z * 10 < 0)), .slice A (digs (z * 10).natAbs).length c] ∧ Dg ww A c (digs (z * 10).natAbs) | 3 => u = .string TX | 4 => u = .int .i64 k | 5 => u = .int .u8 (D : Int) | 6 => u = .int .u8 dd | 7 => u = .int .i64 dd | 8 => ∃ A c, u = .agg #[.bool (decide ((dd : Int) < 0)), .slice A (digs ((dd : Int)).natAbs).length c] ∧ Dg ww A c (digs (dd : Int).natAbs) | 9 => ∃ A c, u = .agg #[.bool (decide (z2 < 0)), .slice A (digs (z2).natAbs).length c] ∧ Dg ww A c (digs z2.natAbs) | _ => True) (fun i => decide (i ∈ ([] : List Nat)))
            (by decide) rfl (by kernel_rfl) (by kernel_rfl) (by decide) (by kernel_rfl) ?_ ?_ ?_ ?_
          · intro i u x y hi h hb
            have hi' : i = 0 ∨ i = 1 ∨ i = 2 ∨ i = 3 ∨ i = 4 ∨ i = 5 ∨ i = 6 ∨ i = 7 ∨ i = 8 ∨ i = 9 := by omega
            rcases hi' with rfl | rfl | rfl | rfl | rfl | rfl | rfl | rfl | rfl | rfl
            · exact h
            · obtain ⟨A, c, e, hd⟩ := h
              exact ⟨A, c, e, hd.below hb⟩
            · obtain ⟨A, c, e, hd⟩ := h
              exact ⟨A, c, e, hd.below hb⟩
            · exact h
            · exact h
            · exact h
            · exact h
            · exact h
            · obtain ⟨A, c, e, hd⟩ := h
              exact ⟨A, c, e, hd.below hb⟩
            · obtain ⟨A, c, e, hd⟩ := h
              exact ⟨A, c, e, hd.below hb⟩
          · intro i u x hi; simp at hi
          · intro i a x KK hi hF hb hw hK
            have hi' : i = 0 ∨ i = 1 ∨ i = 2 ∨ i = 3 ∨ i = 4 ∨ i = 5 ∨ i = 6 ∨ i = 7 ∨ i = 8 ∨ i = 9 := by omega
            rcases hi' with rfl | rfl | rfl | rfl | rfl | rfl | rfl | rfl | rfl | rfl
            · simp only [wpOp, List.getElem?_toArray, List.getElem?_cons_zero, Region.wanted, if_true]
              refine Or.inl ?_
              have e0 : a.eval (.tmp 17) = .pointer (some ⟨w10.heap.size, 0, none⟩) := hF.2.2 17 (by decide)
              have f0 := row_cell HR.out hb 0
              have f1 := row_cell HR.out hb 1
              simp only [List.getElem?_toArray, List.getElem?_cons_succ, List.getElem?_cons_zero] at f0 f1
              clear hw hF
              simp only [Oper.wp, execOp]
              rw [e0]
              go_simp
              exact hK _ x (by first | rfl | simp) (Below.refl _ _) (fun h => by simp at h)
            · simp only [wpOp, List.getElem?_toArray, List.getElem?_cons_succ, List.getElem?_cons_zero, Region.wanted, if_true]
              refine Or.inl ?_
              clear hw hF
              simp only [Oper.wp, execOp]
              go_simp
              refine (zfrom_any 10 _ (by omega) (by omega)).mono ?_
              rintro e y ⟨A2, c2, rfl, hd2, hbb⟩
              exact hK _ y ⟨A2, c2, rfl, hd2⟩ hbb (fun h => by simp at h)
            · simp only [wpOp, List.getElem?_toArray, List.getElem?_cons_succ, List.getElem?_cons_zero, Region.wanted, if_true]
              refine Or.inl ?_
              have e0 : a.tmps.getD 120 undef = .agg #[.bool (decide (z < 0)), .slice A3 (digs z.natAbs).length c3] := hw 0 (by kernel_rfl)
              obtain ⟨A', c', e1, hd⟩ := hw 1 (by kernel_rfl)
              have e1 : a.tmps.getD 121 undef = _ := e1
              clear hw hF
              simp only [Oper.wp, execOp]
              go_simp
              refine (zmul_n ((LR.out.step hb).get (A := A3) (c := c3) (xs := digs z.natAbs) (by simp)) hd (Nat.le_trans HLD.out (by omega)) (Nat.le_trans (digs_small (n := (10 : Int).natAbs) (by decide)) (by omega)) rfl).mono ?_
              rintro e y ⟨A2, c2, rfl, hd2, hbb⟩
              exact hK _ y ⟨A2, c2, rfl, hd2⟩ hbb (fun h => by simp at h)
            · simp only [wpOp, List.getElem?_toArray, List.getElem?_cons_succ, List.getElem?_cons_zero, Region.wanted, if_true]
              refine Or.inl ?_
              have e0 : a.eval (.tmp 15) = .string TX := hF.2.2 15 (by decide)
              clear hw hF
              simp only [Oper.wp, execOp]
              rw [e0]
              go_simp
              exact hK _ x (by first | rfl | simp) (Below.refl _ _) (fun h => by simp at h)
            · simp only [wpOp, List.getElem?_toArray, List.getElem?_cons_succ, List.getElem?_cons_zero, Region.wanted, if_true]
              refine Or.inl ?_
              have e0 : a.eval (.tmp 18) = .int .i64 k := hF.2.2 18 (by decide)
              clear hw hF
              simp only [Oper.wp, execOp]
              rw [e0]
              go_simp
              exact hK _ x (by first | rfl | simp) (Below.refl _ _) (fun h => by simp at h)
            · simp only [wpOp, List.getElem?_toArray, List.getElem?_cons_succ, List.getElem?_cons_zero, Region.wanted, if_true]
              refine Or.inl ?_
              have e0 : a.eval (.tmp 123) = .string TX := hw 3 (by kernel_rfl)
              have e1 : a.eval (.tmp 124) = .int .i64 k := hw 4 (by kernel_rfl)
              have II := ix_rn TX (k : Int) k D rfl HLT.out (by rw [HTX.out]; exact HD.out)
              clear hw hF
              simp only [Oper.wp, execOp]
              rw [e0, e1]
              go_simp
              exact hK _ x (by first | rfl | simp) (Below.refl _ _) (fun h => by simp at h)
            · simp only [wpOp, List.getElem?_toArray, List.getElem?_cons_succ, List.getElem?_cons_zero, Region.wanted, if_true]
              refine Or.inl ?_
              have e0 : a.eval (.tmp 125) = .int .u8 (D : Int) := hw 5 (by kernel_rfl)
              have hs1 : (D : Int) - 48 = (dd : Int) := by have := HDE.out; omega
              have hs2 : IntKind.u8.wrap (dd : Int) = (dd : Int) := wrap_u8 HDD.out
              clear hw hF
              simp only [Oper.wp, execOp]
              rw [e0]
              go_simp
              exact hK _ x (by first | rfl | simp) (Below.refl _ _) (fun h => by simp at h)
            · simp only [wpOp, List.getElem?_toArray, List.getElem?_cons_succ, List.getElem?_cons_zero, Region.wanted, if_true]
              refine Or.inl ?_
              have e0 : a.eval (.tmp 126) = .int .u8 dd := hw 6 (by kernel_rfl)
              have hs2 : IntKind.i64.wrap (dd : Int) = (dd : Int) := wrap_i64_eq _ (by omega) (by have := HDD.out; omega)
              clear hw hF
              simp only [Oper.wp, execOp]
              rw [e0]
              go_simp
              exact hK _ x (by first | rfl | simp) (Below.refl _ _) (fun h => by simp at h)
            · simp only [wpOp, List.getElem?_toArray, List.getElem?_cons_succ, List.getElem?_cons_zero, Region.wanted, if_true]
              refine Or.inl ?_
              have e0 : a.tmps.getD 127 undef = .int .i64 dd := hw 7 (by kernel_rfl)
              clear hw hF
              simp only [Oper.wp, execOp]
              go_simp
              refine (zfrom_any (dd : Int) _ (by have := HDD.out; omega) (by have := HDD.out; omega)).mono ?_
              rintro e y ⟨A2, c2, rfl, hd2, hbb⟩
              exact hK _ y ⟨A2, c2, rfl, hd2⟩ hbb (fun h => by simp at h)
            · simp only [wpOp, List.getElem?_toArray, List.getElem?_cons_succ, List.getElem?_cons_zero, Region.wanted, if_true]
              refine Or.inl ?_
              obtain ⟨A', c', e0, hd⟩ := hw 2 (by kernel_rfl)
              have e0 : a.tmps.getD 122 undef = _ := e0
              obtain ⟨A', c', e1, hd'⟩ := hw 8 (by kernel_rfl)
              have e1 : a.tmps.getD 128 undef = _ := e1
              clear hw hF
              simp only [Oper.wp, execOp]
              go_simp
              refine (zadd_n hd hd' HLM.out HLE.out HZZ.out).mono ?_
              rintro e y ⟨A2, c2, rfl, hd2, hbb⟩
              exact hK _ y ⟨A2, c2, rfl, hd2⟩ hbb (fun h => by simp at h)
          · intro a x hF0 hb hR _
            have hF : Fr6 [120, 121, 122, 123, 124, 125, 126, 127, 128, 129] _ a := hF0
            have e0 : a.tmps.getD 120 undef = .agg #[.bool (decide (z < 0)), .slice A3 (digs z.natAbs).length c3] := hR 0 (by decide)
            obtain ⟨Bi1, di1, h1, hd1⟩ := hR 1 (by decide)
            have e1 : a.tmps.getD 121 undef = _ := h1
            obtain ⟨Bi2, di2, h2, hd2⟩ := hR 2 (by decide)
            have e2 : a.tmps.getD 122 undef = _ := h2
            have e3 : a.tmps.getD 123 undef = .string TX := hR 3 (by decide)
            have e4 : a.tmps.getD 124 undef = .int .i64 k := hR 4 (by decide)
            have e5 : a.tmps.getD 125 undef = .int .u8 (D : Int) := hR 5 (by decide)
            have e6 : a.tmps.getD 126 undef = .int .u8 dd := hR 6 (by decide)
            have e7 : a.tmps.getD 127 undef = .int .i64 dd := hR 7 (by decide)
            obtain ⟨Bi8, di8, h8, hd8⟩ := hR 8 (by decide)
            have e8 : a.tmps.getD 128 undef = _ := h8
            obtain ⟨Bi9, di9, h9, hd9⟩ := hR 9 (by decide)
            have e9 : a.tmps.getD 129 undef = _ := h9
            rw [hF.fold (by kernel_rfl)]
            simp only [List.foldl_cons, List.foldl_nil, e0, e1, e2, e3, e4, e5, e6, e7, e8, e9]
            simp only [Act.put, List.setIfInBounds_toArray, List.set_cons_zero, List.set_cons_succ]
            clear e0 e1 e2 e3 e4 e5 e6 e7 e8 e9 hR hF hF0 h1 h2 h8 h9
            obtain ⟨w12, hW⟩ : ∃ W : World, W = x := ⟨_, rfl⟩
            rw [← hW]
            rw [← hW] at hb hd1 hd2 hd8 hd9
            have L12 := Lib.hid (((((LR.out.step hb).add hd1).add hd2).add hd8).add hd9)
            have Rq10_12 := Lib.hid (cells_of RRQ.out hb)
            have Rnn_12 := Lib.hid (cells_of HR.out hb)
            clear hW hb hd1 hd2 hd8 hd9
            have fnn0 := row_c (i := 0) Rnn_12.out rfl
            have znn0 := frozen_of_row _ _ 0 _ _ Rnn_12.out
            have fnn1 := row_c (i := 1) Rnn_12.out rfl
            have znn1 := frozen_of_row _ _ 1 _ _ Rnn_12.out
            have xnn := heap_lt Rnn_12.out
            first | simp only [wpOps_cons] | rw [wpOps_cons] | (change wpOps _ _ _ [10] _ _; simp only [wpOps_cons])
            simp only [wpOp, List.getElem?_toArray, List.getElem?_cons_succ, List.getElem?_cons_zero, Region.wanted, if_true]
            refine Or.inl ?_
            simp only [Oper.wp, execOp]
            go_simp
            try simp only [wpOps]
            clear fnn0 znn0 fnn1 znn1 xnn
            obtain ⟨w13, hW⟩ : ∃ W : World, W = ((w12.setCell ⟨w10.heap.size, 0, none⟩ (.bool (decide (z2 < 0)))).setCell ⟨w10.heap.size, 1, none⟩ (.slice Bi9 (digs z2.natAbs).length di9)) := ⟨_, rfl⟩
            rw [← hW]
            have hO : Only (w10.heap.size) w12 w13 := by rw [hW]; exact (((Only.refl (w10.heap.size) w12).setCell 0 _).setCell 1 _)
            have L13 := Lib.hid (live_only L12.out hO Rnn_12.out noint_int Gnn)
            have Rq10_13 := Lib.hid ((hO.block _ (by omega)).trans Rq10_12.out)
            have Rnn_13 := Lib.hid (show w13.heap[w10.heap.size]? = some (.cells #[.bool (decide (z2 < 0)), .slice Bi9 (digs z2.natAbs).length di9] 24 (0, 0)) by rw [hW]; exact (heap_setCell_same _ _ 1 _ _ _ (heap_setCell_same _ _ 0 _ _ _ Rnn_12.out)))
            clear hW hO
            go_wp2
            go_roundg (gk - 1)
            case rel => exact ⟨k + 1, z2, Bi9, di9, congrArg (Value.int .i64) KW1.out, KS1, KF1, HZ2, Lib.hid ((((live_start w).step L13.out.1).add (L13.out.get (A := B9) (c := d9) (xs := digs m.natAbs) (by simp))).add (L13.out.get (A := Bi9) (c := di9) (xs := digs z2.natAbs) (by simp))), Rq10_13, Rnn_13⟩
            case measure => exact KM1.out
      · have hk2 : k = TX.size := by have := HK.out; omega
        have HZA := Lib.hid (show z.natAbs = m.natAbs by rw [HZ.out, hk2, EX2.out, tn_all]; rfl)
        clear hlt
        subst hk2
        have HLZ := Lib.hid (show (digs z.natAbs).length ≤ 12 by rw [HZA.out]; exact HML.out)
        go_wp2_with fail
        refine wp_operands (W := wr) rfl 7 [130, 131, 132, 133, 134, 135, 136] (fun i u ww => match i with | 0 => u = .pointer (some ⟨g10, 0, none⟩) | 1 => u = .bool (decide (m < 0)) | 2 => u = .pointer (some ⟨w10.heap.size, 1, none⟩) | 3 => u = .slice A3 (digs z.natAbs).length c3 | 4 => ∃ A c, u = .agg #[.bool (decide (m < 0)), .slice A (digs (m).natAbs).length c] ∧ Dg ww A c (digs m.natAbs) | 5 => u = .agg #[.bool (decide (m < 0)), .slice B9 (digs m.natAbs).length d9] | 6 => u = .bool true | _ => True) (fun i => decide (i ∈ ([] : List Nat)))
          (by decide) rfl (by kernel_rfl) (by kernel_rfl) (by decide) (by kernel_rfl) ?_ ?_ ?_ ?_
        · intro i u x y hi h hb
          have hi' : i = 0 ∨ i = 1 ∨ i = 2 ∨ i = 3 ∨ i = 4 ∨ i = 5 ∨ i = 6 := by omega
          rcases hi' with rfl | rfl | rfl | rfl | rfl | rfl | rfl
          · exact h
          · exact h
          · exact h
          · exact h
          · obtain ⟨A, c, e, hd⟩ := h
            exact ⟨A, c, e, hd.below hb⟩
          · exact h
          · exact h
        · intro i u x hi; simp at hi
        · intro i a x KK hi hF hb hw hK
          have hi' : i = 0 ∨ i = 1 ∨ i = 2 ∨ i = 3 ∨ i = 4 ∨ i = 5 ∨ i = 6 := by omega
          rcases hi' with rfl | rfl | rfl | rfl | rfl | rfl | rfl
          · simp only [wpOp, List.getElem?_toArray, List.getElem?_cons_zero, Region.wanted, if_true]
            refine Or.inl ?_
            have e0 : a.eval (.tmp 8) = .pointer (some ⟨g10, 0, none⟩) := hF.2.2 8 (by decide)
            clear hw hF
            simp only [Oper.wp, execOp]
            rw [e0]
            go_simp
            exact hK _ x (by first | rfl | simp) (Below.refl _ _) (fun h => by simp at h)
          · simp only [wpOp, List.getElem?_toArray, List.getElem?_cons_succ, List.getElem?_cons_zero, Region.wanted, if_true]
            refine Or.inl ?_
            have e0 : a.eval (.tmp 130) = .pointer (some ⟨g10, 0, none⟩) := hw 0 (by kernel_rfl)
            have f0 := row_cell RRQ.out hb 0
            have f1 := row_cell RRQ.out hb 1
            simp only [List.getElem?_toArray, List.getElem?_cons_succ, List.getElem?_cons_zero] at f0 f1
            clear hw hF
            simp only [Oper.wp, execOp]
            rw [e0]
            go_simp
            exact hK _ x (by first | rfl | simp) (Below.refl _ _) (fun h => by simp at h)
          · simp only [wpOp, List.getElem?_toArray, List.getElem?_cons_succ, List.getElem?_cons_zero, Region.wanted, if_true]
            refine Or.inl ?_
            have e0 : a.eval (.tmp 17) = .pointer (some ⟨w10.heap.size, 0, none⟩) := hF.2.2 17 (by decide)
            clear hw hF
            simp only [Oper.wp, execOp]
            rw [e0]
            go_simp
            exact hK _ x (by first | rfl | simp) (Below.refl _ _) (fun h => by simp at h)
          · simp only [wpOp, List.getElem?_toArray, List.getElem?_cons_succ, List.getElem?_cons_zero, Region.wanted, if_true]
            refine Or.inl ?_
            have e0 : a.eval (.tmp 132) = .pointer (some ⟨w10.heap.size, 1, none⟩) := hw 2 (by kernel_rfl)
            have f0 := row_cell HR.out hb 0
            have f1 := row_cell HR.out hb 1
            simp only [List.getElem?_toArray, List.getElem?_cons_succ, List.getElem?_cons_zero] at f0 f1
            clear hw hF
            simp only [Oper.wp, execOp]
            rw [e0]
            go_simp
            exact hK _ x (by first | rfl | simp) (Below.refl _ _) (fun h => by simp at h)
          · simp only [wpOp, List.getElem?_toArray, List.getElem?_cons_succ, List.getElem?_cons_zero, Region.wanted, if_true]
            refine Or.inl ?_
            have e0 : a.tmps.getD 131 undef = .bool (decide (m < 0)) := hw 1 (by kernel_rfl)
            have e1 : a.tmps.getD 133 undef = .slice A3 (digs z.natAbs).length c3 := hw 3 (by kernel_rfl)
            clear hw hF
            simp only [Oper.wp, execOp]
            go_simp
            refine (zmk_n ((LR.out.step hb).get (A := A3) (c := c3) (xs := digs z.natAbs) (by simp)) (Nat.le_trans HLZ.out (by omega)) HZA.out).mono ?_
            rintro e y ⟨A2, c2, rfl, hd2, hbb⟩
            exact hK _ y ⟨A2, c2, rfl, hd2⟩ hbb (fun h => by simp at h)
          · simp only [wpOp, List.getElem?_toArray, List.getElem?_cons_succ, List.getElem?_cons_zero, Region.wanted, if_true]
            refine Or.inl ?_
            have e0 : a.eval (.tmp 8) = .pointer (some ⟨g10, 0, none⟩) := hF.2.2 8 (by decide)
            have f0 := row_cell RRQ.out hb 0
            have f1 := row_cell RRQ.out hb 1
            simp only [List.getElem?_toArray, List.getElem?_cons_succ, List.getElem?_cons_zero] at f0 f1
            clear hw hF
            simp only [Oper.wp, execOp]
            rw [e0]
            go_simp
            exact hK _ x (by first | rfl | simp) (Below.refl _ _) (fun h => by simp at h)
          · simp only [wpOp, List.getElem?_toArray, List.getElem?_cons_succ, List.getElem?_cons_zero, Region.wanted, if_true]
            refine Or.inl ?_
            obtain ⟨A', c', e0, hd⟩ := hw 4 (by kernel_rfl)
            have e0 : a.tmps.getD 134 undef = _ := e0
            have e1 : a.tmps.getD 135 undef = .agg #[.bool (decide (m < 0)), .slice B9 (digs m.natAbs).length d9] := hw 5 (by kernel_rfl)
            clear hw hF
            simp only [Oper.wp, execOp]
            go_simp
            refine (same_n hd ((LR.out.step hb).get (A := B9) (c := d9) (xs := digs m.natAbs) (by simp)) (Nat.le_trans HML.out (by omega))).mono ?_
            rintro e y ⟨rfl, hbb⟩
            exact hK _ y rfl hbb (fun h => by simp at h)
        · intro a x hF0 hb hR _
          have hF : Fr6 [130, 131, 132, 133, 134, 135, 136] _ a := hF0
          have e0 : a.tmps.getD 130 undef = .pointer (some ⟨g10, 0, none⟩) := hR 0 (by decide)
          have e1 : a.tmps.getD 131 undef = .bool (decide (m < 0)) := hR 1 (by decide)
          have e2 : a.tmps.getD 132 undef = .pointer (some ⟨w10.heap.size, 1, none⟩) := hR 2 (by decide)
          have e3 : a.tmps.getD 133 undef = .slice A3 (digs z.natAbs).length c3 := hR 3 (by decide)
          obtain ⟨B4, d4, h4, hd4⟩ := hR 4 (by decide)
          have e4 : a.tmps.getD 134 undef = _ := h4
          have e5 : a.tmps.getD 135 undef = .agg #[.bool (decide (m < 0)), .slice B9 (digs m.natAbs).length d9] := hR 5 (by decide)
          have e6 : a.tmps.getD 136 undef = .bool true := hR 6 (by decide)
          rw [hF.fold (by kernel_rfl)]
          simp only [List.foldl_cons, List.foldl_nil, e0, e1, e2, e3, e4, e5, e6]
          simp only [Act.put, List.setIfInBounds_toArray, List.set_cons_zero, List.set_cons_succ]
          clear e0 e1 e2 e3 e4 e5 e6 hR hF hF0 h4
          obtain ⟨w62, hW⟩ : ∃ W : World, W = x := ⟨_, rfl⟩
          rw [← hW]
          rw [← hW] at hb hd4
          have L62 := Lib.hid ((LR.out.step hb).add hd4)
          have Rq10_62 := Lib.hid (cells_of RRQ.out hb)
          have Rnn_62 := Lib.hid (cells_of HR.out hb)
          clear hW hb hd4
          first | simp only [wpOps_cons] | rw [wpOps_cons] | (change wpOps _ _ _ [7] _ _; simp only [wpOps_cons])
          simp only [wpOp, List.getElem?_toArray, List.getElem?_cons_succ, List.getElem?_cons_zero, Region.wanted, if_true]
          refine Or.inl ?_
          simp only [Oper.wp, execOp]
          go_simp
          try simp only [wpOps]
          go_wp2_with fail
          refine (DZ.out _).mono ?_
          rintro e w63 ⟨A63, c63, rfl, hd, hb⟩
          have L63 := Lib.hid ((L62.out.step hb).add hd)
          have Rq10_63 := Lib.hid (cells_of Rq10_62.out hb)
          have Rnn_63 := Lib.hid (cells_of Rnn_62.out hb)
          clear hb hd
          go_wp2_with fail
          obtain ⟨w64, hW⟩ : ∃ W : World, W = (w63.alloc (.cells #[.bool (decide (mz < 0)), .slice A63 (digs mz.natAbs).length c63] 24)) := ⟨_, rfl⟩
          rw [← hW]
          have hb : Below w63.heap.size w63 w64 := by rw [hW]; exact ((Below.refl _ _).alloc (by simp <;> omega) _)
          have L64 := Lib.hid (L63.out.step hb)
          have Rq10_64 := Lib.hid (cells_of Rq10_63.out hb)
          have Rnn_64 := Lib.hid (cells_of Rnn_63.out hb)
          have Rdz_64 := Lib.hid (show w64.heap[w63.heap.size]? = some (.cells #[.bool (decide (mz < 0)), .slice A63 (digs mz.natAbs).length c63] 24 (0, 0)) by rw [hW]; have := heap_alloc_new w63 (.cells #[.bool (decide (mz < 0)), .slice A63 (digs mz.natAbs).length c63] 24); simpa using this)
          have Gdz : w.heap.size ≤ w63.heap.size := by have := L63.out.1.size; omega
          have Nq10dz : g10 < w63.heap.size := by have := heap_lt Rq10_63.out; omega
          have Nnndz : w10.heap.size < w63.heap.size := by have := heap_lt Rnn_63.out; omega
          clear hW hb
          have fdz0 := row_c (i := 0) Rdz_64.out rfl
          have zdz0 := frozen_of_row _ _ 0 _ _ Rdz_64.out
          have fdz1 := row_c (i := 1) Rdz_64.out rfl
          have zdz1 := frozen_of_row _ _ 1 _ _ Rdz_64.out
          have xdz := heap_lt Rdz_64.out
          go_wp2_with fail
          refine (DBZ.out _ _ _ (L64.out.get (A := A63) (c := c63) (xs := digs mz.natAbs) (by simp))).mono ?_
          rintro e w65 ⟨rfl, hb⟩
          have L65 := Lib.hid (L64.out.step hb)
          clear fdz0 zdz0 fdz1 zdz1 xdz
          have Rq10_65 := Lib.hid (cells_of Rq10_64.out hb)
          have Rnn_65 := Lib.hid (cells_of Rnn_64.out hb)
          have Rdz_65 := Lib.hid (cells_of Rdz_64.out hb)
          clear hb 
          have hsz := HSZ2.out
          have hEq := HEQ.out
          have fdz0 := row_c (i := 0) Rdz_65.out rfl
          have zdz0 := frozen_of_row _ _ 0 _ _ Rdz_65.out
          have fdz1 := row_c (i := 1) Rdz_65.out rfl
          have zdz1 := frozen_of_row _ _ 1 _ _ Rdz_65.out
          have xdz := heap_lt Rdz_65.out
          go_wp2_with fail
          refine (right_any A63 c63 (decide (mz < 0)) (digs mz.natAbs) _ (L65.out.get (A := A63) (c := c63) (xs := digs mz.natAbs) (by simp)) true (zb_right mz) (Nat.le_trans LZ.out (by omega))).mono ?_
          rintro e w66 ⟨rfl, hb⟩
          have L66 := Lib.hid (L65.out.step hb)
          clear fdz0 zdz0 fdz1 zdz1 xdz
          have Rq10_66 := Lib.hid (cells_of Rq10_65.out hb)
          have Rnn_66 := Lib.hid (cells_of Rnn_65.out hb)
          have Rdz_66 := Lib.hid (cells_of Rdz_65.out hb)
          clear hb 
          go_wp2
          go_ret
          exact ⟨rfl, L66.out.1⟩

set_option maxHeartbeats 8000000 in
set_option maxRecDepth 100000 in
theorem zlTexts_pn (Ax : Option Addr) (cx : Nat) (sx : Bool) (xsx : List Nat) (w : World) (hx : Dg w Ax cx xsx) (lx : xsx.length ≤ 9223372036854775807) (hT : P10 w) (rest b : ByteArray) (qr : rest.data.toList.length ≤ 4611686018427387904) (qb : b.data.toList.length ≤ 4611686018427387904) (hs : ¬ sg sx (val (xsx.take 12)) < 0) (qz : ¬ ∃ m r, (digs m.natAbs).length ≤ 400 ∧ b.data.toList = zb m ++ r):
    Calls Tryd.prog 3 #[.agg #[.bool sx, .slice Ax xsx.length cx], .string rest, .string b] w fun e w' => e = .returned (.bool true) ∧ Below w.heap.size w w' := by
  obtain ⟨ts, hts⟩ : ∃ t, xsx.take 12 = t := ⟨_, rfl⟩
  rw [hts] at hs
  obtain ⟨m, hm⟩ : ∃ z, sg sx (val ts) = z := ⟨_, rfl⟩
  rw [hm] at hs
  have htk : Dg w Ax cx ts := by rw [← hts]; exact hx.take 12
  have htl : ts.length = min xsx.length 12 := by rw [← hts, List.length_take]; omega
  have hml : (digs m.natAbs).length ≤ 12 := by
    have e : m.natAbs = val ts := by rw [← hm]; unfold sg; cases sx <;> simp
    rw [e]
    exact Nat.le_trans (digs_len_le htk.2.1) (by omega)
  have MK := Lib.hid (fun W (hW : Dg W Ax cx ts) => zmake_any Ax cx sx ts W hW (by omega))
  rw [hm] at MK
  obtain ⟨K, hK⟩ : ∃ K : Int, min (xsx.length : Int) 12 = K := ⟨_, rfl⟩
  have hKt : K.toNat = ts.length := by omega
  rw [← hKt] at MK
  have HK := Lib.hid hK
  have HC := Lib.hid hx.1
  have HML := Lib.hid hml
  obtain ⟨S, hS⟩ : ∃ S : ByteArray, S.data.toList = zb m := ⟨⟨(zb m).toArray⟩, rfl⟩
  have DB := Lib.hid (fun W A c hW => zby_yes (A := A) (c := c) (Nat.le_trans hml (by omega)) hS W hW)
  have Sl : S.data.toList.length ≤ 100 := by
    have l1 := zbytes_len (decide (m < 0)) (digs m.natAbs)
    rw [hS]; unfold zb; omega
  have eS : S.size = S.data.toList.length := by simp
  have er : rest.size = rest.data.toList.length := by simp
  have HSZ := Lib.hid (show ¬ 9223372036854775807 < S.size + rest.size by omega)
  have hcat : (S ++ rest).data.toList = zb m ++ rest.data.toList := by rw [← hS]; simp [ByteArray.data_append]
  have DT := Lib.hid (fun W => ztk_yes (b := S ++ rest) (t := rest) (m := m) hcat (Nat.le_trans hml (by omega)) (by rw [hcat, List.length_append, ← hS]; omega) W)
  obtain ⟨TX, hTX⟩ : ∃ t : ByteArray, t.data.toList = tz m := ⟨⟨(tz m).toArray⟩, rfl⟩
  have hts2 := dd_lim hml
  have HTS := Lib.hid (show TX.size ≤ 200 by rw [show TX.size = (tz m).length by rw [← hTX]; simp, tz_len]; unfold frm; split <;> omega)
  clear hts2
  have HTX := Lib.hid hTX
  have eX : TX.size = (tz m).length := by rw [← hTX]; simp
  have hfr : frm m = 0 := by unfold frm; rw [if_neg hs]
  have hlong := tz_long m
  rw [hfr, ← eX] at hlong
  have HFR := Lib.hid hfr
  have EX2 := Lib.hid eX
  have HLONG := Lib.hid hlong
  have D0 := Lib.hid (show decide (m < 0) = false by simpa using hs)
  obtain ⟨z0, hz0⟩ : ∃ z : Int, z = ((tn m 0 : Nat) : Int) := ⟨_, rfl⟩
  have hz00 : z0 = 0 := by rw [hz0, ← hfr, tn_zero]; rfl
  have HZ0 := Lib.hid hz0
  have FZ : ∀ W, Calls Tryd.prog 10 #[.int .i64 0] W fun e w' => Zr z0 W e w' := fun W => by
    rw [hz00]; exact zfrom_any 0 W (by omega) (by omega)
  have FZ := Lib.hid FZ
  have l0 : (digs (0 : Int).natAbs).length ≤ 400 := by decide +kernel
  obtain ⟨Tz, hTz⟩ : ∃ t : ByteArray, t.data.toList = zb 0 := ⟨⟨(zb 0).toArray⟩, rfl⟩
  obtain ⟨mz, hmz⟩ : ∃ z : Int, z = 0 := ⟨_, rfl⟩
  have DBZ : ∀ W (A : Option Addr) (c : Nat), Dg W A c (digs mz.natAbs) → Calls Tryd.prog 6 #[.agg #[.bool (decide (mz < 0)), .slice A (digs mz.natAbs).length c]] W fun e w' => e = .returned (.tuple #[.string Tz, .int .i64 0]) ∧ Below W.heap.size W w' := fun W A c hW => by
    subst hmz; exact zby_yes l0 hTz W hW
  have DBZ := Lib.hid DBZ
  have DZ := Lib.hid (fun W => show Calls Tryd.prog 7 #[.string b] W fun e w' => Zt mz ⟨#[]⟩ 2 W e w' by rw [hmz]; exact ztk_no (b := b) (by omega) qz W)
  have HT := Lib.hid hT
  clear hT
  have L0 := Lib.hid (((live_start w).add hx).add htk)
  clear hx lx hs hts hm htk htl hml hK hKt hS Sl eS er hcat hTX eX hfr hlong hz0 hz00 qr qb qz hTz l0 hmz
  go_enter Tryd.func3, Tryd.ntmps3
  go_wp2_with fail
  obtain ⟨v1, hW⟩ : ∃ W : World, W = (w.alloc (.cells #[.bool sx, .slice Ax xsx.length cx] 24)) := ⟨_, rfl⟩
  rw [← hW]
  have hb : Below w.heap.size w v1 := by rw [hW]; exact ((Below.refl _ _).alloc (by simp <;> omega) _)
  have L1 := Lib.hid (L0.out.step hb)
  have Rx_1 := Lib.hid (show v1.heap[w.heap.size]? = some (.cells #[.bool sx, .slice Ax xsx.length cx] 24 (0, 0)) by rw [hW]; have := heap_alloc_new w (.cells #[.bool sx, .slice Ax xsx.length cx] 24); simpa using this)
  have Gx : w.heap.size ≤ w.heap.size := by have := L0.out.1.size; omega
  clear hW hb
  refine (examples_any _ (p10_below HT.out L1.out.1)).mono ?_
  rintro e w2 ⟨rfl, hb⟩
  have L2 := Lib.hid (L1.out.step hb)
  have Rx_2 := Lib.hid (cells_of Rx_1.out hb)
  clear hb 
  go_wp2_with fail
  have hmin : min (xsx.length : Int) 12 = K := HK.out
  have k0 : 0 ≤ K := by have := HK.out; omega
  have k1 : K ≤ (cx : Int) := by have := HK.out; have := HC.out; omega
  refine wp_operands (W := w2) rfl 11 [28, 29, 30, 31, 32, 33, 34, 35, 36, 37, 8] (fun i u ww => match i with | 0 => u = .pointer (some ⟨w.heap.size, 0, none⟩) | 1 => u = .bool sx | 2 => u = .pointer (some ⟨w.heap.size, 1, none⟩) | 3 => u = .slice Ax xsx.length cx | 4 => u = .pointer (some ⟨w.heap.size, 1, none⟩) | 5 => u = .slice Ax xsx.length cx | 6 => u = .int .i64 xsx.length | 7 => u = .int .i64 K | 8 => u = .slice Ax K.toNat cx | 9 => ∃ A c, u = .agg #[.bool (decide (m < 0)), .slice A (digs m.natAbs).length c] ∧ Dg ww A c (digs m.natAbs) | 10 => ∃ g, u = .pointer (some ⟨g, 0, none⟩) ∧ ww.heap[g]? = some (.cells #[.bool false, .slice none 0 0] 24 (0, 0)) ∧ w2.heap.size ≤ g | _ => True) (fun i => decide (i ∈ ([10] : List Nat)))
    (by decide) rfl (by kernel_rfl) (by kernel_rfl) (by decide) (by kernel_rfl) ?_ ?_ ?_ ?_
  · intro i u x y hi h hb
    have hi' : i = 0 ∨ i = 1 ∨ i = 2 ∨ i = 3 ∨ i = 4 ∨ i = 5 ∨ i = 6 ∨ i = 7 ∨ i = 8 ∨ i = 9 ∨ i = 10 := by omega
    rcases hi' with rfl | rfl | rfl | rfl | rfl | rfl | rfl | rfl | rfl | rfl | rfl
    · exact h
    · exact h
    · exact h
    · exact h
    · exact h
    · exact h
    · exact h
    · exact h
    · exact h
    · obtain ⟨A, c, e, hd⟩ := h
      exact ⟨A, c, e, hd.below hb⟩
    · obtain ⟨g, e, hg, hge⟩ := h
      exact ⟨g, e, cells_of hg hb, hge⟩
  · intro i u x hi h
    have hi' : i = 10 := by simpa using hi
    subst hi'
    all_goals
      obtain ⟨g, e, hg, _⟩ := h
      exact ⟨g, e, heap_lt hg⟩
  · intro i a x KK hi hF hb hw hK
    have hi' : i = 0 ∨ i = 1 ∨ i = 2 ∨ i = 3 ∨ i = 4 ∨ i = 5 ∨ i = 6 ∨ i = 7 ∨ i = 8 ∨ i = 9 ∨ i = 10 := by omega
    rcases hi' with rfl | rfl | rfl | rfl | rfl | rfl | rfl | rfl | rfl | rfl | rfl
    · simp only [wpOp, List.getElem?_toArray, List.getElem?_cons_zero, Region.wanted, if_true]
      refine Or.inl ?_
      have e0 : a.eval (.tmp 3) = .pointer (some ⟨w.heap.size, 0, none⟩) := hF.2.2 3 (by decide)
      clear hw hF
      simp only [Oper.wp, execOp]
      rw [e0]
      go_simp
      exact hK _ x (by first | rfl | simp) (Below.refl _ _) (fun h => by simp at h)
    · simp only [wpOp, List.getElem?_toArray, List.getElem?_cons_succ, List.getElem?_cons_zero, Region.wanted, if_true]
      refine Or.inl ?_
      have e0 : a.eval (.tmp 28) = .pointer (some ⟨w.heap.size, 0, none⟩) := hw 0 (by kernel_rfl)
      have f0 := row_cell Rx_2.out hb 0
      have f1 := row_cell Rx_2.out hb 1
      simp only [List.getElem?_toArray, List.getElem?_cons_succ, List.getElem?_cons_zero] at f0 f1
      clear hw hF
      simp only [Oper.wp, execOp]
      rw [e0]
      go_simp
      exact hK _ x (by first | rfl | simp) (Below.refl _ _) (fun h => by simp at h)
    · simp only [wpOp, List.getElem?_toArray, List.getElem?_cons_succ, List.getElem?_cons_zero, Region.wanted, if_true]
      refine Or.inl ?_
      have e0 : a.eval (.tmp 3) = .pointer (some ⟨w.heap.size, 0, none⟩) := hF.2.2 3 (by decide)
      clear hw hF
      simp only [Oper.wp, execOp]
      rw [e0]
      go_simp
      exact hK _ x (by first | rfl | simp) (Below.refl _ _) (fun h => by simp at h)
    · simp only [wpOp, List.getElem?_toArray, List.getElem?_cons_succ, List.getElem?_cons_zero, Region.wanted, if_true]
      refine Or.inl ?_
      have e0 : a.eval (.tmp 30) = .pointer (some ⟨w.heap.size, 1, none⟩) := hw 2 (by kernel_rfl)
      have f0 := row_cell Rx_2.out hb 0
      have f1 := row_cell Rx_2.out hb 1
      simp only [List.getElem?_toArray, List.getElem?_cons_succ, List.getElem?_cons_zero] at f0 f1
      clear hw hF
      simp only [Oper.wp, execOp]
      rw [e0]
      go_simp
      exact hK _ x (by first | rfl | simp) (Below.refl _ _) (fun h => by simp at h)
    · simp only [wpOp, List.getElem?_toArray, List.getElem?_cons_succ, List.getElem?_cons_zero, Region.wanted, if_true]
      refine Or.inl ?_
      have e0 : a.eval (.tmp 3) = .pointer (some ⟨w.heap.size, 0, none⟩) := hF.2.2 3 (by decide)
      clear hw hF
      simp only [Oper.wp, execOp]
      rw [e0]
      go_simp
      exact hK _ x (by first | rfl | simp) (Below.refl _ _) (fun h => by simp at h)
    · simp only [wpOp, List.getElem?_toArray, List.getElem?_cons_succ, List.getElem?_cons_zero, Region.wanted, if_true]
      refine Or.inl ?_
      have e0 : a.eval (.tmp 32) = .pointer (some ⟨w.heap.size, 1, none⟩) := hw 4 (by kernel_rfl)
      have f0 := row_cell Rx_2.out hb 0
      have f1 := row_cell Rx_2.out hb 1
      simp only [List.getElem?_toArray, List.getElem?_cons_succ, List.getElem?_cons_zero] at f0 f1
      clear hw hF
      simp only [Oper.wp, execOp]
      rw [e0]
      go_simp
      exact hK _ x (by first | rfl | simp) (Below.refl _ _) (fun h => by simp at h)
    · simp only [wpOp, List.getElem?_toArray, List.getElem?_cons_succ, List.getElem?_cons_zero, Region.wanted, if_true]
      refine Or.inl ?_
      have e0 : a.tmps.getD 33 undef = .slice Ax xsx.length cx := hw 5 (by kernel_rfl)
      clear hw hF
      simp only [Oper.wp, execOp]
      go_simp
      exact hK _ x (by first | rfl | simp) (Below.refl _ _) (fun h => by simp at h)
    · simp only [wpOp, List.getElem?_toArray, List.getElem?_cons_succ, List.getElem?_cons_zero, Region.wanted, if_true]
      refine Or.inl ?_
      have e0 : a.tmps.getD 34 undef = .int .i64 xsx.length := hw 6 (by kernel_rfl)
      clear hw hF
      simp only [Oper.wp, execOp]
      go_simp
      exact hK _ x (by first | rfl | simp) (Below.refl _ _) (fun h => by simp at h)
    · simp only [wpOp, List.getElem?_toArray, List.getElem?_cons_succ, List.getElem?_cons_zero, Region.wanted, if_true]
      refine Or.inl ?_
      have e0 : a.tmps.getD 31 undef = .slice Ax xsx.length cx := hw 3 (by kernel_rfl)
      have e1 : a.tmps.getD 35 undef = .int .i64 K := hw 7 (by kernel_rfl)
      clear hw hF
      simp only [Oper.wp, execOp]
      go_simp
      exact hK _ x (by first | rfl | simp) (Below.refl _ _) (fun h => by simp at h)
    · simp only [wpOp, List.getElem?_toArray, List.getElem?_cons_succ, List.getElem?_cons_zero, Region.wanted, if_true]
      refine Or.inl ?_
      have e0 : a.tmps.getD 29 undef = .bool sx := hw 1 (by kernel_rfl)
      have e1 : a.tmps.getD 36 undef = .slice Ax K.toNat cx := hw 8 (by kernel_rfl)
      clear hw hF
      simp only [Oper.wp, execOp]
      go_simp
      refine (MK.out _ ((L2.out.step hb).get (A := Ax) (c := cx) (xs := ts) (by simp))).mono ?_
      rintro e y ⟨A2, c2, rfl, hd2, hbb⟩
      exact hK _ y ⟨A2, c2, rfl, hd2⟩ hbb (fun h => by simp at h)
    · simp only [wpOp, List.getElem?_toArray, List.getElem?_cons_succ, List.getElem?_cons_zero, Region.wanted, if_true]
      refine Or.inl ?_
      clear hw hF
      simp only [Oper.wp, execOp]
      go_simp
      exact hK _ _ ⟨_, rfl, heap_alloc_new _ _, hb.size⟩ (below1 _ _) (fun _ => rfl)
  · intro a x hF0 hb hR _
    have hF : Fr6 [28, 29, 30, 31, 32, 33, 34, 35, 36, 37, 8] _ a := hF0
    have e0 : a.tmps.getD 28 undef = .pointer (some ⟨w.heap.size, 0, none⟩) := hR 0 (by decide)
    have e1 : a.tmps.getD 29 undef = .bool sx := hR 1 (by decide)
    have e2 : a.tmps.getD 30 undef = .pointer (some ⟨w.heap.size, 1, none⟩) := hR 2 (by decide)
    have e3 : a.tmps.getD 31 undef = .slice Ax xsx.length cx := hR 3 (by decide)
    have e4 : a.tmps.getD 32 undef = .pointer (some ⟨w.heap.size, 1, none⟩) := hR 4 (by decide)
    have e5 : a.tmps.getD 33 undef = .slice Ax xsx.length cx := hR 5 (by decide)
    have e6 : a.tmps.getD 34 undef = .int .i64 xsx.length := hR 6 (by decide)
    have e7 : a.tmps.getD 35 undef = .int .i64 K := hR 7 (by decide)
    have e8 : a.tmps.getD 36 undef = .slice Ax K.toNat cx := hR 8 (by decide)
    obtain ⟨B9, d9, h9, hd9⟩ := hR 9 (by decide)
    have e9 : a.tmps.getD 37 undef = _ := h9
    obtain ⟨g10, h10, hg10, hge10⟩ := hR 10 (by decide)
    have e10 : a.tmps.getD 8 undef = _ := h10
    rw [hF.fold (by kernel_rfl)]
    simp only [List.foldl_cons, List.foldl_nil, e0, e1, e2, e3, e4, e5, e6, e7, e8, e9, e10]
    simp only [Act.put, List.setIfInBounds_toArray, List.set_cons_zero, List.set_cons_succ]
    clear e0 e1 e2 e3 e4 e5 e6 e7 e8 e9 e10 hR hF hF0 h9 h10
    obtain ⟨w3, hW⟩ : ∃ W : World, W = x := ⟨_, rfl⟩
    rw [← hW]
    rw [← hW] at hb hd9 hg10
    have L3 := Lib.hid ((L2.out.step hb).add hd9)
    have Rx_3 := Lib.hid (cells_of Rx_2.out hb)
    have Rq10_3 := Lib.hid hg10
    have Gq10 : w.heap.size ≤ g10 := Nat.le_trans L2.out.1.size hge10
    have Nxq10 : w.heap.size < g10 := by have := heap_lt Rx_2.out; omega
    clear hW hb hd9 hg10 hge10
    have fq100 := row_c (i := 0) Rq10_3.out rfl
    have zq100 := frozen_of_row _ _ 0 _ _ Rq10_3.out
    have fq101 := row_c (i := 1) Rq10_3.out rfl
    have zq101 := frozen_of_row _ _ 1 _ _ Rq10_3.out
    have xq10 := heap_lt Rq10_3.out
    first | simp only [wpOps_cons] | rw [wpOps_cons] | (change wpOps _ _ _ [11] _ _; simp only [wpOps_cons])
    simp only [wpOp, List.getElem?_toArray, List.getElem?_cons_succ, List.getElem?_cons_zero, Region.wanted, if_true]
    refine Or.inl ?_
    simp only [Oper.wp, execOp]
    go_simp
    try simp only [wpOps]
    clear fq100 zq100 fq101 zq101 xq10
    obtain ⟨w4, hW⟩ : ∃ W : World, W = ((w3.setCell ⟨g10, 0, none⟩ (.bool (decide (m < 0)))).setCell ⟨g10, 1, none⟩ (.slice B9 (digs m.natAbs).length d9)) := ⟨_, rfl⟩
    rw [← hW]
    have hO : Only (g10) w3 w4 := by rw [hW]; exact (((Only.refl (g10) w3).setCell 0 _).setCell 1 _)
    have L4 := Lib.hid (live_only L3.out hO Rq10_3.out noint_int Gq10)
    have Rx_4 := Lib.hid ((hO.block _ (by omega)).trans Rx_3.out)
    have Rq10_4 := Lib.hid (show w4.heap[g10]? = some (.cells #[.bool (decide (m < 0)), .slice B9 (digs m.natAbs).length d9] 24 (0, 0)) by rw [hW]; exact (heap_setCell_same _ _ 1 _ _ _ (heap_setCell_same _ _ 0 _ _ _ Rq10_3.out)))
    clear hW hO
    clear hmin k0 k1
    have fq100 := row_c (i := 0) Rq10_4.out rfl
    have zq100 := frozen_of_row _ _ 0 _ _ Rq10_4.out
    have fq101 := row_c (i := 1) Rq10_4.out rfl
    have zq101 := frozen_of_row _ _ 1 _ _ Rq10_4.out
    have xq10 := heap_lt Rq10_4.out
    go_wp2_with fail
    refine (DB.out _ _ _ (L4.out.get (A := B9) (c := d9) (xs := digs m.natAbs) (by simp))).mono ?_
    rintro e w5 ⟨rfl, hb⟩
    have L5 := Lib.hid (L4.out.step hb)
    clear fq100 zq100 fq101 zq101 xq10
    have Rx_5 := Lib.hid (cells_of Rx_4.out hb)
    have Rq10_5 := Lib.hid (cells_of Rq10_4.out hb)
    clear hb 
    have hsz := HSZ.out
    go_wp2_with fail
    refine (DT.out _).mono ?_
    rintro e w6 ⟨A6, c6, rfl, hd, hb⟩
    have L6 := Lib.hid ((L5.out.step hb).add hd)
    have Rx_6 := Lib.hid (cells_of Rx_5.out hb)
    have Rq10_6 := Lib.hid (cells_of Rq10_5.out hb)
    clear hb hd
    clear hsz
    have fq100 := row_c (i := 0) Rq10_6.out rfl
    have zq100 := frozen_of_row _ _ 0 _ _ Rq10_6.out
    have fq101 := row_c (i := 1) Rq10_6.out rfl
    have zq101 := frozen_of_row _ _ 1 _ _ Rq10_6.out
    have xq10 := heap_lt Rq10_6.out
    go_wp2_with fail
    obtain ⟨w7, hW⟩ : ∃ W : World, W = (w6.alloc (.cells #[.bool (decide (m < 0)), .slice A6 (digs m.natAbs).length c6] 24)) := ⟨_, rfl⟩
    rw [← hW]
    have hb : Below w6.heap.size w6 w7 := by rw [hW]; exact ((Below.refl _ _).alloc (by simp <;> omega) _)
    have L7 := Lib.hid (L6.out.step hb)
    have Rx_7 := Lib.hid (cells_of Rx_6.out hb)
    have Rq10_7 := Lib.hid (cells_of Rq10_6.out hb)
    have Rcc_7 := Lib.hid (show w7.heap[w6.heap.size]? = some (.cells #[.bool (decide (m < 0)), .slice A6 (digs m.natAbs).length c6] 24 (0, 0)) by rw [hW]; have := heap_alloc_new w6 (.cells #[.bool (decide (m < 0)), .slice A6 (digs m.natAbs).length c6] 24); simpa using this)
    have Gcc : w.heap.size ≤ w6.heap.size := by have := L6.out.1.size; omega
    have Nxcc : w.heap.size < w6.heap.size := by have := heap_lt Rx_6.out; omega
    have Nq10cc : g10 < w6.heap.size := by have := heap_lt Rq10_6.out; omega
    clear hW hb
    clear fq100 zq100 fq101 zq101 xq10
    refine (same_n (L7.out.get (A := B9) (c := d9) (xs := digs m.natAbs) (by simp)) (L7.out.get (A := A6) (c := c6) (xs := digs m.natAbs) (by simp)) (Nat.le_trans HML.out (by omega))).mono ?_
    rintro e w8 ⟨rfl, hb⟩
    have L8 := Lib.hid (L7.out.step hb)
    have Rx_8 := Lib.hid (cells_of Rx_7.out hb)
    have Rq10_8 := Lib.hid (cells_of Rq10_7.out hb)
    have Rcc_8 := Lib.hid (cells_of Rcc_7.out hb)
    clear hb 
    have fq100 := row_c (i := 0) Rq10_8.out rfl
    have zq100 := frozen_of_row _ _ 0 _ _ Rq10_8.out
    have fq101 := row_c (i := 1) Rq10_8.out rfl
    have zq101 := frozen_of_row _ _ 1 _ _ Rq10_8.out
    have xq10 := heap_lt Rq10_8.out
    go_wp2_with fail
    refine (ztx_n (L8.out.get (A := B9) (c := d9) (xs := digs m.natAbs) (by simp)) (Nat.le_trans HML.out (by omega)) (p10_below HT.out L8.out.1) HTX.out).mono ?_
    rintro e w9 ⟨rfl, hb⟩
    have L9 := Lib.hid (L8.out.step hb)
    clear fq100 zq100 fq101 zq101 xq10
    have Rx_9 := Lib.hid (cells_of Rx_8.out hb)
    have Rq10_9 := Lib.hid (cells_of Rq10_8.out hb)
    have Rcc_9 := Lib.hid (cells_of Rcc_8.out hb)
    clear hb 
    have d0 := D0.out
    have hlong := HLONG.out
    have dl : decide ((TX.size : Int) ≤ 0) = false := decide_eq_false (by omega)
    have dl2 : ¬ (TX.size : Int) ≤ 0 := by omega
    have dl3 : ¬ TX = ByteArray.empty := fun e => by subst e; simp at hlong
    have fq100 := row_c (i := 0) Rq10_9.out rfl
    have zq100 := frozen_of_row _ _ 0 _ _ Rq10_9.out
    have fq101 := row_c (i := 1) Rq10_9.out rfl
    have zq101 := frozen_of_row _ _ 1 _ _ Rq10_9.out
    have xq10 := heap_lt Rq10_9.out
    go_wp2_with fail
    refine (FZ.out _).mono ?_
    rintro e w10 ⟨A10, c10, rfl, hd, hb⟩
    have L10 := Lib.hid ((L9.out.step hb).add hd)
    clear fq100 zq100 fq101 zq101 xq10
    have Rx_10 := Lib.hid (cells_of Rx_9.out hb)
    have Rq10_10 := Lib.hid (cells_of Rq10_9.out hb)
    have Rcc_10 := Lib.hid (cells_of Rcc_9.out hb)
    clear hb hd
    clear d0 dl dl2 dl3 hlong
    go_wp2_with fail
    obtain ⟨w11, hW⟩ : ∃ W : World, W = (w10.alloc (.cells #[.bool (decide (z0 < 0)), .slice A10 (digs z0.natAbs).length c10] 24)) := ⟨_, rfl⟩
    rw [← hW]
    have hb : Below w10.heap.size w10 w11 := by rw [hW]; exact ((Below.refl _ _).alloc (by simp <;> omega) _)
    have L11 := Lib.hid (L10.out.step hb)
    have Rx_11 := Lib.hid (cells_of Rx_10.out hb)
    have Rq10_11 := Lib.hid (cells_of Rq10_10.out hb)
    have Rcc_11 := Lib.hid (cells_of Rcc_10.out hb)
    have Rnn_11 := Lib.hid (show w11.heap[w10.heap.size]? = some (.cells #[.bool (decide (z0 < 0)), .slice A10 (digs z0.natAbs).length c10] 24 (0, 0)) by rw [hW]; have := heap_alloc_new w10 (.cells #[.bool (decide (z0 < 0)), .slice A10 (digs z0.natAbs).length c10] 24); simpa using this)
    have Gnn : w.heap.size ≤ w10.heap.size := by have := L10.out.1.size; omega
    have Nxnn : w.heap.size < w10.heap.size := by have := heap_lt Rx_10.out; omega
    have Nq10nn : g10 < w10.heap.size := by have := heap_lt Rq10_10.out; omega
    have Nccnn : w6.heap.size < w10.heap.size := by have := heap_lt Rcc_10.out; omega
    clear hW hb
    go_loopg [18] (TX.size - 0) (fun g kv wr => ∃ (k : Nat) (z : Int) (A3 : Option Addr) (c3 : Nat), kv = .int .i64 k ∧ Hid (k + g = TX.size) ∧ Hid (0 ≤ k) ∧ Hid (z = ((tn m k : Nat) : Int)) ∧ Hid (Live w wr [(A3, c3, digs z.natAbs), (B9, d9, digs m.natAbs)]) ∧ Hid (wr.heap[g10]? = some (.cells #[.bool (decide (m < 0)), .slice B9 (digs m.natAbs).length d9] 24 (0, 0))) ∧ Hid (wr.heap[w10.heap.size]? = some (.cells #[.bool (decide (z < 0)), .slice A3 (digs z.natAbs).length c3] 24 (0, 0))))
    case atStart => exact ⟨0, z0, A10, c10, rfl, Lib.hid (by have := HLONG.out; omega), Lib.hid (Nat.le_refl _), HZ0, Lib.hid ((((live_start w).step L11.out.1).add (L11.out.get (A := B9) (c := d9) (xs := digs m.natAbs) (by simp))).add (L11.out.get (A := A10) (c := c10) (xs := digs z0.natAbs) (by simp))), Rq10_11, Rnn_11⟩
    case round =>
      obtain ⟨k, z, A3, c3, rfl, HK, HF, HZ, LR, RRQ, HR⟩ := hrel
      by_cases hlt : k < TX.size
      · skip
        obtain ⟨D, hD⟩ : ∃ D, Bt (tz m) k = D := ⟨_, rfl⟩
        have hdd := tz_digit m k (by have := HF.out; rw [HFR.out]; exact this) (by have := EX2.out; omega)
        rw [hD] at hdd
        obtain ⟨dd, hDe⟩ : ∃ d, D = d + 48 := ⟨D - 48, by omega⟩
        have HDE := Lib.hid hDe
        have hb1 : (TX[k]'hlt).toNat = D := by rw [bt_get TX k hlt, HTX.out]; exact hD
        have hst := tn_step m k (by have := HF.out; rw [HFR.out]; exact this) (by have := EX2.out; omega)
        rw [hD] at hst
        obtain ⟨z2, hz2⟩ : ∃ z : Int, z = ((tn m (k + 1) : Nat) : Int) := ⟨_, rfl⟩
        have HZ2 := Lib.hid hz2
        have HZZ := Lib.hid (show z * 10 + (dd : Int) = z2 by rw [hz2, hst, HZ.out, hDe]; omega)
        have HHD := Lib.hid (show D = 48 → k = 0 → TX.size = 1 from fun e1 e2 => by rw [EX2.out]; exact tz_head m (by rw [HFR.out, ← e2, hD, e1]))
        have HLD := Lib.hid (digs_len_le2 (show z.natAbs ≤ m.natAbs by have := HZ.out; have := tn_le m k; omega) HML.out)
        have HLM := Lib.hid (digs_mul10 HLD.out)
        have HLE := Lib.hid (digs_dd (show dd ≤ 9 by omega))
        have dle9 : dd ≤ 9 := by omega
        have HDD := Lib.hid dle9
        have ilt : (k : Int) < (TX.size : Int) := by omega
        have HLT := Lib.hid hlt
        have HD := Lib.hid hD
        have KS1 := Lib.hid (show k + 1 + (gk - 1) = TX.size by have := HK.out; omega)
        have KM1 := Lib.hid (show gk - 1 < gk by have := HK.out; omega)
        have KF1 := Lib.hid (show 0 ≤ k + 1 by have := HF.out; omega)
        have KW1 := Lib.hid (show wrap64 ((k : Int) + 1) = ((k + 1 : Nat) : Int) from IntWalk.wrap64_in _ ⟨by omega, by have := HTS.out; omega⟩)
        clear hst hz2 hdd hD hDe dle9
        go_upto_region 20 with (fail)
        go_cut [18, 119] from 88 to 129 (fun kv v wx => kv = .int .i64 (k : Int) ∧ v = .bool false ∧ wx = wr)
        case first =>
          have x1 : decide ((D : Int) < 48) = false := decide_eq_false (by have := HDE.out; omega)
          have x2 : decide ((57 : Int) < (D : Int)) = false := decide_eq_false (by have := HDE.out; have := HDD.out; omega)
          have x7 : ¬ ((D : Int) < 48) := by have := HDE.out; omega
          have x8 : ¬ ((57 : Int) < (D : Int)) := by have := HDE.out; have := HDD.out; omega
          have EX : (¬ (D : Int) = 48) ∨ ((D : Int) = 48 ∧ ¬ (k : Int) = 0) ∨ ((D : Int) = 48 ∧ (k : Int) = 0 ∧ decide (1 < TX.size) = false ∧ decide ((1 : Int) < (TX.size : Int)) = false ∧ ¬ (1 < TX.size) ∧ Hid (k = 0)) := by
            by_cases e1 : D = 48
            · by_cases e2 : k = 0
              · have e3 := HHD.out e1 e2
                exact .inr (.inr ⟨by omega, by omega, decide_eq_false (by omega), decide_eq_false (by omega), by omega, Lib.hid e2⟩)
              · exact .inr (.inl ⟨by omega, by omega⟩)
            · exact .inl (by omega)
          rcases EX with x3 | ⟨x3, x4⟩ | ⟨x3, x4, x5, x6, x9, HK1⟩
          · go_wp2_with fail
            go_meet
            case rel => exact ⟨rfl, rfl, rfl⟩
          · go_wp2_with fail
            go_meet
            case rel => exact ⟨rfl, rfl, rfl⟩
          · try have h12 : (1 : Int) < (TX.size : Int) := by omega
            have h13 := HLONG.out
            first | (exfalso; omega) | (clear h13 x4; have e0 := HK1.out; clear HK1; subst e0; go_wp2_with fail; go_meet; case rel => exact ⟨rfl, rfl, rfl⟩)
        case rest =>
          obtain ⟨rfl, rfl, hwc⟩ := hcut
          obtain rfl : wr = wc := hwc.symm
          clear hb1
          go_wp2_with fail
          refine wp_operands (W := wr) rfl 10 [120, 121, 122, 123, 124, 125, 126, 127, 128, 129] (fun i u ww => match i with | 0 => u = .agg #[.bool (decide (z < 0)), .slice A3 (digs z.natAbs).length c3] | 1 => ∃ A c, u = .agg #[.bool (decide ((10 : Int) < 0)), .slice A (digs (10 : Int).natAbs).length c] ∧ Dg ww A c (digs (10 : Int).natAbs) | 2 => ∃ A c, u = .agg #[.bool (decide (z * 10 < 0)), .slice A (digs (z * 10).natAbs).length c] ∧ Dg ww A c (digs (z * 10).natAbs) | 3 => u = .string TX | 4 => u = .int .i64 k | 5 => u = .int .u8 (D : Int) | 6 => u = .int .u8 dd | 7 => u = .int .i64 dd | 8 => ∃ A c, u = .agg #[.bool (decide ((dd : Int) < 0)), .slice A (digs ((dd : Int)).natAbs).length c] ∧ Dg ww A c (digs (dd : Int).natAbs) | 9 => ∃ A c, u = .agg #[.bool (decide (z2 < 0)), .slice A (digs (z2).natAbs).length c] ∧ Dg ww A c (digs z2.natAbs) | _ => True) (fun i => decide (i ∈ ([] : List Nat)))
            (by decide) rfl (by kernel_rfl) (by kernel_rfl) (by decide) (by kernel_rfl) ?_ ?_ ?_ ?_
          · intro i u x y hi h hb
            have hi' : i = 0 ∨ i = 1 ∨ i = 2 ∨ i = 3 ∨ i = 4 ∨ i = 5 ∨ i = 6 ∨ i = 7 ∨ i = 8 ∨ i = 9 := by omega
            rcases hi' with rfl | rfl | rfl | rfl | rfl | rfl | rfl | rfl | rfl | rfl
            · exact h
            · obtain ⟨A, c, e, hd⟩ := h
              exact ⟨A, c, e, hd.below hb⟩
            · obtain ⟨A, c, e, hd⟩ := h
              exact ⟨A, c, e, hd.below hb⟩
            · exact h
            · exact h
            · exact h
            · exact h
            · exact h
            · obtain ⟨A, c, e, hd⟩ := h
              exact ⟨A, c, e, hd.below hb⟩
            · obtain ⟨A, c, e, hd⟩ := h
              exact ⟨A, c, e, hd.below hb⟩
          · intro i u x hi; simp at hi
          · intro i a x KK hi hF hb hw hK
            have hi' : i = 0 ∨ i = 1 ∨ i = 2 ∨ i = 3 ∨ i = 4 ∨ i = 5 ∨ i = 6 ∨ i = 7 ∨ i = 8 ∨ i = 9 := by omega
            rcases hi' with rfl | rfl | rfl | rfl | rfl | rfl | rfl | rfl | rfl | rfl
            · simp only [wpOp, List.getElem?_toArray, List.getElem?_cons_zero, Region.wanted, if_true]
              refine Or.inl ?_
              have e0 : a.eval (.tmp 17) = .pointer (some ⟨w10.heap.size, 0, none⟩) := hF.2.2 17 (by decide)
              have f0 := row_cell HR.out hb 0
              have f1 := row_cell HR.out hb 1
              simp only [List.getElem?_toArray, List.getElem?_cons_succ, List.getElem?_cons_zero] at f0 f1
              clear hw hF
              simp only [Oper.wp, execOp]
              rw [e0]
              go_simp
              exact hK _ x (by first | rfl | simp) (Below.refl _ _) (fun h => by simp at h)
            · simp only [wpOp, List.getElem?_toArray, List.getElem?_cons_succ, List.getElem?_cons_zero, Region.wanted, if_true]
              refine Or.inl ?_
              clear hw hF
              simp only [Oper.wp, execOp]
              go_simp
              refine (zfrom_any 10 _ (by omega) (by omega)).mono ?_
              rintro e y ⟨A2, c2, rfl, hd2, hbb⟩
              exact hK _ y ⟨A2, c2, rfl, hd2⟩ hbb (fun h => by simp at h)
            · simp only [wpOp, List.getElem?_toArray, List.getElem?_cons_succ, List.getElem?_cons_zero, Region.wanted, if_true]
              refine Or.inl ?_
              have e0 : a.tmps.getD 120 undef = .agg #[.bool (decide (z < 0)), .slice A3 (digs z.natAbs).length c3] := hw 0 (by kernel_rfl)
              obtain ⟨A', c', e1, hd⟩ := hw 1 (by kernel_rfl)
              have e1 : a.tmps.getD 121 undef = _ := e1
              clear hw hF
              simp only [Oper.wp, execOp]
              go_simp
              refine (zmul_n ((LR.out.step hb).get (A := A3) (c := c3) (xs := digs z.natAbs) (by simp)) hd (Nat.le_trans HLD.out (by omega)) (Nat.le_trans (digs_small (n := (10 : Int).natAbs) (by decide)) (by omega)) rfl).mono ?_
              rintro e y ⟨A2, c2, rfl, hd2, hbb⟩
              exact hK _ y ⟨A2, c2, rfl, hd2⟩ hbb (fun h => by simp at h)
            · simp only [wpOp, List.getElem?_toArray, List.getElem?_cons_succ, List.getElem?_cons_zero, Region.wanted, if_true]
              refine Or.inl ?_
              have e0 : a.eval (.tmp 15) = .string TX := hF.2.2 15 (by decide)
              clear hw hF
              simp only [Oper.wp, execOp]
              rw [e0]
              go_simp
              exact hK _ x (by first | rfl | simp) (Below.refl _ _) (fun h => by simp at h)
            · simp only [wpOp, List.getElem?_toArray, List.getElem?_cons_succ, List.getElem?_cons_zero, Region.wanted, if_true]
              refine Or.inl ?_
              have e0 : a.eval (.tmp 18) = .int .i64 k := hF.2.2 18 (by decide)
              clear hw hF
              simp only [Oper.wp, execOp]
              rw [e0]
              go_simp
              exact hK _ x (by first | rfl | simp) (Below.refl _ _) (fun h => by simp at h)
            · simp only [wpOp, List.getElem?_toArray, List.getElem?_cons_succ, List.getElem?_cons_zero, Region.wanted, if_true]
              refine Or.inl ?_
              have e0 : a.eval (.tmp 123) = .string TX := hw 3 (by kernel_rfl)
              have e1 : a.eval (.tmp 124) = .int .i64 k := hw 4 (by kernel_rfl)
              have II := ix_rn TX (k : Int) k D rfl HLT.out (by rw [HTX.out]; exact HD.out)
              clear hw hF
              simp only [Oper.wp, execOp]
              rw [e0, e1]
              go_simp
              exact hK _ x (by first | rfl | simp) (Below.refl _ _) (fun h => by simp at h)
            · simp only [wpOp, List.getElem?_toArray, List.getElem?_cons_succ, List.getElem?_cons_zero, Region.wanted, if_true]
              refine Or.inl ?_
              have e0 : a.eval (.tmp 125) = .int .u8 (D : Int) := hw 5 (by kernel_rfl)
              have hs1 : (D : Int) - 48 = (dd : Int) := by have := HDE.out; omega
              have hs2 : IntKind.u8.wrap (dd : Int) = (dd : Int) := wrap_u8 HDD.out
              clear hw hF
              simp only [Oper.wp, execOp]
              rw [e0]
              go_simp
              exact hK _ x (by first | rfl | simp) (Below.refl _ _) (fun h => by simp at h)
            · simp only [wpOp, List.getElem?_toArray, List.getElem?_cons_succ, List.getElem?_cons_zero, Region.wanted, if_true]
              refine Or.inl ?_
              have e0 : a.eval (.tmp 126) = .int .u8 dd := hw 6 (by kernel_rfl)
              have hs2 : IntKind.i64.wrap (dd : Int) = (dd : Int) := wrap_i64_eq _ (by omega) (by have := HDD.out; omega)
              clear hw hF
              simp only [Oper.wp, execOp]
              rw [e0]
              go_simp
              exact hK _ x (by first | rfl | simp) (Below.refl _ _) (fun h => by simp at h)
            · simp only [wpOp, List.getElem?_toArray, List.getElem?_cons_succ, List.getElem?_cons_zero, Region.wanted, if_true]
              refine Or.inl ?_
              have e0 : a.tmps.getD 127 undef = .int .i64 dd := hw 7 (by kernel_rfl)
              clear hw hF
              simp only [Oper.wp, execOp]
              go_simp
              refine (zfrom_any (dd : Int) _ (by have := HDD.out; omega) (by have := HDD.out; omega)).mono ?_
              rintro e y ⟨A2, c2, rfl, hd2, hbb⟩
              exact hK _ y ⟨A2, c2, rfl, hd2⟩ hbb (fun h => by simp at h)
            · simp only [wpOp, List.getElem?_toArray, List.getElem?_cons_succ, List.getElem?_cons_zero, Region.wanted, if_true]
              refine Or.inl ?_
              obtain ⟨A', c', e0, hd⟩ := hw 2 (by kernel_rfl)
              have e0 : a.tmps.getD 122 undef = _ := e0
              obtain ⟨A', c', e1, hd'⟩ := hw 8 (by kernel_rfl)
              have e1 : a.tmps.getD 128 undef = _ := e1
              clear hw hF
              simp only [Oper.wp, execOp]
              go_simp
              refine (zadd_n hd hd' HLM.out HLE.out HZZ.out).mono ?_
              rintro e y ⟨A2, c2, rfl, hd2, hbb⟩
              exact hK _ y ⟨A2, c2, rfl, hd2⟩ hbb (fun h => by simp at h)
          · intro a x hF0 hb hR _
            have hF : Fr6 [120, 121, 122, 123, 124, 125, 126, 127, 128, 129] _ a := hF0
            have e0 : a.tmps.getD 120 undef = .agg #[.bool (decide (z < 0)), .slice A3 (digs z.natAbs).length c3] := hR 0 (by decide)
            obtain ⟨Bi1, di1, h1, hd1⟩ := hR 1 (by decide)
            have e1 : a.tmps.getD 121 undef = _ := h1
            obtain ⟨Bi2, di2, h2, hd2⟩ := hR 2 (by decide)
            have e2 : a.tmps.getD 122 undef = _ := h2
            have e3 : a.tmps.getD 123 undef = .string TX := hR 3 (by decide)
            have e4 : a.tmps.getD 124 undef = .int .i64 k := hR 4 (by decide)
            have e5 : a.tmps.getD 125 undef = .int .u8 (D : Int) := hR 5 (by decide)
            have e6 : a.tmps.getD 126 undef = .int .u8 dd := hR 6 (by decide)
            have e7 : a.tmps.getD 127 undef = .int .i64 dd := hR 7 (by decide)
            obtain ⟨Bi8, di8, h8, hd8⟩ := hR 8 (by decide)
            have e8 : a.tmps.getD 128 undef = _ := h8
            obtain ⟨Bi9, di9, h9, hd9⟩ := hR 9 (by decide)
            have e9 : a.tmps.getD 129 undef = _ := h9
            rw [hF.fold (by kernel_rfl)]
            simp only [List.foldl_cons, List.foldl_nil, e0, e1, e2, e3, e4, e5, e6, e7, e8, e9]
            simp only [Act.put, List.setIfInBounds_toArray, List.set_cons_zero, List.set_cons_succ]
            clear e0 e1 e2 e3 e4 e5 e6 e7 e8 e9 hR hF hF0 h1 h2 h8 h9
            obtain ⟨w12, hW⟩ : ∃ W : World, W = x := ⟨_, rfl⟩
            rw [← hW]
            rw [← hW] at hb hd1 hd2 hd8 hd9
            have L12 := Lib.hid (((((LR.out.step hb).add hd1).add hd2).add hd8).add hd9)
            have Rq10_12 := Lib.hid (cells_of RRQ.out hb)
            have Rnn_12 := Lib.hid (cells_of HR.out hb)
            clear hW hb hd1 hd2 hd8 hd9
            have fnn0 := row_c (i := 0) Rnn_12.out rfl
            have znn0 := frozen_of_row _ _ 0 _ _ Rnn_12.out
            have fnn1 := row_c (i := 1) Rnn_12.out rfl
            have znn1 := frozen_of_row _ _ 1 _ _ Rnn_12.out
            have xnn := heap_lt Rnn_12.out
            first | simp only [wpOps_cons] | rw [wpOps_cons] | (change wpOps _ _ _ [10] _ _; simp only [wpOps_cons])
            simp only [wpOp, List.getElem?_toArray, List.getElem?_cons_succ, List.getElem?_cons_zero, Region.wanted, if_true]
            refine Or.inl ?_
            simp only [Oper.wp, execOp]
            go_simp
            try simp only [wpOps]
            clear fnn0 znn0 fnn1 znn1 xnn
            obtain ⟨w13, hW⟩ : ∃ W : World, W = ((w12.setCell ⟨w10.heap.size, 0, none⟩ (.bool (decide (z2 < 0)))).setCell ⟨w10.heap.size, 1, none⟩ (.slice Bi9 (digs z2.natAbs).length di9)) := ⟨_, rfl⟩
            rw [← hW]
            have hO : Only (w10.heap.size) w12 w13 := by rw [hW]; exact (((Only.refl (w10.heap.size) w12).setCell 0 _).setCell 1 _)
            have L13 := Lib.hid (live_only L12.out hO Rnn_12.out noint_int Gnn)
            have Rq10_13 := Lib.hid ((hO.block _ (by omega)).trans Rq10_12.out)
            have Rnn_13 := Lib.hid (show w13.heap[w10.heap.size]? = some (.cells #[.bool (decide (z2 < 0)), .slice Bi9 (digs z2.natAbs).length di9] 24 (0, 0)) by rw [hW]; exact (heap_setCell_same _ _ 1 _ _ _ (heap_setCell_same _ _ 0 _ _ _ Rnn_12.out)))
            clear hW hO
            go_wp2
            go_roundg (gk - 1)
            case rel => exact ⟨k + 1, z2, Bi9, di9, congrArg (Value.int .i64) KW1.out, KS1, KF1, HZ2, Lib.hid ((((live_start w).step L13.out.1).add (L13.out.get (A := B9) (c := d9) (xs := digs m.natAbs) (by simp))).add (L13.out.get (A := Bi9) (c := di9) (xs := digs z2.natAbs) (by simp))), Rq10_13, Rnn_13⟩
            case measure => exact KM1.out
      · have hk2 : k = TX.size := by have := HK.out; omega
        have HZA := Lib.hid (show z.natAbs = m.natAbs by rw [HZ.out, hk2, EX2.out, tn_all]; rfl)
        clear hlt
        subst hk2
        have HLZ := Lib.hid (show (digs z.natAbs).length ≤ 12 by rw [HZA.out]; exact HML.out)
        go_wp2_with fail
        refine wp_operands (W := wr) rfl 7 [130, 131, 132, 133, 134, 135, 136] (fun i u ww => match i with | 0 => u = .pointer (some ⟨g10, 0, none⟩) | 1 => u = .bool (decide (m < 0)) | 2 => u = .pointer (some ⟨w10.heap.size, 1, none⟩) | 3 => u = .slice A3 (digs z.natAbs).length c3 | 4 => ∃ A c, u = .agg #[.bool (decide (m < 0)), .slice A (digs (m).natAbs).length c] ∧ Dg ww A c (digs m.natAbs) | 5 => u = .agg #[.bool (decide (m < 0)), .slice B9 (digs m.natAbs).length d9] | 6 => u = .bool true | _ => True) (fun i => decide (i ∈ ([] : List Nat)))
          (by decide) rfl (by kernel_rfl) (by kernel_rfl) (by decide) (by kernel_rfl) ?_ ?_ ?_ ?_
        · intro i u x y hi h hb
          have hi' : i = 0 ∨ i = 1 ∨ i = 2 ∨ i = 3 ∨ i = 4 ∨ i = 5 ∨ i = 6 := by omega
          rcases hi' with rfl | rfl | rfl | rfl | rfl | rfl | rfl
          · exact h
          · exact h
          · exact h
          · exact h
          · obtain ⟨A, c, e, hd⟩ := h
            exact ⟨A, c, e, hd.below hb⟩
          · exact h
          · exact h
        · intro i u x hi; simp at hi
        · intro i a x KK hi hF hb hw hK
          have hi' : i = 0 ∨ i = 1 ∨ i = 2 ∨ i = 3 ∨ i = 4 ∨ i = 5 ∨ i = 6 := by omega
          rcases hi' with rfl | rfl | rfl | rfl | rfl | rfl | rfl
          · simp only [wpOp, List.getElem?_toArray, List.getElem?_cons_zero, Region.wanted, if_true]
            refine Or.inl ?_
            have e0 : a.eval (.tmp 8) = .pointer (some ⟨g10, 0, none⟩) := hF.2.2 8 (by decide)
            clear hw hF
            simp only [Oper.wp, execOp]
            rw [e0]
            go_simp
            exact hK _ x (by first | rfl | simp) (Below.refl _ _) (fun h => by simp at h)
          · simp only [wpOp, List.getElem?_toArray, List.getElem?_cons_succ, List.getElem?_cons_zero, Region.wanted, if_true]
            refine Or.inl ?_
            have e0 : a.eval (.tmp 130) = .pointer (some ⟨g10, 0, none⟩) := hw 0 (by kernel_rfl)
            have f0 := row_cell RRQ.out hb 0
            have f1 := row_cell RRQ.out hb 1
            simp only [List.getElem?_toArray, List.getElem?_cons_succ, List.getElem?_cons_zero] at f0 f1
            clear hw hF
            simp only [Oper.wp, execOp]
            rw [e0]
            go_simp
            exact hK _ x (by first | rfl | simp) (Below.refl _ _) (fun h => by simp at h)
          · simp only [wpOp, List.getElem?_toArray, List.getElem?_cons_succ, List.getElem?_cons_zero, Region.wanted, if_true]
            refine Or.inl ?_
            have e0 : a.eval (.tmp 17) = .pointer (some ⟨w10.heap.size, 0, none⟩) := hF.2.2 17 (by decide)
            clear hw hF
            simp only [Oper.wp, execOp]
            rw [e0]
            go_simp
            exact hK _ x (by first | rfl | simp) (Below.refl _ _) (fun h => by simp at h)
          · simp only [wpOp, List.getElem?_toArray, List.getElem?_cons_succ, List.getElem?_cons_zero, Region.wanted, if_true]
            refine Or.inl ?_
            have e0 : a.eval (.tmp 132) = .pointer (some ⟨w10.heap.size, 1, none⟩) := hw 2 (by kernel_rfl)
            have f0 := row_cell HR.out hb 0
            have f1 := row_cell HR.out hb 1
            simp only [List.getElem?_toArray, List.getElem?_cons_succ, List.getElem?_cons_zero] at f0 f1
            clear hw hF
            simp only [Oper.wp, execOp]
            rw [e0]
            go_simp
            exact hK _ x (by first | rfl | simp) (Below.refl _ _) (fun h => by simp at h)
          · simp only [wpOp, List.getElem?_toArray, List.getElem?_cons_succ, List.getElem?_cons_zero, Region.wanted, if_true]
            refine Or.inl ?_
            have e0 : a.tmps.getD 131 undef = .bool (decide (m < 0)) := hw 1 (by kernel_rfl)
            have e1 : a.tmps.getD 133 undef = .slice A3 (digs z.natAbs).length c3 := hw 3 (by kernel_rfl)
            clear hw hF
            simp only [Oper.wp, execOp]
            go_simp
            refine (zmk_n ((LR.out.step hb).get (A := A3) (c := c3) (xs := digs z.natAbs) (by simp)) (Nat.le_trans HLZ.out (by omega)) HZA.out).mono ?_
            rintro e y ⟨A2, c2, rfl, hd2, hbb⟩
            exact hK _ y ⟨A2, c2, rfl, hd2⟩ hbb (fun h => by simp at h)
          · simp only [wpOp, List.getElem?_toArray, List.getElem?_cons_succ, List.getElem?_cons_zero, Region.wanted, if_true]
            refine Or.inl ?_
            have e0 : a.eval (.tmp 8) = .pointer (some ⟨g10, 0, none⟩) := hF.2.2 8 (by decide)
            have f0 := row_cell RRQ.out hb 0
            have f1 := row_cell RRQ.out hb 1
            simp only [List.getElem?_toArray, List.getElem?_cons_succ, List.getElem?_cons_zero] at f0 f1
            clear hw hF
            simp only [Oper.wp, execOp]
            rw [e0]
            go_simp
            exact hK _ x (by first | rfl | simp) (Below.refl _ _) (fun h => by simp at h)
          · simp only [wpOp, List.getElem?_toArray, List.getElem?_cons_succ, List.getElem?_cons_zero, Region.wanted, if_true]
            refine Or.inl ?_
            obtain ⟨A', c', e0, hd⟩ := hw 4 (by kernel_rfl)
            have e0 : a.tmps.getD 134 undef = _ := e0
            have e1 : a.tmps.getD 135 undef = .agg #[.bool (decide (m < 0)), .slice B9 (digs m.natAbs).length d9] := hw 5 (by kernel_rfl)
            clear hw hF
            simp only [Oper.wp, execOp]
            go_simp
            refine (same_n hd ((LR.out.step hb).get (A := B9) (c := d9) (xs := digs m.natAbs) (by simp)) (Nat.le_trans HML.out (by omega))).mono ?_
            rintro e y ⟨rfl, hbb⟩
            exact hK _ y rfl hbb (fun h => by simp at h)
        · intro a x hF0 hb hR _
          have hF : Fr6 [130, 131, 132, 133, 134, 135, 136] _ a := hF0
          have e0 : a.tmps.getD 130 undef = .pointer (some ⟨g10, 0, none⟩) := hR 0 (by decide)
          have e1 : a.tmps.getD 131 undef = .bool (decide (m < 0)) := hR 1 (by decide)
          have e2 : a.tmps.getD 132 undef = .pointer (some ⟨w10.heap.size, 1, none⟩) := hR 2 (by decide)
          have e3 : a.tmps.getD 133 undef = .slice A3 (digs z.natAbs).length c3 := hR 3 (by decide)
          obtain ⟨B4, d4, h4, hd4⟩ := hR 4 (by decide)
          have e4 : a.tmps.getD 134 undef = _ := h4
          have e5 : a.tmps.getD 135 undef = .agg #[.bool (decide (m < 0)), .slice B9 (digs m.natAbs).length d9] := hR 5 (by decide)
          have e6 : a.tmps.getD 136 undef = .bool true := hR 6 (by decide)
          rw [hF.fold (by kernel_rfl)]
          simp only [List.foldl_cons, List.foldl_nil, e0, e1, e2, e3, e4, e5, e6]
          simp only [Act.put, List.setIfInBounds_toArray, List.set_cons_zero, List.set_cons_succ]
          clear e0 e1 e2 e3 e4 e5 e6 hR hF hF0 h4
          obtain ⟨w62, hW⟩ : ∃ W : World, W = x := ⟨_, rfl⟩
          rw [← hW]
          rw [← hW] at hb hd4
          have L62 := Lib.hid ((LR.out.step hb).add hd4)
          have Rq10_62 := Lib.hid (cells_of RRQ.out hb)
          have Rnn_62 := Lib.hid (cells_of HR.out hb)
          clear hW hb hd4
          first | simp only [wpOps_cons] | rw [wpOps_cons] | (change wpOps _ _ _ [7] _ _; simp only [wpOps_cons])
          simp only [wpOp, List.getElem?_toArray, List.getElem?_cons_succ, List.getElem?_cons_zero, Region.wanted, if_true]
          refine Or.inl ?_
          simp only [Oper.wp, execOp]
          go_simp
          try simp only [wpOps]
          go_wp2_with fail
          refine (DZ.out _).mono ?_
          rintro e w63 ⟨A63, c63, rfl, hd, hb⟩
          have L63 := Lib.hid ((L62.out.step hb).add hd)
          have Rq10_63 := Lib.hid (cells_of Rq10_62.out hb)
          have Rnn_63 := Lib.hid (cells_of Rnn_62.out hb)
          clear hb hd
          go_wp2_with fail
          obtain ⟨w64, hW⟩ : ∃ W : World, W = (w63.alloc (.cells #[.bool (decide (mz < 0)), .slice A63 (digs mz.natAbs).length c63] 24)) := ⟨_, rfl⟩
          rw [← hW]
          have hb : Below w63.heap.size w63 w64 := by rw [hW]; exact ((Below.refl _ _).alloc (by simp <;> omega) _)
          have L64 := Lib.hid (L63.out.step hb)
          have Rq10_64 := Lib.hid (cells_of Rq10_63.out hb)
          have Rnn_64 := Lib.hid (cells_of Rnn_63.out hb)
          have Rdz_64 := Lib.hid (show w64.heap[w63.heap.size]? = some (.cells #[.bool (decide (mz < 0)), .slice A63 (digs mz.natAbs).length c63] 24 (0, 0)) by rw [hW]; have := heap_alloc_new w63 (.cells #[.bool (decide (mz < 0)), .slice A63 (digs mz.natAbs).length c63] 24); simpa using this)
          have Gdz : w.heap.size ≤ w63.heap.size := by have := L63.out.1.size; omega
          have Nq10dz : g10 < w63.heap.size := by have := heap_lt Rq10_63.out; omega
          have Nnndz : w10.heap.size < w63.heap.size := by have := heap_lt Rnn_63.out; omega
          clear hW hb
          have fdz0 := row_c (i := 0) Rdz_64.out rfl
          have zdz0 := frozen_of_row _ _ 0 _ _ Rdz_64.out
          have fdz1 := row_c (i := 1) Rdz_64.out rfl
          have zdz1 := frozen_of_row _ _ 1 _ _ Rdz_64.out
          have xdz := heap_lt Rdz_64.out
          go_wp2_with fail
          refine (DBZ.out _ _ _ (L64.out.get (A := A63) (c := c63) (xs := digs mz.natAbs) (by simp))).mono ?_
          rintro e w65 ⟨rfl, hb⟩
          have L65 := Lib.hid (L64.out.step hb)
          clear fdz0 zdz0 fdz1 zdz1 xdz
          have Rq10_65 := Lib.hid (cells_of Rq10_64.out hb)
          have Rnn_65 := Lib.hid (cells_of Rnn_64.out hb)
          have Rdz_65 := Lib.hid (cells_of Rdz_64.out hb)
          clear hb 
          go_wp2
          go_ret
          exact ⟨rfl, L65.out.1⟩

theorem zintTexts_any (Ax : Option Addr) (cx : Nat) (sx : Bool) (xsx : List Nat) (w : World) (hx : Dg w Ax cx xsx) (lx : xsx.length ≤ 9223372036854775807) (hT : P10 w) (rest b : ByteArray) (qr : rest.data.toList.length ≤ 4611686018427387904) (qb : b.data.toList.length ≤ 4611686018427387904) :
    Calls Tryd.prog 3 #[.agg #[.bool sx, .slice Ax xsx.length cx], .string rest, .string b] w fun e w' => e = .returned (.bool true) ∧ Below w.heap.size w w' := by
  by_cases hs : sg sx (val (xsx.take 12)) < 0
  · by_cases h : ∃ m r, (digs m.natAbs).length ≤ 400 ∧ b.data.toList = zb m ++ r
    · obtain ⟨m, r, hl, hb⟩ := h
      exact zlTexts_ny Ax cx sx xsx w hx lx hT rest b qr qb hs m ⟨r.toArray⟩ hb hl
    · exact zlTexts_nn Ax cx sx xsx w hx lx hT rest b qr qb hs h
  · by_cases h : ∃ m r, (digs m.natAbs).length ≤ 400 ∧ b.data.toList = zb m ++ r
    · obtain ⟨m, r, hl, hb⟩ := h
      exact zlTexts_py Ax cx sx xsx w hx lx hT rest b qr qb hs m ⟨r.toArray⟩ hb hl
    · exact zlTexts_pn Ax cx sx xsx w hx lx hT rest b qr qb hs h
end Go.Proofs.YtcciibejachjkaaDoor
end

section
/-
  ZintTexts, FOR EVERY ARGUMENT: the law returns true, and each argument reads behind the call as it read ahead of it. THE TIED CARD.
-/
namespace Go.Proofs.YtcciibejachjkaaDoor.zintTexts
open Go Go.ChangeShapes Go.WideShapes Go.ChangeAt Go.RowKit
set_option linter.unusedVariables false
/-- The door's own heap meets the condition. -/
theorem door_met (os : Os) (args : Array Value) : laidMetH Tryd.prog Rows.zintTextsRow.laid ((World.doorLaid Tryd.prog 400 os).forCall (fun _ _ => 0) ⟨#[], args, []⟩).memory :=
  laidMetH_of_parts3 (fuel := 8) (laidMet_of_run' 8 (by kernel_rfl) (by kernel_rfl)) (by kernel_rfl) (by kernel_rfl)
set_option maxRecDepth 100000 in
theorem lifted (os : Os) (started : os.Started) (H : Type) (enc : TypeId × Value → H) :
    ReturnsInHanded {} Tryd.checked os 3 .any (fun w args => (Rows.zintTextsSpec.pre enc Tryd.prog Tryd.f3 [] false w args ∧ laidMetH Tryd.prog Rows.zintTextsRow.laid w) ∧ sizedMet enc Tryd.prog Tryd.f3 (OpenSpec.ofChange Rows.zintTextsSpec) false w args)
      (Rows.zintTextsSpec.post enc Tryd.prog Tryd.f3 false true false false) := by
  refine returnsInHanded_of_change_and (C := Tryd.checked) (X := fun w _ => laidMetH Tryd.prog Rows.zintTextsRow.laid w) (fun _ _ _ hh h => h.of_heap hh) own started (by kernel_rfl) Tryd.func3
    (ChangeSpec.witness_shaped (enc := enc) (C := Tryd.checked) (os := os) (X := fun w _ => laidMetH Tryd.prog Rows.zintTextsRow.laid w) false (World.doorLaid Tryd.prog 400 os) #[.agg #[.bool false, .slice none 0 0], .string ⟨#[]⟩, .string ⟨#[]⟩] 8 rfl (World.shaped_of_RefB (by kernel_rfl) (by kernel_rfl)) (by kernel_rfl) (by kernel_rfl) (by kernel_rfl) (door_met os _)) ?_
  intro W base args ds gs before hval0 hW _ hsz hL _
  rw [MakeChecks.laidMetH_plain _ _ _ (by kernel_rfl)] at hL
  have htab := p10_laid hL
  clear hL
  have hval : ∀ (j : Nat) t v, Tryd.f3.params[j]? = some t → args[j]? = some v → Value.okWide Tryd.prog W .any base t v := hval0
  have hW' := hW
  obtain ⟨p, q, hA0, hV, rfl, hfz, hnd⟩ := hW
  have hA : DataW.TrodAll enc Tryd.prog W 0 (fun _ => true) true Tryd.f3.params.toList args.toList ds p := hA0
  rw [Tryd.params3] at hA hval
  obtain ⟨v0, vs0, d0, ds0, p0, q0, hargs, rfl, rfl, h0, r0⟩ := trodAll_cons hA
  obtain ⟨v1, vs1, d1, ds1, p1, q1, rfl, rfl, rfl, h1, r1⟩ := trodAll_cons r0
  obtain ⟨v2, vs2, d2, ds2, p2, q2, rfl, rfl, rfl, h2, r2⟩ := trodAll_cons r1
  obtain ⟨rfl, rfl, rfl⟩ := trodAll_nil r2
  obtain rfl : args = #[v0, v1, v2] := by cases args; simp_all
  obtain ⟨rfl, rfl⟩ := trodVars_none hV
  obtain ⟨s0, A0, c0, xs0, rfl, g0, l0⟩ := open_z (hval 0 _ _ rfl rfl) h0
  obtain ⟨b1, rfl, e1, e1', l1⟩ := Go.ChangeMaps.open_string Tryd.underlying9 (hval 1 _ _ rfl rfl) h1
  obtain ⟨b2, rfl, e2, e2', l2⟩ := Go.ChangeMaps.open_string Tryd.underlying9 (hval 2 _ _ rfl rfl) h2
  have q1 : b1.data.toList.length ≤ reachBytes := by
    subst e1
    exact sized_string (j := 1) (t := 9) hsz rfl rfl
  have q2 : b2.data.toList.length ≤ reachBytes := by
    subst e2
    exact sized_string (j := 2) (t := 9) hsz rfl rfl
  clear hA0
  simp only [List.append_nil] at hW'
  refine (zintTexts_any A0 c0 s0 xs0 W g0 l0 htab b1 b2 (by have := q1; unfold reachBytes at this; omega) (by have := q2; unfold reachBytes at this; omega)).mono fun e W' ⟨he, hb⟩ => ?_
  subst he
  have hlt := hW'.lt
  refine ⟨_, rfl, law_post (tb := 4) hW' hb rfl rfl Tryd.underlying4 rfl rfl fun sp hsp => ?_⟩
  have hr := trodAll_cons_mk (again (by kernel_rfl) (of_decide_eq_true (by kernel_rfl)) h0 hb (fun x hx => hlt x (by simp [hx])) sp (fun x hx => hsp x (by simp [hx]))) (trodAll_cons_mk (again (by kernel_rfl) (of_decide_eq_true (by kernel_rfl)) h1 hb (fun x hx => hlt x (by simp [hx])) sp (fun x hx => hsp x (by simp [hx]))) (trodAll_cons_mk (again (by kernel_rfl) (of_decide_eq_true (by kernel_rfl)) h2 hb (fun x hx => hlt x (by simp [hx])) sp (fun x hx => hsp x (by simp [hx]))) trodAll_mk0))
  simp only [List.append_nil] at hr
  exact hr
theorem row_holds : Rows.ZintTextsSaid :=
  OpenClaim.holds_of_wide 3 Tryd.f3 rfl rfl rfl rfl rfl rfl rfl ⟨rfl, rfl, rfl, rfl, rfl⟩ rfl rfl rfl rfl rfl (by kernel_rfl) Tryd.func3 (by kernel_rfl)
    (of_decide_eq_true (by kernel_rfl)) (by unfold Func.isWrapper; first | (rw [if_pos (by decide +kernel)]; kernel_rfl) | (rw [if_neg (by decide +kernel)]; exact ⟨rfl, rfl⟩))
    (fun os started H enc _ => lifted os started H enc)
/-- THE TIED CARD. -/
theorem proved : Rows.ZintTextsCardSaid :=
  Claim7.holds_tied_plain_at .later [] [.data, .data, .data] true (true, "ad0c005ded69f51b7960134f2de6d8987890a9991db61b5ca236e43a8fa93f74") false
    row_holds (fun _ h => by cases h) (by kernel_rfl) (fun _ h => by cases h) zintTexts_row_tie rfl ⟨rfl, rfl⟩ (by kernel_rfl) rfl
    (fun f fn hf hfn => by
      obtain rfl : f = 3 := Option.some.inj ((show Tryd.prog.funcNamed Rows.zintTextsRow.func = some 3 by kernel_rfl).symm.trans hf) |>.symm
      obtain rfl : fn = Tryd.f3 := (Option.some.inj (Tryd.func3.symm.trans hfn)).symm
      exact ⟨by kernel_rfl, fun j t ht => by
        have hall : (Tryd.f3.params.toList.all fun u => !Tryd.prog.wantsStandIn u) = true := by kernel_rfl
        exact (show Tryd.prog.wantsStandIn t = false by simpa using List.all_eq_true.1 hall t (Array.mem_toList_iff.2 (Array.mem_of_getElem? ht)))⟩)
    (by kernel_rfl)
end Go.Proofs.YtcciibejachjkaaDoor.zintTexts
end
