/-
  pager's Open: the head that counts.
-/
import Derived.Test.YtnpopbobpbbamaaGn
import Derived.Test.YtnpopbobpbbamaaPo
namespace Go.Proofs.Ytnpopbobpbbamaa
open Go.RowKit
set_option linter.unusedSimpArgs false
set_option linter.unusedVariables false
/-- A head in plain words. -/
structure Hd where
  t : Nat
  r : Nat
  u : Nat → Bool
def tO : Option Hd → Nat
  | none => 0
  | some h => h.t
def stepB (x o : Option Hd) : Option Hd :=
  match x with
  | none => o
  | some h => if tO o < h.t then some h else o
/-- The head of the greatest turn among the first pages. -/
def bst (G : Nat → Option Hd) : Nat → Option Hd
  | 0 => none
  | k + 1 => stepB (G k) (bst G k)
theorem bst_pos {G : Nat → Option Hd} {k : Nat} {q : Hd} (h : bst G k = some q) : 0 < q.t := by
  induction k with
  | zero => cases h
  | succ k ih =>
    have e : bst G (k + 1) = stepB (G k) (bst G k) := rfl
    rw [e] at h
    unfold stepB at h
    split at h
    · exact ih h
    · split at h
      · injection h with h
        subst h
        omega
      · exact ih h
def bxIs (w : World) (b : Nat) : Option Hd → Prop
  | none => w.heap[b]? = some (.cells #[.int .i64 0, .int .i64 0, .map none] 45 (0, 0))
  | some h => ∃ bm, w.heap[b]? = some (.cells #[.int .i64 (h.t : Int), .int .i64 (h.r : Int), .map (some bm)] 45 (0, 0)) ∧ Us w bm 512 h.u
theorem bxIs.below {w w' : World} {b : Nat} {o : Option Hd} (h : bxIs w b o) (hb : Below w.heap.size w w') : bxIs w' b o := by
  cases o with
  | none => exact row_on (show w.heap[b]? = _ from h) hb
  | some q =>
    obtain ⟨bm, h1, h2⟩ := h
    exact ⟨bm, row_on h1 hb, h2.below hb⟩
theorem bxIs.turn {w : World} {b : Nat} {o : Option Hd} (h : bxIs w b o) : ∃ R m, w.heap[b]? = some (.cells #[.int .i64 (tO o : Int), R, m] 45 (0, 0)) := by
  cases o with
  | none => exact ⟨_, _, h⟩
  | some q =>
    obtain ⟨bm, h1, h2⟩ := h
    exact ⟨_, _, h1⟩
/-- What stands in a head's page. -/
def pgOk (M n : Nat) (b : List UInt8) : Option Hd → Prop
  | none => openE b ≠ 0
  | some h => b = sealL 1 (headL h.t h.r h.u) ∧ Fits h.t h.r h.u n M
theorem openE_cases (b : List UInt8) : openE b = 0 ∨ openE b = 2 ∨ openE b = 10 := by
  unfold openE
  split
  · exact .inr (.inl rfl)
  split
  · exact .inr (.inr rfl)
  split
  · exact .inl rfl
  · exact .inr (.inl rfl)
set_option maxHeartbeats 8000000 in
set_option maxRecDepth 100000 in
theorem popen_any {B g gs : Nat} {v : Value} {S : List (List UInt8)} {C : List Wt} (G : Nat → Option Hd) (M : Nat) (w : World) (h : Dk B w g gs v S C) (hM : S.length / 2 = M) (h4 : 4 ≤ M) (hC : C.length ≤ 1000)
    (hG : ∀ n, n < 2 → ∃ b, rd S C (2 * n) ++ rd S C (2 * n + 1) = b ∧ b.length ≤ 128 ∧ pgOk M n b (G n)) (o : Option Hd) (ho : bst G 2 = o) :
    Calls Try.prog 14 #[.pointer (some ⟨g, 0, none⟩)] w fun e w' => (o = none ∧ e = .returned (.tuple #[.pointer none, .int .i64 5]) ∧ Below w.heap.size w w') ∨ (∃ q p bm, o = some q ∧ e = .returned (.tuple #[.pointer (some ⟨p, 0, none⟩), .int .i64 0]) ∧ w.heap.size ≤ p ∧ Pb w' p (q.t : Int) (q.r : Int) (.map (some bm)) g (.slice none 0 0) ∧ Us w' bm 512 q.u ∧ Below w.heap.size w w') := by
  have PO := Lib.hid (fun (X : World) (hX : Below w.heap.size w X) => pagesOf_any M X (h.below hX) hM)
  have HD := Lib.hid h
  have n4 : decide ((M : Int) < 4) = false := decide_eq_false (by omega)
  have n4' : decide (M < 4) = false := decide_eq_false (by omega)
  have HC := Lib.hid hC
  have HG := Lib.hid hG
  have HO := Lib.hid ho
  have HM := Lib.hid (show 2 * 1 + 1 < S.length ∧ M ≤ 512 from ⟨by omega, by have := h.n2; omega⟩)
  obtain ⟨V, hV⟩ : ∃ V : World, V = w.alloc (.cells #[.int .i64 0, .int .i64 0, .map none] 45) := ⟨_, rfl⟩
  have hbV : Below w.heap.size w V := by rw [hV]; exact bda _ _
  have XV := Lib.hid (show bxIs V w.heap.size (bst G 0) by show V.heap[w.heap.size]? = _; rw [hV]; exact heap_alloc_new _ _)
  have BV := Lib.hid hbV
  have PO0 := Lib.hid (PO.out w (Below.refl _ _))
  clear h hM h4 hC hG ho hbV
  go_enter Try.func14, Try.ntmps14
  go_wp2_with fail
  refine PO0.out.mono ?_
  rintro e w1 ⟨rfl, hw⟩
  obtain rfl : w = w1 := hw.symm
  clear hw
  go_wp2_with fail
  rw [← hV]
  clear hV n4 n4' PO0
  go_loopw [14] (fun kv wr => ∃ k : Nat, k ≤ 2 ∧ kv = .int .i64 k ∧ Hid (bxIs wr w.heap.size (bst G k)) ∧ Hid (Below w.heap.size w wr)) (fun kv _ => 2 - (intOf kv).toNat)
  case atStart => exact ⟨0, by omega, rfl, XV, BV⟩
  case round =>
    obtain ⟨k, hk, rfl, hx, hbl⟩ := hrel
    by_cases hk2 : k < 2
    · obtain ⟨b, hb, hl, hp⟩ := HG.out k hk2
      have PR := Lib.hid (pread_any k wr (HD.out.below hbl.out) (by have := HM.out.1; omega) HC.out b hb hl)
      have d1 : decide ((k : Int) < 2) = true := decide_eq_true (by omega)
      have KL := Lib.hid hk2
      have kw := Lib.hid (wup (k := k) (by omega))
      obtain ⟨gk, hgk⟩ : ∃ gk, G k = gk := ⟨_, rfl⟩
      rw [hgk] at hp
      have BS := Lib.hid (show bst G (k + 1) = stepB gk (bst G k) by rw [← hgk]; rfl)
      clear hgk hb hl hk2 hk
      cases gk with
      | none =>
        have hp1 : openE b ≠ 0 := hp
        have hc := openE_cases b
        obtain ⟨re, hre⟩ : ∃ re : Int, ((openE b : Nat) : Int) = re := ⟨_, rfl⟩
        obtain ⟨rk, hrk⟩ : ∃ rk : Int, ((openK b : Nat) : Int) = rk := ⟨_, rfl⟩
        obtain ⟨rs, hrs⟩ : ∃ rs : ByteArray, (⟨(openS b).toArray⟩ : ByteArray) = rs := ⟨_, rfl⟩
        rw [hre, hrk, hrs] at PR
        have e7 : (re == 7) = false := by simp; omega
        have e0 : (re != 0) = true := by simp; omega
        have e0' : (re == 0) = false := by simp; omega
        have e7' : ¬ (re = 7) := by omega
        have e0'' : ¬ (re = 0) := by omega
        clear hp hp1 hc hre hrk hrs
        go_wp2_with fail
        refine PR.out.mono ?_
        rintro e w2 ⟨rfl, hb2⟩
        have X2 := Lib.hid (hx.out.below hb2)
        have B2 := Lib.hid (bon hbl.out hb2)
        clear hb2 PR
        go_wp2_with fail
        exact ⟨⟨k + 1, KL.out, by rw [kw.out]; rfl, by rw [BS.out]; exact X2, B2⟩, meas_up KL.out kw.out⟩
      | some q =>
        obtain ⟨hb, hf⟩ := hp
        have hhl := headL_len q.t q.r q.u
        obtain ⟨o1, o2, o3⟩ := open_seal (k := 1) (t := headL q.t q.r q.u) (by omega) (by omega) (by omega)
        have PR2 := Lib.hid (show Calls Try.prog 34 #[.pointer (some ⟨g, 0, none⟩), .int .i64 (k : Int)] wr fun e w' => e = .returned (.tuple #[.int .i64 1, .string ⟨(headL q.t q.r q.u).toArray⟩, .int .i64 0]) ∧ Below wr.heap.size wr w' by
          have h := PR.out
          rw [hb, o1, o2, o3] at h
          exact h)
        have HF := Lib.hid hf
        obtain ⟨qt, hqt⟩ : ∃ z, q.t = z := ⟨_, rfl⟩
        obtain ⟨qr, hqr⟩ : ∃ z, q.r = z := ⟨_, rfl⟩
        obtain ⟨qu, hqu⟩ : ∃ z, q.u = z := ⟨_, rfl⟩
        have HQ := Lib.hid (And.intro hqt (And.intro hqr hqu))
        have RH := Lib.hid (fun X => readHead_any q.t q.r q.u X hf.t2 hf.r2)
        rw [hqt, hqr, hqu] at RH HF PR2
        obtain ⟨hs, hhs⟩ : ∃ z : ByteArray, (⟨(headL qt qr qu).toArray⟩ : ByteArray) = z := ⟨_, rfl⟩
        rw [hhs] at RH PR2
        clear hb hf hhl o1 o2 o3 PR hhs hqt hqr hqu
        go_wp2_with fail
        refine PR2.out.mono ?_
        rintro e w2 ⟨rfl, hb2⟩
        have X2 := Lib.hid (hx.out.below hb2)
        have B2 := Lib.hid (bon hbl.out hb2)
        clear hb2 PR2
        go_wp2_with fail
        refine (RH.out _).mono ?_
        rintro e w3 ⟨bm, rfl, hbm, hu3, hb3⟩
        obtain ⟨Y, hY⟩ : ∃ Y : World, Y = w3.alloc (.cells #[.int .i64 (qt : Int), .int .i64 (qr : Int), .map (some bm)] 45) := ⟨_, rfl⟩
        have hbY : Below w3.heap.size w3 Y := by rw [hY]; exact bda _ _
        have RY := Lib.hid (show Y.heap[w3.heap.size]? = some (.cells #[.int .i64 (qt : Int), .int .i64 (qr : Int), .map (some bm)] 45 (0, 0)) by rw [hY]; exact heap_alloc_new _ _)
        have UY := Lib.hid (hu3.below hbY)
        have XY := Lib.hid ((X2.out.below hb3).below hbY)
        have BY := Lib.hid (bon (bon B2.out hb3) hbY)
        have NB := Lib.hid (show w.heap.size < w3.heap.size from Nat.lt_of_lt_of_le (by
          obtain ⟨R, m, hr⟩ := X2.out.turn
          exact heap_lt hr) hb3.size)
        have POY := Lib.hid (PO.out Y BY.out)
        have FT := Lib.hid (fits_yes (b := w3.heap.size) (n := k) (M := M) Y UY.out (heap_lt RY.out) (row_c (i := 0) RY.out rfl) (row_c (i := 1) RY.out rfl) (row_c (i := 2) RY.out rfl) HF.out HM.out.2)
        clear hb3 hbY hu3 hbm RH
        go_wp2_with fail
        rw [← hY]
        refine POY.out.mono ?_
        rintro e w4 ⟨rfl, hw⟩
        obtain rfl : Y = w4 := hw.symm
        clear hw hY
        go_wp2_with fail
        refine FT.out.mono ?_
        rintro e w5 ⟨rfl, hb5⟩
        have R5 := Lib.hid (row_on RY.out hb5)
        have U5 := Lib.hid (UY.out.below hb5)
        have X5 := Lib.hid (XY.out.below hb5)
        have B5 := Lib.hid (bon BY.out hb5)
        clear hb5 FT POY
        obtain ⟨R0, m0, hr0⟩ := X5.out.turn
        obtain ⟨tb, htb⟩ : ∃ tb, tO (bst G k) = tb := ⟨_, rfl⟩
        rw [htb] at hr0
        have BS2 := Lib.hid (show bst G (k + 1) = if tb < qt then some q else bst G k by rw [BS.out, ← HQ.out.1, ← htb]; rfl)
        have t0 := row_c (i := 0) hr0 rfl
        have s0 := row_c (i := 0) R5.out rfl
        have s1 := row_c (i := 1) R5.out rfl
        have s2 := row_c (i := 2) R5.out rfl
        have HR0 := Lib.hid hr0
        by_cases hlt : tb < qt
        · have d2 : decide ((tb : Int) < (qt : Int)) = true := decide_eq_true (by omega)
          have d3 : decide (tb < qt) = true := decide_eq_true hlt
          have BS3 := Lib.hid (show bst G (k + 1) = some q by rw [BS2.out, if_pos hlt])
          have p1 := row_c (i := 1) hr0 rfl
          have p2 := row_c (i := 2) hr0 rfl
          have z0 := frozen_of_row _ _ 0 _ _ hr0
          have z1 := frozen_of_row _ _ 1 _ _ hr0
          have z2 := frozen_of_row _ _ 2 _ _ hr0
          have RR := Lib.hid (row_setG (i := 2) (row_setG (i := 1) (row_setG (i := 0) hr0 (.int .i64 (qt : Int))) (.int .i64 (qr : Int))) (.map (some bm)))
          have UU := Lib.hid (((U5.out.set hr0 (i := 0) (.int .i64 (qt : Int))).set (row_setG hr0 _) (i := 1) (.int .i64 (qr : Int))).set (row_setG (row_setG hr0 _) _) (i := 2) (.map (some bm)))
          clear hlt hr0 htb
          go_wp2_with fail
          refine ⟨⟨k + 1, KL.out, by rw [kw.out]; rfl, Lib.hid ?_, Lib.hid (((B5.out.setCell (Nat.le_refl _) _).setCell (Nat.le_refl _) _).setCell (Nat.le_refl _) _)⟩, meas_up KL.out kw.out⟩
          rw [BS3.out]
          refine ⟨bm, ?_, ?_⟩
          · rw [HQ.out.1, HQ.out.2.1]; exact RR.out
          · rw [HQ.out.2.2]; exact UU.out
        · have d2 : decide ((tb : Int) < (qt : Int)) = false := decide_eq_false (by omega)
          have d3 : decide (tb < qt) = false := decide_eq_false hlt
          have BS3 := Lib.hid (show bst G (k + 1) = bst G k by rw [BS2.out, if_neg hlt])
          clear hlt hr0 htb
          go_wp2_with fail
          exact ⟨⟨k + 1, KL.out, by rw [kw.out]; rfl, by rw [BS3.out]; exact X5, B5⟩, meas_up KL.out kw.out⟩
    · obtain rfl : k = 2 := by omega
      have X9 := hx.out
      rw [HO.out] at X9
      have HPOS := Lib.hid (fun q (hq : o = some q) => bst_pos (G := G) (k := 2) (q := q) (HO.out.trans hq))
      clear hx hk2 hk HO
      cases o with
      | none =>
        have r0 : wr.cell? ⟨w.heap.size, 0, none⟩ = some (.int .i64 0) := row_c (i := 0) (show wr.heap[w.heap.size]? = _ from X9) rfl
        clear X9
        go_wp2
        go_ret2
        first | exact ⟨rfl, hbl.out⟩ | exact .inl ⟨rfl, rfl, hbl.out⟩
      | some q =>
        obtain ⟨bm, hrow, hu⟩ := X9
        have hpos := HPOS.out q rfl
        obtain ⟨qt, hqt⟩ : ∃ z, q.t = z := ⟨_, rfl⟩
        obtain ⟨qr, hqr⟩ : ∃ z, q.r = z := ⟨_, rfl⟩
        obtain ⟨qu, hqu⟩ : ∃ z, q.u = z := ⟨_, rfl⟩
        have HQ := Lib.hid (And.intro hqt (And.intro hqr hqu))
        rw [hqt] at hpos
        rw [hqt, hqr] at hrow
        rw [hqu] at hu
        have HU := Lib.hid hu
        have r0 := row_c (i := 0) hrow rfl
        have r1 := row_c (i := 1) hrow rfl
        have r2 := row_c (i := 2) hrow rfl
        have e0 : ((qt : Int) == 0) = false := by simp; omega
        have e0' : ¬ ((qt : Int) = 0) := by omega
        clear hrow hu hqt hqr hqu hpos
        go_wp2
        go_ret2
        refine .inr ⟨q, _, bm, rfl, rfl, hbl.out.size, ?_, ?_, hbl.out.trans ((bda wr _).mono hbl.out.size)⟩
        · rw [HQ.out.1, HQ.out.2.1]; exact heap_alloc_new _ _
        · rw [HQ.out.2.2]; exact HU.out.below (bda _ _)
end Go.Proofs.Ytnpopbobpbbamaa
