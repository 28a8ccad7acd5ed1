/-
  pager's Keep.
-/
import Derived.Test.YtkklekkanogphaaGk
namespace Go.Proofs.Ytkklekkanogphaa
open Go.RowKit
set_option linter.unusedSimpArgs false
set_option linter.unusedVariables false
/-- Is there a page among them that may not be kept? -/
def badB (U : Nat → Bool) (P : List Nat) : Bool := P.any fun n => decide (n < 2) || !U n
theorem badB_take {U : Nat → Bool} {P : List Nat} {k : Nat} (hk : k < P.length) : badB U (P.take (k + 1)) = (badB U (P.take k) || (decide (P[k] < 2) || !U P[k])) := by
  unfold badB
  rw [List.take_succ_eq_append_getElem hk, List.any_append]
  simp
theorem badB_of {U : Nat → Bool} {P : List Nat} {k : Nat} (h : badB U (P.take k) = true) : badB U P = true := by
  unfold badB at h ⊢
  rw [List.any_eq_true] at h ⊢
  obtain ⟨x, hx, h1⟩ := h
  exact ⟨x, List.mem_of_mem_take hx, h1⟩
set_option maxHeartbeats 4000000 in
set_option maxRecDepth 100000 in
theorem keep_state {L p g : Nat} {f m0 : Value} {T R0 R : Int} {F : List Nat} (A : Option Addr) (n c : Nat) (w : World) (hp : Pb w p T R0 m0 g f) (hf : w.ownsRow L 3 1 f F.length (F.map nn)) (h0 : 0 < F.length) (hF : F.length ≤ 1000) :
    Calls Try.prog 14 #[.pointer (some ⟨p, 0, none⟩), .int .i64 R, .slice A n c] w fun e w' => e = .returned (.int .i64 8) ∧ w' = w := by
  obtain ⟨A2, c2, rfl, hRl, hFr⟩ := rl_of_own hf
  have c5 := row_c (i := 5) hp rfl
  have c4 := row_c (i := 4) hp rfl
  obtain ⟨N, hN⟩ : ∃ N, F.length = N := ⟨_, rfl⟩
  rw [hN] at c4 h0 hF
  have d1 : decide ((0 : Int) < (N : Int)) = true := decide_eq_true (by omega)
  clear hp hf hRl hFr hN
  go_enter Try.func14, Try.ntmps14
  go_wp2
  go_ret
  exact ⟨rfl, rfl⟩
set_option maxHeartbeats 8000000 in
set_option maxRecDepth 100000 in
theorem keep_any {B p g gs bm k0 : Nat} {v : Value} {R0 : Int} {U : Nat → Bool} {P : List Nat} {S : List (List UInt8)} {C : List Wt} {A2 : Option Addr} {c2 : Nat} (T : Nat) (R : Int) (Rn : Nat) (A : Option Addr) (c : Nat) (w : World) (hp : Pb w p (T : Int) R0 (.map (some bm)) g (.slice A2 0 c2)) (hu : Us w bm k0 U) (hP : Rl nn w A c P) (h : Dk B w g gs v S C) (hS : 4 ≤ S.length) (hC : C.length ≤ 900) (hl : P.length ≤ 1000) (h5 : ∀ x ∈ P, x < 512) (hT : T ≤ 1000000) (hw : (Lit.int .i64 R).wf = true) (hRn : rootB (nU P) R = true → R = (Rn : Int)) :
    Calls Try.prog 14 #[.pointer (some ⟨p, 0, none⟩), .int .i64 R, .slice A P.length c] w fun e w' => (e = .returned (.int .i64 1) ∧ Below w.heap.size w w' ∧ (badB U P = true ∨ rootB (nU P) R = false)) ∨ (badB U P = false ∧ rootB (nU P) R = true ∧ ∃ b2, e = .returned (.int .i64 0) ∧ Pb w' p ((T + 1 : Nat) : Int) Rn (.map (some b2)) g (.slice none 0 0) ∧ Us w' b2 (2 + P.length) (nU P) ∧ Dk B w' g gs (.slice none 0 0) (flush (flush S C) (hdW (T + 1) Rn (nU P))) [] ∧ Cp B p g gs w w') := by
  have HP := Lib.hid hp
  have HU := Lib.hid hu
  have HD := Lib.hid h
  have HR := Lib.hid hP
  obtain ⟨T1, hT1⟩ : ∃ T1, T + 1 = T1 := ⟨_, rfl⟩
  have WT := Lib.hid (show wrap64 ((T : Int) + 1) = (T1 : Int) by rw [← hT1]; exact wup (by omega))
  have WI := Lib.hid (show IntKind.i64.wrap ((T : Int) + 1) = (T1 : Int) by rw [IntWalk.i64_in _ (by omega)]; omega)
  rw [hT1]
  have HB := Lib.hid (And.intro hS (And.intro hC hl))
  have H5 := Lib.hid h5
  have HW := Lib.hid hw
  have HRN := Lib.hid hRn
  have LB := Lib.hid hu.lt
  have c5 := row_c (i := 5) hp rfl
  have c4 := row_c (i := 4) hp rfl
  clear hp hu hP h hS hC hl h5 hT hw hRn hT1
  go_enter Try.func14, Try.ntmps14
  go_wp2_with fail
  clear c4 c5
  go_loopw [24] (fun kv wr => ∃ k : Nat, k ≤ P.length ∧ kv = .int .i64 k ∧ Hid (badB U (P.take k) = false) ∧ Hid (Below w.heap.size w wr)) (fun kv _ => P.length - (intOf kv).toNat)
  case atStart => exact ⟨0, by omega, rfl, Lib.hid (by simp [badB]), Lib.hid (Below.refl _ _)⟩
  case round =>
    obtain ⟨k, hk, rfl, hG, hb⟩ := hrel
    by_cases hk2 : k < P.length
    · obtain ⟨y, hy⟩ : ∃ y, P[k] = y := ⟨_, rfl⟩
      have hj : P[k]? = some y := by rw [List.getElem?_eq_getElem hk2, hy]
      have BT := Lib.hid (badB_take (U := U) hk2)
      rw [hy] at BT
      have y5 : y < 512 := H5.out y (by rw [← hy]; exact List.getElem_mem _)
      have HR2 := HR.out.below hb.out
      obtain ⟨b, off, rfl, hc⟩ := HR2.cell hj
      have hcc := hc.2
      unfold nn at hcc
      have k0 : (0 : Int) ≤ (k : Int) := by omega
      have k1 : (k : Int) < (P.length : Int) := by omega
      have KL := Lib.hid hk2
      have kw := Lib.hid (wup (k := k) (by have := HB.out.2.2; omega))
      clear hy hj hc hk2 hk HR2
      by_cases y2 : y < 2
      · have d1 : decide ((y : Int) < 2) = true := decide_eq_true (by omega)
        have d1' : decide (y < 2) = true := decide_eq_true y2
        have BB := Lib.hid (badB_of (k := k + 1) (by rw [BT.out, d1']; simp : badB U (P.take (k + 1)) = true))
        clear y2 y5
        go_wp2
        go_ret
        exact .inl ⟨rfl, hb.out, .inl BB.out⟩
      · have d1 : decide ((y : Int) < 2) = false := decide_eq_false (by omega)
        have d1' : decide (y < 2) = false := decide_eq_false y2
        obtain ⟨q, hq⟩ : ∃ q, U y = q := ⟨_, rfl⟩
        have UC := Lib.hid (uses_any (b := p) (y : Int) q wr (HU.out.below hb.out) (row_c (i := 2) (row_on HP.out hb.out) rfl) (wf_nat y5) (by rw [taken_inU y5]; exact hq))
        rw [d1', hq] at BT
        clear y2 y5 hq
        go_wp2_with fail
        refine UC.out.mono ?_
        rintro e w2 ⟨rfl, hb2⟩
        have B2 := Lib.hid (bon hb.out hb2)
        clear UC hb2
        cases q
        · have BB := Lib.hid (badB_of (k := k + 1) (by rw [BT.out]; simp : badB U (P.take (k + 1)) = true))
          go_wp2
          go_ret
          exact .inl ⟨rfl, B2.out, .inl BB.out⟩
        · have BB := Lib.hid (show badB U (P.take (k + 1)) = false by rw [BT.out, hG.out]; rfl)
          go_wp2_with fail
          go_roundw
          case rel => exact ⟨k + 1, KL.out, by rw [kw.out]; rfl, BB, B2⟩
          case measure => exact meas_up KL.out kw.out
    · obtain rfl : k = P.length := by omega
      have hGG := hG.out
      rw [List.take_length] at hGG
      have GG := Lib.hid hGG
      have NH := Lib.hid (newHead_any (T1 : Int) R P A c wr (HR.out.below hb.out) H5.out (by have := HB.out.2.2; omega))
      have P1 := Lib.hid (row_on HP.out hb.out)
      have c0 := row_c (i := 0) P1.out rfl
      have w15 := WT.out
      have w16 := WI.out
      clear hG hGG hk2 hk
      go_wp2_with fail
      refine NH.out.mono ?_
      rintro e w2 ⟨b2, rfl, hb2, hu2, hx2⟩
      obtain ⟨X, hX⟩ : ∃ X : World, X = w2.alloc (.cells #[.int .i64 (T1 : Int), .int .i64 R, .map (some b2)] 38) := ⟨_, rfl⟩
      have hbX : Below w2.heap.size w2 X := by rw [hX]; exact bda _ _
      have RX := Lib.hid (show X.heap[w2.heap.size]? = some (.cells #[.int .i64 (T1 : Int), .int .i64 R, .map (some b2)] 38 (0, 0)) by rw [hX]; exact heap_alloc_new _ _)
      have UX := Lib.hid (hu2.below hbX)
      have BX := Lib.hid (bon (bon hb.out hx2) hbX)
      have SX := Lib.hid (show w2.heap.size < X.heap.size from heap_lt RX.out)
      clear hu2 hx2 hbX hb2 w15 w16 c0
      obtain ⟨q, hq⟩ : ∃ q, rootB (nU P) R = q := ⟨_, rfl⟩
      have RT := Lib.hid (rooted_any (b := w2.heap.size) R q X UX.out (row_c (i := 1) RX.out rfl) (row_c (i := 2) RX.out rfl) HW.out hq)
      have HQ := Lib.hid hq
      clear hq
      go_wp2_with fail
      rw [← hX]
      clear hX
      refine RT.out.mono ?_
      rintro e w3 ⟨rfl, hb3⟩
      have B3 := Lib.hid (bon BX.out hb3)
      cases q
      · clear hb3 RT
        go_wp2
        go_ret
        exact .inl ⟨rfl, B3.out, .inr HQ.out⟩
      · have R3 := Lib.hid (row_on RX.out hb3)
        have U3 := Lib.hid (UX.out.below hb3)
        obtain rfl : R = (Rn : Int) := HRN.out HQ.out
        have ST := Lib.hid (settle_any T1 Rn w3 (row_on HP.out B3.out) U3.out (HD.out.below B3.out) HB.out.1 HB.out.2.1)
        have q0 := row_c (i := 0) R3.out rfl
        have q1 := row_c (i := 1) R3.out rfl
        have q2 := row_c (i := 2) R3.out rfl
        clear hb3 RT
        go_wp2_with fail
        refine ST.out.mono ?_
        rintro e w5 ⟨rfl, hp5, hu5, hd5, hc5⟩
        have H6 := Lib.hid (And.intro hp5 (And.intro hu5 (And.intro hd5 hc5)))
        clear hp5 hu5 hd5 hc5 q0 q1 q2
        go_wp2
        go_ret
        exact .inr ⟨GG.out, HQ.out, b2, rfl, H6.out.1, H6.out.2.1, H6.out.2.2.1, (Cp.of_below B3.out HD.out.hB).trans H6.out.2.2.2⟩
end Go.Proofs.Ytkklekkanogphaa
