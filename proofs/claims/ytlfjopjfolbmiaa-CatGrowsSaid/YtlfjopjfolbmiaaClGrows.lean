/-
  astrolabelaw23.CatGrows: versions that are added stand in their order, each with the next number, up to twelve; one that is left out is found no more, the others are; the last one stays.
-/
import Derived.Test.YtlfjopjfolbmiaaCj
import Derived.Test.YtlfjopjfolbmiaaCm
namespace Go.Proofs.Ytlfjopjfolbmiaa
open Go.RowKit
/-- The slice '.slice A xs.length c' holds the whole numbers xs. -/
def Is (w : World) (A : Option Addr) (c : Nat) (xs : List Int) : Prop :=
  xs.length ≤ c ∧ (∀ x ∈ xs, -9223372036854775808 ≤ x ∧ x ≤ 9223372036854775807) ∧ (0 < xs.length → ∃ b off, A = some ⟨b, off, none⟩ ∧ b < w.heap.size ∧ ∀ j, j < xs.length → w.cell? ⟨b, off + j, none⟩ = some (.int .i64 (xs[j]?.getD 0)))
theorem Is.below {w w' : World} {A : Option Addr} {c : Nat} {xs : List Int} (h : Is w A c xs) (hb : Below w.heap.size w w') : Is w' A c xs :=
  ⟨h.1, h.2.1, fun h0 => by
    obtain ⟨b, off, e, hlt, hc⟩ := h.2.2 h0
    exact ⟨b, off, e, Nat.lt_of_lt_of_le hlt hb.size, fun j hj => (hb.cell (p := ⟨b, _, none⟩) hlt).trans (hc j hj)⟩⟩
theorem out_seq {vs : List (Int × Int)} (hs : seqB 0 vs) (hl : vs.length ≤ 12) (g : Int) : outP ((vs.length : Int) + 1) vs g = if 1 ≤ g ∧ g < vs.length then some (g.toNat - 1) else none := by
  have hr := right_seq hs hl
  by_cases h : 1 ≤ g ∧ g < vs.length
  · rw [if_pos h]
    obtain ⟨j, hj⟩ := Int.eq_ofNat_of_zero_le (show 0 ≤ g - 1 by omega)
    have e : g = ((0 : Nat) : Int) + j + 1 := by omega
    have hf : findP vs g = some j := by
      unfold findP
      rw [if_neg (by omega), e, idx_seq hs (by omega)]
      simp
    unfold outP
    rw [hf]
    simp only
    rw [if_pos ⟨hr, by omega, by omega⟩]
    congr 1
    omega
  · rw [if_neg h]
    unfold outP
    by_cases h0 : g = 0
    · cases findP vs g with
      | none => rfl
      | some i => simp only; rw [if_neg (fun hh => hh.2.1 h0)]
    · by_cases hin : 1 ≤ g ∧ g ≤ vs.length
      · have hgl : g = vs.length := by omega
        have e : g = ((0 : Nat) : Int) + (vs.length - 1 : Nat) + 1 := by omega
        have hf : findP vs g = some (vs.length - 1) := by
          unfold findP
          rw [if_neg h0, e, idx_seq hs (by omega)]
          simp
        rw [hf]
        simp only
        rw [if_neg (fun hh => by have := hh.2.2; omega)]
      · have hf : findP vs g = none := by
          unfold findP
          rw [if_neg h0]
          refine idx_none fun v hv => ?_
          obtain ⟨j, hj, rfl⟩ := mem_at2 hv
          rw [seq_at hs hj]
          omega
        rw [hf]
theorem find_seq {vs : List (Int × Int)} (hs : seqB 0 vs) {q : Nat} (hq : q < vs.length) : findP vs ((q : Int) + 1) = some q := by
  unfold findP
  have := idx_seq (k := 0) hs hq
  rw [if_neg (by omega), show (q : Int) + 1 = ((0 : Nat) : Int) + q + 1 by omega, this]
  simp
theorem find_cut {vs : List (Int × Int)} (hs : seqB 0 vs) {i : Nat} (hi : i + 1 < vs.length) : findP (cutAt vs i) ((i : Int) + 1) = none := by
  unfold findP
  rw [if_neg (by omega)]
  exact cut_idx hs (by omega)
theorem find_last {vs : List (Int × Int)} {i : Nat} (hi : i + 1 < vs.length) : findP (cutAt vs i) 0 = some (vs.length - 2) := by
  unfold findP
  rw [if_pos rfl, cut_len (by omega), if_neg (by omega)]
  congr 1
theorem root_neg (x : Int) (_h : x < 0) (h2 : -9223372036854775808 ≤ x) : rootB (wrap64 (2 + -(x + 1).tmod 510)) = true := by
  have e : -(x + 1).tmod 510 = (-(x + 1)) % 510 := by rw [← Int.neg_tmod, Int.tmod_eq_emod_of_nonneg (by omega)]
  rw [e, IntWalk.wrap64_in _ ⟨by omega, by omega⟩]
  unfold rootB
  rw [decide_eq_true (show 2 ≤ 2 + (-(x + 1)) % 510 by omega), decide_eq_true (show 2 + (-(x + 1)) % 510 ≤ 511 by omega)]
  simp
theorem root_mod (X : Int) (_h : 0 ≤ X) : rootB (2 + X % 510) = true := by
  unfold rootB
  rw [decide_eq_true (show 2 ≤ 2 + X % 510 by omega), decide_eq_true (show 2 + X % 510 ≤ 511 by omega)]
  simp
theorem with_seq (A : Option Addr) (c : Nat) (vs : List (Int × Int)) (ρ : Int) (V : World) (hs : seqB 0 vs) (hl : vs.length < 12) (hr : rootB ρ = true) (hV : Vs V A c vs) :
    Calls Try.prog 19 #[.agg #[.int .i64 ((vs.length : Int) + 1), .slice A vs.length c], .int .i64 ρ] V fun e w' => ∃ A' c' zs, e = .returned (.tuple #[.agg #[.int .i64 ((zs.length : Int) + 1), .slice A' zs.length c'], .bool true]) ∧ Vs w' A' c' zs ∧ seqB 0 zs ∧ zs.length = vs.length + 1 ∧ Below V.heap.size V w' ∧ Fr V.heap.size A' := by
  have h := with_yes ((vs.length : Int) + 1) A c vs ρ V hV (by unfold withB; rw [right_seq hs (by omega), hr, decide_eq_false (by omega), decide_eq_false (by omega)]; rfl)
  refine h.mono fun e w' ⟨A', c', he, hv, hb, hf⟩ => ⟨A', c', vs ++ [((vs.length : Int) + 1, ρ)], ?_, hv, ?_, by simp, hb, hf⟩
  · rw [he, show ((vs ++ [((vs.length : Int) + 1, ρ)]).length : Int) = (vs.length : Int) + 1 by simp]
  · have := seq_snoc hs hr
    simpa using this
theorem with_seq_no (A : Option Addr) (c : Nat) (vs : List (Int × Int)) (ρ : Int) (V : World) (hl : vs.length = 12) (hV : Vs V A c vs) :
    Calls Try.prog 19 #[.agg #[.int .i64 ((vs.length : Int) + 1), .slice A vs.length c], .int .i64 ρ] V fun e w' => e = .returned (.tuple #[.agg #[.int .i64 0, .slice none 0 0], .bool false]) ∧ Below V.heap.size V w' :=
  with_no _ A c vs ρ V hV (by omega) (by unfold withB; rw [decide_eq_true hl]; simp)

set_option maxHeartbeats 8000000 in
set_option maxRecDepth 100000 in
theorem grows_any (B : Option Addr) (cb : Nat) (xs : List Int) (gone : Int) (w : World) (h : Is w B cb xs) (hgl : -9223372036854775808 ≤ gone) (hgh : gone ≤ 9223372036854775807) (hxl : xs.length ≤ 9223372036854775807) :
    Calls Try.prog 5 #[.slice B xs.length cb, .int .i64 gone] w fun e w' => e = .returned (.bool true) ∧ Below w.heap.size w w' := by
  have HI := Lib.hid h
  clear h
  go_enter Try.func5, Try.ntmps5
  go_wp2_with fail
  refine (examples_any _).mono ?_
  rintro e w1 ⟨rfl, hb⟩
  have K1 := Lib.hid hb
  clear hb
  go_wp2_with fail
  obtain ⟨W, hW⟩ : ∃ W : World, W = w1.alloc (.cells #[.int .i64 1, .slice none 0 0] 24) := ⟨_, rfl⟩
  rw [← hW]
  have B1 := Lib.hid (show Below w.heap.size w W by rw [hW]; exact bon K1.out (bda _ _))
  have RB := Lib.hid (show W.heap[w1.heap.size]? = some (.cells #[.int .i64 1, .slice none 0 0] 24 (0, 0)) by rw [hW]; exact heap_alloc_new w1 _)
  have G := Lib.hid K1.out.size
  obtain ⟨g, hg⟩ : ∃ g, w1.heap.size = g := ⟨_, rfl⟩
  rw [hg] at RB G ⊢
  clear hW hg
  go_loopw [7] (fun i wr => ∃ (k : Nat) (A : Option Addr) (c : Nat) (vs : List (Int × Int)), i = .int .i64 k ∧ k ≤ 20 ∧ k ≤ xs.length ∧ Hid (wr.heap[g]? = some (.cells #[.int .i64 ((vs.length : Int) + 1), .slice A vs.length c] 24 (0, 0))) ∧ Hid (Vs wr A c vs) ∧ Hid (seqB 0 vs) ∧ Hid (vs.length = min k 12) ∧ Hid (Below w.heap.size w wr)) (fun i _ => 20 - (intOf i).toNat)
  case atStart => exact ⟨0, none, 0, [], rfl, by omega, Nat.zero_le _, RB, Lib.hid (Vs.nil_ _ _), Lib.hid trivial, Lib.hid (by simp), B1⟩
  case round =>
    obtain ⟨k, A, c, vs, rfl, hk20, hkl, hrow, hvs, hseq, hlen, hb⟩ := hrel
    have sg := heap_lt hrow.out
    have f0 : wr.cell? ⟨g, 0, none⟩ = some (.int .i64 ((vs.length : Int) + 1)) := row_c hrow.out (i := 0) rfl
    have f1 : wr.cell? ⟨g, 1, none⟩ = some (.slice A vs.length c) := row_c hrow.out (i := 1) rfl
    have l12 : vs.length ≤ 12 := by rw [hlen.out]; omega
    by_cases hlt : k < xs.length ∧ k < 20
    · obtain ⟨hlx, hl20⟩ := hlt
      have dx : decide ((k : Int) < 20) = true := by simp; omega
      obtain ⟨bb, off, hB, hbl, hcell⟩ := (HI.out.below (show Below w.heap.size w wr from hb.out)).2.2 (by omega)
      have fx := hcell k hlx
      obtain ⟨x, hx⟩ : ∃ x, xs[k]?.getD 0 = x := ⟨_, rfl⟩
      have hxb : -9223372036854775808 ≤ x ∧ x ≤ 9223372036854775807 := by
        rw [← hx, List.getElem?_eq_getElem hlx]
        exact HI.out.2.1 _ (List.getElem_mem hlx)
      obtain ⟨hx1, hx2⟩ := hxb
      rw [hx] at fx
      clear hcell hx
      have i0 : (0 : Int) ≤ (k : Int) := by omega
      have i1 : (k : Int) < (xs.length : Int) := by omega
      have HLX := Lib.hid (And.intro hlx hl20)
      subst hB
      clear hlx hl20
      by_cases h12 : k < 12
      · have d12 : decide ((k : Int) < 12) = true := by simp; omega
        have d12' : decide (k < 12) = true := by simp; omega
        have e12 : vs.length = k := by rw [hlen.out]; omega
        have E12 := Lib.hid (And.intro e12 h12)
        have WY := Lib.hid (fun (ρ : Int) (hρ : rootB ρ = true) V (hV : Vs V A c vs) => with_seq A c vs ρ V hseq.out (by omega) hρ hV)
        clear e12 h12
        by_cases hx0 : x < 0
        · have dn : decide (x < 0) = true := decide_eq_true hx0
          have RO := Lib.hid (root_neg x hx0 hx1)
          go_wp2_with fail
          with_reducible refine (WY.out _ RO.out _ hvs.out).mono ?_
          rintro e w4 ⟨A4, c4, zs, rfl, hv4, hs4, hl4, hb4, hf4⟩
          have r4 := row_on hrow.out hb4
          have q0 := row_c r4 (i := 0) rfl
          have q1 := row_c r4 (i := 1) rfl
          have z0 := frozen_of_row _ _ 0 _ _ r4
          have z1 := frozen_of_row _ _ 1 _ _ r4
          have sg4 : g < w4.heap.size := Nat.lt_of_lt_of_le sg hb4.size
          have KX := Lib.hid (bon hb.out hb4)
          have VX := Lib.hid hv4
          have RX := Lib.hid r4
          have SX := Lib.hid (And.intro hs4 (And.intro hl4 hf4))
          clear hv4 hs4 hl4 hb4 hf4 r4 f0 f1
          go_wp2
          go_roundw
          case rel =>
            refine ⟨k + 1, A4, c4, zs, by go_num, by have := HLX.out; omega, by have := HLX.out; omega, Lib.hid (row_on ?_ (bda _ _)), Lib.hid (((VX.out.set SX.out.2.2 sg _ _).set SX.out.2.2 sg _ _).below (bda _ _)), Lib.hid SX.out.1, Lib.hid (by have h1 := SX.out.2.1; have h2 := E12.out; omega), Lib.hid (bon ((KX.out.setCell G.out _).setCell G.out _) (bda _ _))⟩
            have e1 := heap_setCell_same _ g 0 _ _ (.int .i64 ((zs.length : Int) + 1)) RX.out
            exact heap_setCell_same _ g 1 _ _ (.slice A4 zs.length c4) e1
          case measure => simp [intOf]; have := HLX.out; omega
        · have dn : decide (x < 0) = false := decide_eq_false hx0
          have RO := Lib.hid (root_mod x (by omega))
          go_wp2_with fail
          with_reducible refine (WY.out _ RO.out _ hvs.out).mono ?_
          rintro e w4 ⟨A4, c4, zs, rfl, hv4, hs4, hl4, hb4, hf4⟩
          have r4 := row_on hrow.out hb4
          have q0 := row_c r4 (i := 0) rfl
          have q1 := row_c r4 (i := 1) rfl
          have z0 := frozen_of_row _ _ 0 _ _ r4
          have z1 := frozen_of_row _ _ 1 _ _ r4
          have sg4 : g < w4.heap.size := Nat.lt_of_lt_of_le sg hb4.size
          have KX := Lib.hid (bon hb.out hb4)
          have VX := Lib.hid hv4
          have RX := Lib.hid r4
          have SX := Lib.hid (And.intro hs4 (And.intro hl4 hf4))
          clear hv4 hs4 hl4 hb4 hf4 r4 f0 f1
          go_wp2
          go_roundw
          case rel =>
            refine ⟨k + 1, A4, c4, zs, by go_num, by have := HLX.out; omega, by have := HLX.out; omega, Lib.hid (row_on ?_ (bda _ _)), Lib.hid (((VX.out.set SX.out.2.2 sg _ _).set SX.out.2.2 sg _ _).below (bda _ _)), Lib.hid SX.out.1, Lib.hid (by have h1 := SX.out.2.1; have h2 := E12.out; omega), Lib.hid (bon ((KX.out.setCell G.out _).setCell G.out _) (bda _ _))⟩
            have e1 := heap_setCell_same _ g 0 _ _ (.int .i64 ((zs.length : Int) + 1)) RX.out
            exact heap_setCell_same _ g 1 _ _ (.slice A4 zs.length c4) e1
          case measure => simp [intOf]; have := HLX.out; omega
      · have d12 : decide ((k : Int) < 12) = false := by simp; omega
        have d12' : decide (k < 12) = false := by simp; omega
        have e12 : vs.length = 12 := by rw [hlen.out]; omega
        have E12 := Lib.hid (show 12 ≤ k by omega)
        have WN := Lib.hid (fun (ρ : Int) V (hV : Vs V A c vs) => with_seq_no A c vs ρ V e12 hV)
        clear e12 h12
        by_cases hx0 : x < 0
        · have dn : decide (x < 0) = true := decide_eq_true hx0
          go_wp2_with fail
          with_reducible refine (WN.out _ _ hvs.out).mono ?_
          rintro e w4 ⟨rfl, hb4⟩
          have KX := Lib.hid (show Below w.heap.size w (w4.alloc (.cells #[.int .i64 0, .slice none 0 0] 24)) from bon hb.out (bon hb4 (bda _ _)))
          have VX := Lib.hid (hvs.out.below (bon hb4 (bda w4 (.cells #[.int .i64 0, .slice none 0 0] 24))))
          have RX := Lib.hid (row_on hrow.out (bon hb4 (bda w4 (.cells #[.int .i64 0, .slice none 0 0] 24))))
          clear hb4 f0 f1
          go_wp2
          go_roundw
          case rel => exact ⟨k + 1, A, c, vs, by go_num, by have := HLX.out; omega, by have := HLX.out; omega, RX, VX, hseq, Lib.hid (by have h1 := E12.out; have h2 := hlen.out; omega), KX⟩
          case measure => simp [intOf]; have := HLX.out; omega
        · have dn : decide (x < 0) = false := decide_eq_false hx0
          go_wp2_with fail
          with_reducible refine (WN.out _ _ hvs.out).mono ?_
          rintro e w4 ⟨rfl, hb4⟩
          have KX := Lib.hid (show Below w.heap.size w (w4.alloc (.cells #[.int .i64 0, .slice none 0 0] 24)) from bon hb.out (bon hb4 (bda _ _)))
          have VX := Lib.hid (hvs.out.below (bon hb4 (bda w4 (.cells #[.int .i64 0, .slice none 0 0] 24))))
          have RX := Lib.hid (row_on hrow.out (bon hb4 (bda w4 (.cells #[.int .i64 0, .slice none 0 0] 24))))
          clear hb4 f0 f1
          go_wp2
          go_roundw
          case rel => exact ⟨k + 1, A, c, vs, by go_num, by have := HLX.out; omega, by have := HLX.out; omega, RX, VX, hseq, Lib.hid (by have h1 := E12.out; have h2 := hlen.out; omega), KX⟩
          case measure => simp [intOf]; have := HLX.out; omega
    · by_cases hkx : k < xs.length
      · have d1 : decide ((k : Int) < (xs.length : Int)) = true := by simp; omega
        have d1' : decide (k < xs.length) = true := by simp; omega
        have d2 : decide ((k : Int) < 20) = false := by simp; omega
        have d2' : decide (k < 20) = false := by simp; omega
        have HK := Lib.hid (show min k 12 = min xs.length 12 by omega)
        clear hkx hlt
        have HM : (if (12 : Int) < (xs.length : Int) then (12 : Int) else (xs.length : Int)) = (vs.length : Int) := by have := HK.out; have h2 := hlen.out; split <;> omega
        go_wp2_with fail
        clear HM
        obtain ⟨V, rfl⟩ : ∃ V : World, V = wr := ⟨_, rfl⟩
        go_loopw [12] (fun i wr => ∃ q : Nat, i = .int .i64 q ∧ q ≤ vs.length ∧ Hid (Below V.heap.size V wr)) (fun i _ => vs.length - (intOf i).toNat)
        case atStart => exact ⟨0, rfl, Nat.zero_le _, Lib.hid (Below.refl _ _)⟩
        case round =>
          obtain ⟨q, rfl, hq, hbq⟩ := hrel
          have rq := row_on hrow.out hbq.out
          have sg2 := heap_lt rq
          clear f0 f1
          have f0 : wr.cell? ⟨g, 0, none⟩ = some (.int .i64 ((vs.length : Int) + 1)) := row_c rq (i := 0) rfl
          have f1 : wr.cell? ⟨g, 1, none⟩ = some (.slice A vs.length c) := row_c rq (i := 1) rfl
          have RQ := Lib.hid rq
          clear rq
          by_cases hql : q < vs.length
          · have dq : decide ((q : Int) < (vs.length : Int)) = true := by simp; omega
            have FS := Lib.hid (fun X (hX : Vs X A c vs) => find_some ((vs.length : Int) + 1) A c vs ((q : Int) + 1) q X hX (by omega) (find_seq hseq.out hql))
            have HQ := Lib.hid hql
            clear hql
            go_wp2_with fail
            with_reducible refine (FS.out _ (hvs.out.below hbq.out)).mono ?_
            rintro e w5 ⟨rfl, hb5⟩
            have K5 := Lib.hid (bon hbq.out hb5)
            clear hb5 f0 f1
            go_wp2
            go_roundw
            case rel => exact ⟨q + 1, by go_num, by have := HQ.out; omega, K5⟩
            case measure => simp [intOf]; have := HQ.out; omega
          · have dq : decide ((q : Int) < (vs.length : Int)) = false := by simp; omega
            have dq' : decide (q < vs.length) = false := by simp; omega
            clear hql
            have OS := Lib.hid (out_seq hseq.out l12 gone)
            by_cases hg : 1 ≤ gone ∧ gone < vs.length
            · obtain ⟨i, hi⟩ := Int.eq_ofNat_of_zero_le (show 0 ≤ gone - 1 by omega)
              have hgi : gone = (i : Int) + 1 := by omega
              have hil : i + 1 < vs.length := by omega
              have OSS := Lib.hid (outP_some (show outP ((vs.length : Int) + 1) vs gone = some i by rw [OS.out, if_pos hg]; congr 1; omega))
              have OY := Lib.hid (fun X (hX : Vs X A c vs) => out_yes ((vs.length : Int) + 1) A c vs gone X hX i OSS.out.1 OSS.out.2.1 OSS.out.2.2.1 OSS.out.2.2.2)
              have dg : decide (gone < 1) = false := by simp; omega
              have dg2 : decide ((vs.length : Int) ≤ gone) = false := by simp; omega
              have ZL := Lib.hid (cut_len (show i < vs.length by omega))
              have ZN := Lib.hid (show findP (cutAt vs i) gone = none by rw [hgi]; exact find_cut hseq.out hil)
              have Z0 := Lib.hid (find_last hil)
              have ZA := Lib.hid (cut_last hil)
              have ZR := Lib.hid (right_cut hseq.out l12 (show i < vs.length by omega))
              have l2 : 2 ≤ vs.length := by omega
              clear hg hi hgi hil OS
              generalize cutAt vs i = zs at *
              obtain ⟨E1, hE1⟩ : ∃ E, vs.length - 1 = E := ⟨_, rfl⟩
              obtain ⟨E2, hE2⟩ : ∃ E, vs.length - 2 = E := ⟨_, rfl⟩
              rw [hE1] at ZA ZL
              rw [hE2] at ZA Z0
              have FN := Lib.hid (fun B d X (hX : Vs X B d zs) => find_none ((vs.length : Int) + 1) B d zs gone X hX (by have := ZL.out; omega) ZN.out)
              have FL := Lib.hid (fun B d X (hX : Vs X B d zs) => find_some ((vs.length : Int) + 1) B d zs 0 E2 X hX (by have := ZL.out; omega) Z0.out)
              have RR := Lib.hid (fun B d X (hX : Vs X B d zs) => right_any ((vs.length : Int) + 1) B d zs X hX (by have := ZL.out; omega))
              rw [ZR.out] at RR
              have x1 : (vs.length : Int) - 1 = (E1 : Int) := by omega
              have x2 : (vs.length : Int) - 2 = (E2 : Int) := by omega
              have x3 : IntKind.i64.wrap (E1 : Int) = (E1 : Int) := IntWalk.i64_in _ (by omega)
              have x4 : IntKind.i64.wrap (E2 : Int) = (E2 : Int) := IntWalk.i64_in _ (by omega)
              have x5 : E1 < vs.length := by omega
              have x6 : E2 < zs.length := by have := ZL.out; omega
              have x7 : (E1 : Int) < (vs.length : Int) := by omega
              have x8 : (E2 : Int) < (zs.length : Int) := by omega
              clear hE1 hE2
              go_wp2_with fail
              with_reducible refine (OY.out _ (hvs.out.below hbq.out)).mono ?_
              rintro e w5 ⟨A5, c5, rfl, hv5, hb5, _⟩
              have V5 := Lib.hid hv5
              have K5 := Lib.hid (bon hbq.out hb5)
              clear hb5 hv5
              go_wp2_with fail
              with_reducible refine (FN.out A5 c5 _ (V5.out.below (bda w5 _))).mono ?_
              rintro e w6 ⟨rfl, hb6⟩
              have D6 := Lib.hid (row_on (heap_alloc_new w5 (.cells #[.int .i64 ((vs.length : Int) + 1), .slice A5 zs.length c5] 24)) hb6)
              have V6 := Lib.hid ((V5.out.below (bda w5 (.cells #[.int .i64 ((vs.length : Int) + 1), .slice A5 zs.length c5] 24))).below hb6)
              have K6 := Lib.hid (bon K5.out (bon (bda w5 (.cells #[.int .i64 ((vs.length : Int) + 1), .slice A5 zs.length c5] 24)) hb6))
              clear hb6
              have h0 : w6.cell? ⟨w5.heap.size, 0, none⟩ = some (.int .i64 ((vs.length : Int) + 1)) := row_c D6.out (i := 0) rfl
              have h1 : w6.cell? ⟨w5.heap.size, 1, none⟩ = some (.slice A5 zs.length c5) := row_c D6.out (i := 1) rfl
              go_wp2_with fail
              with_reducible refine (FL.out A5 c5 _ V6.out).mono ?_
              rintro e w7 ⟨rfl, hb7⟩
              have D7 := Lib.hid (row_on D6.out hb7)
              have V7 := Lib.hid (V6.out.below hb7)
              have K7 := Lib.hid (bon K6.out hb7)
              clear hb7 h0 h1 f0 f1
              have G7 := Lib.hid (row_on hrow.out K7.out)
              obtain ⟨b5, o5, hA5, hl5, hc5⟩ := V7.out.2 (by omega)
              have y0 := (hc5 E2 x6).1
              have y1 := (hc5 E2 x6).2
              obtain ⟨b6, o6, hA6, hl6, hc6⟩ := (hvs.out.below K7.out).2 (by omega)
              have y2 := (hc6 E1 x5).1
              have y3 := (hc6 E1 x5).2
              rw [ZA.out] at y0 y1
              have W7 := Lib.hid V7.out
              clear hc5 hc6
              generalize at2 vs E1 = u at *
              obtain ⟨un, ur⟩ := u
              simp only at y0 y1 y2 y3
              have h0 : w7.cell? ⟨w5.heap.size, 0, none⟩ = some (.int .i64 ((vs.length : Int) + 1)) := row_c D7.out (i := 0) rfl
              have h1 : w7.cell? ⟨w5.heap.size, 1, none⟩ = some (.slice A5 zs.length c5) := row_c D7.out (i := 1) rfl
              have f0 : w7.cell? ⟨g, 0, none⟩ = some (.int .i64 ((vs.length : Int) + 1)) := row_c G7.out (i := 0) rfl
              have f1 : w7.cell? ⟨g, 1, none⟩ = some (.slice A vs.length c) := row_c G7.out (i := 1) rfl
              have sd := heap_lt D7.out
              have sg7 := heap_lt G7.out
              have KD := Lib.hid (bd0 w7)
              subst hA5
              subst hA6
              have RRR := Lib.hid (RR.out _ c5 w7.drew (W7.out.below KD.out))
              go_upto_region 30 with (fail)
              go_region_held3 (fun w' => ∀ b o, b < w7.heap.size → w'.cell? ⟨b, o, none⟩ = w7.cell? ⟨b, o, none⟩)
                (first | with_reducible exact bcell KD.out | with_reducible exact bcell K8.out)
                ((go_at_call 15; (with_reducible refine RRR.out.mono ?_); rintro e w8 ⟨rfl, hb8⟩; (have K8 := Lib.hid (bon KD.out hb8)); clear hb8))
              rename_i hHeld
              clear hHeld
              go_wp2
              go_ret
              exact ⟨rfl, bon hb.out (bon K7.out K8.out)⟩
            · have OSS := Lib.hid (show outP ((vs.length : Int) + 1) vs gone = none by rw [OS.out, if_neg hg])
              have ON := Lib.hid (fun X (hX : Vs X A c vs) => out_no ((vs.length : Int) + 1) A c vs gone X hX (by omega) OSS.out)
              by_cases hg1 : gone < 1
              · have dg : decide (gone < 1) = true := decide_eq_true hg1
                clear hg hg1
                go_wp2_with fail
                with_reducible refine (ON.out _ (hvs.out.below hbq.out)).mono ?_
                rintro e w5 ⟨rfl, hb5⟩
                have K5 := Lib.hid (bon hb.out (bon hbq.out (bon hb5 (bda w5 (.cells #[.int .i64 0, .slice none 0 0] 24)))))
                clear hb5
                go_wp2
                go_ret
                exact ⟨rfl, K5.out⟩
              · have dg : decide (gone < 1) = false := decide_eq_false hg1
                have dg2 : decide ((vs.length : Int) ≤ gone) = true := by simp; omega
                clear hg hg1
                go_wp2_with fail
                with_reducible refine (ON.out _ (hvs.out.below hbq.out)).mono ?_
                rintro e w5 ⟨rfl, hb5⟩
                have K5 := Lib.hid (bon hb.out (bon hbq.out (bon hb5 (bda w5 (.cells #[.int .i64 0, .slice none 0 0] 24)))))
                clear hb5
                go_wp2
                go_ret
                exact ⟨rfl, K5.out⟩
      · have d1 : decide ((k : Int) < (xs.length : Int)) = false := by simp; omega
        have d1' : decide (k < xs.length) = false := by simp; omega
        have HK := Lib.hid (show min k 12 = min xs.length 12 by omega)
        clear hkx hlt
        have HM : (if (12 : Int) < (xs.length : Int) then (12 : Int) else (xs.length : Int)) = (vs.length : Int) := by have := HK.out; have h2 := hlen.out; split <;> omega
        go_wp2_with fail
        clear HM
        obtain ⟨V, rfl⟩ : ∃ V : World, V = wr := ⟨_, rfl⟩
        go_loopw [12] (fun i wr => ∃ q : Nat, i = .int .i64 q ∧ q ≤ vs.length ∧ Hid (Below V.heap.size V wr)) (fun i _ => vs.length - (intOf i).toNat)
        case atStart => exact ⟨0, rfl, Nat.zero_le _, Lib.hid (Below.refl _ _)⟩
        case round =>
          obtain ⟨q, rfl, hq, hbq⟩ := hrel
          have rq := row_on hrow.out hbq.out
          have sg2 := heap_lt rq
          clear f0 f1
          have f0 : wr.cell? ⟨g, 0, none⟩ = some (.int .i64 ((vs.length : Int) + 1)) := row_c rq (i := 0) rfl
          have f1 : wr.cell? ⟨g, 1, none⟩ = some (.slice A vs.length c) := row_c rq (i := 1) rfl
          have RQ := Lib.hid rq
          clear rq
          by_cases hql : q < vs.length
          · have dq : decide ((q : Int) < (vs.length : Int)) = true := by simp; omega
            have FS := Lib.hid (fun X (hX : Vs X A c vs) => find_some ((vs.length : Int) + 1) A c vs ((q : Int) + 1) q X hX (by omega) (find_seq hseq.out hql))
            have HQ := Lib.hid hql
            clear hql
            go_wp2_with fail
            with_reducible refine (FS.out _ (hvs.out.below hbq.out)).mono ?_
            rintro e w5 ⟨rfl, hb5⟩
            have K5 := Lib.hid (bon hbq.out hb5)
            clear hb5 f0 f1
            go_wp2
            go_roundw
            case rel => exact ⟨q + 1, by go_num, by have := HQ.out; omega, K5⟩
            case measure => simp [intOf]; have := HQ.out; omega
          · have dq : decide ((q : Int) < (vs.length : Int)) = false := by simp; omega
            have dq' : decide (q < vs.length) = false := by simp; omega
            clear hql
            have OS := Lib.hid (out_seq hseq.out l12 gone)
            by_cases hg : 1 ≤ gone ∧ gone < vs.length
            · obtain ⟨i, hi⟩ := Int.eq_ofNat_of_zero_le (show 0 ≤ gone - 1 by omega)
              have hgi : gone = (i : Int) + 1 := by omega
              have hil : i + 1 < vs.length := by omega
              have OSS := Lib.hid (outP_some (show outP ((vs.length : Int) + 1) vs gone = some i by rw [OS.out, if_pos hg]; congr 1; omega))
              have OY := Lib.hid (fun X (hX : Vs X A c vs) => out_yes ((vs.length : Int) + 1) A c vs gone X hX i OSS.out.1 OSS.out.2.1 OSS.out.2.2.1 OSS.out.2.2.2)
              have dg : decide (gone < 1) = false := by simp; omega
              have dg2 : decide ((vs.length : Int) ≤ gone) = false := by simp; omega
              have ZL := Lib.hid (cut_len (show i < vs.length by omega))
              have ZN := Lib.hid (show findP (cutAt vs i) gone = none by rw [hgi]; exact find_cut hseq.out hil)
              have Z0 := Lib.hid (find_last hil)
              have ZA := Lib.hid (cut_last hil)
              have ZR := Lib.hid (right_cut hseq.out l12 (show i < vs.length by omega))
              have l2 : 2 ≤ vs.length := by omega
              clear hg hi hgi hil OS
              generalize cutAt vs i = zs at *
              obtain ⟨E1, hE1⟩ : ∃ E, vs.length - 1 = E := ⟨_, rfl⟩
              obtain ⟨E2, hE2⟩ : ∃ E, vs.length - 2 = E := ⟨_, rfl⟩
              rw [hE1] at ZA ZL
              rw [hE2] at ZA Z0
              have FN := Lib.hid (fun B d X (hX : Vs X B d zs) => find_none ((vs.length : Int) + 1) B d zs gone X hX (by have := ZL.out; omega) ZN.out)
              have FL := Lib.hid (fun B d X (hX : Vs X B d zs) => find_some ((vs.length : Int) + 1) B d zs 0 E2 X hX (by have := ZL.out; omega) Z0.out)
              have RR := Lib.hid (fun B d X (hX : Vs X B d zs) => right_any ((vs.length : Int) + 1) B d zs X hX (by have := ZL.out; omega))
              rw [ZR.out] at RR
              have x1 : (vs.length : Int) - 1 = (E1 : Int) := by omega
              have x2 : (vs.length : Int) - 2 = (E2 : Int) := by omega
              have x3 : IntKind.i64.wrap (E1 : Int) = (E1 : Int) := IntWalk.i64_in _ (by omega)
              have x4 : IntKind.i64.wrap (E2 : Int) = (E2 : Int) := IntWalk.i64_in _ (by omega)
              have x5 : E1 < vs.length := by omega
              have x6 : E2 < zs.length := by have := ZL.out; omega
              have x7 : (E1 : Int) < (vs.length : Int) := by omega
              have x8 : (E2 : Int) < (zs.length : Int) := by omega
              clear hE1 hE2
              go_wp2_with fail
              with_reducible refine (OY.out _ (hvs.out.below hbq.out)).mono ?_
              rintro e w5 ⟨A5, c5, rfl, hv5, hb5, _⟩
              have V5 := Lib.hid hv5
              have K5 := Lib.hid (bon hbq.out hb5)
              clear hb5 hv5
              go_wp2_with fail
              with_reducible refine (FN.out A5 c5 _ (V5.out.below (bda w5 _))).mono ?_
              rintro e w6 ⟨rfl, hb6⟩
              have D6 := Lib.hid (row_on (heap_alloc_new w5 (.cells #[.int .i64 ((vs.length : Int) + 1), .slice A5 zs.length c5] 24)) hb6)
              have V6 := Lib.hid ((V5.out.below (bda w5 (.cells #[.int .i64 ((vs.length : Int) + 1), .slice A5 zs.length c5] 24))).below hb6)
              have K6 := Lib.hid (bon K5.out (bon (bda w5 (.cells #[.int .i64 ((vs.length : Int) + 1), .slice A5 zs.length c5] 24)) hb6))
              clear hb6
              have h0 : w6.cell? ⟨w5.heap.size, 0, none⟩ = some (.int .i64 ((vs.length : Int) + 1)) := row_c D6.out (i := 0) rfl
              have h1 : w6.cell? ⟨w5.heap.size, 1, none⟩ = some (.slice A5 zs.length c5) := row_c D6.out (i := 1) rfl
              go_wp2_with fail
              with_reducible refine (FL.out A5 c5 _ V6.out).mono ?_
              rintro e w7 ⟨rfl, hb7⟩
              have D7 := Lib.hid (row_on D6.out hb7)
              have V7 := Lib.hid (V6.out.below hb7)
              have K7 := Lib.hid (bon K6.out hb7)
              clear hb7 h0 h1 f0 f1
              have G7 := Lib.hid (row_on hrow.out K7.out)
              obtain ⟨b5, o5, hA5, hl5, hc5⟩ := V7.out.2 (by omega)
              have y0 := (hc5 E2 x6).1
              have y1 := (hc5 E2 x6).2
              obtain ⟨b6, o6, hA6, hl6, hc6⟩ := (hvs.out.below K7.out).2 (by omega)
              have y2 := (hc6 E1 x5).1
              have y3 := (hc6 E1 x5).2
              rw [ZA.out] at y0 y1
              have W7 := Lib.hid V7.out
              clear hc5 hc6
              generalize at2 vs E1 = u at *
              obtain ⟨un, ur⟩ := u
              simp only at y0 y1 y2 y3
              have h0 : w7.cell? ⟨w5.heap.size, 0, none⟩ = some (.int .i64 ((vs.length : Int) + 1)) := row_c D7.out (i := 0) rfl
              have h1 : w7.cell? ⟨w5.heap.size, 1, none⟩ = some (.slice A5 zs.length c5) := row_c D7.out (i := 1) rfl
              have f0 : w7.cell? ⟨g, 0, none⟩ = some (.int .i64 ((vs.length : Int) + 1)) := row_c G7.out (i := 0) rfl
              have f1 : w7.cell? ⟨g, 1, none⟩ = some (.slice A vs.length c) := row_c G7.out (i := 1) rfl
              have sd := heap_lt D7.out
              have sg7 := heap_lt G7.out
              have KD := Lib.hid (bd0 w7)
              subst hA5
              subst hA6
              have RRR := Lib.hid (RR.out _ c5 w7.drew (W7.out.below KD.out))
              go_upto_region 30 with (fail)
              go_region_held3 (fun w' => ∀ b o, b < w7.heap.size → w'.cell? ⟨b, o, none⟩ = w7.cell? ⟨b, o, none⟩)
                (first | with_reducible exact bcell KD.out | with_reducible exact bcell K8.out)
                ((go_at_call 15; (with_reducible refine RRR.out.mono ?_); rintro e w8 ⟨rfl, hb8⟩; (have K8 := Lib.hid (bon KD.out hb8)); clear hb8))
              rename_i hHeld
              clear hHeld
              go_wp2
              go_ret
              exact ⟨rfl, bon hb.out (bon K7.out K8.out)⟩
            · have OSS := Lib.hid (show outP ((vs.length : Int) + 1) vs gone = none by rw [OS.out, if_neg hg])
              have ON := Lib.hid (fun X (hX : Vs X A c vs) => out_no ((vs.length : Int) + 1) A c vs gone X hX (by omega) OSS.out)
              by_cases hg1 : gone < 1
              · have dg : decide (gone < 1) = true := decide_eq_true hg1
                clear hg hg1
                go_wp2_with fail
                with_reducible refine (ON.out _ (hvs.out.below hbq.out)).mono ?_
                rintro e w5 ⟨rfl, hb5⟩
                have K5 := Lib.hid (bon hb.out (bon hbq.out (bon hb5 (bda w5 (.cells #[.int .i64 0, .slice none 0 0] 24)))))
                clear hb5
                go_wp2
                go_ret
                exact ⟨rfl, K5.out⟩
              · have dg : decide (gone < 1) = false := decide_eq_false hg1
                have dg2 : decide ((vs.length : Int) ≤ gone) = true := by simp; omega
                clear hg hg1
                go_wp2_with fail
                with_reducible refine (ON.out _ (hvs.out.below hbq.out)).mono ?_
                rintro e w5 ⟨rfl, hb5⟩
                have K5 := Lib.hid (bon hb.out (bon hbq.out (bon hb5 (bda w5 (.cells #[.int .i64 0, .slice none 0 0] 24)))))
                clear hb5
                go_wp2
                go_ret
                exact ⟨rfl, K5.out⟩
end Go.Proofs.Ytlfjopjfolbmiaa
