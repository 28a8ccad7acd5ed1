/-
  The document's Decode.
-/
import Derived.Test.YtlfjopjfolbmiaaDb
namespace Go.Proofs.Ytlfjopjfolbmiaa
open Go.RowKit
set_option maxHeartbeats 8000000 in
set_option maxRecDepth 100000 in
theorem rdecode_any (S : List UInt8) (m : Nat) (w : World) (hS : S.length = 4 + 6 * m) (hm : m ≤ 400000) :
    Calls Try.prog 13 #[.string ⟨S.toArray⟩] w fun e w' => (rightB (rd4 S : Nat) (decL S m) = true → ∃ A c, e = .returned (.tuple #[.agg #[.int .i64 (rd4 S : Nat), .slice A (decL S m).length c], .bool true]) ∧ Vs w' A c (decL S m)) ∧ (rightB (rd4 S : Nat) (decL S m) = false → e = .returned (.tuple #[.agg #[.int .i64 0, .slice none 0 0], .bool false])) ∧ Below w.heap.size w w' := by
  obtain ⟨i0, hi, hz0, hz1, hz2⟩ := info_parts (show (Try.prog.info? 59).map (fun i => (i.zero, i.size, i.bytes)) = some (some (.agg #[.int .i64 0, .int .i64 0]), 2, 16) by kernel_rfl)
  have ss := Lib.hid (str_size S)
  have e1 : decide (S.length < 4) = false := decide_eq_false (by omega)
  have e2 : decide ((S.length : Int) < 4) = false := by simp; omega
  have e3 : (((S.length : Int) - 4).tmod 6 != 0) = false := by
    rw [Int.tmod_eq_emod_of_nonneg (by omega)]
    simp only [bne_eq_false_iff_eq]
    omega
  have e4 : (((S.length : Int) - 4) % 6 != 0) = false := by
    simp only [bne_eq_false_iff_eq]
    omega
  have l4 : 4 ≤ S.length := by omega
  have sl : S.length ≤ 3000000 := by omega
  obtain ⟨xn, hx⟩ : ∃ x, rd4 S = x := ⟨_, rfl⟩
  have RD := Lib.hid (fun V => number_any S V l4)
  rw [hx] at RD ⊢
  have HSS := Lib.hid hS
  obtain ⟨d, hd⟩ : ∃ d : ByteArray, d = ⟨S.toArray⟩ := ⟨_, rfl⟩
  have dsz : d.size = S.length := by rw [hd, str_size]
  have HDD := Lib.hid hd
  rw [← hd] at RD ⊢
  have HDS := Lib.hid dsz
  rw [← dsz] at e1 e2 e3 e4 l4 sl
  clear hS hx hd dsz ss
  go_enter Try.func13, Try.ntmps13
  go_wp2_with fail
  refine (RD.out _).mono ?_
  rintro e w2 ⟨rfl, hb⟩
  have K2 := Lib.hid (bon (bda _ (.cells #[.int .i64 0, .slice none 0 0] 34)) hb)
  have R2 := Lib.hid (row_on (heap_alloc_new w (.cells #[.int .i64 0, .slice none 0 0] 34)) hb)
  clear hb e1 e2 e3 e4
  go_wp2_with fail
  obtain ⟨W, hW⟩ : ∃ W : World, W = w2.alloc (.cells #[.int .i64 (xn : Int), .slice none 0 0] 34) := ⟨_, rfl⟩
  have R4 := Lib.hid (show W.heap[w2.heap.size]? = some (.cells #[.int .i64 (xn : Int), .slice none 0 0] 34) by rw [hW]; exact heap_alloc_new _ _)
  have BW := Lib.hid (show Below w2.heap.size w2 W by rw [hW]; exact bda _ _)
  have SW := Lib.hid (show W.heap.size = w2.heap.size + 1 by rw [hW]; simp)
  rw [← hW]
  clear hW
  have Q2 := Lib.hid (row_on R2.out BW.out)
  have KQ := Lib.hid (K2.out.trans (BW.out.mono K2.out.size))
  have GW := Lib.hid (heap_lt R2.out)
  clear R2 BW K2
  obtain ⟨g4, hg4⟩ : ∃ g, w2.heap.size = g := ⟨_, rfl⟩
  rw [hg4] at R4 SW GW ⊢
  clear hg4
  go_loopw [5] (fun i wr => ∃ (k : Nat) (A3 : Option Addr) (c3 : Nat), k ≤ m ∧ i = .int .i64 ((4 + 6 * k : Nat) : Int) ∧ Hid (wr.ownsRow (g4 + 1) 59 2 (.slice A3 k c3) k (vcells (decL S k))) ∧ Hid (wr.heap[g4]? = some (.cells #[.int .i64 (xn : Int), .slice A3 k c3] 34)) ∧ Hid (Below g4 W wr)) (fun i _ => 4 + 6 * m - (intOf i).toNat)
  case atStart => exact ⟨0, none, 0, Nat.zero_le _, rfl, Lib.hid (World.ownsRow_nil _ _ _ _), R4, Lib.hid (Below.refl _ _)⟩
  case round =>
    obtain ⟨k, A3, c3, hk, rfl, ho, hr4, hb⟩ := hrel
    have KW := Lib.hid (show Below w.heap.size w wr from KQ.out.trans (hb.out.mono (by have := GW.out; omega)))
    have G4 := Lib.hid (heap_lt hr4.out)
    have ZS := Lib.hid (show g4 + 1 ≤ wr.heap.size from G4.out)
    have f1 := row_c hr4.out (i := 1) rfl
    have f0 := row_c hr4.out (i := 0) rfl
    obtain ⟨ii, hii⟩ : ∃ i, 4 + 6 * k = i := ⟨_, rfl⟩
    rw [hii]
    by_cases hlt : k < m
    · obtain ⟨L, hL⟩ : ∃ L, S.drop ii = L := ⟨_, rfl⟩
      have hll : L.length = 6 * (m - k) := by rw [← hL, List.length_drop, HSS.out]; omega
      have l6 : 6 ≤ L.length := by omega
      have a4 : at8 L 4 = at8 S (ii + 4) := by rw [← hL]; unfold at8; rw [List.getElem?_drop]
      have a5 : at8 L 5 = at8 S (ii + 5) := by rw [← hL]; unfold at8; rw [List.getElem?_drop]
      have RD4 := Lib.hid (fun V => number_any L V (by omega))
      obtain ⟨p4, hp4⟩ : ∃ p, rd4 L = p := ⟨_, rfl⟩
      obtain ⟨y4, hy4⟩ : ∃ p, at8 L 4 = p := ⟨_, rfl⟩
      obtain ⟨y5, hy5⟩ : ∃ p, at8 L 5 = p := ⟨_, rfl⟩
      obtain ⟨p2, hp2⟩ : ∃ p, y4 * 256 + y5 = p := ⟨_, rfl⟩
      have VL := Lib.hid (show decL S (k + 1) = decL S k ++ [((p4 : Int), (p2 : Int))] by rw [decL_snoc, hii, hL, ← hp4, ← hp2, ← hy4, ← hy5]; rfl)
      rw [hp4] at RD4
      have t4 : y4 < 256 := by rw [← hy4]; exact at8_lt _ _
      have t5 : y5 < 256 := by rw [← hy5]; exact at8_lt _ _
      have or := or2' t4 t5
      rw [hp2] at or
      have OR := Lib.hid or
      obtain ⟨j4, hj4⟩ : ∃ j, ii + 4 = j := ⟨_, rfl⟩
      obtain ⟨j5, hj5⟩ : ∃ j, ii + 5 = j := ⟨_, rfl⟩
      have dl0 : ii + 6 ≤ d.size := by rw [HDS.out, HSS.out]; omega
      have BB := Lib.hid (show (∀ h' : j4 < d.size, (d[j4]'h').toNat = y4) ∧ (∀ h' : j5 < d.size, (d[j5]'h').toNat = y5) ∧ (j4 < d.size ∧ j5 < d.size ∧ (j4 : Int) < (d.size : Int) ∧ (j5 : Int) < (d.size : Int)) from by
        refine ⟨?_, ?_, by omega, by omega, by omega, by omega⟩
        · have := HDD.out; subst this; intro h'; rw [← hy4, a4, hj4]; exact ba_at S j4 h'
        · have := HDD.out; subst this; intro h'; rw [← hy5, a5, hj5]; exact ba_at S j5 h')
      have WW := Lib.hid (And.intro (show IntKind.i64.wrap ((ii : Int) + 4) = (j4 : Int) by rw [IntWalk.i64_in _ (by omega)]; omega) (show IntKind.i64.wrap ((ii : Int) + 5) = (j5 : Int) by rw [IntWalk.i64_in _ (by omega)]; omega))
      have UU := Lib.hid (And.intro (show IntKind.i64.wrap (y4 : Int) = (y4 : Int) from IntWalk.i64_in _ (by omega)) (And.intro (show IntKind.i64.wrap ((y4 : Int) * 256) = (y4 : Int) * 256 from IntWalk.i64_in _ (by omega)) (show IntKind.i64.wrap (y5 : Int) = (y5 : Int) from IntWalk.i64_in _ (by omega))))
      obtain ⟨dl, hdl⟩ : ∃ x : ByteArray, x = ⟨L.toArray⟩ := ⟨_, rfl⟩
      have SZ := Lib.hid (And.intro (show d.extract ii d.size = dl by rw [HDS.out, HDD.out, hdl, ext_drop, hL]) (show (ii : Int) ≤ (d.size : Int) by omega))
      have b0 : decide ((ii : Int) < (d.size : Int)) = true := decide_eq_true (by omega)
      have b0' : decide (ii < d.size) = true := decide_eq_true (by omega)
      have W6 := Lib.hid (show IntKind.i64.wrap ((ii : Int) + 6) = ((4 + 6 * (k + 1) : Nat) : Int) by rw [IntWalk.i64_in _ (by omega)]; omega)
      have HLT := Lib.hid hlt
      have HII := Lib.hid hii
      rw [← hdl] at RD4
      clear hdl hp4 hp2 hy4 hy5 t4 t5 or hj4 hj5 a4 a5 hll l6 hL hii dl0
      have FB := Lib.hid (fun x (K : Below wr.heap.size wr x) => (K.cell (p := ⟨g4, 1, none⟩) G4.out).trans f1)
      go_upto_region 7 with (fail)
      clear f0 f1
      refine wp_operands (W := wr) rfl 20 [27, 28, 29, 30, 31, 32, 33, 34, 35, 36, 37, 38, 39, 40, 41, 42, 43, 44, 45, 46] (fun i u x => match i with | 0 => u = .pointer (some ⟨g4, 1, none⟩) | 1 => u = .slice A3 k c3 | 2 => u = .string d | 3 => u = .int .i64 (ii : Int) | 4 => u = .string dl | 5 => u = .int .i64 (p4 : Int) | 6 => u = .string d | 7 => u = .int .i64 (ii : Int) | 8 => u = .int .i64 (j4 : Int) | 9 => u = .int .u8 (y4 : Int) | 10 => u = .int .i64 (y4 : Int) | 11 => u = .int .i64 ((y4 : Int) * 256) | 12 => u = .string d | 13 => u = .int .i64 (ii : Int) | 14 => u = .int .i64 (j5 : Int) | 15 => u = .int .u8 (y5 : Int) | 16 => u = .int .i64 (y5 : Int) | 17 => u = .int .i64 (p2 : Int) | 18 => u = .agg #[.int .i64 (p4 : Int), .int .i64 (p2 : Int)] | 19 => ∃ g, u = .slice (some ⟨g, 0, none⟩) 1 1 ∧ x.heap[g]? = some (.cells #[.int .i64 (p4 : Int), .int .i64 (p2 : Int)] 59 (0, 0)) | _ => True) (fun _ => false)
        (by decide) rfl (by kernel_rfl) (by kernel_rfl) (by decide) (by kernel_rfl) ?_ (fun _ _ _ h => by cases h) ?_ ?_
      · intro i u x x' hi hR hb'
        have hi' : i = 0 ∨ i = 1 ∨ i = 2 ∨ i = 3 ∨ i = 4 ∨ i = 5 ∨ i = 6 ∨ i = 7 ∨ i = 8 ∨ i = 9 ∨ i = 10 ∨ i = 11 ∨ i = 12 ∨ i = 13 ∨ i = 14 ∨ i = 15 ∨ i = 16 ∨ i = 17 ∨ i = 18 ∨ i = 19 := by omega
        rcases hi' with rfl | rfl | rfl | rfl | rfl | rfl | rfl | rfl | rfl | rfl | rfl | rfl | rfl | rfl | rfl | rfl | rfl | rfl | rfl | rfl
        · exact hR
        · exact hR
        · exact hR
        · exact hR
        · exact hR
        · exact hR
        · exact hR
        · exact hR
        · exact hR
        · exact hR
        · exact hR
        · exact hR
        · exact hR
        · exact hR
        · exact hR
        · exact hR
        · exact hR
        · exact hR
        · exact hR
        · obtain ⟨g, e, hg⟩ := hR; exact ⟨g, e, (hb'.block g (heap_lt hg)).trans hg⟩
      · intro i av x K hi hF hb' hw hK
        have hi' : i = 0 ∨ i = 1 ∨ i = 2 ∨ i = 3 ∨ i = 4 ∨ i = 5 ∨ i = 6 ∨ i = 7 ∨ i = 8 ∨ i = 9 ∨ i = 10 ∨ i = 11 ∨ i = 12 ∨ i = 13 ∨ i = 14 ∨ i = 15 ∨ i = 16 ∨ i = 17 ∨ i = 18 ∨ i = 19 := by omega
        rcases hi' with rfl | rfl | rfl | rfl | rfl | rfl | rfl | rfl | rfl | rfl | rfl | rfl | rfl | rfl | rfl | rfl | rfl | rfl | rfl | rfl
        · simp only [wpOp, List.getElem?_toArray, List.getElem?_cons_zero, Region.wanted, if_true]
          refine Or.inl ?_
          have e0 : av.eval (.tmp 4) = .pointer (some ⟨g4, 0, none⟩) := hF.2.2 4 (by decide)
          clear hw hF
          simp only [Oper.wp, execOp]
          rw [e0]
          go_simp
          exact hK _ x (by first | rfl | (rw [O]; done) | exact O | (congr 1; omega)) (Below.refl _ _) (fun h => by cases h)
        · simp only [wpOp, List.getElem?_toArray, List.getElem?_cons_succ, List.getElem?_cons_zero, Region.wanted, if_true]
          refine Or.inl ?_
          have e0 : av.tmps.getD 27 undef = .pointer (some ⟨g4, 1, none⟩) := hw 0 (by kernel_rfl)
          have f := FB.out x hb'
          clear hw hF
          simp only [Oper.wp, execOp]
          go_simp
          exact hK _ x (by first | rfl | (rw [O]; done) | exact O | (congr 1; omega)) (Below.refl _ _) (fun h => by cases h)
        · simp only [wpOp, List.getElem?_toArray, List.getElem?_cons_succ, List.getElem?_cons_zero, Region.wanted, if_true]
          refine Or.inl ?_
          have e0 : av.eval (.tmp 0) = .string d := hF.2.2 0 (by decide)
          clear hw hF
          simp only [Oper.wp, execOp]
          rw [e0]
          go_simp
          exact hK _ x (by first | rfl | (rw [O]; done) | exact O | (congr 1; omega)) (Below.refl _ _) (fun h => by cases h)
        · simp only [wpOp, List.getElem?_toArray, List.getElem?_cons_succ, List.getElem?_cons_zero, Region.wanted, if_true]
          refine Or.inl ?_
          have e0 : av.eval (.tmp 5) = .int .i64 (ii : Int) := hF.2.2 5 (by decide)
          clear hw hF
          simp only [Oper.wp, execOp]
          rw [e0]
          go_simp
          exact hK _ x (by first | rfl | (rw [O]; done) | exact O | (congr 1; omega)) (Below.refl _ _) (fun h => by cases h)
        · simp only [wpOp, List.getElem?_toArray, List.getElem?_cons_succ, List.getElem?_cons_zero, Region.wanted, if_true]
          refine Or.inl ?_
          have e0 : av.tmps.getD 29 undef = .string d := hw 2 (by kernel_rfl)
          have e1 : av.tmps.getD 30 undef = .int .i64 (ii : Int) := hw 3 (by kernel_rfl)
          have O := SZ.out.1
          have Z := SZ.out.2
          clear hw hF
          simp only [Oper.wp, execOp]
          go_simp
          exact hK _ x (by first | rfl | (rw [O]; done) | exact O | (congr 1; omega)) (Below.refl _ _) (fun h => by cases h)
        · simp only [wpOp, List.getElem?_toArray, List.getElem?_cons_succ, List.getElem?_cons_zero, Region.wanted, if_true]
          refine Or.inl ?_
          have e0 : av.tmps.getD 31 undef = .string dl := hw 4 (by kernel_rfl)
          clear hw hF
          simp only [Oper.wp, execOp]
          go_simp
          refine (RD4.out x).mono ?_
          rintro e x' ⟨rfl, hx⟩
          exact hK _ x' rfl hx (fun h => by cases h)
        · simp only [wpOp, List.getElem?_toArray, List.getElem?_cons_succ, List.getElem?_cons_zero, Region.wanted, if_true]
          refine Or.inl ?_
          have e0 : av.eval (.tmp 0) = .string d := hF.2.2 0 (by decide)
          clear hw hF
          simp only [Oper.wp, execOp]
          rw [e0]
          go_simp
          exact hK _ x (by first | rfl | (rw [O]; done) | exact O | (congr 1; omega)) (Below.refl _ _) (fun h => by cases h)
        · simp only [wpOp, List.getElem?_toArray, List.getElem?_cons_succ, List.getElem?_cons_zero, Region.wanted, if_true]
          refine Or.inl ?_
          have e0 : av.eval (.tmp 5) = .int .i64 (ii : Int) := hF.2.2 5 (by decide)
          clear hw hF
          simp only [Oper.wp, execOp]
          rw [e0]
          go_simp
          exact hK _ x (by first | rfl | (rw [O]; done) | exact O | (congr 1; omega)) (Below.refl _ _) (fun h => by cases h)
        · simp only [wpOp, List.getElem?_toArray, List.getElem?_cons_succ, List.getElem?_cons_zero, Region.wanted, if_true]
          refine Or.inl ?_
          have e0 : av.tmps.getD 34 undef = .int .i64 (ii : Int) := hw 7 (by kernel_rfl)
          have O := WW.out.1
          clear hw hF
          simp only [Oper.wp, execOp]
          go_simp
          exact hK _ x (by first | rfl | (rw [O]; done) | exact O | (congr 1; omega)) (Below.refl _ _) (fun h => by cases h)
        · simp only [wpOp, List.getElem?_toArray, List.getElem?_cons_succ, List.getElem?_cons_zero, Region.wanted, if_true]
          refine Or.inl ?_
          have e0 : av.tmps.getD 33 undef = .string d := hw 6 (by kernel_rfl)
          have e1 : av.tmps.getD 35 undef = .int .i64 (j4 : Int) := hw 8 (by kernel_rfl)
          have O := BB.out.1
          have Z := BB.out.2.2
          clear hw hF
          simp only [Oper.wp, execOp]
          go_simp
          exact hK _ x (by first | rfl | (rw [O]; done) | exact O | (congr 1; omega)) (Below.refl _ _) (fun h => by cases h)
        · simp only [wpOp, List.getElem?_toArray, List.getElem?_cons_succ, List.getElem?_cons_zero, Region.wanted, if_true]
          refine Or.inl ?_
          have e0 : av.tmps.getD 36 undef = .int .u8 (y4 : Int) := hw 9 (by kernel_rfl)
          have O := UU.out.1
          clear hw hF
          simp only [Oper.wp, execOp]
          go_simp
          exact hK _ x (by first | rfl | (rw [O]; done) | exact O | (congr 1; omega)) (Below.refl _ _) (fun h => by cases h)
        · simp only [wpOp, List.getElem?_toArray, List.getElem?_cons_succ, List.getElem?_cons_zero, Region.wanted, if_true]
          refine Or.inl ?_
          have e0 : av.tmps.getD 37 undef = .int .i64 (y4 : Int) := hw 10 (by kernel_rfl)
          have O := UU.out.2.1
          clear hw hF
          simp only [Oper.wp, execOp]
          go_simp
          exact hK _ x (by first | rfl | (rw [O]; done) | exact O | (congr 1; omega)) (Below.refl _ _) (fun h => by cases h)
        · simp only [wpOp, List.getElem?_toArray, List.getElem?_cons_succ, List.getElem?_cons_zero, Region.wanted, if_true]
          refine Or.inl ?_
          have e0 : av.eval (.tmp 0) = .string d := hF.2.2 0 (by decide)
          clear hw hF
          simp only [Oper.wp, execOp]
          rw [e0]
          go_simp
          exact hK _ x (by first | rfl | (rw [O]; done) | exact O | (congr 1; omega)) (Below.refl _ _) (fun h => by cases h)
        · simp only [wpOp, List.getElem?_toArray, List.getElem?_cons_succ, List.getElem?_cons_zero, Region.wanted, if_true]
          refine Or.inl ?_
          have e0 : av.eval (.tmp 5) = .int .i64 (ii : Int) := hF.2.2 5 (by decide)
          clear hw hF
          simp only [Oper.wp, execOp]
          rw [e0]
          go_simp
          exact hK _ x (by first | rfl | (rw [O]; done) | exact O | (congr 1; omega)) (Below.refl _ _) (fun h => by cases h)
        · simp only [wpOp, List.getElem?_toArray, List.getElem?_cons_succ, List.getElem?_cons_zero, Region.wanted, if_true]
          refine Or.inl ?_
          have e0 : av.tmps.getD 40 undef = .int .i64 (ii : Int) := hw 13 (by kernel_rfl)
          have O := WW.out.2
          clear hw hF
          simp only [Oper.wp, execOp]
          go_simp
          exact hK _ x (by first | rfl | (rw [O]; done) | exact O | (congr 1; omega)) (Below.refl _ _) (fun h => by cases h)
        · simp only [wpOp, List.getElem?_toArray, List.getElem?_cons_succ, List.getElem?_cons_zero, Region.wanted, if_true]
          refine Or.inl ?_
          have e0 : av.tmps.getD 39 undef = .string d := hw 12 (by kernel_rfl)
          have e1 : av.tmps.getD 41 undef = .int .i64 (j5 : Int) := hw 14 (by kernel_rfl)
          have O := BB.out.2.1
          have Z := BB.out.2.2
          clear hw hF
          simp only [Oper.wp, execOp]
          go_simp
          exact hK _ x (by first | rfl | (rw [O]; done) | exact O | (congr 1; omega)) (Below.refl _ _) (fun h => by cases h)
        · simp only [wpOp, List.getElem?_toArray, List.getElem?_cons_succ, List.getElem?_cons_zero, Region.wanted, if_true]
          refine Or.inl ?_
          have e0 : av.tmps.getD 42 undef = .int .u8 (y5 : Int) := hw 15 (by kernel_rfl)
          have O := UU.out.2.2
          clear hw hF
          simp only [Oper.wp, execOp]
          go_simp
          exact hK _ x (by first | rfl | (rw [O]; done) | exact O | (congr 1; omega)) (Below.refl _ _) (fun h => by cases h)
        · simp only [wpOp, List.getElem?_toArray, List.getElem?_cons_succ, List.getElem?_cons_zero, Region.wanted, if_true]
          refine Or.inl ?_
          have e0 : av.tmps.getD 38 undef = .int .i64 ((y4 : Int) * 256) := hw 11 (by kernel_rfl)
          have e1 : av.tmps.getD 43 undef = .int .i64 (y5 : Int) := hw 16 (by kernel_rfl)
          have O := OR.out
          clear hw hF
          simp only [Oper.wp, execOp]
          go_simp
          exact hK _ x (by first | rfl | (rw [O]; done) | exact O | (congr 1; omega)) (Below.refl _ _) (fun h => by cases h)
        · simp only [wpOp, List.getElem?_toArray, List.getElem?_cons_succ, List.getElem?_cons_zero, Region.wanted, if_true]
          refine Or.inl ?_
          have e0 : av.tmps.getD 32 undef = .int .i64 (p4 : Int) := hw 5 (by kernel_rfl)
          have e1 : av.tmps.getD 44 undef = .int .i64 (p2 : Int) := hw 17 (by kernel_rfl)
          clear hw hF
          simp only [Oper.wp, execOp]
          have e2 : av.tmps[32]?.getD undef = .int .i64 (p4 : Int) := by simpa using e0
          have e3 : av.tmps[44]?.getD undef = .int .i64 (p2 : Int) := by simpa using e1
          clear e0 e1
          go_simp
          exact hK _ x (by first | rfl | (rw [O]; done) | exact O | (congr 1; omega)) (Below.refl _ _) (fun h => by cases h)
        · simp only [wpOp, List.getElem?_toArray, List.getElem?_cons_succ, List.getElem?_cons_zero, Region.wanted, if_true]
          refine Or.inl ?_
          have e0 : av.tmps.getD 45 undef = .agg #[.int .i64 (p4 : Int), .int .i64 (p2 : Int)] := hw 18 (by kernel_rfl)
          clear hw hF
          simp only [Oper.wp, execOp]
          have e2 : av.tmps[45]?.getD undef = .agg #[.int .i64 (p4 : Int), .int .i64 (p2 : Int)] := by simpa using e0
          clear e0
          go_simp
          exact hK _ _ ⟨_, rfl, heap_alloc_new _ _⟩ ((Below.refl _ _).alloc (Nat.le_refl _) _) (fun h => by cases h)
      · intro av x hF hb' hR _
        obtain ⟨gN, e19, hgN⟩ := hR 19 (by decide)
        have e0 : av.tmps.getD 27 undef = .pointer (some ⟨g4, 1, none⟩) := hR 0 (by decide)
        have e1 : av.tmps.getD 28 undef = .slice A3 k c3 := hR 1 (by decide)
        have e2 : av.tmps.getD 29 undef = .string d := hR 2 (by decide)
        have e3 : av.tmps.getD 30 undef = .int .i64 (ii : Int) := hR 3 (by decide)
        have e4 : av.tmps.getD 31 undef = .string dl := hR 4 (by decide)
        have e5 : av.tmps.getD 32 undef = .int .i64 (p4 : Int) := hR 5 (by decide)
        have e6 : av.tmps.getD 33 undef = .string d := hR 6 (by decide)
        have e7 : av.tmps.getD 34 undef = .int .i64 (ii : Int) := hR 7 (by decide)
        have e8 : av.tmps.getD 35 undef = .int .i64 (j4 : Int) := hR 8 (by decide)
        have e9 : av.tmps.getD 36 undef = .int .u8 (y4 : Int) := hR 9 (by decide)
        have e10 : av.tmps.getD 37 undef = .int .i64 (y4 : Int) := hR 10 (by decide)
        have e11 : av.tmps.getD 38 undef = .int .i64 ((y4 : Int) * 256) := hR 11 (by decide)
        have e12 : av.tmps.getD 39 undef = .string d := hR 12 (by decide)
        have e13 : av.tmps.getD 40 undef = .int .i64 (ii : Int) := hR 13 (by decide)
        have e14 : av.tmps.getD 41 undef = .int .i64 (j5 : Int) := hR 14 (by decide)
        have e15 : av.tmps.getD 42 undef = .int .u8 (y5 : Int) := hR 15 (by decide)
        have e16 : av.tmps.getD 43 undef = .int .i64 (y5 : Int) := hR 16 (by decide)
        have e17 : av.tmps.getD 44 undef = .int .i64 (p2 : Int) := hR 17 (by decide)
        have e18 : av.tmps.getD 45 undef = .agg #[.int .i64 (p4 : Int), .int .i64 (p2 : Int)] := hR 18 (by decide)
        rw [hF.fold (by kernel_rfl)]
        have e19b : av.tmps.getD 46 undef = .slice (some ⟨gN, 0, none⟩) 1 1 := e19
        simp only [List.foldl_cons, List.foldl_nil, e0, e1, e2, e3, e4, e5, e6, e7, e8, e9, e10, e11, e12, e13, e14, e15, e16, e17, e18, e19b]
        simp only [Act.put, List.setIfInBounds_toArray, List.set_cons_zero, List.set_cons_succ]
        change wpOps _ _ _ [20, 21, 22] _ _
        simp only [wpOps_cons]
        clear e0 e1 e2 e3 e4 e5 e6 e7 e8 e9 e10 e11 e12 e13 e14 e15 e16 e17 e18 e19 e19b hR hF
        have HG := Lib.hid hgN
        have HBx := Lib.hid (KW.out.trans (hb'.mono KW.out.size))
        have OX := Lib.hid (ownsRow_later ho.out hb')
        have ZX := Lib.hid (Nat.le_trans ZS.out hb'.size)
        have H4 := Lib.hid ((hb'.block g4 G4.out).trans hr4.out)
        have KX := Lib.hid hb'
        clear hgN hb'
        simp only [wpOp, List.getElem?_toArray, List.getElem?_cons_succ, List.getElem?_cons_zero, Region.wanted, if_true]
        refine Or.inl ?_
        refine wp_append_lies _ (.tmp 28) (.tmp 46) 32 rfl (g4 + 1) 59 i0 (.agg #[.int .i64 0, .int .i64 0]) 2 16 Try.underlying32 hi hz0 hz1 hz2 rfl (by decide) (.slice A3 k c3) k (vcells (decL S k)) rfl OX.out ⟨gN, 0, none⟩ 1 1 [.int .i64 (p4 : Int), .int .i64 (p2 : Int)] rfl rfl (World.news_of_block HG.out) (by simp [Value.oneCell']) (by decide) (by unfold maxLen; omega) (by omega) ZX.out x.heap.size rfl ?_
        intro g' cap w9 hown hgrow hat hlt9
        have O9 := Lib.hid hown
        have B9 := Lib.hid (show Below (g4 + 1) x w9 from (Below.refl _ _).grown hgrow ZX.out (fun g hg => (OX.out.lt g hg).1))
        have H9 := Lib.hid ((B9.out.block g4 (by omega)).trans H4.out)
        clear hown hgrow hat hlt9
        have f1 := row_c H9.out (i := 1) rfl
        have q1 := frozen_of_row _ _ 1 _ _ H9.out
        go_simp
        rw [wpOps_cons]
        simp only [wpOp, List.getElem?_toArray, List.getElem?_cons_succ, List.getElem?_cons_zero, Region.wanted, if_true]
        refine Or.inl ?_
        simp only [Oper.wp, execOp]
        go_simp
        try rw [wpOps_cons]
        simp only [wpOp, List.getElem?_toArray, List.getElem?_cons_succ, List.getElem?_cons_zero, Region.wanted, if_true]
        refine Or.inl ?_
        simp only [Oper.wp, execOp]
        go_simp
        try simp only [wpOps]
        have KX9 := Lib.hid (hb.out.trans ((KX.out.mono (by have := G4.out; omega)).trans (B9.out.mono (by omega))))
        clear f1 q1
        have w6 := W6.out
        go_wp2
        go_roundw
        case rel =>
          refine ⟨k + 1, some ⟨g', 0, none⟩, cap, HLT.out, rfl, Lib.hid ?_, Lib.hid ?_, Lib.hid ?_⟩
          · rw [VL.out, vcells_app]; exact own_set O9.out (by omega) 1 _
          · unfold World.setCell; simp [Array.getElem?_modify, H9.out]
          · exact KX9.out.setCell (by simp) _
        case measure => simp [intOf]; have := HLT.out; have := HII.out; omega
    · obtain rfl : k = m := by omega
      have b0 : decide ((ii : Int) < (d.size : Int)) = false := decide_eq_false (by rw [HDS.out, HSS.out]; omega)
      have b0' : decide (ii < d.size) = false := decide_eq_false (by rw [HDS.out, HSS.out]; omega)
      clear hii
      obtain ⟨zs, hzs⟩ : ∃ zs, decL S k = zs := ⟨_, rfl⟩
      have hlen : zs.length = k := by rw [← hzs, decL_len]
      rw [hzs] at ho
      have HZ := Lib.hid hzs
      obtain ⟨A5, c5, hv, hV, hF⟩ := vs_of_own ho.out
      injection hv with q1 q2 q3
      subst q1 q3
      have RG := Lib.hid (fun V (hV : Vs V A3 c3 zs) => rright_any (xn : Int) A3 c3 zs V hV (by omega))
      rw [hlen] at RG
      have Q2w := Lib.hid ((hb.out.block _ GW.out).trans Q2.out)
      have GB := Lib.hid (show w.heap.size < g4 + 1 by have := GW.out; omega)
      have V5 := Lib.hid hV
      have F5 := Lib.hid hF
      clear hzs hlen hV hF q2 ho
      cases hrb : rightB (xn : Int) zs
      · rw [hrb] at RG
        go_wp2_with fail
        refine (RG.out _ V5.out).mono ?_
        rintro e w5 ⟨rfl, hx⟩
        have K5 := Lib.hid (bon KW.out hx)
        have q2 := Lib.hid (row_on Q2w.out hx)
        clear hx f0 f1
        have p0 : w5.cell? ⟨w.heap.size, 0, none⟩ = some (.int .i64 0) := row_c q2.out (i := 0) rfl
        have p1 : w5.cell? ⟨w.heap.size, 1, none⟩ = some (.slice none 0 0) := row_c q2.out (i := 1) rfl
        have y0 := frozen_of_row _ _ 0 _ _ q2.out
        have y1 := frozen_of_row _ _ 1 _ _ q2.out
        have HRB := Lib.hid hrb
        clear hrb
        go_wp2
        refine bodyPost_ret (v := .tuple #[.agg #[.int .i64 0, .slice none 0 0], .bool false]) (by simp [results, Try.results13, go_sem, p0, p1]) rfl ⟨fun h => (by rw [HZ.out, HRB.out] at h; cases h), fun _ => rfl, ?_⟩
        exact (K5.out.setCell (Nat.le_refl _) _).setCell (Nat.le_refl _) _
      · rw [hrb] at RG
        go_wp2_with fail
        refine (RG.out _ V5.out).mono ?_
        rintro e w5 ⟨rfl, hx⟩
        have K5 := Lib.hid (bon KW.out hx)
        have q2 := Lib.hid (row_on Q2w.out hx)
        have q4 := Lib.hid (row_on hr4.out hx)
        have V6 := Lib.hid (V5.out.below hx)
        clear hx f0 f1
        have p0 : w5.cell? ⟨w.heap.size, 0, none⟩ = some (.int .i64 0) := row_c q2.out (i := 0) rfl
        have p1 : w5.cell? ⟨w.heap.size, 1, none⟩ = some (.slice none 0 0) := row_c q2.out (i := 1) rfl
        have y0 := frozen_of_row _ _ 0 _ _ q2.out
        have y1 := frozen_of_row _ _ 1 _ _ q2.out
        have f0 := row_c q4.out (i := 0) rfl
        have f1 := row_c q4.out (i := 1) rfl
        have HRB := Lib.hid hrb
        clear hrb
        go_wp2
        refine bodyPost_ret (v := .tuple #[.agg #[.int .i64 (xn : Int), .slice A3 k c3], .bool true]) (by simp [results, Try.results13, go_sem, p0, p1]) rfl ⟨fun _ => ⟨A3, c3, by rw [decL_len], ?_⟩, fun h => (by rw [HZ.out, HRB.out] at h; cases h), ?_⟩
        · rw [HZ.out]; exact (V6.out.set F5.out GB.out _ _).set F5.out GB.out _ _
        · exact (K5.out.setCell (Nat.le_refl _) _).setCell (Nat.le_refl _) _
end Go.Proofs.Ytlfjopjfolbmiaa
