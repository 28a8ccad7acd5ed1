/-
  The law's own ref: a list as the document's.
-/
import Derived.Test.YtlfjopjfolbmiaaCu
import Derived.Deep.AppendLies
import Derived.Deep.RegionHeld3
import Derived.Deep.RegionLaw
namespace Go.Proofs.Ytlfjopjfolbmiaa
open Go.RowKit
theorem take_at {vs : List (Int × Int)} {k : Nat} (h : k < vs.length) : vs.take (k + 1) = vs.take k ++ [at2 vs k] := by
  rw [List.take_succ_eq_append_getElem h]
  unfold at2
  rw [List.getElem?_eq_getElem h]
  rfl
set_option maxHeartbeats 4000000 in
set_option maxRecDepth 100000 in
theorem ref_any (next : Int) (A : Option Addr) (c : Nat) (vs : List (Int × Int)) (w : World) (h : Vs w A c vs) (hl : vs.length ≤ 100000) :
    Calls Try.prog 11 #[.agg #[.int .i64 next, .slice A vs.length c]] w fun e w' => ∃ A' c', e = .returned (.agg #[.int .i64 next, .slice A' vs.length c']) ∧ Vs w' A' c' vs ∧ Below w.heap.size w w' ∧ Fr w.heap.size A' := by
  have H := Lib.hid h
  clear h
  obtain ⟨i0, hi, hz0, hz1, hz2⟩ := info_parts (show (Try.prog.info? 59).map (fun i => (i.zero, i.size, i.bytes)) = some (some (.agg #[.int .i64 0, .int .i64 0]), 2, 16) by kernel_rfl)
  go_enter Try.func11, Try.ntmps11
  go_wp2_with fail
  obtain ⟨W, hW⟩ : ∃ W : World, W = ((w.alloc (.cells #[.int .i64 next, .slice A vs.length c] 24)).alloc (.cells #[.int .i64 0, .slice none 0 0] 34)).alloc (.cells #[.int .i64 next, .slice none 0 0] 34) := ⟨_, rfl⟩
  have r3 := heap_alloc_new ((w.alloc (.cells #[.int .i64 next, .slice A vs.length c] 24)).alloc (.cells #[.int .i64 0, .slice none 0 0] 34)) (.cells #[.int .i64 next, .slice none 0 0] 34)
  have r2 := row_on (heap_alloc_new (w.alloc (.cells #[.int .i64 next, .slice A vs.length c] 24)) (.cells #[.int .i64 0, .slice none 0 0] 34)) (bda _ (.cells #[.int .i64 next, .slice none 0 0] 34))
  have r1 := row_on (row_on (heap_alloc_new w (.cells #[.int .i64 next, .slice A vs.length c] 24)) (bda _ (.cells #[.int .i64 0, .slice none 0 0] 34))) (bda _ (.cells #[.int .i64 next, .slice none 0 0] 34))
  simp only [World.size_alloc] at r2 r3
  rw [← hW] at r1 r2 r3 ⊢
  have B1 := Lib.hid (show Below w.heap.size w W by rw [hW]; exact bon (bon (bda _ _) (bda _ _)) (bda _ _))
  have SW := Lib.hid (show W.heap.size = w.heap.size + 3 by rw [hW]; simp)
  have R1 := Lib.hid r1
  have R2 := Lib.hid r2
  have R3 := Lib.hid r3
  clear hW r1 r2 r3
  go_loopw [4] (fun i wr => ∃ (k : Nat) (A3 : Option Addr) (c3 : Nat), k ≤ vs.length ∧ i = .int .i64 k ∧ Hid (wr.ownsRow (w.heap.size + 3) 59 2 (.slice A3 k c3) k (vcells (vs.take k))) ∧ Hid (wr.heap[w.heap.size + 2]? = some (.cells #[.int .i64 next, .slice A3 k c3] 34)) ∧ Hid (Below (w.heap.size + 2) W wr)) (fun i _ => vs.length - (intOf i).toNat)
  case atStart => exact ⟨0, none, 0, Nat.zero_le _, rfl, Lib.hid (World.ownsRow_nil _ _ _ _), R3, Lib.hid (Below.refl _ _)⟩
  case round =>
    obtain ⟨k, A3, c3, hk, rfl, ho, hr3, hb⟩ := hrel
    have s0 : w.heap.size < w.heap.size + 2 := by omega
    have s1 : w.heap.size + 1 < w.heap.size + 2 := by omega
    have KW := Lib.hid (show Below w.heap.size w wr from B1.out.trans (hb.out.mono (by omega)))
    have ZS := Lib.hid (show w.heap.size + 3 ≤ wr.heap.size by have := hb.out.size; have := SW.out; omega)
    have Q1 := Lib.hid ((hb.out.block _ s0).trans R1.out)
    have Q2 := Lib.hid ((hb.out.block _ s1).trans R2.out)
    have f1 := row_c Q1.out (i := 1) rfl
    have g1 := row_c hr3.out (i := 1) rfl
    by_cases hlt : k < vs.length
    · obtain ⟨b, off, hA, hbl, hcell⟩ := H.out.2 (by omega)
      have f2 := (KW.out.cell (p := ⟨b, off + k * 2, none⟩) hbl).trans (hcell k hlt).1
      have f3 := (KW.out.cell (p := ⟨b, off + k * 2 + 1, none⟩) hbl).trans (hcell k hlt).2
      have TK := Lib.hid (take_at hlt)
      have HLT := Lib.hid hlt
      clear hcell
      generalize at2 vs k = v at *
      obtain ⟨a, q⟩ := v
      simp only at f2 f3
      have k0 : (0 : Int) ≤ (k : Int) := by omega
      have k1 : (k : Int) < (vs.length : Int) := by omega
      subst hA
      have KA := Lib.hid (show Below (w.heap.size + 3) wr (wr.drew.alloc (.cells #[.int .i64 a, .int .i64 q] 59)) from ((Below.refl _ _).drew).alloc ZS.out _)
      have SK := Lib.hid (fun w4 (hgrow : (wr.drew.alloc (.cells #[.int .i64 a, .int .i64 q] 59)).grownBy w4 (Value.slice A3 k c3).ownBlock) => show Below (w.heap.size + 3) wr w4 from KA.out.trans ((Below.refl _ _).grown hgrow (by have := ZS.out; simp; omega) (fun g hg => ((ho.out.drew.alloc (.cells #[.int .i64 a, .int .i64 q] 59)).lt g hg).1)))
      have ga0 : (wr.alloc (.cells #[.int .i64 a, .int .i64 q] 59)).heap[w.heap.size + 1 + 1]? = _ := row_on hr3.out (bda _ _)
      have ga : (wr.alloc (.cells #[.int .i64 a, .int .i64 q] 59)).cell? ⟨w.heap.size + 1 + 1, 1, none⟩ = some (.slice A3 k c3) := row_c ga0 (i := 1) rfl
      clear ga0
      go_upto_region 5 with (fail)
      go_region_law
        ((refine step_append_lies _ (by rfl) _ _ _ (by rfl) (w.heap.size + 3) 59 i0 _ 2 16 Try.underlying32 hi hz0 hz1 hz2 rfl (by decide) _ k (vcells (vs.take k)) (by rfl) (ho.out.drew.alloc _) ⟨wr.heap.size, 0, none⟩ 1 1 [.int .i64 a, .int .i64 q] (by rfl) (by rfl) (World.news_of_block (cs := #[.int .i64 a, .int .i64 q]) (t := 59) (fr := (0, 0)) (heap_alloc_new wr.drew _)) (by simp [Value.oneCell']) (by decide) (by unfold maxLen; omega) (by omega) (by have := ZS.out; simp; omega) (wr.heap.size + 1) (by simp) ?_; intro g4 c4 w4 hown hgrow hat hlt4; (have K4 := Lib.hid (SK.out _ hgrow)); (have O4 := Lib.hid hown); (have q7 := Lib.hid ((K4.out.block (w.heap.size + 2) (by omega)).trans hr3.out)); (have q9 : w4.heap[w.heap.size + 1 + 1]? = _ := q7.out); (have g9 : w4.cell? ⟨w.heap.size + 1 + 1, 1, none⟩ = some (.slice A3 k c3) := row_c q9 (i := 1) rfl); (have z9 := frozen_of_row _ _ 1 _ _ q9); clear hown hgrow hat hlt4))
      all_goals
       go_wp2
       go_roundw
       case rel =>
         refine ⟨k + 1, some ⟨g4, 0, none⟩, c4, HLT.out, by go_num, Lib.hid ?_, Lib.hid ?_, Lib.hid ?_⟩
         · rw [TK.out, vcells_app]; exact own_set O4.out (by omega) 1 _
         · unfold World.setCell; simp [Array.getElem?_modify, q7.out]
         · exact (hb.out.trans (K4.out.mono (by omega))).setCell (by simp) _
       case measure => simp [intOf]; have := HLT.out; omega
    · obtain rfl : k = vs.length := by omega
      rw [List.take_length] at ho
      obtain ⟨A5, c5, hv, hV, hF⟩ := vs_of_own ho.out
      injection hv with e1 e2 e3
      subst e1 e3
      have V5 := Lib.hid hV
      have F5 := Lib.hid hF
      clear ho hV hF
      have g0 := row_c hr3.out (i := 0) rfl
      have p0 : wr.cell? ⟨w.heap.size + 1, 0, none⟩ = some (.int .i64 0) := row_c Q2.out (i := 0) rfl
      have p1 : wr.cell? ⟨w.heap.size + 1, 1, none⟩ = some (.slice none 0 0) := row_c Q2.out (i := 1) rfl
      have y0 := frozen_of_row _ _ 0 _ _ Q2.out
      have y1 := frozen_of_row _ _ 1 _ _ Q2.out
      go_wp2
      refine bodyPost_ret (v := .agg #[.int .i64 next, .slice A3 vs.length c3]) (by simp [results, Try.results11, go_sem, p0, p1]) rfl ⟨A3, c3, rfl, ?_, ?_, fun b o e => by have := F5.out b o e; omega⟩
      · exact (V5.out.set F5.out (by omega) _ _).set F5.out (by omega) _ _
      · exact (KW.out.setCell (by simp) _).setCell (by simp) _
end Go.Proofs.Ytlfjopjfolbmiaa
