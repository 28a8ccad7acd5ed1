/-
  The document's Same of equal nodes; the law's nodes and ref.
-/
import Derived.Test.YtkbdcbcjbgbglaaNd
namespace Go.Proofs.Ytkbdcbcjbgbglaa
open Go.RowKit
set_option maxHeartbeats 4000000 in
set_option maxRecDepth 100000 in
theorem same_any (lf : Bool) (A A2 B B2 : Option Addr) (c c2 d d2 : Nat) (ks : List (List UInt8)) (ds : List Int) (w : World) (h : Rl sv w A c ks) (h2 : Rl nv w B d ds) (h3 : Rl sv w A2 c2 ks) (h4 : Rl nv w B2 d2 ds) (hl : ks.length ≤ 4000000) (hl2 : ds.length ≤ 4000001) :
    Calls Try.prog 38 #[.agg #[.bool lf, .slice A ks.length c, .slice B ds.length d], .agg #[.bool lf, .slice A2 ks.length c2, .slice B2 ds.length d2]] w fun e w' => e = .returned (.bool true) ∧ Below w.heap.size w w' := by
  have q0 : (lf != lf) = false := by simp
  have q1 : (ks.length != ks.length) = false := by simp
  have q2 : ((ks.length : Int) != (ks.length : Int)) = false := by simp
  have q3 : (ds.length != ds.length) = false := by simp
  have q4 : ((ds.length : Int) != (ds.length : Int)) = false := by simp
  have H := Lib.hid h
  have H2 := Lib.hid h2
  have H3 := Lib.hid h3
  have H4 := Lib.hid h4
  clear h h2 h3 h4
  go_enter Try.func38, Try.ntmps38
  go_wp2_with fail
  obtain ⟨W, hW⟩ : ∃ W : World, W = (w.alloc (.cells #[.bool lf, .slice A ks.length c, .slice B ds.length d] 33)).alloc (.cells #[.bool lf, .slice A2 ks.length c2, .slice B2 ds.length d2] 33) := ⟨_, rfl⟩
  have r2 := heap_alloc_new (w.alloc (.cells #[.bool lf, .slice A ks.length c, .slice B ds.length d] 33)) (.cells #[.bool lf, .slice A2 ks.length c2, .slice B2 ds.length d2] 33)
  have r1 := row_on (heap_alloc_new w (.cells #[.bool lf, .slice A ks.length c, .slice B ds.length d] 33)) (bda _ (.cells #[.bool lf, .slice A2 ks.length c2, .slice B2 ds.length d2] 33))
  simp only [World.size_alloc] at r2
  rw [← hW] at r1 r2 ⊢
  have B1 := Lib.hid (show Below w.heap.size w W by rw [hW]; exact bon (bda _ _) (bda _ _))
  have R1 := Lib.hid r1
  have R2 := Lib.hid r2
  clear hW r1 r2 q0 q1 q2 q3 q4
  go_loopw [5] (fun i wr => ∃ k : Nat, k ≤ ks.length ∧ i = .int .i64 k ∧ Hid (Below W.heap.size W wr)) (fun i _ => ks.length - (intOf i).toNat)
  case atStart => exact ⟨0, Nat.zero_le _, rfl, Lib.hid (Below.refl _ _)⟩
  case round =>
    obtain ⟨k, hk, rfl, hb⟩ := hrel
    have KW := Lib.hid (show Below w.heap.size w wr from B1.out.trans (hb.out.mono B1.out.size))
    have f1 := row_c (row_on R1.out hb.out) (i := 1) rfl
    have g1 := row_c (row_on R2.out hb.out) (i := 1) rfl
    by_cases hlt : k < ks.length
    · obtain ⟨x, hx⟩ := get_lt hlt
      obtain ⟨b, off, hA, _, f2⟩ := (H.out.below KW.out).cell hx
      obtain ⟨b2, off2, hA2, _, g2⟩ := (H3.out.below KW.out).cell hx
      have HLT := Lib.hid hlt
      unfold sv at f2 g2
      clear hx
      have k0 : (0 : Int) ≤ (k : Int) := by omega
      have k1 : (k : Int) < (ks.length : Int) := by omega
      subst hA hA2
      go_upto_region 6 with (fail)
      go_quiet (fail)
      go_wp2
      go_roundw
      case rel => exact ⟨k + 1, HLT.out, by go_num, Lib.hid (below_drewN hb.out _)⟩
      case measure => simp [intOf]; have := HLT.out; omega
    · obtain rfl : k = ks.length := by omega
      go_wp2_with fail
      clear f1 g1
      go_loopw [6] (fun i wr => ∃ k : Nat, k ≤ ds.length ∧ i = .int .i64 k ∧ Hid (Below W.heap.size W wr)) (fun i _ => ds.length - (intOf i).toNat)
      case atStart => exact ⟨0, Nat.zero_le _, rfl, hb⟩
      case round =>
        obtain ⟨k, hk, rfl, hb⟩ := hrel
        have KW := Lib.hid (show Below w.heap.size w wr from B1.out.trans (hb.out.mono B1.out.size))
        have f1 := row_c (row_on R1.out hb.out) (i := 2) rfl
        have g1 := row_c (row_on R2.out hb.out) (i := 2) rfl
        by_cases hlt : k < ds.length
        · obtain ⟨x, hx⟩ := get_lt hlt
          obtain ⟨b, off, hA, _, f2⟩ := (H2.out.below KW.out).cell hx
          obtain ⟨b2, off2, hA2, _, g2⟩ := (H4.out.below KW.out).cell hx
          have HLT := Lib.hid hlt
          unfold nv at f2 g2
          clear hx
          have k0 : (0 : Int) ≤ (k : Int) := by omega
          have k1 : (k : Int) < (ds.length : Int) := by omega
          subst hA hA2
          go_upto_region 11 with (fail)
          go_quiet (fail)
          go_wp2
          go_roundw
          case rel => exact ⟨k + 1, HLT.out, by go_num, Lib.hid (below_drewN hb.out _)⟩
          case measure => simp [intOf]; have := HLT.out; omega
        · obtain rfl : k = ds.length := by omega
          go_wp2
          go_ret
          exact ⟨rfl, KW.out⟩
set_option maxHeartbeats 4000000 in
set_option maxRecDepth 100000 in
theorem nodes_any (lf : Bool) (A A2 B B2 : Option Addr) (c c2 d d2 : Nat) (ks : List (List UInt8)) (ds : List Int) (w : World) (h : Rl sv w A c ks) (h2 : Rl nv w B d ds) (h3 : Rl sv w A2 c2 ks) (h4 : Rl nv w B2 d2 ds) (hl : ks.length ≤ 4000000) (hl2 : ds.length ≤ 4000001) :
    Calls Try.prog 17 #[.agg #[.bool lf, .slice A ks.length c, .slice B ds.length d], .agg #[.bool lf, .slice A2 ks.length c2, .slice B2 ds.length d2]] w fun e w' => e = .returned (.bool true) ∧ Below w.heap.size w w' := by
  have SA := Lib.hid (fun V (hb : Below w.heap.size w V) => same_any lf A A2 B B2 c c2 d d2 ks ds V (h.below hb) (h2.below hb) (h3.below hb) (h4.below hb) hl hl2)
  clear h h2 h3 h4
  go_enter Try.func17, Try.ntmps17
  go_wp2_with fail
  refine (SA.out _ (by first | exact bon (bda _ _) (bda _ _) | exact below_drew (bon (bda _ _) (bda _ _)))).mono ?_
  rintro e w2 ⟨rfl, hb⟩
  have K2 := Lib.hid (bon (bon (bda w _) (bda _ _)) hb)
  clear hb
  go_wp2
  go_ret
  exact ⟨rfl, K2.out⟩
set_option maxHeartbeats 4000000 in
set_option maxRecDepth 100000 in
theorem ref_any (lf : Bool) (A : Option Addr) (c : Nat) (ks : List (List UInt8)) (B : Option Addr) (d : Nat) (ds : List Int) (w : World) (h : Rl sv w A c ks) (h2 : Rl nv w B d ds) :
    Calls Try.prog 14 #[.agg #[.bool lf, .slice A ks.length c, .slice B ds.length d]] w fun e w' => e = .returned (.agg #[.bool lf, .slice A ks.length c, .slice B ds.length d]) ∧ Below w.heap.size w w' := by
  have H := Lib.hid h
  have H2 := Lib.hid h2
  clear h h2
  go_enter Try.func14, Try.ntmps14
  go_wp2
  refine bodyPost_ret (v := .agg #[.bool lf, .slice A ks.length c, .slice B ds.length d]) (by simp [results, Try.results14, go_sem]) rfl ⟨rfl, ?_⟩
  first | exact (((bon (bda _ _) (bda _ _)).setCell (by simp) _).setCell (by simp) _).setCell (by simp) _ | exact bon (bda _ _) (bda _ _)
end Go.Proofs.Ytkbdcbcjbgbglaa
