/-
  page.Write on a disk with a fuse; pager's told.
-/
import Derived.Test.YtnpopbobpbbamaaFe
import Derived.Test.YtnpopbobpbbamaaGp
namespace Go.Proofs.Ytnpopbobpbbamaa
open Go.RowKit
set_option linter.unusedSimpArgs false
set_option linter.unusedVariables false
set_option maxHeartbeats 4000000 in
set_option maxRecDepth 100000 in
theorem pwrite_f0 {B g gs : Nat} {v : Value} {S : List (List UInt8)} {C : List Wt} (n k : Nat) (s : ByteArray) (w : World) (h : Df 0 false B w g gs v S C) (hn : 2 * n + 1 < S.length) (h1 : 1 ≤ k) (h9 : k ≤ 9) (ht : s.data.toList.length ≤ 120) (hC : C.length ≤ 1000) :
    Calls Try.prog 25 #[.pointer (some ⟨g, 0, none⟩), .int .i64 (n : Int), .int .i64 (k : Int), .string s] w fun e w' => e = .returned (.int .i64 7) ∧ ∃ v', Df 0 true B w' g gs v' S C ∧ Ch B g gs w w' := by
  have SY := seal_yes k s.data.toList w h1 h9 ht
  have es : (⟨s.data.toList.toArray⟩ : ByteArray) = s := by simp
  rw [es] at SY
  have lp := seal_len (k := k) ht
  obtain ⟨P, hP⟩ : ∃ P, sealL k s.data.toList = P := ⟨_, rfl⟩
  rw [hP] at SY lp
  obtain ⟨pb, hpb⟩ : ∃ x : ByteArray, (⟨P.toArray⟩ : ByteArray) = x := ⟨_, rfl⟩
  have hpl : pb.data.toList = P := by rw [← hpb]
  rw [hpb] at SY
  have SYH := Lib.hid SY
  have psz : pb.size = 128 := by rw [← hpb]; show P.toArray.size = 128; simpa using lp
  obtain ⟨lo, hlo⟩ : ∃ x : ByteArray, pb.extract 0 64 = x := ⟨_, rfl⟩
  obtain ⟨hi, hhi⟩ : ∃ x : ByteArray, pb.extract 64 128 = x := ⟨_, rfl⟩
  have LO := Lib.hid (show lo.data.toList = P.take 64 by rw [← hlo, Lib.extract_data]; simp only [Array.toList_extract, hpl]; simp)
  have HI := Lib.hid (show hi.data.toList = P.drop 64 by rw [← hhi, Lib.extract_data]; simp only [Array.toList_extract, hpl]; simp; rw [List.take_of_length_le]; rw [List.length_drop]; omega)
  have LP := Lib.hid lp
  have H0 := Lib.hid h
  have HN := Lib.hid hn
  have HC := Lib.hid hC
  have nb := h.n2
  have n0 : (0 : Int) ≤ (n : Int) := by omega
  have n1 : (n : Int) ≤ 1048576 := by omega
  have d0 : decide ((n : Int) < 0) = false := decide_eq_false (by omega)
  have d1 : decide ((1048576 : Int) < (n : Int)) = false := decide_eq_false (by omega)
  have E2 := Lib.hid (show (2 : Int) * (n : Int) = ((2 * n : Nat) : Int) by omega)
  have E3 := Lib.hid (show (2 : Int) * (n : Int) + 1 = ((2 * n + 1 : Nat) : Int) by omega)
  have HSP := Lib.hid (And.intro psz (And.intro hlo hhi))
  clear h hn hC nb SY es lp hP hpb hpl hlo hhi psz h1 h9 ht
  go_enter Try.func25, Try.ntmps25
  go_wp2_with fail
  refine SYH.out.mono ?_
  rintro e w1 ⟨rfl, hb⟩
  have D1 := Lib.hid (H0.out.below hb)
  have C1 := Lib.hid (Ch.of_below (g := g) (gs := gs) hb H0.out.hB)
  clear hb
  have psz := HSP.out.1
  have hlo := HSP.out.2.1
  go_wp2_with fail
  clear hlo
  rw [E2.out]
  refine (write_f0 (2 * n) lo w1 D1.out (by have := HN.out; omega) (by rw [LO.out, List.length_take, LP.out]; omega) (by have := HC.out; omega)).mono ?_
  rintro e w2 ⟨rfl, hd, hc⟩
  have D2 := Lib.hid hd
  have C2 := Lib.hid (C1.out.trans hc)
  clear hd hc
  go_wp2
  go_ret
  exact ⟨rfl, v, D2.out, C2.out⟩

set_option maxHeartbeats 4000000 in
set_option maxRecDepth 100000 in
theorem pwrite_f1 {B g gs : Nat} {v : Value} {S : List (List UInt8)} {C : List Wt} (n k : Nat) (s : ByteArray) (w : World) (h : Df ((0 + 1 : Nat) : Int) false B w g gs v S C) (hn : 2 * n + 1 < S.length) (h1 : 1 ≤ k) (h9 : k ≤ 9) (ht : s.data.toList.length ≤ 120) (hC : C.length ≤ 1000) :
    Calls Try.prog 25 #[.pointer (some ⟨g, 0, none⟩), .int .i64 (n : Int), .int .i64 (k : Int), .string s] w fun e w' => e = .returned (.int .i64 7) ∧ ∃ v', Df 0 true B w' g gs v' S (C ++ [(2 * n, (sealL k s.data.toList).take 64)]) ∧ Ch B g gs w w' := by
  have SY := seal_yes k s.data.toList w h1 h9 ht
  have es : (⟨s.data.toList.toArray⟩ : ByteArray) = s := by simp
  rw [es] at SY
  have lp := seal_len (k := k) ht
  obtain ⟨P, hP⟩ : ∃ P, sealL k s.data.toList = P := ⟨_, rfl⟩
  rw [hP] at SY lp ⊢
  obtain ⟨pb, hpb⟩ : ∃ x : ByteArray, (⟨P.toArray⟩ : ByteArray) = x := ⟨_, rfl⟩
  have hpl : pb.data.toList = P := by rw [← hpb]
  rw [hpb] at SY
  have SYH := Lib.hid SY
  have psz : pb.size = 128 := by rw [← hpb]; show P.toArray.size = 128; simpa using lp
  obtain ⟨lo, hlo⟩ : ∃ x : ByteArray, pb.extract 0 64 = x := ⟨_, rfl⟩
  obtain ⟨hi, hhi⟩ : ∃ x : ByteArray, pb.extract 64 128 = x := ⟨_, rfl⟩
  have LO := Lib.hid (show lo.data.toList = P.take 64 by rw [← hlo, Lib.extract_data]; simp only [Array.toList_extract, hpl]; simp)
  have HI := Lib.hid (show hi.data.toList = P.drop 64 by rw [← hhi, Lib.extract_data]; simp only [Array.toList_extract, hpl]; simp; rw [List.take_of_length_le]; rw [List.length_drop]; omega)
  have LP := Lib.hid lp
  have H0 := Lib.hid h
  have HN := Lib.hid hn
  have HC := Lib.hid hC
  have nb := h.n2
  have n0 : (0 : Int) ≤ (n : Int) := by omega
  have n1 : (n : Int) ≤ 1048576 := by omega
  have d0 : decide ((n : Int) < 0) = false := decide_eq_false (by omega)
  have d1 : decide ((1048576 : Int) < (n : Int)) = false := decide_eq_false (by omega)
  have E2 := Lib.hid (show (2 : Int) * (n : Int) = ((2 * n : Nat) : Int) by omega)
  have E3 := Lib.hid (show (2 : Int) * (n : Int) + 1 = ((2 * n + 1 : Nat) : Int) by omega)
  have HSP := Lib.hid (And.intro psz (And.intro hlo hhi))
  clear h hn hC nb SY es lp hP hpb hpl hlo hhi psz h1 h9 ht
  go_enter Try.func25, Try.ntmps25
  go_wp2_with fail
  refine SYH.out.mono ?_
  rintro e w1 ⟨rfl, hb⟩
  have D1 := Lib.hid (H0.out.below hb)
  have C1 := Lib.hid (Ch.of_below (g := g) (gs := gs) hb H0.out.hB)
  clear hb
  have psz := HSP.out.1
  have hlo := HSP.out.2.1
  go_wp2_with fail
  clear hlo
  rw [E2.out]
  refine (write_fs (2 * n) lo w1 D1.out (by omega) (by have := HN.out; omega) (by rw [LO.out, List.length_take, LP.out]; omega) (by have := HC.out; omega)).mono ?_
  rintro e w2 ⟨rfl, v2, hd, hc⟩
  rw [LO.out] at hd
  have D2 := Lib.hid hd
  have C2 := Lib.hid (C1.out.trans hc)
  clear hd hc
  have hhi := HSP.out.2.2
  go_wp2_with fail
  clear hhi psz
  first | rw [E3.out] | rw [show ((2 * n : Nat) : Int) + 1 = ((2 * n + 1 : Nat) : Int) from rfl] | skip
  refine (write_f0 (2 * n + 1) hi w2 D2.out HN.out (by rw [HI.out, List.length_drop, LP.out]) (by rw [List.length_append]; have := HC.out; simp; omega)).mono ?_
  rintro e w3 ⟨rfl, hd, hc⟩
  have D3 := Lib.hid hd
  have C3 := Lib.hid (C2.out.trans hc)
  clear hd hc
  go_wp2
  go_ret
  exact ⟨rfl, v2, D3.out, C3.out⟩

set_option maxHeartbeats 4000000 in
set_option maxRecDepth 100000 in
theorem pwrite_f2 {f : Nat} {B g gs : Nat} {v : Value} {S : List (List UInt8)} {C : List Wt} (n k : Nat) (s : ByteArray) (w : World) (h : Df ((f + 1 + 1 : Nat) : Int) false B w g gs v S C) (hf : f ≤ 1000) (hn : 2 * n + 1 < S.length) (h1 : 1 ≤ k) (h9 : k ≤ 9) (ht : s.data.toList.length ≤ 120) (hC : C.length ≤ 1000) :
    Calls Try.prog 25 #[.pointer (some ⟨g, 0, none⟩), .int .i64 (n : Int), .int .i64 (k : Int), .string s] w fun e w' => e = .returned (.int .i64 0) ∧ ∃ v', Df (f : Int) false B w' g gs v' S ((C ++ [(2 * n, (sealL k s.data.toList).take 64)]) ++ [(2 * n + 1, (sealL k s.data.toList).drop 64)]) ∧ Ch B g gs w w' := by
  have SY := seal_yes k s.data.toList w h1 h9 ht
  have es : (⟨s.data.toList.toArray⟩ : ByteArray) = s := by simp
  rw [es] at SY
  have lp := seal_len (k := k) ht
  obtain ⟨P, hP⟩ : ∃ P, sealL k s.data.toList = P := ⟨_, rfl⟩
  rw [hP] at SY lp ⊢
  obtain ⟨pb, hpb⟩ : ∃ x : ByteArray, (⟨P.toArray⟩ : ByteArray) = x := ⟨_, rfl⟩
  have hpl : pb.data.toList = P := by rw [← hpb]
  rw [hpb] at SY
  have SYH := Lib.hid SY
  have psz : pb.size = 128 := by rw [← hpb]; show P.toArray.size = 128; simpa using lp
  obtain ⟨lo, hlo⟩ : ∃ x : ByteArray, pb.extract 0 64 = x := ⟨_, rfl⟩
  obtain ⟨hi, hhi⟩ : ∃ x : ByteArray, pb.extract 64 128 = x := ⟨_, rfl⟩
  have LO := Lib.hid (show lo.data.toList = P.take 64 by rw [← hlo, Lib.extract_data]; simp only [Array.toList_extract, hpl]; simp)
  have HI := Lib.hid (show hi.data.toList = P.drop 64 by rw [← hhi, Lib.extract_data]; simp only [Array.toList_extract, hpl]; simp; rw [List.take_of_length_le]; rw [List.length_drop]; omega)
  have LP := Lib.hid lp
  have H0 := Lib.hid h
  have HN := Lib.hid hn
  have HC := Lib.hid hC
  have nb := h.n2
  have n0 : (0 : Int) ≤ (n : Int) := by omega
  have n1 : (n : Int) ≤ 1048576 := by omega
  have d0 : decide ((n : Int) < 0) = false := decide_eq_false (by omega)
  have d1 : decide ((1048576 : Int) < (n : Int)) = false := decide_eq_false (by omega)
  have E2 := Lib.hid (show (2 : Int) * (n : Int) = ((2 * n : Nat) : Int) by omega)
  have E3 := Lib.hid (show (2 : Int) * (n : Int) + 1 = ((2 * n + 1 : Nat) : Int) by omega)
  have HSP := Lib.hid (And.intro psz (And.intro hlo hhi))
  clear h hn hC nb SY es lp hP hpb hpl hlo hhi psz h1 h9 ht
  go_enter Try.func25, Try.ntmps25
  go_wp2_with fail
  refine SYH.out.mono ?_
  rintro e w1 ⟨rfl, hb⟩
  have D1 := Lib.hid (H0.out.below hb)
  have C1 := Lib.hid (Ch.of_below (g := g) (gs := gs) hb H0.out.hB)
  clear hb
  have psz := HSP.out.1
  have hlo := HSP.out.2.1
  go_wp2_with fail
  clear hlo
  rw [E2.out]
  refine (write_fs (2 * n) lo w1 D1.out (by omega) (by have := HN.out; omega) (by rw [LO.out, List.length_take, LP.out]; omega) (by have := HC.out; omega)).mono ?_
  rintro e w2 ⟨rfl, v2, hd, hc⟩
  rw [LO.out] at hd
  have D2 := Lib.hid hd
  have C2 := Lib.hid (C1.out.trans hc)
  clear hd hc
  have hhi := HSP.out.2.2
  go_wp2_with fail
  clear hhi psz
  first | rw [E3.out] | rw [show ((2 * n : Nat) : Int) + 1 = ((2 * n + 1 : Nat) : Int) from rfl] | skip
  refine (write_fs (2 * n + 1) hi w2 D2.out (by omega) HN.out (by rw [HI.out, List.length_drop, LP.out]) (by rw [List.length_append]; have := HC.out; simp; omega)).mono ?_
  rintro e w3 ⟨rfl, v3, hd, hc⟩
  rw [HI.out] at hd
  have D3 := Lib.hid hd
  have C3 := Lib.hid (C2.out.trans hc)
  clear hd hc
  go_wp2
  go_ret
  exact ⟨rfl, v3, D3.out, C3.out⟩

/-- What a page's write leaves, as far as the fuse goes. -/
theorem pwrite_f {B g gs : Nat} {v : Value} {S : List (List UInt8)} {C : List Wt} (f n k : Nat) (s : ByteArray) (w : World) (h : Df (f : Int) false B w g gs v S C) (hf : f ≤ 1000) (hn : 2 * n + 1 < S.length) (h1 : 1 ≤ k) (h9 : k ≤ 9) (ht : s.data.toList.length ≤ 120) (hC : C.length ≤ 1000) :
    Calls Try.prog 25 #[.pointer (some ⟨g, 0, none⟩), .int .i64 (n : Int), .int .i64 (k : Int), .string s] w fun e w' => (e = .returned (.int .i64 0) ∧ 2 ≤ f ∧ ∃ v', Df ((f - 2 : Nat) : Int) false B w' g gs v' S (C ++ wr2 n ((sealL k s.data.toList).take 64) ((sealL k s.data.toList).drop 64)) ∧ Ch B g gs w w') ∨ (e = .returned (.int .i64 7) ∧ f < 2 ∧ ∃ v', Df 0 true B w' g gs v' S (C ++ (wr2 n ((sealL k s.data.toList).take 64) ((sealL k s.data.toList).drop 64)).take f) ∧ Ch B g gs w w') := by
  match f, h, hf with
  | 0, h, _ =>
    refine (pwrite_f0 n k s w h hn h1 h9 ht hC).mono ?_
    rintro e w' ⟨he, v', hd, hc⟩
    exact .inr ⟨he, by omega, v', by rw [List.take_zero, List.append_nil]; exact hd, hc⟩
  | 1, h, _ =>
    refine (pwrite_f1 n k s w h hn h1 h9 ht hC).mono ?_
    rintro e w' ⟨he, v', hd, hc⟩
    exact .inr ⟨he, by omega, v', hd, hc⟩
  | f + 2, h, hf =>
    refine (pwrite_f2 (f := f) n k s w h (by omega) hn h1 h9 ht hC).mono ?_
    rintro e w' ⟨he, v', hd, hc⟩
    exact .inl ⟨he, by omega, v', by rw [show f + 2 - 2 = f by omega]; rw [List.append_assoc] at hd; exact hd, hc⟩
/-- What a barrier leaves, as far as the fuse goes. -/
theorem barrier_f {B g gs : Nat} {v : Value} {S : List (List UInt8)} {C : List Wt} (f : Nat) (w : World) (h : Df (f : Int) false B w g gs v S C) (hf : f ≤ 1000) (hC : C.length ≤ 1000) :
    Calls Try.prog 43 #[.pointer (some ⟨g, 0, none⟩)] w fun e w' => (e = .returned (.int .i64 0) ∧ 1 ≤ f ∧ Df ((f - 1 : Nat) : Int) false B w' g gs (.slice none 0 0) (flush S C) [] ∧ Ch B g gs w w') ∨ (e = .returned (.int .i64 7) ∧ f = 0 ∧ Df 0 true B w' g gs v S C ∧ Ch B g gs w w') := by
  match f, h, hf with
  | 0, h, _ =>
    refine (barrier_f0 w h (by omega)).mono ?_
    rintro e w' ⟨he, hd, hc⟩
    exact .inr ⟨he, rfl, hd, hc⟩
  | f + 1, h, hf =>
    refine (barrier_fs (n := f) w h (by omega) (by omega)).mono ?_
    rintro e w' ⟨he, hd, hc⟩
    exact .inl ⟨he, by omega, by rw [show f + 1 - 1 = f by omega]; exact hd, hc⟩
set_option maxHeartbeats 1000000 in
set_option maxRecDepth 100000 in
theorem told_dn {p : Nat} {cs : Array Value} (w : World) (hp : w.heap[p]? = some (.cells cs 47 (0, 0))) (h5 : cs.size = 6) :
    Calls Try.prog 24 #[.pointer (some ⟨p, 0, none⟩), .int .i64 7] w fun e w' => e = .returned (.int .i64 7) ∧ w' = w.setCell ⟨p, 5, none⟩ (.bool true) := by
  obtain ⟨u, hu⟩ : ∃ u, cs[5]? = some u := ⟨_, Array.getElem?_eq_getElem (by omega)⟩
  have f5 := row_c (i := 5) hp hu
  have z5 := frozen_of_row _ _ 5 _ _ hp
  clear hp hu
  go_enter Try.func24, Try.ntmps24
  go_wp2
  go_ret
  exact ⟨rfl, rfl⟩
end Go.Proofs.Ytnpopbobpbbamaa
