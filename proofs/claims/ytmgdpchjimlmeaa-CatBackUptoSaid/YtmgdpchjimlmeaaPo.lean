/-
  page.Write, page.Read.
-/
import Derived.Test.YtmgdpchjimlmeaaPe
import Derived.Test.YtmgdpchjimlmeaaEf
import Derived.Test.YtmgdpchjimlmeaaEh
namespace Go.Proofs.Ytmgdpchjimlmeaa
open Go.RowKit
set_option linter.unusedSimpArgs false
set_option linter.unusedVariables false
set_option maxHeartbeats 4000000 in
set_option maxRecDepth 100000 in
theorem pwrite_any {B g gs : Nat} {v : Value} {S : List (List UInt8)} {C : List Wt} (n k : Nat) (s : ByteArray) (w : World) (h : Dk B w g gs v S C) (hn : 2 * n + 1 < S.length) (h1 : 1 ≤ k) (h9 : k ≤ 9) (ht : s.data.toList.length ≤ 120) (hC : C.length ≤ 1000) :
    Calls Try.prog 36 #[.pointer (some ⟨g, 0, none⟩), .int .i64 (n : Int), .int .i64 (k : Int), .string s] w fun e w' => e = .returned (.int .i64 0) ∧ ∃ v', Dk B w' g gs v' S ((C ++ [(2 * n, (sealL k s.data.toList).take 64)]) ++ [(2 * n + 1, (sealL k s.data.toList).drop 64)]) ∧ Ch B g gs w w' := by
  have SY := seal_yes k s.data.toList w h1 h9 ht
  have es : (⟨s.data.toList.toArray⟩ : ByteArray) = s := by simp
  rw [es] at SY
  have lp := seal_len (k := k) ht
  obtain ⟨P, hP⟩ : ∃ P, sealL k s.data.toList = P := ⟨_, rfl⟩
  rw [hP] at SY lp ⊢
  obtain ⟨pb, hpb⟩ : ∃ x : ByteArray, (⟨P.toArray⟩ : ByteArray) = x := ⟨_, rfl⟩
  have hpl : pb.data.toList = P := by rw [← hpb]
  rw [hpb] at SY
  have SYH := Lib.hid SY
  have psz : pb.size = 128 := by rw [← hpb]; show P.toArray.size = 128; simpa using lp
  obtain ⟨lo, hlo⟩ : ∃ x : ByteArray, pb.extract 0 64 = x := ⟨_, rfl⟩
  obtain ⟨hi, hhi⟩ : ∃ x : ByteArray, pb.extract 64 128 = x := ⟨_, rfl⟩
  have LO := Lib.hid (show lo.data.toList = P.take 64 by rw [← hlo, Lib.extract_data]; simp only [Array.toList_extract, hpl]; simp)
  have HI := Lib.hid (show hi.data.toList = P.drop 64 by rw [← hhi, Lib.extract_data]; simp only [Array.toList_extract, hpl]; simp; rw [List.take_of_length_le]; rw [List.length_drop]; omega)
  have LP := Lib.hid lp
  have H0 := Lib.hid h
  have HN := Lib.hid hn
  have HC := Lib.hid hC
  have nb := h.n2
  have n0 : (0 : Int) ≤ (n : Int) := by omega
  have n1 : (n : Int) ≤ 1048576 := by omega
  have d0 : decide ((n : Int) < 0) = false := decide_eq_false (by omega)
  have d1 : decide ((1048576 : Int) < (n : Int)) = false := decide_eq_false (by omega)
  have E2 := Lib.hid (show (2 : Int) * (n : Int) = ((2 * n : Nat) : Int) by omega)
  have E3 := Lib.hid (show (2 : Int) * (n : Int) + 1 = ((2 * n + 1 : Nat) : Int) by omega)
  have HSP := Lib.hid (And.intro psz (And.intro hlo hhi))
  clear h hn hC nb SY es lp hP hpb hpl hlo hhi psz h1 h9 ht
  go_enter Try.func36, Try.ntmps36
  go_wp2_with fail
  refine SYH.out.mono ?_
  rintro e w1 ⟨rfl, hb⟩
  have D1 := Lib.hid (H0.out.below hb)
  have C1 := Lib.hid (Ch.of_below (g := g) (gs := gs) hb H0.out.hB)
  clear hb
  have psz := HSP.out.1
  have hlo := HSP.out.2.1
  go_wp2_with fail
  clear hlo
  rw [E2.out]
  refine (write_any (2 * n) lo w1 D1.out (by have := HN.out; omega) (by rw [LO.out, List.length_take, LP.out]; omega) (by have := HC.out; omega)).mono ?_
  rintro e w2 ⟨rfl, v2, hd, hc⟩
  rw [LO.out] at hd
  have D2 := Lib.hid hd
  have C2 := Lib.hid (C1.out.trans hc)
  clear hd hc
  have hhi := HSP.out.2.2
  go_wp2_with fail
  clear hhi psz
  first | rw [E3.out] | rw [show ((2 * n : Nat) : Int) + 1 = ((2 * n + 1 : Nat) : Int) from rfl] | skip
  refine (write_any (2 * n + 1) hi w2 D2.out HN.out (by rw [HI.out, List.length_drop, LP.out]) (by rw [List.length_append]; have := HC.out; simp; omega)).mono ?_
  rintro e w3 ⟨rfl, v3, hd, hc⟩
  rw [HI.out] at hd
  have D3 := Lib.hid hd
  have C3 := Lib.hid (C2.out.trans hc)
  clear hd hc
  go_wp2
  go_ret
  exact ⟨rfl, v3, D3.out, C3.out⟩

set_option maxHeartbeats 4000000 in
set_option maxRecDepth 100000 in
theorem pread_any {B g gs : Nat} {v : Value} {S : List (List UInt8)} {C : List Wt} (n : Nat) (w : World) (h : Dk B w g gs v S C) (hn : 2 * n + 1 < S.length) (hC : C.length ≤ 1000) (b : List UInt8) (hb : rd S C (2 * n) ++ rd S C (2 * n + 1) = b) (hl : b.length ≤ 128) :
    Calls Try.prog 70 #[.pointer (some ⟨g, 0, none⟩), .int .i64 (n : Int)] w fun e w' => e = .returned (.tuple #[.int .i64 (openK b : Nat), .string ⟨(openS b).toArray⟩, .int .i64 (openE b : Nat)]) ∧ Below w.heap.size w w' := by
  have OA := Lib.hid (fun w => open_any b w)
  have H0 := Lib.hid h
  have HN := Lib.hid hn
  have HC := Lib.hid hC
  have HBB := Lib.hid hb
  have HL := Lib.hid hl
  have nb := h.n2
  have n0 : (0 : Int) ≤ (n : Int) := by omega
  have n1 : (n : Int) ≤ 1048576 := by omega
  have d0 : decide ((n : Int) < 0) = false := decide_eq_false (by omega)
  have d1 : decide ((1048576 : Int) < (n : Int)) = false := decide_eq_false (by omega)
  have E2 := Lib.hid (show (2 : Int) * (n : Int) = ((2 * n : Nat) : Int) by omega)
  have E3 := Lib.hid (show (2 : Int) * (n : Int) + 1 = ((2 * n + 1 : Nat) : Int) by omega)
  obtain ⟨l1, hl1⟩ : ∃ l, rd S C (2 * n) = l := ⟨_, rfl⟩
  obtain ⟨l2, hl2⟩ : ∃ l, rd S C (2 * n + 1) = l := ⟨_, rfl⟩
  obtain ⟨s1, hs1⟩ : ∃ x : ByteArray, (⟨l1.toArray⟩ : ByteArray) = x := ⟨_, rfl⟩
  obtain ⟨s2, hs2⟩ : ∃ x : ByteArray, (⟨l2.toArray⟩ : ByteArray) = x := ⟨_, rfl⟩
  have HS := Lib.hid (And.intro hs1 hs2)
  have H12 := Lib.hid (And.intro hl1 hl2)
  obtain ⟨rk, hrk⟩ : ∃ x : Int, ((openK b : Nat) : Int) = x := ⟨_, rfl⟩
  obtain ⟨re, hre⟩ : ∃ x : Int, ((openE b : Nat) : Int) = x := ⟨_, rfl⟩
  obtain ⟨rs, hrs⟩ : ∃ x : ByteArray, (⟨(openS b).toArray⟩ : ByteArray) = x := ⟨_, rfl⟩
  rw [hrk, hre, hrs]
  rw [hrk, hre, hrs] at OA
  clear h hn hC nb hb hl hl1 hl2 hs1 hs2 hrk hre hrs
  go_enter Try.func70, Try.ntmps70
  go_wp2_with fail
  rw [E2.out]
  refine (read_any (2 * n) w H0.out (by have := HN.out; omega) (by have := HC.out; omega)).mono ?_
  rintro e w1 ⟨rfl, hb⟩
  rw [H12.out.1, HS.out.1]
  have D1 := Lib.hid (H0.out.below hb)
  have B1 := Lib.hid hb
  clear hb
  go_wp2_with fail
  first | rw [E3.out] | rw [show ((2 * n : Nat) : Int) + 1 = ((2 * n + 1 : Nat) : Int) from rfl] | skip
  refine (read_any (2 * n + 1) w1 D1.out HN.out (by have := HC.out; omega)).mono ?_
  rintro e w2 ⟨rfl, hb⟩
  rw [H12.out.2, HS.out.2]
  have B2 := Lib.hid (bon B1.out hb)
  clear hb
  go_wp2_with fail
  obtain ⟨V, hV⟩ : ∃ V : World, V = w2.alloc (.cells #[.string s1, .string s2] 9) := ⟨_, rfl⟩
  rw [← hV]
  have hbV : Below w2.heap.size w2 V := by rw [hV]; exact bda _ _
  have RV : V.heap[w2.heap.size]? = some (.cells #[.string s1, .string s2] 9 (0, 0)) := by rw [hV]; exact heap_alloc_new _ _
  have B3 := Lib.hid (bon B2.out hbV)
  have TG := together_any [l1, l2] 2 w2.heap.size V (heap_lt RV) (fun j z hj => by
    match j, hj with
    | 0, hj => simp at hj; subst hj; rw [HS.out.1]; exact row_c RV rfl
    | 1, hj => simp at hj; subst hj; rw [HS.out.2]; exact row_c RV rfl
    | j + 2, hj => simp at hj) (Nat.le_refl _) (by simp) (by have h1 := HBB.out; rw [H12.out.1, H12.out.2] at h1; have h2 := HL.out; rw [← h1] at h2; simp at h2 ⊢; omega)
  have ef : ([l1, l2] : List (List UInt8)).flatten = b := by rw [← HBB.out, H12.out.1, H12.out.2]; simp
  rw [ef] at TG
  have TGH := Lib.hid TG
  clear hV hbV RV TG ef
  refine TGH.out.mono ?_
  rintro e w3 ⟨rfl, hb⟩
  have B4 := Lib.hid (bon B3.out hb)
  clear hb
  go_wp2_with fail
  refine (OA.out w3).mono ?_
  rintro e w4 ⟨rfl, hb⟩
  have B5 := Lib.hid (bon B4.out hb)
  clear hb
  go_wp2
  go_ret3
  exact ⟨rfl, B5.out⟩
end Go.Proofs.Ytmgdpchjimlmeaa
