/-
  Read.
-/
import Derived.Test.YtmgdpchjimlmeaaEg
namespace Go.Proofs.Ytmgdpchjimlmeaa
open Go.RowKit
set_option linter.unusedSimpArgs false
set_option linter.unusedVariables false
/-- What a sector says, with what waits. -/
def rd (S : List (List UInt8)) (C : List Wt) (i : Nat) : List UInt8 := C.foldl (fun acc c => if c.1 = i then c.2 else acc) (S[i]?.getD [])
theorem rd_snoc (S : List (List UInt8)) (C : List Wt) (c : Wt) (i : Nat) : rd S (C ++ [c]) i = if c.1 = i then c.2 else rd S C i := by unfold rd; rw [List.foldl_append]; rfl
theorem rd_take {S : List (List UInt8)} {C : List Wt} {k i : Nat} (h : k < C.length) : rd S (C.take (k + 1)) i = if C[k].1 = i then C[k].2 else rd S (C.take k) i := by
  rw [← List.take_append_getElem h, rd_snoc]
theorem rd_nil (S : List (List UInt8)) (i : Nat) : rd S [] i = S[i]?.getD [] := rfl
theorem conv_bytes (w : World) (b o c : Nat) (l : List UInt8) (n : Nat) (hn : l.length = n) (h : ∀ j v, (bc l)[j]? = some v → w.cell? ⟨b, o + j, none⟩ = some v) :
    (convert 68 9 (.slice (some ⟨b, o, none⟩) n c)).run Try.prog w = .ok (.string ⟨l.toArray⟩) w := by
  subst hn
  refine run_convert_bytes_back w 68 9 5 ⟨b, o, none⟩ c l Try.underlying68 Try.underlying5 Try.underlying9 (fun j hj => ?_)
  rw [addr_off]
  exact h j _ (bc_at hj)
theorem Dk.sect {B g gs : Nat} {v : Value} {S : List (List UInt8)} {C : List Wt} {w : World} (h : Dk B w g gs v S C) {i : Nat} (hi : i < S.length) (j : Nat) (u : Value) (hj : (bc (S[i]?.getD []))[j]? = some u) : w.cell? ⟨gs, i * 64 + j, none⟩ = some u := by
  refine row_c h.hs ?_
  have hl := h.s64 _ (List.getElem_mem hi)
  rw [List.getElem?_eq_getElem hi, Option.getD_some] at hj
  have hj2 : j < 64 := by
    have := (List.getElem?_eq_some_iff.1 hj).1
    rw [bc_len, hl] at this; exact this
  rw [List.getElem?_toArray, ← hj, ← (flat_at hi h.s64).1, ← bc_take, ← bc_drop, List.getElem?_take, if_pos hj2, List.getElem?_drop]

set_option maxHeartbeats 4000000 in
set_option maxRecDepth 100000 in
theorem read_any {B g gs : Nat} {v : Value} {S : List (List UInt8)} {C : List Wt} (ix : Nat) (w : World) (h : Dk B w g gs v S C) (hi : ix < S.length) (hC : C.length ≤ 1000000) :
    Calls Try.prog 78 #[.pointer (some ⟨g, 0, none⟩), .int .i64 (ix : Int)] w fun e w' => e = .returned (.tuple #[.string ⟨(rd S C ix).toArray⟩, .int .i64 0]) ∧ Below w.heap.size w w' := by
  obtain ⟨A, c, hv⟩ : ∃ A c, v = .slice A C.length c := own_form h.ho
  subst hv
  have H0 := Lib.hid h
  have HH := Lib.hid (has_any (ix : Int) true w h (decide_eq_true (by omega)))
  have fd := row_c (i := 3) h.hg rfl
  have fc := row_c (i := 1) h.hg rfl
  have fs := row_c (i := 0) h.hg rfl
  obtain ⟨N, hN⟩ : ∃ N, C.length = N := ⟨_, rfl⟩
  have HN := Lib.hid hN
  obtain ⟨M, hM⟩ : ∃ M, S.length = M := ⟨_, rfl⟩
  have HI := Lib.hid (show ix < M by omega)
  have HM := Lib.hid hM
  rw [hN] at fc hC
  rw [hM] at fs
  obtain ⟨R, hR⟩ : ∃ R : ByteArray, ⟨(rd S C ix).toArray⟩ = R := ⟨_, rfl⟩
  rw [hR]
  have HR := Lib.hid hR
  have HNB := Lib.hid hC
  obtain ⟨j0, hj0⟩ : ∃ j : Int, (N : Int) - 1 = j := ⟨_, rfl⟩
  have HJ0 := Lib.hid hj0
  have wj : wrap64 ((N : Int) - 1) = j0 := by rw [← hj0]; exact IntWalk.wrap64_in _ ⟨by omega, by omega⟩
  have WJ := Lib.hid wj
  clear h hi hN hM hR hC hj0 wj
  go_enter Try.func78, Try.ntmps78
  go_wp2_with fail
  refine HH.out.mono ?_
  rintro e w1 ⟨rfl, hw1⟩
  subst w1
  go_wp2_with fail
  go_loopw [6] (fun jv wr => ∃ (k : Nat) (j : Int), k ≤ N ∧ jv = .int .i64 j ∧ Hid (j = (k : Int) - 1) ∧ Hid (rd S (C.take k) ix = rd S C ix) ∧ Hid (wr = w)) (fun jv _ => (intOf jv + 1).toNat)
  case atStart => exact ⟨N, j0, Nat.le_refl _, congrArg (Value.int .i64) WJ.out, Lib.hid HJ0.out.symm, Lib.hid (by rw [List.take_of_length_le (by rw [HN.out]; exact Nat.le_refl _)]), Lib.hid rfl⟩
  case round =>
    obtain ⟨k, j, hk, rfl, hj, hr, hw⟩ := hrel
    have hwr := hw.out
    subst wr
    rcases k with _ | k
    · have j1 : j = -1 := by have := hj.out; omega
      have d0 : decide (0 ≤ j) = false := decide_eq_false (by omega)
      have HJ := Lib.hid j1
      have cv := conv_bytes w gs (ix * 64) 64 (S[ix]?.getD []) 64 (by rw [List.getElem?_eq_getElem (by rw [HM.out]; exact HI.out)]; exact H0.out.s64 _ (List.getElem_mem _)) (fun j u hj => H0.out.sect (by rw [HM.out]; exact HI.out) j u hj)
      have e1 : (⟨(S[ix]?.getD []).toArray⟩ : ByteArray) = R := by rw [← HR.out, ← hr.out]; rfl
      rw [e1] at cv
      have i0 : (0 : Int) ≤ (ix : Int) := by omega
      have i1 : (ix : Int) < (M : Int) := by have := HI.out; omega
      clear j1 e1
      go_wp2
      try rw [Exit.noGoto_ret]
      go_ret2
      exact ⟨rfl, Below.refl _ _⟩
    · have HK := Lib.hid (show j = (k : Int) by have := hj.out; omega)
      obtain rfl := HK.out
      clear HK
      have hkc : k < C.length := by rw [HN.out]; omega
      obtain ⟨go, cap, hA⟩ := own_some H0.out.ho (by omega)
      injection hA with hA _ hA2
      subst hA hA2
      obtain ⟨X, hX⟩ : ∃ X, C[k] = X := ⟨_, rfl⟩
      have h64 := H0.out.c64 _ (List.getElem_mem hkc)
      have W0 := H0.out.wait hkc 0 (.int .i64 (C[k].1 : Int)) rfl
      rw [Addr.add_lit, Nat.add_zero] at W0
      have WB := Lib.hid (fun (j : Nat) v (hj : (bc C[k].2)[j]? = some v) => show w.cell? ⟨go, k * 65 + 1 + j, none⟩ = some v by
        have := H0.out.wait hkc (j + 1) v (by unfold wcell; rw [List.getElem?_cons_succ]; exact hj)
        rw [Addr.add_lit] at this
        rw [Nat.add_assoc, Nat.add_comm 1]; exact this)
      have hrt := rd_take (S := S) (i := ix) hkc
      rw [hX] at W0 WB h64 hrt
      have HRT := Lib.hid hrt
      have k0 : (0 : Int) ≤ (k : Int) := by omega
      have k1 : (k : Int) < (N : Int) := by omega
      have d0 : decide ((0 : Int) ≤ (k : Int)) = true := decide_eq_true k0
      have HX := Lib.hid h64
      have HK := Lib.hid (show k < N by omega)
      by_cases he : X.1 = ix
      · have e0 : ((X.1 : Int) == (ix : Int)) = true := by simp [he]
        have e2 : (X.1 : Int) = (ix : Int) := by omega
        have cv := conv_bytes w go (k * 65 + 1) 64 X.2 64 h64 (fun j u hj => WB.out j u hj)
        have e1 : (⟨X.2.toArray⟩ : ByteArray) = R := by rw [← HR.out, ← hr.out, HRT.out, if_pos he]
        rw [e1] at cv
        clear hX h64 hrt he e1 hkc
        go_wp2
        try rw [Exit.noGoto_ret]
        go_ret2
        exact ⟨rfl, Below.refl _ _⟩
      · have e0 : ((X.1 : Int) == (ix : Int)) = false := by simp; omega
        have e2 : ¬ (X.1 : Int) = (ix : Int) := by omega
        have HRN := Lib.hid (show rd S (C.take k) ix = rd S C ix by have := hr.out; rw [HRT.out, if_neg he] at this; exact this)
        have HW1 := Lib.hid (show wrap64 ((k : Int) - 1) = (k : Int) - 1 from IntWalk.wrap64_in _ ⟨by omega, by have := HNB.out; omega⟩)
        clear hX h64 hrt he hkc
        go_wp2
        go_roundw
        case rel => exact ⟨k, (k : Int) - 1, by have := HK.out; omega, congrArg (Value.int .i64) HW1.out, Lib.hid rfl, HRN, by first | exact Lib.hid rfl | exact Lib.hid trivial⟩
        case measure => simp only [intOf]; rw [HW1.out]; omega
end Go.Proofs.Ytmgdpchjimlmeaa
