/-
  astrolabelaw23.CatSizes: a list has four bytes, and six for each version; the next number stands ahead, the last root at the end.
-/
import Derived.Test.YtlfjopjfolbmiaaCj
namespace Go.Proofs.Ytlfjopjfolbmiaa
open Go.RowKit
def at8 (b : List UInt8) (i : Nat) : Nat := (b[i]?.getD 0).toNat
theorem str_size (l : List UInt8) : (⟨l.toArray⟩ : ByteArray).size = l.length := by simp [ByteArray.size]
theorem ba_at (b : List UInt8) (i : Nat) (h' : i < (⟨b.toArray⟩ : ByteArray).size) : ((⟨b.toArray⟩ : ByteArray)[i]'h').toNat = at8 b i := by
  have h : i < b.length := by rw [str_size] at h'; exact h'
  unfold at8
  rw [List.getElem?_eq_getElem h]
  simp [ByteArray.getElem_eq_getElem_data]
theorem at8_lt (b : List UInt8) (i : Nat) : at8 b i < 256 := by unfold at8; exact (b[i]?.getD 0).toNat_lt
theorem or_i64 {a b k : Nat} (ha : a % 2 ^ k = 0) (hb : b < 2 ^ k) (h : a < 4294967296) (hk : 2 ^ k ≤ 4294967296) : bits .or .i64 (a : Int) (b : Int) = ((a + b : Nat) : Int) := by
  show IntKind.i64.wrap ((BitVec.ofInt 64 (a : Int) ||| BitVec.ofInt 64 (b : Int)).toNat : Int) = _
  have e1 : (BitVec.ofInt 64 (a : Int)).toNat = a := by rw [BitVec.ofInt_natCast, BitVec.toNat_ofNat]; exact Nat.mod_eq_of_lt (by omega)
  have e2 : (BitVec.ofInt 64 (b : Int)).toNat = b := by rw [BitVec.ofInt_natCast, BitVec.toNat_ofNat]; exact Nat.mod_eq_of_lt (by omega)
  rw [BitVec.toNat_or, e1, e2, nat_join k a b ha hb, IntKind.wrap_i64]
  omega
theorem or4 {a b c d : Nat} (ha : a < 256) (hb : b < 256) (hc : c < 256) (hd : d < 256) :
    bits .or .i64 (bits .or .i64 (bits .or .i64 (IntKind.i64.wrap ((a : Int) * 16777216)) (IntKind.i64.wrap ((b : Int) * 65536))) (IntKind.i64.wrap ((c : Int) * 256))) (d : Int) = ((a * 16777216 + b * 65536 + c * 256 + d : Nat) : Int) := by
  rw [IntWalk.i64_in ((a : Int) * 16777216) (by omega), IntWalk.i64_in ((b : Int) * 65536) (by omega), IntWalk.i64_in ((c : Int) * 256) (by omega)]
  rw [show ((a : Int) * 16777216) = ((a * 16777216 : Nat) : Int) by simp, show ((b : Int) * 65536) = ((b * 65536 : Nat) : Int) by simp, show ((c : Int) * 256) = ((c * 256 : Nat) : Int) by simp]
  rw [or_i64 (k := 24) (by omega) (by omega) (by omega) (by omega), or_i64 (k := 16) (by omega) (by omega) (by omega) (by omega), or_i64 (k := 8) (by omega) (by omega) (by omega) (by omega)]
theorem or4' {a b c d : Nat} (ha : a < 256) (hb : b < 256) (hc : c < 256) (hd : d < 256) :
    bits .or .i64 (bits .or .i64 (bits .or .i64 ((a : Int) * 16777216) ((b : Int) * 65536)) ((c : Int) * 256)) (d : Int) = ((a * 16777216 + b * 65536 + c * 256 + d : Nat) : Int) := by
  have := or4 ha hb hc hd
  rw [IntWalk.i64_in ((a : Int) * 16777216) (by omega), IntWalk.i64_in ((b : Int) * 65536) (by omega), IntWalk.i64_in ((c : Int) * 256) (by omega)] at this
  exact this
theorem or2' {c d : Nat} (hc : c < 256) (hd : d < 256) : bits .or .i64 ((c : Int) * 256) (d : Int) = ((c * 256 + d : Nat) : Int) := by
  rw [show ((c : Int) * 256) = ((c * 256 : Nat) : Int) by simp, or_i64 (k := 8) (by omega) (by omega) (by omega) (by omega)]
theorem at8_be {m n i : Nat} (h : i < m) (r : List UInt8) : at8 (be m n ++ r) i = n / 2 ^ (8 * (m - 1 - i)) % 256 := by
  unfold at8
  rw [List.getElem?_append_left (by rw [be_len]; exact h)]
  unfold be
  rw [List.getElem?_map, List.getElem?_range h]
  simp [UInt8.toNat_ofNat']
theorem enc_next (N : Nat) (zs : List (Int × Int)) (h : N < 4294967296) : at8 (encL N zs) 0 * 16777216 + at8 (encL N zs) 1 * 65536 + at8 (encL N zs) 2 * 256 + at8 (encL N zs) 3 = N := by
  unfold encL
  rw [at8_be (by omega), at8_be (by omega), at8_be (by omega), at8_be (by omega)]
  simp
  omega
theorem enc_root (N : Nat) (zs : List (Int × Int)) (h : 0 < zs.length) (hr : ∀ v ∈ zs, 0 ≤ v.2 ∧ v.2 ≤ 511) : ((at8 (encL N zs) ((encL N zs).length - 2) * 256 + at8 (encL N zs) ((encL N zs).length - 1) : Nat) : Int) = (at2 zs (zs.length - 1)).2 := by
  have e := enc_take (next := (N : Int)) (k := zs.length - 1) (by omega : zs.length - 1 < zs.length)
  rw [show zs.length - 1 + 1 = zs.length by omega, List.take_of_length_le (Nat.le_refl _)] at e
  have hm := hr _ (at2_mem (show zs.length - 1 < zs.length by omega))
  have l := enc_len (N : Int) zs
  have l2 := enc_len (N : Int) (zs.take (zs.length - 1))
  rw [List.length_take, show min (zs.length - 1) zs.length = zs.length - 1 by omega] at l2
  obtain ⟨q, hq⟩ := Int.eq_ofNat_of_zero_le hm.1
  have key : ∀ i, i < 2 → at8 (encL N zs) (4 + 6 * (zs.length - 1) + 4 + i) = q / 2 ^ (8 * (2 - 1 - i)) % 256 := by
    intro i hi
    rw [e]
    unfold at8
    rw [List.getElem?_append_right (by rw [List.length_append, be_len, l2]; omega)]
    rw [List.length_append, be_len, l2, show 4 + 6 * (zs.length - 1) + 4 + i - (4 + 6 * (zs.length - 1) + 4) = i by omega, hq, Int.toNat_natCast]
    have := at8_be (n := q) hi []
    rw [List.append_nil] at this
    exact this
  have k0 := key 0 (by omega)
  have k1 := key 1 (by omega)
  rw [l, show 4 + 6 * zs.length - 2 = 4 + 6 * (zs.length - 1) + 4 + 0 by omega, show 4 + 6 * zs.length - 1 = 4 + 6 * (zs.length - 1) + 4 + 1 by omega, k0, k1, hq]
  simp
  omega
set_option maxHeartbeats 2000000 in
set_option maxRecDepth 100000 in
theorem sizes_no (next : Int) (A : Option Addr) (c : Nat) (vs : List (Int × Int)) (w : World) (h : Vs w A c vs) (hr : rightB next (vs.take 15) = false) :
    Calls Try.prog 6 #[.agg #[.int .i64 next, .slice A vs.length c]] w fun e w' => e = .returned (.bool true) ∧ Below w.heap.size w w' := by
  have H := Lib.hid h
  obtain ⟨zs, hz⟩ : ∃ zs, vs.take 15 = zs := ⟨_, rfl⟩
  have FW := Lib.hid (fun V (hV : Vs V A c vs) => few_any next A c vs V hV)
  have lz : zs.length ≤ 15 := by rw [← hz, List.length_take]; omega
  rw [hz] at FW hr
  have RG := Lib.hid (fun A c V (hV : Vs V A c zs) => right_any next A c zs V hV (by omega))
  rw [hr] at RG
  have EN := Lib.hid (fun A c V (hV : Vs V A c zs) => encode_no next A c zs V hV (by omega) hr)
  clear h hz hr
  go_enter Try.func6, Try.ntmps6
  go_wp2_with fail
  refine (examples_any _).mono ?_
  rintro e w1 ⟨rfl, hb⟩
  have K1 := Lib.hid (bon (bda w (.cells #[.int .i64 next, .slice A vs.length c] 24)) hb)
  have R1 := Lib.hid (row_on (heap_alloc_new w (.cells #[.int .i64 next, .slice A vs.length c] 24)) hb)
  clear hb
  have f0 := row_c R1.out (i := 0) rfl
  have f1 := row_c R1.out (i := 1) rfl
  go_wp2_with fail
  refine (FW.out _ (H.out.below K1.out)).mono ?_
  rintro e w2 ⟨A2, c2, rfl, hv, hb, hf⟩
  have r2 := row_on R1.out hb
  have q0 := row_c r2 (i := 0) rfl
  have q1 := row_c r2 (i := 1) rfl
  have z0 := frozen_of_row _ _ 0 _ _ r2
  have z1 := frozen_of_row _ _ 1 _ _ r2
  obtain ⟨w3, hw3⟩ : ∃ W : World, W = (w2.setCell ⟨w.heap.size, 0, none⟩ (.int .i64 next)).setCell ⟨w.heap.size, 1, none⟩ (.slice A2 zs.length c2) := ⟨_, rfl⟩
  have HW := Lib.hid hw3
  have s1 : w.heap.size < w1.heap.size := heap_lt R1.out
  have V3 := Lib.hid (show Vs w3 A2 c2 zs by rw [hw3]; exact (hv.set hf s1 _ _).set hf s1 _ _)
  have K3 := Lib.hid (show Below w.heap.size w w3 by rw [hw3]; exact ((bon K1.out hb).setCell (Nat.le_refl _) _).setCell (Nat.le_refl _) _)
  have R3 := Lib.hid (show w3.heap[w.heap.size]? = some (.cells #[.int .i64 next, .slice A2 zs.length c2] 24) by
    rw [hw3]
    have e1 := heap_setCell_same w2 w.heap.size 0 _ _ (.int .i64 next) r2
    exact heap_setCell_same _ w.heap.size 1 _ _ (.slice A2 zs.length c2) e1)
  clear hb hv hf f0 f1 r2 hw3
  go_upto_region 5 with (fail)
  rw [← HW.out]
  clear q0 q1 z0 z1 HW
  have f0 : w3.cell? ⟨w.heap.size, 0, none⟩ = some (.int .i64 next) := row_c R3.out (i := 0) rfl
  have f1 : w3.cell? ⟨w.heap.size, 1, none⟩ = some (.slice A2 zs.length c2) := row_c R3.out (i := 1) rfl
  go_wp2_with fail
  refine (EN.out A2 c2 _ V3.out).mono ?_
  rintro e w4 ⟨rfl, hb⟩
  have K4 := Lib.hid (K3.out.trans (hb.mono K3.out.size))
  have V4 := Lib.hid (V3.out.below hb)
  have r4 := row_on R3.out hb
  clear hb f0 f1
  have f0 : w4.cell? ⟨w.heap.size, 0, none⟩ = some (.int .i64 next) := row_c r4 (i := 0) rfl
  have f1 : w4.cell? ⟨w.heap.size, 1, none⟩ = some (.slice A2 zs.length c2) := row_c r4 (i := 1) rfl
  clear r4
  go_wp2_with fail
  refine (RG.out A2 c2 _ V4.out).mono ?_
  rintro e w5 ⟨rfl, hb⟩
  have K5 := Lib.hid (K4.out.trans (hb.mono K4.out.size))
  clear hb
  go_wp2
  go_ret
  exact ⟨rfl, K5.out⟩
set_option maxHeartbeats 4000000 in
set_option maxRecDepth 100000 in
theorem sizes_yes (next : Int) (A : Option Addr) (c : Nat) (vs : List (Int × Int)) (w : World) (h : Vs w A c vs) (hr : rightB next (vs.take 15) = true) :
    Calls Try.prog 6 #[.agg #[.int .i64 next, .slice A vs.length c]] w fun e w' => e = .returned (.bool true) ∧ Below w.heap.size w w' := by
  have H := Lib.hid h
  obtain ⟨zs, hz⟩ : ∃ zs, vs.take 15 = zs := ⟨_, rfl⟩
  have FW := Lib.hid (fun V (hV : Vs V A c vs) => few_any next A c vs V hV)
  rw [hz] at FW hr
  have RA := Lib.hid (right_all hr)
  have lz : zs.length ≤ 12 := RA.out.2.2.1
  have n1 := RA.out.1
  have n2 := RA.out.2.1
  have RG := Lib.hid (fun A c V (hV : Vs V A c zs) => right_any next A c zs V hV (by omega))
  rw [hr] at RG
  have EN := Lib.hid (fun A c V (hV : Vs V A c zs) => encode_yes next A c zs V hV hr)
  clear h hz hr
  obtain ⟨N, rfl⟩ := Int.eq_ofNat_of_zero_le (show 0 ≤ next by omega)
  have SL := Lib.hid (enc_len (N : Int) zs)
  have NX := Lib.hid (enc_next N zs (by omega))
  have LR := Lib.hid (fun (h0 : zs.length ≠ 0) => enc_root N zs (by omega) (fun v hv => root_bd (RA.out.2.2.2 v hv).2.2))
  obtain ⟨S, hS⟩ : ∃ S, encL (N : Int) zs = S := ⟨_, rfl⟩
  rw [hS] at EN SL NX LR
  clear hS RA
  go_enter Try.func6, Try.ntmps6
  go_wp2_with fail
  refine (examples_any _).mono ?_
  rintro e w1 ⟨rfl, hb⟩
  have K1 := Lib.hid (bon (bda w (.cells #[.int .i64 (N : Int), .slice A vs.length c] 24)) hb)
  have R1 := Lib.hid (row_on (heap_alloc_new w (.cells #[.int .i64 (N : Int), .slice A vs.length c] 24)) hb)
  clear hb
  have f0 := row_c R1.out (i := 0) rfl
  have f1 := row_c R1.out (i := 1) rfl
  go_wp2_with fail
  refine (FW.out _ (H.out.below K1.out)).mono ?_
  rintro e w2 ⟨A2, c2, rfl, hv, hb, hf⟩
  have r2 := row_on R1.out hb
  have q0 := row_c r2 (i := 0) rfl
  have q1 := row_c r2 (i := 1) rfl
  have z0 := frozen_of_row _ _ 0 _ _ r2
  have z1 := frozen_of_row _ _ 1 _ _ r2
  obtain ⟨w3, hw3⟩ : ∃ W : World, W = (w2.setCell ⟨w.heap.size, 0, none⟩ (.int .i64 (N : Int))).setCell ⟨w.heap.size, 1, none⟩ (.slice A2 zs.length c2) := ⟨_, rfl⟩
  have HW := Lib.hid hw3
  have s1 : w.heap.size < w1.heap.size := heap_lt R1.out
  have V3 := Lib.hid (show Vs w3 A2 c2 zs by rw [hw3]; exact (hv.set hf s1 _ _).set hf s1 _ _)
  have K3 := Lib.hid (show Below w.heap.size w w3 by rw [hw3]; exact ((bon K1.out hb).setCell (Nat.le_refl _) _).setCell (Nat.le_refl _) _)
  have R3 := Lib.hid (show w3.heap[w.heap.size]? = some (.cells #[.int .i64 (N : Int), .slice A2 zs.length c2] 24) by
    rw [hw3]
    have e1 := heap_setCell_same w2 w.heap.size 0 _ _ (.int .i64 (N : Int)) r2
    exact heap_setCell_same _ w.heap.size 1 _ _ (.slice A2 zs.length c2) e1)
  clear hb hv hf f0 f1 r2 hw3
  go_upto_region 5 with (fail)
  rw [← HW.out]
  clear q0 q1 z0 z1 HW
  have f0 : w3.cell? ⟨w.heap.size, 0, none⟩ = some (.int .i64 (N : Int)) := row_c R3.out (i := 0) rfl
  have f1 : w3.cell? ⟨w.heap.size, 1, none⟩ = some (.slice A2 zs.length c2) := row_c R3.out (i := 1) rfl
  go_wp2_with fail
  refine (EN.out A2 c2 _ V3.out).mono ?_
  rintro e w4 ⟨rfl, hb⟩
  have K4 := Lib.hid (K3.out.trans (hb.mono K3.out.size))
  have V4 := Lib.hid (V3.out.below hb)
  have r4 := row_on R3.out hb
  clear hb f0 f1
  have f0 : w4.cell? ⟨w.heap.size, 0, none⟩ = some (.int .i64 (N : Int)) := row_c r4 (i := 0) rfl
  have f1 : w4.cell? ⟨w.heap.size, 1, none⟩ = some (.slice A2 zs.length c2) := row_c r4 (i := 1) rfl
  clear r4
  have ss := Lib.hid (str_size S)
  have m1 : ((S.length : Int) == 4 + 6 * (zs.length : Int)) = true := by simp; have := SL.out; omega
  have m2 : ((S.length : Int) != 4 + 6 * (zs.length : Int)) = false := by simp; have := SL.out; omega
  have i0 : 0 < S.length := by have := SL.out; omega
  have i1 : 1 < S.length := by have := SL.out; omega
  have i2 : 2 < S.length := by have := SL.out; omega
  have i3 : 3 < S.length := by have := SL.out; omega
  have j0 : (0 : Int) < (S.length : Int) := by omega
  have j1 : (1 : Int) < (S.length : Int) := by omega
  have j2 : (2 : Int) < (S.length : Int) := by omega
  have j3 : (3 : Int) < (S.length : Int) := by omega
  have g0 := ba_at S 0
  have g1 := ba_at S 1
  have g2 := ba_at S 2
  have g3 := ba_at S 3
  have t0 := at8_lt S 0
  have t1 := at8_lt S 1
  have t2 := at8_lt S 2
  have t3 := at8_lt S 3
  have u0 : IntKind.i64.wrap (at8 S 0 : Int) = (at8 S 0 : Int) := IntWalk.i64_in _ (by omega)
  have u1 : IntKind.i64.wrap (at8 S 1 : Int) = (at8 S 1 : Int) := IntWalk.i64_in _ (by omega)
  have u2 : IntKind.i64.wrap (at8 S 2 : Int) = (at8 S 2 : Int) := IntWalk.i64_in _ (by omega)
  have u3 : IntKind.i64.wrap (at8 S 3 : Int) = (at8 S 3 : Int) := IntWalk.i64_in _ (by omega)
  have sl : S.length ≤ 1000 := by have := SL.out; omega
  have OR := or4' t0 t1 t2 t3
  rw [NX.out] at OR
  go_upto_region 11 with (fail)
  go_quiet (fail)
  clear g0 g1 g2 g3 u0 u1 u2 u3 t0 t1 t2 t3 i0 i1 i2 i3 j0 j1 j2 j3
  clear OR
  by_cases hz0 : zs.length = 0
  · have d0 : ((zs.length : Int) == 0) = true := beq_iff_eq.2 (by omega)
    clear hz0
    go_wp2
    go_ret
    exact ⟨rfl, below_drewN K4.out _⟩
  · have d0 : ((zs.length : Int) == 0) = false := beq_eq_false_iff_ne.2 (by omega)
    have LRR := Lib.hid (LR.out hz0)
    have hz1 : 0 < zs.length := by omega
    clear hz0
    obtain ⟨P, hP⟩ : ∃ P, S.length - 2 = P := ⟨_, rfl⟩
    obtain ⟨Q, hQ⟩ : ∃ Q, S.length - 1 = Q := ⟨_, rfl⟩
    have p1 : (S.length : Int) - 2 = (P : Int) := by have := SL.out; omega
    have p2 : (S.length : Int) - 1 = (Q : Int) := by have := SL.out; omega
    have p3 : P < S.length := by have := SL.out; omega
    have p4 : Q < S.length := by have := SL.out; omega
    have p5 : (P : Int) < (S.length : Int) := by omega
    have p6 : (Q : Int) < (S.length : Int) := by omega
    rw [hP, hQ] at LRR
    clear hP hQ
    have g0 := ba_at S P
    have g1 := ba_at S Q
    have t0 := at8_lt S P
    have t1 := at8_lt S Q
    have OR := or2' t0 t1
    rw [LRR.out] at OR
    obtain ⟨b, off, hA, hbl, hcell⟩ := V4.out.2 hz1
    have c1 := (hcell (zs.length - 1) (by omega)).1
    have c2' := (hcell (zs.length - 1) (by omega)).2
    have VV := Lib.hid V4.out
    obtain ⟨E, hE⟩ : ∃ E, zs.length - 1 = E := ⟨_, rfl⟩
    have e1 : (zs.length : Int) - 1 = (E : Int) := by omega
    have e2 : E < zs.length := by omega
    have e3 : (E : Int) < (zs.length : Int) := by omega
    rw [hE] at OR c1 c2'
    clear hcell hE
    generalize at2 zs E = v at *
    obtain ⟨vn, vr⟩ := v
    simp only at OR c1 c2'
    subst hA
    go_upto_region 14 with (fail)
    go_quiet (fail)
    clear OR g0 g1 t0 t1 p1 p2 p3 p4 p5 p6
    have RV := Lib.hid (fun k => RG.out _ _ (w4.drewN k) VV.out)
    go_wp2_with fail
    refine (RV.out _).mono ?_
    rintro e w5 ⟨rfl, hb⟩
    have K5 := Lib.hid ((below_drewN K4.out _).trans (hb.mono K4.out.size))
    clear hb
    go_wp2
    go_ret
    exact ⟨rfl, K5.out⟩
theorem psizes_any (next : Int) (A : Option Addr) (c : Nat) (vs : List (Int × Int)) (w : World) (h : Vs w A c vs) :
    Calls Try.prog 6 #[.agg #[.int .i64 next, .slice A vs.length c]] w fun e w' => e = .returned (.bool true) ∧ Below w.heap.size w w' := by
  cases hr : rightB next (vs.take 15)
  · exact sizes_no next A c vs w h hr
  · exact sizes_yes next A c vs w h hr
end Go.Proofs.Ytlfjopjfolbmiaa
