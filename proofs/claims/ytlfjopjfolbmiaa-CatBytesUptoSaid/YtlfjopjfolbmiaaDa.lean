/-
  The document's Encode of a right list.
-/
import Derived.Test.YtlfjopjfolbmiaaCz
import Derived.Test.YtlfjopjfolbmiaaRegB
namespace Go.Proofs.Ytlfjopjfolbmiaa
open Go.RowKit
theorem conv2 (x : World) (g q : Nat) (h : x.heap[g]? = some (.cells #[.int .u8 ((q : Int) / 256 % 256), .int .u8 ((q : Int) % 256)] 5 (0, 0))) :
    (convert 56 9 (.slice (some ⟨g, 0, none⟩) 2 2)).run Try.prog x = .ok (.string ⟨(be 2 q).toArray⟩) x := by
  have key : ∀ j, (hj : j < (be 2 q).length) → x.cell? ((⟨g, 0, none⟩ : Addr).add j) = some (.int .u8 ((be 2 q)[j].toNat : Int)) := by
    intro j hj
    rw [be_len] at hj
    rw [Addr.add_lit, Nat.zero_add, cell_of_row _ _ _ _ _ _ h]
    match j, hj with
    | 0, _ => simp [be, UInt8.toNat_ofNat']
    | 1, _ => simp [be, UInt8.toNat_ofNat']
  have := run_convert_bytes_back (P := Try.prog) x 56 9 5 ⟨g, 0, none⟩ 2 (be 2 q) Try.underlying56 Try.underlying5 Try.underlying9 key
  rw [be_len] at this
  exact this
theorem app_b (l m : List UInt8) : (⟨l.toArray⟩ : ByteArray) ++ ⟨m.toArray⟩ = ⟨(l ++ m).toArray⟩ := by rw [ByteArray.mk_append_mk]
set_option maxHeartbeats 8000000 in
set_option maxRecDepth 100000 in
theorem rencode_yes (next : Int) (A : Option Addr) (c : Nat) (vs : List (Int × Int)) (w : World) (h : Vs w A c vs) (hr : rightB next vs = true) :
    Calls Try.prog 10 #[.agg #[.int .i64 next, .slice A vs.length c]] w fun e w' => e = .returned (.tuple #[.string ⟨(encL next vs).toArray⟩, .bool true]) ∧ Below w.heap.size w w' := by
  have RA := Lib.hid (right_all hr)
  have l12 := RA.out.2.2.1
  have RG := Lib.hid (fun V (hV : Vs V A c vs) => rright_any next A c vs V hV (by omega))
  rw [hr] at RG
  obtain ⟨N, rfl⟩ := Int.eq_ofNat_of_zero_le (show 0 ≤ next by have := RA.out.1; omega)
  have NB := RA.out.2.1
  have FN := Lib.hid (fun V => four_any N V (by omega))
  clear hr
  have H := Lib.hid h
  clear h
  have r1 := heap_alloc_new w (.cells #[.int .i64 (N : Int), .slice A vs.length c] 34)
  have f0 := row_c r1 (i := 0) rfl
  have f1 := row_c r1 (i := 1) rfl
  have R1 := Lib.hid r1
  clear r1 NB
  go_enter Try.func10, Try.ntmps10
  go_wp2_with fail
  refine (RG.out _ (H.out.below (bda _ _))).mono ?_
  rintro e w2 ⟨rfl, hb⟩
  have K2 := Lib.hid (bon (bda _ _) hb)
  have R2 := Lib.hid (row_on R1.out hb)
  clear hb f0 f1 R1
  have f0 := row_c R2.out (i := 0) rfl
  go_wp2_with fail
  refine (FN.out _).mono ?_
  rintro e w3 ⟨rfl, hb⟩
  have K3 := Lib.hid (bon K2.out hb)
  have R3 := Lib.hid (row_on R2.out hb)
  clear hb f0 R2
  have E0 := Lib.hid (show (⟨(be 4 N).toArray⟩ : ByteArray) = ⟨(encL (N : Int) (vs.take 0)).toArray⟩ by unfold encL; simp)
  go_wp2_with fail
  go_loopw [5, 6] (fun s i wr => ∃ k : Nat, k ≤ vs.length ∧ i = .int .i64 k ∧ s = .string ⟨(encL (N : Int) (vs.take k)).toArray⟩ ∧ Hid (Below w3.heap.size w3 wr)) (fun _ i _ => vs.length - (intOf i).toNat)
  case atStart => exact ⟨0, Nat.zero_le _, rfl, congrArg Value.string E0.out, Lib.hid (Below.refl _ _)⟩
  case round =>
    obtain ⟨k, hk, rfl, rfl, hb⟩ := hrel
    have f1 := row_c (row_on R3.out hb.out) (i := 1) rfl
    have KW := Lib.hid (K3.out.trans (hb.out.mono K3.out.size))
    by_cases hlt : k < vs.length
    · obtain ⟨b, off, hA, hbl, hcell⟩ := (H.out.below KW.out).2 (by omega)
      obtain ⟨f2, f3⟩ := hcell k hlt
      have HLT := Lib.hid hlt
      have ET := Lib.hid (enc_take (next := (N : Int)) hlt)
      have hm := RA.out.2.2.2 _ (at2_mem hlt)
      have hr2 := root_bd hm.2.2
      clear hcell
      generalize at2 vs k = v at *
      obtain ⟨va, vq⟩ := v
      simp only at f2 f3 hm hr2
      obtain ⟨a, rfl⟩ := Int.eq_ofNat_of_zero_le (show 0 ≤ va by omega)
      obtain ⟨q, rfl⟩ := Int.eq_ofNat_of_zero_le hr2.1
      simp only [Int.toNat_natCast] at ET
      have k0 : (0 : Int) ≤ (k : Int) := by omega
      have k1 : (k : Int) < (vs.length : Int) := by omega
      have hNB := RA.out.2.1
      have FO := Lib.hid (fun V => four_any a V (by omega))
      have C2 := Lib.hid (fun x g (hg : x.heap[g]? = some (.cells #[.int .u8 ((q : Int) / 256 % 256), .int .u8 ((q : Int) % 256)] 5 (0, 0))) => conv2 x g q hg)
      obtain ⟨d, hd⟩ : ∃ d : ByteArray, d = ⟨(encL (N : Int) (vs.take k)).toArray⟩ := ⟨_, rfl⟩
      obtain ⟨d4, hd4⟩ : ∃ d : ByteArray, d = ⟨(be 4 a).toArray⟩ := ⟨_, rfl⟩
      obtain ⟨d2, hd2⟩ : ∃ d : ByteArray, d = ⟨(be 2 q).toArray⟩ := ⟨_, rfl⟩
      obtain ⟨da, hda⟩ : ∃ x : ByteArray, d ++ d4 = x := ⟨_, rfl⟩
      obtain ⟨dz, hdz⟩ : ∃ x : ByteArray, da ++ d2 = x := ⟨_, rfl⟩
      have s1 : d.size = 4 + 6 * k := by rw [hd, str_size, enc_len, List.length_take]; omega
      have s2 : d4.size = 4 := by rw [hd4, str_size, be_len]
      have s3 : d2.size = 2 := by rw [hd2, str_size, be_len]
      have s4 : da.size = 8 + 6 * k := by rw [← hda, ByteArray.size_append]; omega
      have OO := Lib.hid (And.intro hda hdz)
      have SZ := Lib.hid (show (¬ 9223372036854775807 < d.size + d4.size) ∧ ¬ 9223372036854775807 < da.size + d2.size from ⟨by omega, by omega⟩)
      clear s1 s2 s3 s4
      have DZ := Lib.hid (show dz = ⟨(encL (N : Int) (vs.take (k + 1))).toArray⟩ by rw [ET.out, ← hdz, ← hda, hd, hd4, hd2, app_b, app_b])
      rw [← hd4] at FO
      rw [← hd2] at C2
      rw [← hd]
      clear hd hd4 hd2 hda hdz hm hr2 hNB ET
      subst hA
      have FB := Lib.hid (fun x (K : Below wr.heap.size wr x) => (K.cell (p := ⟨w.heap.size, 1, none⟩) (World.block_lt_of_cell? wr _ f1)).trans f1)
      have FA := Lib.hid (fun x (K : Below wr.heap.size wr x) => (K.cell (p := ⟨b, off + k * 2, none⟩) hbl).trans f2)
      have FQ := Lib.hid (fun x (K : Below wr.heap.size wr x) => (K.cell (p := ⟨b, off + k * 2 + 1, none⟩) hbl).trans f3)
      clear f2 f3
      go_upto_region 8 with (fail)
      clear f1
      refine wp_operands (W := wr) rfl 27 [21, 22, 23, 24, 25, 26, 27, 28, 29, 30, 31, 32, 33, 34, 35, 36, 37, 38, 39, 40, 41, 42, 43, 44, 45, 46, 47] (fun i u x => match i with | 0 => u = .string d | 1 => u = .pointer (some ⟨w.heap.size, 1, none⟩) | 2 => u = .slice (some ⟨b, off, none⟩) vs.length c | 3 => u = .int .i64 k | 4 => u = .pointer (some ⟨b, off + k * 2, none⟩) | 5 => u = .pointer (some ⟨b, off + k * 2, none⟩) | 6 => u = .int .i64 (a : Int) | 7 => u = .string d4 | 8 => u = .string da | 9 => u = .pointer (some ⟨w.heap.size, 1, none⟩) | 10 => u = .slice (some ⟨b, off, none⟩) vs.length c | 11 => u = .int .i64 k | 12 => u = .pointer (some ⟨b, off + k * 2, none⟩) | 13 => u = .pointer (some ⟨b, off + k * 2 + 1, none⟩) | 14 => u = .int .i64 (q : Int) | 15 => u = .int .i64 ((q : Int) / 256) | 16 => u = .int .u8 ((q : Int) / 256 % 256) | 17 => u = .pointer (some ⟨w.heap.size, 1, none⟩) | 18 => u = .slice (some ⟨b, off, none⟩) vs.length c | 19 => u = .int .i64 k | 20 => u = .pointer (some ⟨b, off + k * 2, none⟩) | 21 => u = .pointer (some ⟨b, off + k * 2 + 1, none⟩) | 22 => u = .int .i64 (q : Int) | 23 => u = .int .u8 ((q : Int) % 256) | 24 => ∃ g, u = .slice (some ⟨g, 0, none⟩) 2 2 ∧ x.heap[g]? = some (.cells #[.int .u8 ((q : Int) / 256 % 256), .int .u8 ((q : Int) % 256)] 5 (0, 0)) | 25 => u = .string d2 | 26 => u = .string dz | _ => True) (fun _ => false)
        (by decide) rfl (by kernel_rfl) (by kernel_rfl) (by decide) (by kernel_rfl) ?_ (fun _ _ _ h => by cases h) ?_ ?_
      · intro i u x x' hi hR hb'
        have hi' : i = 0 ∨ i = 1 ∨ i = 2 ∨ i = 3 ∨ i = 4 ∨ i = 5 ∨ i = 6 ∨ i = 7 ∨ i = 8 ∨ i = 9 ∨ i = 10 ∨ i = 11 ∨ i = 12 ∨ i = 13 ∨ i = 14 ∨ i = 15 ∨ i = 16 ∨ i = 17 ∨ i = 18 ∨ i = 19 ∨ i = 20 ∨ i = 21 ∨ i = 22 ∨ i = 23 ∨ i = 24 ∨ i = 25 ∨ i = 26 := by omega
        rcases hi' with rfl | rfl | rfl | rfl | rfl | rfl | rfl | rfl | rfl | rfl | rfl | rfl | rfl | rfl | rfl | rfl | rfl | rfl | rfl | rfl | rfl | rfl | rfl | rfl | rfl | rfl | rfl
        · exact hR
        · exact hR
        · exact hR
        · exact hR
        · exact hR
        · exact hR
        · exact hR
        · exact hR
        · exact hR
        · exact hR
        · exact hR
        · exact hR
        · exact hR
        · exact hR
        · exact hR
        · exact hR
        · exact hR
        · exact hR
        · exact hR
        · exact hR
        · exact hR
        · exact hR
        · exact hR
        · exact hR
        · obtain ⟨g, e, hg⟩ := hR; exact ⟨g, e, (hb'.block g (heap_lt hg)).trans hg⟩
        · exact hR
        · exact hR
      · intro i av x K hi hF hb' hw hK
        have hi' : i = 0 ∨ i = 1 ∨ i = 2 ∨ i = 3 ∨ i = 4 ∨ i = 5 ∨ i = 6 ∨ i = 7 ∨ i = 8 ∨ i = 9 ∨ i = 10 ∨ i = 11 ∨ i = 12 ∨ i = 13 ∨ i = 14 ∨ i = 15 ∨ i = 16 ∨ i = 17 ∨ i = 18 ∨ i = 19 ∨ i = 20 ∨ i = 21 ∨ i = 22 ∨ i = 23 ∨ i = 24 ∨ i = 25 ∨ i = 26 := by omega
        rcases hi' with rfl | rfl | rfl | rfl | rfl | rfl | rfl | rfl | rfl | rfl | rfl | rfl | rfl | rfl | rfl | rfl | rfl | rfl | rfl | rfl | rfl | rfl | rfl | rfl | rfl | rfl | rfl
        · simp only [wpOp, List.getElem?_toArray, List.getElem?_cons_zero, Region.wanted, if_true]
          refine Or.inl ?_
          have e0 : av.eval (.tmp 5) = .string d := hF.2.2 5 (by decide)
          clear hw hF
          simp only [Oper.wp, execOp]
          rw [e0]
          go_simp
          exact hK _ x (by first | rfl | (rw [O]; done) | (congr 1; omega)) (Below.refl _ _) (fun h => by cases h)
        · simp only [wpOp, List.getElem?_toArray, List.getElem?_cons_succ, List.getElem?_cons_zero, Region.wanted, if_true]
          refine Or.inl ?_
          have e0 : av.eval (.tmp 1) = .pointer (some ⟨w.heap.size, 0, none⟩) := hF.2.2 1 (by decide)
          clear hw hF
          simp only [Oper.wp, execOp]
          rw [e0]
          go_simp
          exact hK _ x (by first | rfl | (rw [O]; done) | (congr 1; omega)) (Below.refl _ _) (fun h => by cases h)
        · simp only [wpOp, List.getElem?_toArray, List.getElem?_cons_succ, List.getElem?_cons_zero, Region.wanted, if_true]
          refine Or.inl ?_
          have e0 : av.tmps.getD 22 undef = .pointer (some ⟨w.heap.size, 1, none⟩) := hw 1 (by kernel_rfl)
          have f := FB.out x hb'
          clear hw hF
          simp only [Oper.wp, execOp]
          go_simp
          exact hK _ x (by first | rfl | (rw [O]; done) | (congr 1; omega)) (Below.refl _ _) (fun h => by cases h)
        · simp only [wpOp, List.getElem?_toArray, List.getElem?_cons_succ, List.getElem?_cons_zero, Region.wanted, if_true]
          refine Or.inl ?_
          have e0 : av.eval (.tmp 6) = .int .i64 k := hF.2.2 6 (by decide)
          clear hw hF
          simp only [Oper.wp, execOp]
          rw [e0]
          go_simp
          exact hK _ x (by first | rfl | (rw [O]; done) | (congr 1; omega)) (Below.refl _ _) (fun h => by cases h)
        · simp only [wpOp, List.getElem?_toArray, List.getElem?_cons_succ, List.getElem?_cons_zero, Region.wanted, if_true]
          refine Or.inl ?_
          have e0 : av.tmps.getD 23 undef = .slice (some ⟨b, off, none⟩) vs.length c := hw 2 (by kernel_rfl)
          have e1 : av.tmps.getD 24 undef = .int .i64 k := hw 3 (by kernel_rfl)
          clear hw hF
          simp only [Oper.wp, execOp]
          go_simp
          exact hK _ x (by first | rfl | (rw [O]; done) | (congr 1; omega)) (Below.refl _ _) (fun h => by cases h)
        · simp only [wpOp, List.getElem?_toArray, List.getElem?_cons_succ, List.getElem?_cons_zero, Region.wanted, if_true]
          refine Or.inl ?_
          have e0 : av.tmps.getD 25 undef = .pointer (some ⟨b, off + k * 2, none⟩) := hw 4 (by kernel_rfl)
          clear hw hF
          simp only [Oper.wp, execOp]
          go_simp
          exact hK _ x (by first | rfl | (rw [O]; done) | (congr 1; omega)) (Below.refl _ _) (fun h => by cases h)
        · simp only [wpOp, List.getElem?_toArray, List.getElem?_cons_succ, List.getElem?_cons_zero, Region.wanted, if_true]
          refine Or.inl ?_
          have e0 : av.tmps.getD 26 undef = .pointer (some ⟨b, off + k * 2, none⟩) := hw 5 (by kernel_rfl)
          have f := FA.out x hb'
          clear hw hF
          simp only [Oper.wp, execOp]
          go_simp
          exact hK _ x (by first | rfl | (rw [O]; done) | (congr 1; omega)) (Below.refl _ _) (fun h => by cases h)
        · simp only [wpOp, List.getElem?_toArray, List.getElem?_cons_succ, List.getElem?_cons_zero, Region.wanted, if_true]
          refine Or.inl ?_
          have e0 : av.tmps.getD 27 undef = .int .i64 (a : Int) := hw 6 (by kernel_rfl)
          clear hw hF
          simp only [Oper.wp, execOp]
          go_simp
          refine (FO.out x).mono ?_
          rintro e x' ⟨rfl, hx⟩
          exact hK _ x' rfl hx (fun h => by cases h)
        · simp only [wpOp, List.getElem?_toArray, List.getElem?_cons_succ, List.getElem?_cons_zero, Region.wanted, if_true]
          refine Or.inl ?_
          have e0 : av.tmps.getD 21 undef = .string d := hw 0 (by kernel_rfl)
          have e1 : av.tmps.getD 28 undef = .string d4 := hw 7 (by kernel_rfl)
          have O := OO.out.1
          have Z := SZ.out.1
          clear hw hF
          simp only [Oper.wp, execOp]
          go_simp
          exact hK _ x (by first | rfl | (rw [O]; done) | (congr 1; omega)) (Below.refl _ _) (fun h => by cases h)
        · simp only [wpOp, List.getElem?_toArray, List.getElem?_cons_succ, List.getElem?_cons_zero, Region.wanted, if_true]
          refine Or.inl ?_
          have e0 : av.eval (.tmp 1) = .pointer (some ⟨w.heap.size, 0, none⟩) := hF.2.2 1 (by decide)
          clear hw hF
          simp only [Oper.wp, execOp]
          rw [e0]
          go_simp
          exact hK _ x (by first | rfl | (rw [O]; done) | (congr 1; omega)) (Below.refl _ _) (fun h => by cases h)
        · simp only [wpOp, List.getElem?_toArray, List.getElem?_cons_succ, List.getElem?_cons_zero, Region.wanted, if_true]
          refine Or.inl ?_
          have e0 : av.tmps.getD 30 undef = .pointer (some ⟨w.heap.size, 1, none⟩) := hw 9 (by kernel_rfl)
          have f := FB.out x hb'
          clear hw hF
          simp only [Oper.wp, execOp]
          go_simp
          exact hK _ x (by first | rfl | (rw [O]; done) | (congr 1; omega)) (Below.refl _ _) (fun h => by cases h)
        · simp only [wpOp, List.getElem?_toArray, List.getElem?_cons_succ, List.getElem?_cons_zero, Region.wanted, if_true]
          refine Or.inl ?_
          have e0 : av.eval (.tmp 6) = .int .i64 k := hF.2.2 6 (by decide)
          clear hw hF
          simp only [Oper.wp, execOp]
          rw [e0]
          go_simp
          exact hK _ x (by first | rfl | (rw [O]; done) | (congr 1; omega)) (Below.refl _ _) (fun h => by cases h)
        · simp only [wpOp, List.getElem?_toArray, List.getElem?_cons_succ, List.getElem?_cons_zero, Region.wanted, if_true]
          refine Or.inl ?_
          have e0 : av.tmps.getD 31 undef = .slice (some ⟨b, off, none⟩) vs.length c := hw 10 (by kernel_rfl)
          have e1 : av.tmps.getD 32 undef = .int .i64 k := hw 11 (by kernel_rfl)
          clear hw hF
          simp only [Oper.wp, execOp]
          go_simp
          exact hK _ x (by first | rfl | (rw [O]; done) | (congr 1; omega)) (Below.refl _ _) (fun h => by cases h)
        · simp only [wpOp, List.getElem?_toArray, List.getElem?_cons_succ, List.getElem?_cons_zero, Region.wanted, if_true]
          refine Or.inl ?_
          have e0 : av.tmps.getD 33 undef = .pointer (some ⟨b, off + k * 2, none⟩) := hw 12 (by kernel_rfl)
          clear hw hF
          simp only [Oper.wp, execOp]
          go_simp
          exact hK _ x (by first | rfl | (rw [O]; done) | (congr 1; omega)) (Below.refl _ _) (fun h => by cases h)
        · simp only [wpOp, List.getElem?_toArray, List.getElem?_cons_succ, List.getElem?_cons_zero, Region.wanted, if_true]
          refine Or.inl ?_
          have e0 : av.tmps.getD 34 undef = .pointer (some ⟨b, off + k * 2 + 1, none⟩) := hw 13 (by kernel_rfl)
          have f := FQ.out x hb'
          clear hw hF
          simp only [Oper.wp, execOp]
          go_simp
          exact hK _ x (by first | rfl | (rw [O]; done) | (congr 1; omega)) (Below.refl _ _) (fun h => by cases h)
        · simp only [wpOp, List.getElem?_toArray, List.getElem?_cons_succ, List.getElem?_cons_zero, Region.wanted, if_true]
          refine Or.inl ?_
          have e0 : av.tmps.getD 35 undef = .int .i64 (q : Int) := hw 14 (by kernel_rfl)
          clear hw hF
          simp only [Oper.wp, execOp]
          go_simp
          exact hK _ x (by first | rfl | (rw [O]; done) | (congr 1; omega)) (Below.refl _ _) (fun h => by cases h)
        · simp only [wpOp, List.getElem?_toArray, List.getElem?_cons_succ, List.getElem?_cons_zero, Region.wanted, if_true]
          refine Or.inl ?_
          have e0 : av.tmps.getD 36 undef = .int .i64 ((q : Int) / 256) := hw 15 (by kernel_rfl)
          clear hw hF
          simp only [Oper.wp, execOp]
          go_simp
          exact hK _ x (by first | rfl | (rw [O]; done) | (congr 1; omega)) (Below.refl _ _) (fun h => by cases h)
        · simp only [wpOp, List.getElem?_toArray, List.getElem?_cons_succ, List.getElem?_cons_zero, Region.wanted, if_true]
          refine Or.inl ?_
          have e0 : av.eval (.tmp 1) = .pointer (some ⟨w.heap.size, 0, none⟩) := hF.2.2 1 (by decide)
          clear hw hF
          simp only [Oper.wp, execOp]
          rw [e0]
          go_simp
          exact hK _ x (by first | rfl | (rw [O]; done) | (congr 1; omega)) (Below.refl _ _) (fun h => by cases h)
        · simp only [wpOp, List.getElem?_toArray, List.getElem?_cons_succ, List.getElem?_cons_zero, Region.wanted, if_true]
          refine Or.inl ?_
          have e0 : av.tmps.getD 38 undef = .pointer (some ⟨w.heap.size, 1, none⟩) := hw 17 (by kernel_rfl)
          have f := FB.out x hb'
          clear hw hF
          simp only [Oper.wp, execOp]
          go_simp
          exact hK _ x (by first | rfl | (rw [O]; done) | (congr 1; omega)) (Below.refl _ _) (fun h => by cases h)
        · simp only [wpOp, List.getElem?_toArray, List.getElem?_cons_succ, List.getElem?_cons_zero, Region.wanted, if_true]
          refine Or.inl ?_
          have e0 : av.eval (.tmp 6) = .int .i64 k := hF.2.2 6 (by decide)
          clear hw hF
          simp only [Oper.wp, execOp]
          rw [e0]
          go_simp
          exact hK _ x (by first | rfl | (rw [O]; done) | (congr 1; omega)) (Below.refl _ _) (fun h => by cases h)
        · simp only [wpOp, List.getElem?_toArray, List.getElem?_cons_succ, List.getElem?_cons_zero, Region.wanted, if_true]
          refine Or.inl ?_
          have e0 : av.tmps.getD 39 undef = .slice (some ⟨b, off, none⟩) vs.length c := hw 18 (by kernel_rfl)
          have e1 : av.tmps.getD 40 undef = .int .i64 k := hw 19 (by kernel_rfl)
          clear hw hF
          simp only [Oper.wp, execOp]
          go_simp
          exact hK _ x (by first | rfl | (rw [O]; done) | (congr 1; omega)) (Below.refl _ _) (fun h => by cases h)
        · simp only [wpOp, List.getElem?_toArray, List.getElem?_cons_succ, List.getElem?_cons_zero, Region.wanted, if_true]
          refine Or.inl ?_
          have e0 : av.tmps.getD 41 undef = .pointer (some ⟨b, off + k * 2, none⟩) := hw 20 (by kernel_rfl)
          clear hw hF
          simp only [Oper.wp, execOp]
          go_simp
          exact hK _ x (by first | rfl | (rw [O]; done) | (congr 1; omega)) (Below.refl _ _) (fun h => by cases h)
        · simp only [wpOp, List.getElem?_toArray, List.getElem?_cons_succ, List.getElem?_cons_zero, Region.wanted, if_true]
          refine Or.inl ?_
          have e0 : av.tmps.getD 42 undef = .pointer (some ⟨b, off + k * 2 + 1, none⟩) := hw 21 (by kernel_rfl)
          have f := FQ.out x hb'
          clear hw hF
          simp only [Oper.wp, execOp]
          go_simp
          exact hK _ x (by first | rfl | (rw [O]; done) | (congr 1; omega)) (Below.refl _ _) (fun h => by cases h)
        · simp only [wpOp, List.getElem?_toArray, List.getElem?_cons_succ, List.getElem?_cons_zero, Region.wanted, if_true]
          refine Or.inl ?_
          have e0 : av.tmps.getD 43 undef = .int .i64 (q : Int) := hw 22 (by kernel_rfl)
          clear hw hF
          simp only [Oper.wp, execOp]
          go_simp
          exact hK _ x (by first | rfl | (rw [O]; done) | (congr 1; omega)) (Below.refl _ _) (fun h => by cases h)
        · simp only [wpOp, List.getElem?_toArray, List.getElem?_cons_succ, List.getElem?_cons_zero, Region.wanted, if_true]
          refine Or.inl ?_
          have e0 : av.tmps.getD 37 undef = .int .u8 ((q : Int) / 256 % 256) := hw 16 (by kernel_rfl)
          have e1 : av.tmps.getD 44 undef = .int .u8 ((q : Int) % 256) := hw 23 (by kernel_rfl)
          clear hw hF
          simp only [Oper.wp, execOp]
          have e2 : av.tmps[37]?.getD undef = .int .u8 ((q : Int) / 256 % 256) := by simpa using e0
          have e3 : av.tmps[44]?.getD undef = .int .u8 ((q : Int) % 256) := by simpa using e1
          clear e0 e1
          go_simp
          exact hK _ _ ⟨_, rfl, heap_alloc_new _ _⟩ ((Below.refl _ _).alloc (Nat.le_refl _) _) (fun h => by cases h)
        · simp only [wpOp, List.getElem?_toArray, List.getElem?_cons_succ, List.getElem?_cons_zero, Region.wanted, if_true]
          refine Or.inl ?_
          obtain ⟨g, e0, hg⟩ := hw 24 (by kernel_rfl)
          replace e0 : av.tmps.getD 45 undef = .slice (some ⟨g, 0, none⟩) 2 2 := e0
          have hcv := C2.out x g hg
          clear hw hF
          simp only [Oper.wp, execOp]
          go_simp
          exact hK _ x (by first | rfl | (rw [O]; done) | (congr 1; omega)) (Below.refl _ _) (fun h => by cases h)
        · simp only [wpOp, List.getElem?_toArray, List.getElem?_cons_succ, List.getElem?_cons_zero, Region.wanted, if_true]
          refine Or.inl ?_
          have e0 : av.tmps.getD 29 undef = .string da := hw 8 (by kernel_rfl)
          have e1 : av.tmps.getD 46 undef = .string d2 := hw 25 (by kernel_rfl)
          have O := OO.out.2
          have Z := SZ.out.2
          clear hw hF
          simp only [Oper.wp, execOp]
          go_simp
          exact hK _ x (by first | rfl | (rw [O]; done) | (congr 1; omega)) (Below.refl _ _) (fun h => by cases h)
      · intro av x hF hb' hR _
        obtain ⟨gN, e24, hgN⟩ := hR 24 (by decide)
        have e0 : av.tmps.getD 21 undef = .string d := hR 0 (by decide)
        have e1 : av.tmps.getD 22 undef = .pointer (some ⟨w.heap.size, 1, none⟩) := hR 1 (by decide)
        have e2 : av.tmps.getD 23 undef = .slice (some ⟨b, off, none⟩) vs.length c := hR 2 (by decide)
        have e3 : av.tmps.getD 24 undef = .int .i64 k := hR 3 (by decide)
        have e4 : av.tmps.getD 25 undef = .pointer (some ⟨b, off + k * 2, none⟩) := hR 4 (by decide)
        have e5 : av.tmps.getD 26 undef = .pointer (some ⟨b, off + k * 2, none⟩) := hR 5 (by decide)
        have e6 : av.tmps.getD 27 undef = .int .i64 (a : Int) := hR 6 (by decide)
        have e7 : av.tmps.getD 28 undef = .string d4 := hR 7 (by decide)
        have e8 : av.tmps.getD 29 undef = .string da := hR 8 (by decide)
        have e9 : av.tmps.getD 30 undef = .pointer (some ⟨w.heap.size, 1, none⟩) := hR 9 (by decide)
        have e10 : av.tmps.getD 31 undef = .slice (some ⟨b, off, none⟩) vs.length c := hR 10 (by decide)
        have e11 : av.tmps.getD 32 undef = .int .i64 k := hR 11 (by decide)
        have e12 : av.tmps.getD 33 undef = .pointer (some ⟨b, off + k * 2, none⟩) := hR 12 (by decide)
        have e13 : av.tmps.getD 34 undef = .pointer (some ⟨b, off + k * 2 + 1, none⟩) := hR 13 (by decide)
        have e14 : av.tmps.getD 35 undef = .int .i64 (q : Int) := hR 14 (by decide)
        have e15 : av.tmps.getD 36 undef = .int .i64 ((q : Int) / 256) := hR 15 (by decide)
        have e16 : av.tmps.getD 37 undef = .int .u8 ((q : Int) / 256 % 256) := hR 16 (by decide)
        have e17 : av.tmps.getD 38 undef = .pointer (some ⟨w.heap.size, 1, none⟩) := hR 17 (by decide)
        have e18 : av.tmps.getD 39 undef = .slice (some ⟨b, off, none⟩) vs.length c := hR 18 (by decide)
        have e19 : av.tmps.getD 40 undef = .int .i64 k := hR 19 (by decide)
        have e20 : av.tmps.getD 41 undef = .pointer (some ⟨b, off + k * 2, none⟩) := hR 20 (by decide)
        have e21 : av.tmps.getD 42 undef = .pointer (some ⟨b, off + k * 2 + 1, none⟩) := hR 21 (by decide)
        have e22 : av.tmps.getD 43 undef = .int .i64 (q : Int) := hR 22 (by decide)
        have e23 : av.tmps.getD 44 undef = .int .u8 ((q : Int) % 256) := hR 23 (by decide)
        have e25 : av.tmps.getD 46 undef = .string d2 := hR 25 (by decide)
        have e26 : av.tmps.getD 47 undef = .string dz := hR 26 (by decide)
        rw [hF.fold (by kernel_rfl)]
        have e24b : av.tmps.getD 45 undef = .slice (some ⟨gN, 0, none⟩) 2 2 := e24
        simp only [List.foldl_cons, List.foldl_nil, e0, e1, e2, e3, e4, e5, e6, e7, e8, e9, e10, e11, e12, e13, e14, e15, e16, e17, e18, e19, e20, e21, e22, e23, e25, e26, e24b]
        simp only [Act.put, List.setIfInBounds_toArray, List.set_cons_zero, List.set_cons_succ]
        change wpOps _ _ _ [27] _ _
        simp only [wpOps_cons]
        clear e0 e1 e2 e3 e4 e5 e6 e7 e8 e9 e10 e11 e12 e13 e14 e15 e16 e17 e18 e19 e20 e21 e22 e23 e25 e26 e24 e24b hR hF
        simp only [wpOp, List.getElem?_toArray, List.getElem?_cons_succ, List.getElem?_cons_zero, Region.wanted, if_true]
        refine Or.inl ?_
        simp only [Oper.wp, execOp]
        go_simp
        try simp only [wpOps]
        have KX := Lib.hid (hb.out.trans (hb'.mono hb.out.size))
        go_wp2
        go_roundw
        case rel => exact ⟨k + 1, HLT.out, by go_num, congrArg Value.string DZ.out, KX⟩
        case measure => simp [intOf]; have := HLT.out; omega
    · obtain rfl : k = vs.length := by omega
      rw [List.take_length]
      go_wp2
      go_ret2
      exact ⟨rfl, KW.out⟩
end Go.Proofs.Ytlfjopjfolbmiaa
