import Derived.Test.YtfhdhldgflbpjaaDoorMB7
import Derived.Test.YtfhdhldgflbpjaaDoorMB1
import Derived.Test.YtfhdhldgflbpjaaDoorMB4
import Derived.Test.YtfhdhldgflbpjaaDoorTie
import Derived.Test.YtfhdhldgflbpjaaDoorCards
import Derived.SevenTiedAt
import Derived.OpenShut
import Derived.ChangeMaps5
section
/-
  The law TabcSizes, walked.
-/
namespace Go.Proofs.YtfhdhldgflbpjaaDoor
open Go.RowKit
set_option linter.unusedSimpArgs false
set_option linter.unusedVariables false
/-- Six bytes, as a string. -/
theorem conv6 (x : World) (g : Nat) (a b c d e f : Int) (h : x.heap[g]? = some (.cells #[.int .u8 (a % 256), .int .u8 (b % 256), .int .u8 (c % 256), .int .u8 (d % 256), .int .u8 (e % 256), .int .u8 (f % 256)] 5 (0, 0))) :
    (convert 40 9 (.slice (some ⟨g, 0, none⟩) 6 6)).run Tryd.prog x = .ok (.string ⟨([a, b, c, d, e, f].map by8).toArray⟩) x := by
  have e8 : ∀ n : Int, ((by8 n).toNat : Int) = n % 256 := fun n => by
    unfold by8; rw [UInt8.toNat_ofNat']; omega
  refine run_convert_bytes_back (P := Tryd.prog) x 40 9 5 ⟨g, 0, none⟩ 6 ([a, b, c, d, e, f].map by8) Tryd.underlying40 Tryd.underlying5 Tryd.underlying9 (fun j hj => ?_)
  rw [Addr.add_lit, Nat.zero_add, cell_of_row _ _ _ _ _ _ h]
  match j, hj with
  | 0, _ => simp [e8]
  | 1, _ => simp [e8]
  | 2, _ => simp [e8]
  | 3, _ => simp [e8]
  | 4, _ => simp [e8]
  | 5, _ => simp [e8]
theorem by8_wrap (n : Int) : by8 (IntKind.i64.wrap n) = by8 n := by
  unfold by8
  have : IntKind.i64.wrap n % 256 = n % 256 := by rw [IntKind.wrap_i64]; omega
  rw [this]
theorem cat_head {st : ByteArray} {L : List UInt8} {F O W Q D n : Int} (h : st.data.toList = L) (h8 : L.take 7 = headB F O W Q D n) :
    ((⟨#[84]⟩ : ByteArray) ++ (⟨([F, O, Q, D, IntKind.i64.wrap (W + 128), n].map by8).toArray⟩ : ByteArray)).data.toList = (st.extract 0 7).data.toList := by
  have e2 : (st.extract 0 7).data.toList = L.take 7 := by rw [← h]; simp
  rw [e2, h8]
  unfold headB
  simp [by8_wrap]
  decide
set_option maxHeartbeats 8000000 in
set_option maxRecDepth 100000 in
theorem sizes_law (A P : Option Addr) (c k : Nat) (F O W Q D : Int) (a : Nm) (ps : List Pd) (w : World) (h : Dg w A c a.2.1) (hps : PsL w P ps) (hk : ps.length ≤ k) (hk2 : ps.length ≤ 9223372036854775807) (hk3 : a.2.1.length ≤ 9223372036854775807) (hT : T32 w) :
    Calls Tryd.prog 4 #[.agg #[.int .i64 F, .int .i64 O, .bool a.1, .slice A a.2.1.length c, .int .i64 a.2.2, .int .i64 W, .int .i64 Q, .int .i64 D, .slice P ps.length k]] w fun e w' => e = .returned (.bool true) ∧ Below w.heap.size w w' := by
  have HT := Lib.hid hT
  have HD := Lib.hid h
  have HPS := Lib.hid hps
  have HK := Lib.hid (And.intro hk (And.intro hk2 hk3))
  obtain ⟨a2, ha2⟩ : ∃ z, cutN a = z := ⟨_, rfl⟩
  obtain ⟨ps2, hp2⟩ : ∃ z, (ps.take 40).map cutP = z := ⟨_, rfl⟩
  have HA2 := Lib.hid ha2
  have HP2 := Lib.hid hp2
  have SM := Lib.hid (cut_sm (a := a) (ps := ps))
  rw [ha2, hp2] at SM
  have D2 := Lib.hid (show Dg w A c a2.2.1 by rw [← ha2]; exact h.take 8)
  obtain ⟨E, hE⟩ : ∃ z, outE (encO F O a2 W Q D ps2) = z := ⟨_, rfl⟩
  obtain ⟨L, hL⟩ : ∃ z, outB (encO F O a2 W Q D ps2) = z := ⟨_, rfl⟩
  obtain ⟨st, hst⟩ : ∃ z : ByteArray, (⟨L.toArray⟩ : ByteArray) = z := ⟨_, rfl⟩
  have HST := Lib.hid (show st.data.toList = L by rw [← hst])
  have HE := Lib.hid hE
  have HL := Lib.hid hL
  clear h hps hk hk2 hk3 hT ha2 hp2 hE hL hst
  go_enter Tryd.func4, Tryd.ntmps4
  go_wp2_with fail
  obtain ⟨v1, hW⟩ : ∃ V : World, w.alloc (.cells #[.int .i64 F, .int .i64 O, .bool a.1, .slice A a.2.1.length c, .int .i64 a.2.2, .int .i64 W, .int .i64 Q, .int .i64 D, .slice P ps.length k] 29) = V := ⟨_, rfl⟩
  rw [hW]
  have B1 := Lib.hid (show Below w.heap.size w v1 by rw [← hW]; exact below1 _ _)
  have R1 := Lib.hid (show v1.heap[w.heap.size]? = some (.cells #[.int .i64 F, .int .i64 O, .bool a.1, .slice A a.2.1.length c, .int .i64 a.2.2, .int .i64 W, .int .i64 Q, .int .i64 D, .slice P ps.length k] 29 (0, 0)) by rw [← hW]; exact heap_alloc_new _ _)
  clear hW
  refine (examples_any v1 (t32_below HT.out B1.out)).mono ?_
  rintro e v2 ⟨rfl, hb⟩
  have B2 := Lib.hid (B1.out.trans (hb.mono B1.out.size))
  have R2 := co R1 hb
  clear hb
  go_wp2_with (refine wpList_load_box rfl 29 _ rfl w.heap.size rfl #[.int .i64 F, .int .i64 O, .bool a.1, .slice A a.2.1.length c, .int .i64 a.2.2, .int .i64 W, .int .i64 Q, .int .i64 D, .slice P ps.length k] _ R2.out _ Tryd.underlying29 rfl tab_size ?_)
  refine (trims_v (HD.out.below B2.out) (HPS.out.below B2.out) HK.out.1 HK.out.2.1 HK.out.2.2 HA2.out HP2.out).mono ?_
  rintro e v3 ⟨P2, k2, rfl, hp, hb⟩
  have B3 := Lib.hid (B2.out.trans (hb.mono B2.out.size))
  have R3 := co R2 hb
  have P3 := Lib.hid hp
  clear hb hp
  go_wp2_with (refine wpList_store_box rfl 29 _ _ rfl w.heap.size rfl #[.int .i64 F, .int .i64 O, .bool a2.1, .slice A a2.2.1.length c, .int .i64 a2.2.2, .int .i64 W, .int .i64 Q, .int .i64 D, .slice P2 ps2.length k2] rfl #[.int .i64 F, .int .i64 O, .bool a.1, .slice A a.2.1.length c, .int .i64 a.2.2, .int .i64 W, .int .i64 Q, .int .i64 D, .slice P ps.length k] 29 R3.out tab_size rfl tab_one ?_)
  intro v4 hO hr4
  have R4 := Lib.hid hr4
  clear hr4
  have B4 := Lib.hid (hO.below B3.out (Nat.le_refl _))
  have OK := Lib.hid (psl_ok (D2.out.below B3.out) P3.out.ps)
  have P4 := Lib.hid (P3.out.only hO R3.out (noint_of (by simp)) (by decide) (by decide))
  have D4 := Lib.hid (show Dg v4 A c a2.2.1 from (D2.out.below B3.out).kept (hO.kept R3.out (noint_of (by simp))))
  clear hO
  go_wp2_with (refine wpList_load_box rfl 29 _ rfl w.heap.size rfl #[.int .i64 F, .int .i64 O, .bool a2.1, .slice A a2.2.1.length c, .int .i64 a2.2.2, .int .i64 W, .int .i64 Q, .int .i64 D, .slice P2 ps2.length k2] _ R4.out _ Tryd.underlying29 rfl tab_size ?_)
  refine (enc_tab (F := F) (O := O) (W := W) (Q := Q) (D := D) (k := k2) D4.out (Nat.le_trans SM.out.1 (by decide)) (t32_below HT.out B4.out) P4.out.ps SM.out.2 HE.out (HST.out.trans HL.out.symm)).mono ?_
  rintro e v5 ⟨rfl, hb⟩
  have B5 := Lib.hid (B4.out.trans (hb.mono B4.out.size))
  have R5 := co R4 hb
  have P5 := Lib.hid (P4.out.ps.below hb)
  have D5 := Lib.hid (D4.out.below hb)
  clear hb P3 P4 D4 R3 R4
  go_wp2_with (refine wpList_load_box rfl 29 _ rfl w.heap.size rfl #[.int .i64 F, .int .i64 O, .bool a2.1, .slice A a2.2.1.length c, .int .i64 a2.2.2, .int .i64 W, .int .i64 Q, .int .i64 D, .slice P2 ps2.length k2] _ R5.out _ Tryd.underlying29 rfl tab_size ?_)
  refine (size_any (F := F) (O := O) (W := W) (Q := Q) (D := D) (k := k2) D5.out (Nat.le_trans SM.out.1 (by decide)) (t32_below HT.out B5.out) P5.out SM.out.2).mono ?_
  rintro e v6 ⟨rfl, hb⟩
  rw [HL.out]
  have B6 := Lib.hid (B5.out.trans (hb.mono B5.out.size))
  have R6 := co R5 hb
  clear hb P5 D5 R5
  by_cases hz : E = 0
  · subst hz
    obtain ⟨q, zs, L', hq, hzs, hLL, h7, _, _, _, _, h8, hlen⟩ := enc_canon HE.out OK.out
    obtain rfl : L = L' := HL.out.symm.trans hLL
    have SZ2 : st.size = L.length := by rw [← HST.out]; simp
    have L7 := Lib.hid h7
    have L8 := Lib.hid h8
    have LN := Lib.hid hlen
    clear hq hzs hLL h7 h8 hlen
    obtain ⟨m, hm⟩ : ∃ m, L.length = m := ⟨_, rfl⟩
    obtain ⟨pn, hpn⟩ : ∃ z, ps2.length = z := ⟨_, rfl⟩
    rw [hm] at SZ2 L7 LN ⊢
    rw [hpn] at R6 L8 ⊢
    have HPN := Lib.hid hpn
    have HM := Lib.hid hm
    have c0 := row_c (i := 0) R6.out rfl
    have c1 := row_c (i := 1) R6.out rfl
    have c5 := row_c (i := 5) R6.out rfl
    have c6 := row_c (i := 6) R6.out rfl
    have c7 := row_c (i := 7) R6.out rfl
    have c8 := row_c (i := 8) R6.out rfl
    have xr := heap_lt R6.out
    have k1 : (7 : Int) ≤ (st.size : Int) := by have := L7.out; omega
    have k2' : (7 : Int) < (m : Int) := by have := L7.out; omega
    have hst : st.size = m := SZ2
    clear hm hpn SZ2
    go_upto_region 9 with fail
    go_cut [2] from 30 to 68 (fun bv wx => bv = .bool true ∧ Hid (Below w.heap.size w wx))
    case first =>
      obtain ⟨h7, h7e⟩ : ∃ z : ByteArray, st.extract 0 7 = z := ⟨_, rfl⟩
      obtain ⟨W8, hW8⟩ : ∃ z, IntKind.i64.wrap (W + 128) = z := ⟨_, rfl⟩
      obtain ⟨h6, h6e⟩ : ∃ z : ByteArray, (⟨([F, O, Q, D, W8, (pn : Int)].map by8).toArray⟩ : ByteArray) = z := ⟨_, rfl⟩
      have HS0 := Lib.hid hst
      have K1 := Lib.hid k1
      have H6S := Lib.hid (show h6.size = 6 by rw [← h6e]; rfl)
      have K2 := Lib.hid k2'
      have SL := Lib.hid h7e
      have HW8 := Lib.hid hW8
      have C0 := Lib.hid (fun x (h : Below v6.heap.size v6 x) => row_c (i := 0) (cells_of R6.out h) rfl)
      have C1 := Lib.hid (fun x (h : Below v6.heap.size v6 x) => row_c (i := 1) (cells_of R6.out h) rfl)
      have C5 := Lib.hid (fun x (h : Below v6.heap.size v6 x) => row_c (i := 5) (cells_of R6.out h) rfl)
      have C6 := Lib.hid (fun x (h : Below v6.heap.size v6 x) => row_c (i := 6) (cells_of R6.out h) rfl)
      have C7 := Lib.hid (fun x (h : Below v6.heap.size v6 x) => row_c (i := 7) (cells_of R6.out h) rfl)
      have C8 := Lib.hid (fun x (h : Below v6.heap.size v6 x) => row_c (i := 8) (cells_of R6.out h) rfl)
      have CV := Lib.hid (fun x g hg => h6e ▸ conv6 x g F O Q D W8 (pn : Int) hg)
      have HCAT := Lib.hid (show (⟨#[84]⟩ : ByteArray) ++ h6 = h7 by
        rw [← h6e, ← h7e]
        apply ByteArray.ext; apply Array.toList_inj.1
        rw [← hW8]
        exact cat_head HST.out L8.out)
      clear h7e hW8 h6e hst k1 k2' c0 c1 c5 c6 c7 c8
      refine wp_operands (W := v6) rfl 39 [30, 31, 32, 33, 34, 35, 36, 37, 38, 39, 40, 41, 42, 43, 44, 45, 46, 47, 48, 49, 50, 51, 52, 53, 54, 55, 56, 57, 58, 59, 60, 61, 62, 63, 64, 65, 66, 67, 68] (fun i u x => match i with | 0 => u = .bool true | 1 => u = .bool true | 2 => u = .int .i64 (m : Int) | 3 => u = .string st | 4 => u = .int .i64 (m : Int) | 5 => u = .bool true | 6 => u = .bool true | 7 => u = .bool true | 8 => u = .int .i64 (m : Int) | 9 => u = .bool true | 10 => u = .bool true | 11 => u = .bool true | 12 => u = .string st | 13 => u = .string h7 | 14 => u = .pointer (some ⟨w.heap.size, 0, none⟩) | 15 => u = .int .i64 F | 16 => u = .int .u8 (F % 256) | 17 => u = .pointer (some ⟨w.heap.size, 1, none⟩) | 18 => u = .int .i64 O | 19 => u = .int .u8 (O % 256) | 20 => u = .pointer (some ⟨w.heap.size, 6, none⟩) | 21 => u = .int .i64 Q | 22 => u = .int .u8 (Q % 256) | 23 => u = .pointer (some ⟨w.heap.size, 7, none⟩) | 24 => u = .int .i64 D | 25 => u = .int .u8 (D % 256) | 26 => u = .pointer (some ⟨w.heap.size, 5, none⟩) | 27 => u = .int .i64 W | 28 => u = .int .i64 W8 | 29 => u = .int .u8 (W8 % 256) | 30 => u = .pointer (some ⟨w.heap.size, 8, none⟩) | 31 => u = .slice P2 pn k2 | 32 => u = .int .i64 (pn : Int) | 33 => u = .int .u8 ((pn : Int) % 256) | 34 => ∃ g, u = .slice (some ⟨g, 0, none⟩) 6 6 ∧ x.heap[g]? = some (.cells #[.int .u8 (F % 256), .int .u8 (O % 256), .int .u8 (Q % 256), .int .u8 (D % 256), .int .u8 (W8 % 256), .int .u8 ((pn : Int) % 256)] 5 (0, 0)) | 35 => u = .string h6 | 36 => u = .string h7 | 37 => u = .bool true | 38 => u = .bool true | _ => True) (fun _ => false)
        (by decide) rfl (by kernel_rfl) (by kernel_rfl) (by decide) (by kernel_rfl) ?_ (fun _ _ _ h => by cases h) ?_ ?_
      · intro i u x x' hi hR hb'
        have hi' : i = 0 ∨ i = 1 ∨ i = 2 ∨ i = 3 ∨ i = 4 ∨ i = 5 ∨ i = 6 ∨ i = 7 ∨ i = 8 ∨ i = 9 ∨ i = 10 ∨ i = 11 ∨ i = 12 ∨ i = 13 ∨ i = 14 ∨ i = 15 ∨ i = 16 ∨ i = 17 ∨ i = 18 ∨ i = 19 ∨ i = 20 ∨ i = 21 ∨ i = 22 ∨ i = 23 ∨ i = 24 ∨ i = 25 ∨ i = 26 ∨ i = 27 ∨ i = 28 ∨ i = 29 ∨ i = 30 ∨ i = 31 ∨ i = 32 ∨ i = 33 ∨ i = 34 ∨ i = 35 ∨ i = 36 ∨ i = 37 ∨ i = 38 := by omega
        rcases hi' with rfl | rfl | rfl | rfl | rfl | rfl | rfl | rfl | rfl | rfl | rfl | rfl | rfl | rfl | rfl | rfl | rfl | rfl | rfl | rfl | rfl | rfl | rfl | rfl | rfl | rfl | rfl | rfl | rfl | rfl | rfl | rfl | rfl | rfl | rfl | rfl | rfl | rfl | rfl
        · exact hR
        · exact hR
        · exact hR
        · exact hR
        · exact hR
        · exact hR
        · exact hR
        · exact hR
        · exact hR
        · exact hR
        · exact hR
        · exact hR
        · exact hR
        · exact hR
        · exact hR
        · exact hR
        · exact hR
        · exact hR
        · exact hR
        · exact hR
        · exact hR
        · exact hR
        · exact hR
        · exact hR
        · exact hR
        · exact hR
        · exact hR
        · exact hR
        · exact hR
        · exact hR
        · exact hR
        · exact hR
        · exact hR
        · exact hR
        · obtain ⟨g, e, hg⟩ := hR; exact ⟨g, e, (hb'.block g (heap_lt hg)).trans hg⟩
        · exact hR
        · exact hR
        · exact hR
        · exact hR
      · intro i av x K hi hF hb' hw hK
        have hi' : i = 0 ∨ i = 1 ∨ i = 2 ∨ i = 3 ∨ i = 4 ∨ i = 5 ∨ i = 6 ∨ i = 7 ∨ i = 8 ∨ i = 9 ∨ i = 10 ∨ i = 11 ∨ i = 12 ∨ i = 13 ∨ i = 14 ∨ i = 15 ∨ i = 16 ∨ i = 17 ∨ i = 18 ∨ i = 19 ∨ i = 20 ∨ i = 21 ∨ i = 22 ∨ i = 23 ∨ i = 24 ∨ i = 25 ∨ i = 26 ∨ i = 27 ∨ i = 28 ∨ i = 29 ∨ i = 30 ∨ i = 31 ∨ i = 32 ∨ i = 33 ∨ i = 34 ∨ i = 35 ∨ i = 36 ∨ i = 37 ∨ i = 38 := by omega
        rcases hi' with rfl | rfl | rfl | rfl | rfl | rfl | rfl | rfl | rfl | rfl | rfl | rfl | rfl | rfl | rfl | rfl | rfl | rfl | rfl | rfl | rfl | rfl | rfl | rfl | rfl | rfl | rfl | rfl | rfl | rfl | rfl | rfl | rfl | rfl | rfl | rfl | rfl | rfl | rfl
        · simp only [wpOp, List.getElem?_toArray, List.getElem?_cons_zero, Region.wanted, if_true]
          refine Or.inl ?_
          have e0 : av.tmps.getD 3 undef = .bool true := hF.2.2 3 (by decide)
          have e0e : av.eval (.tmp 3) = .bool true := e0
          have e0g : av.tmps[3]?.getD undef = .bool true := by have := e0; simp only [Array.getD_eq_getD_getElem?] at this; exact this
          clear hw hF
          simp only [Oper.wp, execOp]
          try simp only [e0e]
          go_simp
          exact hK _ x (by first | rfl | (simp only [Nat.add_zero]; done) | (congr 1; omega)) (Below.refl _ _) (fun h => by cases h)
        · simp only [wpOp, List.getElem?_toArray, List.getElem?_cons_succ, List.getElem?_cons_zero, Region.wanted, if_true]
          refine Or.inl ?_
          have e0 : av.tmps.getD 30 undef = .bool true := (hw 0 (by kernel_rfl))
          have e0e : av.eval (.tmp 30) = .bool true := e0
          have e0g : av.tmps[30]?.getD undef = .bool true := by have := e0; simp only [Array.getD_eq_getD_getElem?] at this; exact this
          clear hw hF
          simp only [Oper.wp, execOp]
          try simp only [e0e]
          go_simp
          exact hK _ x (by first | rfl | (simp only [Nat.add_zero]; done) | (congr 1; omega)) (Below.refl _ _) (fun h => by cases h)
        · simp only [wpOp, List.getElem?_toArray, List.getElem?_cons_succ, List.getElem?_cons_zero]
          have eg : av.tmps.getD 31 undef = .bool true := hw 1 (by kernel_rfl)
          refine ite_yes (wanted_yes rfl (yielded_of (t := 31) (by kernel_rfl) eg)) ?_
          clear eg
          refine Or.inl ?_
          have e0 : av.tmps.getD 6 undef = .int .i64 (m : Int) := hF.2.2 6 (by decide)
          have e0e : av.eval (.tmp 6) = .int .i64 (m : Int) := e0
          have e0g : av.tmps[6]?.getD undef = .int .i64 (m : Int) := by have := e0; simp only [Array.getD_eq_getD_getElem?] at this; exact this
          clear hw hF
          simp only [Oper.wp, execOp]
          try simp only [e0e]
          go_simp
          exact hK _ x (by first | rfl | (simp only [Nat.add_zero]; done) | (congr 1; omega)) (Below.refl _ _) (fun h => by cases h)
        · simp only [wpOp, List.getElem?_toArray, List.getElem?_cons_succ, List.getElem?_cons_zero]
          have eg : av.tmps.getD 31 undef = .bool true := hw 1 (by kernel_rfl)
          refine ite_yes (wanted_yes rfl (yielded_of (t := 31) (by kernel_rfl) eg)) ?_
          clear eg
          refine Or.inl ?_
          have e0 : av.tmps.getD 4 undef = .string st := hF.2.2 4 (by decide)
          have e0e : av.eval (.tmp 4) = .string st := e0
          have e0g : av.tmps[4]?.getD undef = .string st := by have := e0; simp only [Array.getD_eq_getD_getElem?] at this; exact this
          clear hw hF
          simp only [Oper.wp, execOp]
          try simp only [e0e]
          go_simp
          exact hK _ x (by first | rfl | (simp only [Nat.add_zero]; done) | (congr 1; omega)) (Below.refl _ _) (fun h => by cases h)
        · simp only [wpOp, List.getElem?_toArray, List.getElem?_cons_succ, List.getElem?_cons_zero]
          have eg : av.tmps.getD 31 undef = .bool true := hw 1 (by kernel_rfl)
          refine ite_yes (wanted_yes rfl (yielded_of (t := 31) (by kernel_rfl) eg)) ?_
          clear eg
          refine Or.inl ?_
          have e0 : av.tmps.getD 33 undef = .string st := (hw 3 (by kernel_rfl))
          have e0e : av.eval (.tmp 33) = .string st := e0
          have e0g : av.tmps[33]?.getD undef = .string st := by have := e0; simp only [Array.getD_eq_getD_getElem?] at this; exact this
          have f := HS0.out
          clear hw hF
          simp only [Oper.wp, execOp]
          try simp only [e0e]
          go_simp
          exact hK _ x (by first | rfl | (simp only [Nat.add_zero]; done) | (congr 1; omega)) (Below.refl _ _) (fun h => by cases h)
        · simp only [wpOp, List.getElem?_toArray, List.getElem?_cons_succ, List.getElem?_cons_zero]
          have eg : av.tmps.getD 31 undef = .bool true := hw 1 (by kernel_rfl)
          refine ite_yes (wanted_yes rfl (yielded_of (t := 31) (by kernel_rfl) eg)) ?_
          clear eg
          refine Or.inl ?_
          have e0 : av.tmps.getD 32 undef = .int .i64 (m : Int) := (hw 2 (by kernel_rfl))
          have e0e : av.eval (.tmp 32) = .int .i64 (m : Int) := e0
          have e0g : av.tmps[32]?.getD undef = .int .i64 (m : Int) := by have := e0; simp only [Array.getD_eq_getD_getElem?] at this; exact this
          have e1 : av.tmps.getD 34 undef = .int .i64 (m : Int) := (hw 4 (by kernel_rfl))
          have e1e : av.eval (.tmp 34) = .int .i64 (m : Int) := e1
          have e1g : av.tmps[34]?.getD undef = .int .i64 (m : Int) := by have := e1; simp only [Array.getD_eq_getD_getElem?] at this; exact this
          clear hw hF
          simp only [Oper.wp, execOp]
          try simp only [e0e, e1e]
          go_simp
          exact hK _ x (by first | rfl | (simp only [Nat.add_zero]; done) | (congr 1; omega)) (Below.refl _ _) (fun h => by cases h)
        · simp only [wpOp, List.getElem?_toArray, List.getElem?_cons_succ, List.getElem?_cons_zero, Region.wanted, if_true]
          refine Or.inl ?_
          have e0 : av.tmps.getD 31 undef = .bool true := (hw 1 (by kernel_rfl))
          have e0e : av.eval (.tmp 31) = .bool true := e0
          have e0g : av.tmps[31]?.getD undef = .bool true := by have := e0; simp only [Array.getD_eq_getD_getElem?] at this; exact this
          have e1 : av.tmps.getD 35 undef = .bool true := (hw 5 (by kernel_rfl))
          have e1e : av.eval (.tmp 35) = .bool true := e1
          have e1g : av.tmps[35]?.getD undef = .bool true := by have := e1; simp only [Array.getD_eq_getD_getElem?] at this; exact this
          clear hw hF
          simp only [Oper.wp, execOp]
          try simp only [e0e, e1e]
          go_simp
          exact hK _ x (by first | rfl | (simp only [Nat.add_zero]; done) | (congr 1; omega)) (Below.refl _ _) (fun h => by cases h)
        · simp only [wpOp, List.getElem?_toArray, List.getElem?_cons_succ, List.getElem?_cons_zero, Region.wanted, if_true]
          refine Or.inl ?_
          have e0 : av.tmps.getD 36 undef = .bool true := (hw 6 (by kernel_rfl))
          have e0e : av.eval (.tmp 36) = .bool true := e0
          have e0g : av.tmps[36]?.getD undef = .bool true := by have := e0; simp only [Array.getD_eq_getD_getElem?] at this; exact this
          clear hw hF
          simp only [Oper.wp, execOp]
          try simp only [e0e]
          go_simp
          exact hK _ x (by first | rfl | (simp only [Nat.add_zero]; done) | (congr 1; omega)) (Below.refl _ _) (fun h => by cases h)
        · simp only [wpOp, List.getElem?_toArray, List.getElem?_cons_succ, List.getElem?_cons_zero]
          have eg : av.tmps.getD 37 undef = .bool true := hw 7 (by kernel_rfl)
          refine ite_yes (wanted_yes rfl (yielded_of (t := 37) (by kernel_rfl) eg)) ?_
          clear eg
          refine Or.inl ?_
          have e0 : av.tmps.getD 6 undef = .int .i64 (m : Int) := hF.2.2 6 (by decide)
          have e0e : av.eval (.tmp 6) = .int .i64 (m : Int) := e0
          have e0g : av.tmps[6]?.getD undef = .int .i64 (m : Int) := by have := e0; simp only [Array.getD_eq_getD_getElem?] at this; exact this
          clear hw hF
          simp only [Oper.wp, execOp]
          try simp only [e0e]
          go_simp
          exact hK _ x (by first | rfl | (simp only [Nat.add_zero]; done) | (congr 1; omega)) (Below.refl _ _) (fun h => by cases h)
        · simp only [wpOp, List.getElem?_toArray, List.getElem?_cons_succ, List.getElem?_cons_zero]
          have eg : av.tmps.getD 37 undef = .bool true := hw 7 (by kernel_rfl)
          refine ite_yes (wanted_yes rfl (yielded_of (t := 37) (by kernel_rfl) eg)) ?_
          clear eg
          refine Or.inl ?_
          have e0 : av.tmps.getD 38 undef = .int .i64 (m : Int) := (hw 8 (by kernel_rfl))
          have e0e : av.eval (.tmp 38) = .int .i64 (m : Int) := e0
          have e0g : av.tmps[38]?.getD undef = .int .i64 (m : Int) := by have := e0; simp only [Array.getD_eq_getD_getElem?] at this; exact this
          have f := K2.out
          clear hw hF
          simp only [Oper.wp, execOp]
          try simp only [e0e]
          go_simp
          exact hK _ x (by first | rfl | (simp only [Nat.add_zero]; done) | (congr 1; omega)) (Below.refl _ _) (fun h => by cases h)
        · simp only [wpOp, List.getElem?_toArray, List.getElem?_cons_succ, List.getElem?_cons_zero, Region.wanted, if_true]
          refine Or.inl ?_
          have e0 : av.tmps.getD 37 undef = .bool true := (hw 7 (by kernel_rfl))
          have e0e : av.eval (.tmp 37) = .bool true := e0
          have e0g : av.tmps[37]?.getD undef = .bool true := by have := e0; simp only [Array.getD_eq_getD_getElem?] at this; exact this
          have e1 : av.tmps.getD 39 undef = .bool true := (hw 9 (by kernel_rfl))
          have e1e : av.eval (.tmp 39) = .bool true := e1
          have e1g : av.tmps[39]?.getD undef = .bool true := by have := e1; simp only [Array.getD_eq_getD_getElem?] at this; exact this
          clear hw hF
          simp only [Oper.wp, execOp]
          try simp only [e0e, e1e]
          go_simp
          exact hK _ x (by first | rfl | (simp only [Nat.add_zero]; done) | (congr 1; omega)) (Below.refl _ _) (fun h => by cases h)
        · simp only [wpOp, List.getElem?_toArray, List.getElem?_cons_succ, List.getElem?_cons_zero, Region.wanted, if_true]
          refine Or.inl ?_
          have e0 : av.tmps.getD 40 undef = .bool true := (hw 10 (by kernel_rfl))
          have e0e : av.eval (.tmp 40) = .bool true := e0
          have e0g : av.tmps[40]?.getD undef = .bool true := by have := e0; simp only [Array.getD_eq_getD_getElem?] at this; exact this
          clear hw hF
          simp only [Oper.wp, execOp]
          try simp only [e0e]
          go_simp
          exact hK _ x (by first | rfl | (simp only [Nat.add_zero]; done) | (congr 1; omega)) (Below.refl _ _) (fun h => by cases h)
        · simp only [wpOp, List.getElem?_toArray, List.getElem?_cons_succ, List.getElem?_cons_zero]
          have eg : av.tmps.getD 41 undef = .bool true := hw 11 (by kernel_rfl)
          refine ite_yes (wanted_yes rfl (yielded_of (t := 41) (by kernel_rfl) eg)) ?_
          clear eg
          refine Or.inl ?_
          have e0 : av.tmps.getD 4 undef = .string st := hF.2.2 4 (by decide)
          have e0e : av.eval (.tmp 4) = .string st := e0
          have e0g : av.tmps[4]?.getD undef = .string st := by have := e0; simp only [Array.getD_eq_getD_getElem?] at this; exact this
          clear hw hF
          simp only [Oper.wp, execOp]
          try simp only [e0e]
          go_simp
          exact hK _ x (by first | rfl | (simp only [Nat.add_zero]; done) | (congr 1; omega)) (Below.refl _ _) (fun h => by cases h)
        · simp only [wpOp, List.getElem?_toArray, List.getElem?_cons_succ, List.getElem?_cons_zero]
          have eg : av.tmps.getD 41 undef = .bool true := hw 11 (by kernel_rfl)
          refine ite_yes (wanted_yes rfl (yielded_of (t := 41) (by kernel_rfl) eg)) ?_
          clear eg
          refine Or.inl ?_
          have e0 : av.tmps.getD 42 undef = .string st := (hw 12 (by kernel_rfl))
          have e0e : av.eval (.tmp 42) = .string st := e0
          have e0g : av.tmps[42]?.getD undef = .string st := by have := e0; simp only [Array.getD_eq_getD_getElem?] at this; exact this
          have f := SL.out
          clear hw hF
          simp only [Oper.wp, execOp]
          try simp only [e0e]
          go_simp
          rw [if_pos K1.out]
          exact hK _ x rfl (Below.refl _ _) (fun h => by cases h)
        · simp only [wpOp, List.getElem?_toArray, List.getElem?_cons_succ, List.getElem?_cons_zero]
          have eg : av.tmps.getD 41 undef = .bool true := hw 11 (by kernel_rfl)
          refine ite_yes (wanted_yes rfl (yielded_of (t := 41) (by kernel_rfl) eg)) ?_
          clear eg
          refine Or.inl ?_
          have e0 : av.tmps.getD 1 undef = .pointer (some ⟨w.heap.size, 0, none⟩) := hF.2.2 1 (by decide)
          have e0e : av.eval (.tmp 1) = .pointer (some ⟨w.heap.size, 0, none⟩) := e0
          have e0g : av.tmps[1]?.getD undef = .pointer (some ⟨w.heap.size, 0, none⟩) := by have := e0; simp only [Array.getD_eq_getD_getElem?] at this; exact this
          clear hw hF
          simp only [Oper.wp, execOp]
          try simp only [e0e]
          go_simp
          exact hK _ x (by first | rfl | (simp only [Nat.add_zero]; done) | (congr 1; omega)) (Below.refl _ _) (fun h => by cases h)
        · simp only [wpOp, List.getElem?_toArray, List.getElem?_cons_succ, List.getElem?_cons_zero]
          have eg : av.tmps.getD 41 undef = .bool true := hw 11 (by kernel_rfl)
          refine ite_yes (wanted_yes rfl (yielded_of (t := 41) (by kernel_rfl) eg)) ?_
          clear eg
          refine Or.inl ?_
          have e0 : av.tmps.getD 44 undef = .pointer (some ⟨w.heap.size, 0, none⟩) := (hw 14 (by kernel_rfl))
          have e0e : av.eval (.tmp 44) = .pointer (some ⟨w.heap.size, 0, none⟩) := e0
          have e0g : av.tmps[44]?.getD undef = .pointer (some ⟨w.heap.size, 0, none⟩) := by have := e0; simp only [Array.getD_eq_getD_getElem?] at this; exact this
          have cc := C0.out x hb'
          clear hw hF
          simp only [Oper.wp, execOp]
          try simp only [e0e]
          go_simp
          exact hK _ x (by first | rfl | (simp only [Nat.add_zero]; done) | (congr 1; omega)) (Below.refl _ _) (fun h => by cases h)
        · simp only [wpOp, List.getElem?_toArray, List.getElem?_cons_succ, List.getElem?_cons_zero]
          have eg : av.tmps.getD 41 undef = .bool true := hw 11 (by kernel_rfl)
          refine ite_yes (wanted_yes rfl (yielded_of (t := 41) (by kernel_rfl) eg)) ?_
          clear eg
          refine Or.inl ?_
          have e0 : av.tmps.getD 45 undef = .int .i64 F := (hw 15 (by kernel_rfl))
          have e0e : av.eval (.tmp 45) = .int .i64 F := e0
          have e0g : av.tmps[45]?.getD undef = .int .i64 F := by have := e0; simp only [Array.getD_eq_getD_getElem?] at this; exact this
          clear hw hF
          simp only [Oper.wp, execOp]
          try simp only [e0e]
          go_simp
          exact hK _ x (by first | rfl | (simp only [Nat.add_zero]; done) | (congr 1; omega)) (Below.refl _ _) (fun h => by cases h)
        · simp only [wpOp, List.getElem?_toArray, List.getElem?_cons_succ, List.getElem?_cons_zero]
          have eg : av.tmps.getD 41 undef = .bool true := hw 11 (by kernel_rfl)
          refine ite_yes (wanted_yes rfl (yielded_of (t := 41) (by kernel_rfl) eg)) ?_
          clear eg
          refine Or.inl ?_
          have e0 : av.tmps.getD 1 undef = .pointer (some ⟨w.heap.size, 0, none⟩) := hF.2.2 1 (by decide)
          have e0e : av.eval (.tmp 1) = .pointer (some ⟨w.heap.size, 0, none⟩) := e0
          have e0g : av.tmps[1]?.getD undef = .pointer (some ⟨w.heap.size, 0, none⟩) := by have := e0; simp only [Array.getD_eq_getD_getElem?] at this; exact this
          clear hw hF
          simp only [Oper.wp, execOp]
          try simp only [e0e]
          go_simp
          exact hK _ x (by first | rfl | (simp only [Nat.add_zero]; done) | (congr 1; omega)) (Below.refl _ _) (fun h => by cases h)
        · simp only [wpOp, List.getElem?_toArray, List.getElem?_cons_succ, List.getElem?_cons_zero]
          have eg : av.tmps.getD 41 undef = .bool true := hw 11 (by kernel_rfl)
          refine ite_yes (wanted_yes rfl (yielded_of (t := 41) (by kernel_rfl) eg)) ?_
          clear eg
          refine Or.inl ?_
          have e0 : av.tmps.getD 47 undef = .pointer (some ⟨w.heap.size, 1, none⟩) := (hw 17 (by kernel_rfl))
          have e0e : av.eval (.tmp 47) = .pointer (some ⟨w.heap.size, 1, none⟩) := e0
          have e0g : av.tmps[47]?.getD undef = .pointer (some ⟨w.heap.size, 1, none⟩) := by have := e0; simp only [Array.getD_eq_getD_getElem?] at this; exact this
          have cc := C1.out x hb'
          clear hw hF
          simp only [Oper.wp, execOp]
          try simp only [e0e]
          go_simp
          exact hK _ x (by first | rfl | (simp only [Nat.add_zero]; done) | (congr 1; omega)) (Below.refl _ _) (fun h => by cases h)
        · simp only [wpOp, List.getElem?_toArray, List.getElem?_cons_succ, List.getElem?_cons_zero]
          have eg : av.tmps.getD 41 undef = .bool true := hw 11 (by kernel_rfl)
          refine ite_yes (wanted_yes rfl (yielded_of (t := 41) (by kernel_rfl) eg)) ?_
          clear eg
          refine Or.inl ?_
          have e0 : av.tmps.getD 48 undef = .int .i64 O := (hw 18 (by kernel_rfl))
          have e0e : av.eval (.tmp 48) = .int .i64 O := e0
          have e0g : av.tmps[48]?.getD undef = .int .i64 O := by have := e0; simp only [Array.getD_eq_getD_getElem?] at this; exact this
          clear hw hF
          simp only [Oper.wp, execOp]
          try simp only [e0e]
          go_simp
          exact hK _ x (by first | rfl | (simp only [Nat.add_zero]; done) | (congr 1; omega)) (Below.refl _ _) (fun h => by cases h)
        · simp only [wpOp, List.getElem?_toArray, List.getElem?_cons_succ, List.getElem?_cons_zero]
          have eg : av.tmps.getD 41 undef = .bool true := hw 11 (by kernel_rfl)
          refine ite_yes (wanted_yes rfl (yielded_of (t := 41) (by kernel_rfl) eg)) ?_
          clear eg
          refine Or.inl ?_
          have e0 : av.tmps.getD 1 undef = .pointer (some ⟨w.heap.size, 0, none⟩) := hF.2.2 1 (by decide)
          have e0e : av.eval (.tmp 1) = .pointer (some ⟨w.heap.size, 0, none⟩) := e0
          have e0g : av.tmps[1]?.getD undef = .pointer (some ⟨w.heap.size, 0, none⟩) := by have := e0; simp only [Array.getD_eq_getD_getElem?] at this; exact this
          clear hw hF
          simp only [Oper.wp, execOp]
          try simp only [e0e]
          go_simp
          exact hK _ x (by first | rfl | (simp only [Nat.add_zero]; done) | (congr 1; omega)) (Below.refl _ _) (fun h => by cases h)
        · simp only [wpOp, List.getElem?_toArray, List.getElem?_cons_succ, List.getElem?_cons_zero]
          have eg : av.tmps.getD 41 undef = .bool true := hw 11 (by kernel_rfl)
          refine ite_yes (wanted_yes rfl (yielded_of (t := 41) (by kernel_rfl) eg)) ?_
          clear eg
          refine Or.inl ?_
          have e0 : av.tmps.getD 50 undef = .pointer (some ⟨w.heap.size, 6, none⟩) := (hw 20 (by kernel_rfl))
          have e0e : av.eval (.tmp 50) = .pointer (some ⟨w.heap.size, 6, none⟩) := e0
          have e0g : av.tmps[50]?.getD undef = .pointer (some ⟨w.heap.size, 6, none⟩) := by have := e0; simp only [Array.getD_eq_getD_getElem?] at this; exact this
          have cc := C6.out x hb'
          clear hw hF
          simp only [Oper.wp, execOp]
          try simp only [e0e]
          go_simp
          exact hK _ x (by first | rfl | (simp only [Nat.add_zero]; done) | (congr 1; omega)) (Below.refl _ _) (fun h => by cases h)
        · simp only [wpOp, List.getElem?_toArray, List.getElem?_cons_succ, List.getElem?_cons_zero]
          have eg : av.tmps.getD 41 undef = .bool true := hw 11 (by kernel_rfl)
          refine ite_yes (wanted_yes rfl (yielded_of (t := 41) (by kernel_rfl) eg)) ?_
          clear eg
          refine Or.inl ?_
          have e0 : av.tmps.getD 51 undef = .int .i64 Q := (hw 21 (by kernel_rfl))
          have e0e : av.eval (.tmp 51) = .int .i64 Q := e0
          have e0g : av.tmps[51]?.getD undef = .int .i64 Q := by have := e0; simp only [Array.getD_eq_getD_getElem?] at this; exact this
          clear hw hF
          simp only [Oper.wp, execOp]
          try simp only [e0e]
          go_simp
          exact hK _ x (by first | rfl | (simp only [Nat.add_zero]; done) | (congr 1; omega)) (Below.refl _ _) (fun h => by cases h)
        · simp only [wpOp, List.getElem?_toArray, List.getElem?_cons_succ, List.getElem?_cons_zero]
          have eg : av.tmps.getD 41 undef = .bool true := hw 11 (by kernel_rfl)
          refine ite_yes (wanted_yes rfl (yielded_of (t := 41) (by kernel_rfl) eg)) ?_
          clear eg
          refine Or.inl ?_
          have e0 : av.tmps.getD 1 undef = .pointer (some ⟨w.heap.size, 0, none⟩) := hF.2.2 1 (by decide)
          have e0e : av.eval (.tmp 1) = .pointer (some ⟨w.heap.size, 0, none⟩) := e0
          have e0g : av.tmps[1]?.getD undef = .pointer (some ⟨w.heap.size, 0, none⟩) := by have := e0; simp only [Array.getD_eq_getD_getElem?] at this; exact this
          clear hw hF
          simp only [Oper.wp, execOp]
          try simp only [e0e]
          go_simp
          exact hK _ x (by first | rfl | (simp only [Nat.add_zero]; done) | (congr 1; omega)) (Below.refl _ _) (fun h => by cases h)
        · simp only [wpOp, List.getElem?_toArray, List.getElem?_cons_succ, List.getElem?_cons_zero]
          have eg : av.tmps.getD 41 undef = .bool true := hw 11 (by kernel_rfl)
          refine ite_yes (wanted_yes rfl (yielded_of (t := 41) (by kernel_rfl) eg)) ?_
          clear eg
          refine Or.inl ?_
          have e0 : av.tmps.getD 53 undef = .pointer (some ⟨w.heap.size, 7, none⟩) := (hw 23 (by kernel_rfl))
          have e0e : av.eval (.tmp 53) = .pointer (some ⟨w.heap.size, 7, none⟩) := e0
          have e0g : av.tmps[53]?.getD undef = .pointer (some ⟨w.heap.size, 7, none⟩) := by have := e0; simp only [Array.getD_eq_getD_getElem?] at this; exact this
          have cc := C7.out x hb'
          clear hw hF
          simp only [Oper.wp, execOp]
          try simp only [e0e]
          go_simp
          exact hK _ x (by first | rfl | (simp only [Nat.add_zero]; done) | (congr 1; omega)) (Below.refl _ _) (fun h => by cases h)
        · simp only [wpOp, List.getElem?_toArray, List.getElem?_cons_succ, List.getElem?_cons_zero]
          have eg : av.tmps.getD 41 undef = .bool true := hw 11 (by kernel_rfl)
          refine ite_yes (wanted_yes rfl (yielded_of (t := 41) (by kernel_rfl) eg)) ?_
          clear eg
          refine Or.inl ?_
          have e0 : av.tmps.getD 54 undef = .int .i64 D := (hw 24 (by kernel_rfl))
          have e0e : av.eval (.tmp 54) = .int .i64 D := e0
          have e0g : av.tmps[54]?.getD undef = .int .i64 D := by have := e0; simp only [Array.getD_eq_getD_getElem?] at this; exact this
          clear hw hF
          simp only [Oper.wp, execOp]
          try simp only [e0e]
          go_simp
          exact hK _ x (by first | rfl | (simp only [Nat.add_zero]; done) | (congr 1; omega)) (Below.refl _ _) (fun h => by cases h)
        · simp only [wpOp, List.getElem?_toArray, List.getElem?_cons_succ, List.getElem?_cons_zero]
          have eg : av.tmps.getD 41 undef = .bool true := hw 11 (by kernel_rfl)
          refine ite_yes (wanted_yes rfl (yielded_of (t := 41) (by kernel_rfl) eg)) ?_
          clear eg
          refine Or.inl ?_
          have e0 : av.tmps.getD 1 undef = .pointer (some ⟨w.heap.size, 0, none⟩) := hF.2.2 1 (by decide)
          have e0e : av.eval (.tmp 1) = .pointer (some ⟨w.heap.size, 0, none⟩) := e0
          have e0g : av.tmps[1]?.getD undef = .pointer (some ⟨w.heap.size, 0, none⟩) := by have := e0; simp only [Array.getD_eq_getD_getElem?] at this; exact this
          clear hw hF
          simp only [Oper.wp, execOp]
          try simp only [e0e]
          go_simp
          exact hK _ x (by first | rfl | (simp only [Nat.add_zero]; done) | (congr 1; omega)) (Below.refl _ _) (fun h => by cases h)
        · simp only [wpOp, List.getElem?_toArray, List.getElem?_cons_succ, List.getElem?_cons_zero]
          have eg : av.tmps.getD 41 undef = .bool true := hw 11 (by kernel_rfl)
          refine ite_yes (wanted_yes rfl (yielded_of (t := 41) (by kernel_rfl) eg)) ?_
          clear eg
          refine Or.inl ?_
          have e0 : av.tmps.getD 56 undef = .pointer (some ⟨w.heap.size, 5, none⟩) := (hw 26 (by kernel_rfl))
          have e0e : av.eval (.tmp 56) = .pointer (some ⟨w.heap.size, 5, none⟩) := e0
          have e0g : av.tmps[56]?.getD undef = .pointer (some ⟨w.heap.size, 5, none⟩) := by have := e0; simp only [Array.getD_eq_getD_getElem?] at this; exact this
          have cc := C5.out x hb'
          clear hw hF
          simp only [Oper.wp, execOp]
          try simp only [e0e]
          go_simp
          exact hK _ x (by first | rfl | (simp only [Nat.add_zero]; done) | (congr 1; omega)) (Below.refl _ _) (fun h => by cases h)
        · simp only [wpOp, List.getElem?_toArray, List.getElem?_cons_succ, List.getElem?_cons_zero]
          have eg : av.tmps.getD 41 undef = .bool true := hw 11 (by kernel_rfl)
          refine ite_yes (wanted_yes rfl (yielded_of (t := 41) (by kernel_rfl) eg)) ?_
          clear eg
          refine Or.inl ?_
          have e0 : av.tmps.getD 57 undef = .int .i64 W := (hw 27 (by kernel_rfl))
          have e0e : av.eval (.tmp 57) = .int .i64 W := e0
          have e0g : av.tmps[57]?.getD undef = .int .i64 W := by have := e0; simp only [Array.getD_eq_getD_getElem?] at this; exact this
          have f := HW8.out
          clear hw hF
          simp only [Oper.wp, execOp]
          try simp only [e0e]
          go_simp
          exact hK _ x (by first | rfl | (simp only [Nat.add_zero]; done) | (congr 1; omega)) (Below.refl _ _) (fun h => by cases h)
        · simp only [wpOp, List.getElem?_toArray, List.getElem?_cons_succ, List.getElem?_cons_zero]
          have eg : av.tmps.getD 41 undef = .bool true := hw 11 (by kernel_rfl)
          refine ite_yes (wanted_yes rfl (yielded_of (t := 41) (by kernel_rfl) eg)) ?_
          clear eg
          refine Or.inl ?_
          have e0 : av.tmps.getD 58 undef = .int .i64 W8 := (hw 28 (by kernel_rfl))
          have e0e : av.eval (.tmp 58) = .int .i64 W8 := e0
          have e0g : av.tmps[58]?.getD undef = .int .i64 W8 := by have := e0; simp only [Array.getD_eq_getD_getElem?] at this; exact this
          clear hw hF
          simp only [Oper.wp, execOp]
          try simp only [e0e]
          go_simp
          exact hK _ x (by first | rfl | (simp only [Nat.add_zero]; done) | (congr 1; omega)) (Below.refl _ _) (fun h => by cases h)
        · simp only [wpOp, List.getElem?_toArray, List.getElem?_cons_succ, List.getElem?_cons_zero]
          have eg : av.tmps.getD 41 undef = .bool true := hw 11 (by kernel_rfl)
          refine ite_yes (wanted_yes rfl (yielded_of (t := 41) (by kernel_rfl) eg)) ?_
          clear eg
          refine Or.inl ?_
          have e0 : av.tmps.getD 1 undef = .pointer (some ⟨w.heap.size, 0, none⟩) := hF.2.2 1 (by decide)
          have e0e : av.eval (.tmp 1) = .pointer (some ⟨w.heap.size, 0, none⟩) := e0
          have e0g : av.tmps[1]?.getD undef = .pointer (some ⟨w.heap.size, 0, none⟩) := by have := e0; simp only [Array.getD_eq_getD_getElem?] at this; exact this
          clear hw hF
          simp only [Oper.wp, execOp]
          try simp only [e0e]
          go_simp
          exact hK _ x (by first | rfl | (simp only [Nat.add_zero]; done) | (congr 1; omega)) (Below.refl _ _) (fun h => by cases h)
        · simp only [wpOp, List.getElem?_toArray, List.getElem?_cons_succ, List.getElem?_cons_zero]
          have eg : av.tmps.getD 41 undef = .bool true := hw 11 (by kernel_rfl)
          refine ite_yes (wanted_yes rfl (yielded_of (t := 41) (by kernel_rfl) eg)) ?_
          clear eg
          refine Or.inl ?_
          have e0 : av.tmps.getD 60 undef = .pointer (some ⟨w.heap.size, 8, none⟩) := (hw 30 (by kernel_rfl))
          have e0e : av.eval (.tmp 60) = .pointer (some ⟨w.heap.size, 8, none⟩) := e0
          have e0g : av.tmps[60]?.getD undef = .pointer (some ⟨w.heap.size, 8, none⟩) := by have := e0; simp only [Array.getD_eq_getD_getElem?] at this; exact this
          have cc := C8.out x hb'
          clear hw hF
          simp only [Oper.wp, execOp]
          try simp only [e0e]
          go_simp
          exact hK _ x (by first | rfl | (simp only [Nat.add_zero]; done) | (congr 1; omega)) (Below.refl _ _) (fun h => by cases h)
        · simp only [wpOp, List.getElem?_toArray, List.getElem?_cons_succ, List.getElem?_cons_zero]
          have eg : av.tmps.getD 41 undef = .bool true := hw 11 (by kernel_rfl)
          refine ite_yes (wanted_yes rfl (yielded_of (t := 41) (by kernel_rfl) eg)) ?_
          clear eg
          refine Or.inl ?_
          have e0 : av.tmps.getD 61 undef = .slice P2 pn k2 := (hw 31 (by kernel_rfl))
          have e0e : av.eval (.tmp 61) = .slice P2 pn k2 := e0
          have e0g : av.tmps[61]?.getD undef = .slice P2 pn k2 := by have := e0; simp only [Array.getD_eq_getD_getElem?] at this; exact this
          clear hw hF
          simp only [Oper.wp, execOp]
          try simp only [e0e]
          go_simp
          exact hK _ x (by first | rfl | (simp only [Nat.add_zero]; done) | (congr 1; omega)) (Below.refl _ _) (fun h => by cases h)
        · simp only [wpOp, List.getElem?_toArray, List.getElem?_cons_succ, List.getElem?_cons_zero]
          have eg : av.tmps.getD 41 undef = .bool true := hw 11 (by kernel_rfl)
          refine ite_yes (wanted_yes rfl (yielded_of (t := 41) (by kernel_rfl) eg)) ?_
          clear eg
          refine Or.inl ?_
          have e0 : av.tmps.getD 62 undef = .int .i64 (pn : Int) := (hw 32 (by kernel_rfl))
          have e0e : av.eval (.tmp 62) = .int .i64 (pn : Int) := e0
          have e0g : av.tmps[62]?.getD undef = .int .i64 (pn : Int) := by have := e0; simp only [Array.getD_eq_getD_getElem?] at this; exact this
          clear hw hF
          simp only [Oper.wp, execOp]
          try simp only [e0e]
          go_simp
          exact hK _ x (by first | rfl | (simp only [Nat.add_zero]; done) | (congr 1; omega)) (Below.refl _ _) (fun h => by cases h)
        · simp only [wpOp, List.getElem?_toArray, List.getElem?_cons_succ, List.getElem?_cons_zero]
          have eg : av.tmps.getD 41 undef = .bool true := hw 11 (by kernel_rfl)
          refine ite_yes (wanted_yes rfl (yielded_of (t := 41) (by kernel_rfl) eg)) ?_
          clear eg
          refine Or.inl ?_
          have e0 : av.tmps.getD 46 undef = .int .u8 (F % 256) := (hw 16 (by kernel_rfl))
          have e0e : av.eval (.tmp 46) = .int .u8 (F % 256) := e0
          have e0g : av.tmps[46]?.getD undef = .int .u8 (F % 256) := by have := e0; simp only [Array.getD_eq_getD_getElem?] at this; exact this
          have e1 : av.tmps.getD 49 undef = .int .u8 (O % 256) := (hw 19 (by kernel_rfl))
          have e1e : av.eval (.tmp 49) = .int .u8 (O % 256) := e1
          have e1g : av.tmps[49]?.getD undef = .int .u8 (O % 256) := by have := e1; simp only [Array.getD_eq_getD_getElem?] at this; exact this
          have e2 : av.tmps.getD 52 undef = .int .u8 (Q % 256) := (hw 22 (by kernel_rfl))
          have e2e : av.eval (.tmp 52) = .int .u8 (Q % 256) := e2
          have e2g : av.tmps[52]?.getD undef = .int .u8 (Q % 256) := by have := e2; simp only [Array.getD_eq_getD_getElem?] at this; exact this
          have e3 : av.tmps.getD 55 undef = .int .u8 (D % 256) := (hw 25 (by kernel_rfl))
          have e3e : av.eval (.tmp 55) = .int .u8 (D % 256) := e3
          have e3g : av.tmps[55]?.getD undef = .int .u8 (D % 256) := by have := e3; simp only [Array.getD_eq_getD_getElem?] at this; exact this
          have e4 : av.tmps.getD 59 undef = .int .u8 (W8 % 256) := (hw 29 (by kernel_rfl))
          have e4e : av.eval (.tmp 59) = .int .u8 (W8 % 256) := e4
          have e4g : av.tmps[59]?.getD undef = .int .u8 (W8 % 256) := by have := e4; simp only [Array.getD_eq_getD_getElem?] at this; exact this
          have e5 : av.tmps.getD 63 undef = .int .u8 ((pn : Int) % 256) := (hw 33 (by kernel_rfl))
          have e5e : av.eval (.tmp 63) = .int .u8 ((pn : Int) % 256) := e5
          have e5g : av.tmps[63]?.getD undef = .int .u8 ((pn : Int) % 256) := by have := e5; simp only [Array.getD_eq_getD_getElem?] at this; exact this
          clear hw hF
          simp only [Oper.wp, execOp]
          try simp only [e0e, e1e, e2e, e3e, e4e, e5e]
          go_simp
          exact hK _ _ ⟨_, rfl, heap_alloc_new _ _⟩ ((Below.refl _ _).alloc (Nat.le_refl _) _) (fun h => by cases h)
        · simp only [wpOp, List.getElem?_toArray, List.getElem?_cons_succ, List.getElem?_cons_zero]
          have eg : av.tmps.getD 41 undef = .bool true := hw 11 (by kernel_rfl)
          refine ite_yes (wanted_yes rfl (yielded_of (t := 41) (by kernel_rfl) eg)) ?_
          clear eg
          refine Or.inl ?_
          obtain ⟨gg0, e0, hg0⟩ := (hw 34 (by kernel_rfl))
          have e0e : av.eval (.tmp 64) = .slice (some ⟨gg0, 0, none⟩) 6 6 := e0
          have e0g : av.tmps[64]?.getD undef = .slice (some ⟨gg0, 0, none⟩) 6 6 := by have := e0; simp only [Array.getD_eq_getD_getElem?] at this; exact this
          have f := CV.out x _ hg0
          clear hw hF
          simp only [Oper.wp, execOp]
          try simp only [e0e]
          go_simp
          exact hK _ x (by first | rfl | (simp only [Nat.add_zero]; done) | (congr 1; omega)) (Below.refl _ _) (fun h => by cases h)
        · simp only [wpOp, List.getElem?_toArray, List.getElem?_cons_succ, List.getElem?_cons_zero]
          have eg : av.tmps.getD 41 undef = .bool true := hw 11 (by kernel_rfl)
          refine ite_yes (wanted_yes rfl (yielded_of (t := 41) (by kernel_rfl) eg)) ?_
          clear eg
          refine Or.inl ?_
          have e0 : av.tmps.getD 65 undef = .string h6 := (hw 35 (by kernel_rfl))
          have e0e : av.eval (.tmp 65) = .string h6 := e0
          have e0g : av.tmps[65]?.getD undef = .string h6 := by have := e0; simp only [Array.getD_eq_getD_getElem?] at this; exact this
          have f := HCAT.out
          clear hw hF
          simp only [Oper.wp, execOp]
          try simp only [e0e]
          go_simp
          rw [if_neg (by have := H6S.out; omega)]
          exact hK _ x rfl (Below.refl _ _) (fun h => by cases h)
        · simp only [wpOp, List.getElem?_toArray, List.getElem?_cons_succ, List.getElem?_cons_zero]
          have eg : av.tmps.getD 41 undef = .bool true := hw 11 (by kernel_rfl)
          refine ite_yes (wanted_yes rfl (yielded_of (t := 41) (by kernel_rfl) eg)) ?_
          clear eg
          refine Or.inl ?_
          have e0 : av.tmps.getD 43 undef = .string h7 := (hw 13 (by kernel_rfl))
          have e0e : av.eval (.tmp 43) = .string h7 := e0
          have e0g : av.tmps[43]?.getD undef = .string h7 := by have := e0; simp only [Array.getD_eq_getD_getElem?] at this; exact this
          have e1 : av.tmps.getD 66 undef = .string h7 := (hw 36 (by kernel_rfl))
          have e1e : av.eval (.tmp 66) = .string h7 := e1
          have e1g : av.tmps[66]?.getD undef = .string h7 := by have := e1; simp only [Array.getD_eq_getD_getElem?] at this; exact this
          clear hw hF
          simp only [Oper.wp, execOp]
          try simp only [e0e, e1e]
          go_simp
          exact hK _ x (by first | rfl | (simp only [Nat.add_zero]; done) | (congr 1; omega)) (Below.refl _ _) (fun h => by cases h)
        · simp only [wpOp, List.getElem?_toArray, List.getElem?_cons_succ, List.getElem?_cons_zero, Region.wanted, if_true]
          refine Or.inl ?_
          have e0 : av.tmps.getD 41 undef = .bool true := (hw 11 (by kernel_rfl))
          have e0e : av.eval (.tmp 41) = .bool true := e0
          have e0g : av.tmps[41]?.getD undef = .bool true := by have := e0; simp only [Array.getD_eq_getD_getElem?] at this; exact this
          have e1 : av.tmps.getD 67 undef = .bool true := (hw 37 (by kernel_rfl))
          have e1e : av.eval (.tmp 67) = .bool true := e1
          have e1g : av.tmps[67]?.getD undef = .bool true := by have := e1; simp only [Array.getD_eq_getD_getElem?] at this; exact this
          clear hw hF
          simp only [Oper.wp, execOp]
          try simp only [e0e, e1e]
          go_simp
          exact hK _ x (by first | rfl | (simp only [Nat.add_zero]; done) | (congr 1; omega)) (Below.refl _ _) (fun h => by cases h)
      · intro av x hF hb' hR _
        have e0 : av.tmps.getD 30 undef = .bool true := hR 0 (by decide)
        have e1 : av.tmps.getD 31 undef = .bool true := hR 1 (by decide)
        have e2 : av.tmps.getD 32 undef = .int .i64 (m : Int) := hR 2 (by decide)
        have e3 : av.tmps.getD 33 undef = .string st := hR 3 (by decide)
        have e4 : av.tmps.getD 34 undef = .int .i64 (m : Int) := hR 4 (by decide)
        have e5 : av.tmps.getD 35 undef = .bool true := hR 5 (by decide)
        have e6 : av.tmps.getD 36 undef = .bool true := hR 6 (by decide)
        have e7 : av.tmps.getD 37 undef = .bool true := hR 7 (by decide)
        have e8 : av.tmps.getD 38 undef = .int .i64 (m : Int) := hR 8 (by decide)
        have e9 : av.tmps.getD 39 undef = .bool true := hR 9 (by decide)
        have e10 : av.tmps.getD 40 undef = .bool true := hR 10 (by decide)
        have e11 : av.tmps.getD 41 undef = .bool true := hR 11 (by decide)
        have e12 : av.tmps.getD 42 undef = .string st := hR 12 (by decide)
        have e13 : av.tmps.getD 43 undef = .string h7 := hR 13 (by decide)
        have e14 : av.tmps.getD 44 undef = .pointer (some ⟨w.heap.size, 0, none⟩) := hR 14 (by decide)
        have e15 : av.tmps.getD 45 undef = .int .i64 F := hR 15 (by decide)
        have e16 : av.tmps.getD 46 undef = .int .u8 (F % 256) := hR 16 (by decide)
        have e17 : av.tmps.getD 47 undef = .pointer (some ⟨w.heap.size, 1, none⟩) := hR 17 (by decide)
        have e18 : av.tmps.getD 48 undef = .int .i64 O := hR 18 (by decide)
        have e19 : av.tmps.getD 49 undef = .int .u8 (O % 256) := hR 19 (by decide)
        have e20 : av.tmps.getD 50 undef = .pointer (some ⟨w.heap.size, 6, none⟩) := hR 20 (by decide)
        have e21 : av.tmps.getD 51 undef = .int .i64 Q := hR 21 (by decide)
        have e22 : av.tmps.getD 52 undef = .int .u8 (Q % 256) := hR 22 (by decide)
        have e23 : av.tmps.getD 53 undef = .pointer (some ⟨w.heap.size, 7, none⟩) := hR 23 (by decide)
        have e24 : av.tmps.getD 54 undef = .int .i64 D := hR 24 (by decide)
        have e25 : av.tmps.getD 55 undef = .int .u8 (D % 256) := hR 25 (by decide)
        have e26 : av.tmps.getD 56 undef = .pointer (some ⟨w.heap.size, 5, none⟩) := hR 26 (by decide)
        have e27 : av.tmps.getD 57 undef = .int .i64 W := hR 27 (by decide)
        have e28 : av.tmps.getD 58 undef = .int .i64 W8 := hR 28 (by decide)
        have e29 : av.tmps.getD 59 undef = .int .u8 (W8 % 256) := hR 29 (by decide)
        have e30 : av.tmps.getD 60 undef = .pointer (some ⟨w.heap.size, 8, none⟩) := hR 30 (by decide)
        have e31 : av.tmps.getD 61 undef = .slice P2 pn k2 := hR 31 (by decide)
        have e32 : av.tmps.getD 62 undef = .int .i64 (pn : Int) := hR 32 (by decide)
        have e33 : av.tmps.getD 63 undef = .int .u8 ((pn : Int) % 256) := hR 33 (by decide)
        obtain ⟨gg34, e34, hg34⟩ := hR 34 (by decide)
        replace e34 : av.tmps.getD 64 undef = .slice (some ⟨gg34, 0, none⟩) 6 6 := e34
        have e35 : av.tmps.getD 65 undef = .string h6 := hR 35 (by decide)
        have e36 : av.tmps.getD 66 undef = .string h7 := hR 36 (by decide)
        have e37 : av.tmps.getD 67 undef = .bool true := hR 37 (by decide)
        have e38 : av.tmps.getD 68 undef = .bool true := hR 38 (by decide)
        rw [hF.fold (by kernel_rfl)]
        simp only [List.foldl_cons, List.foldl_nil, e0, e1, e2, e3, e4, e5, e6, e7, e8, e9, e10, e11, e12, e13, e14, e15, e16, e17, e18, e19, e20, e21, e22, e23, e24, e25, e26, e27, e28, e29, e30, e31, e32, e33, e34, e35, e36, e37, e38]
        simp only [Act.put, List.setIfInBounds_toArray, List.set_cons_zero, List.set_cons_succ]
        change wpOps _ _ _ [39] _ _
        simp only [wpOps_cons]
        clear e0 e1 e2 e3 e4 e5 e6 e7 e8 e9 e10 e11 e12 e13 e14 e15 e16 e17 e18 e19 e20 e21 e22 e23 e24 e25 e26 e27 e28 e29 e30 e31 e32 e33 e34 e35 e36 e37 e38 hR hF
        have HE := Lib.hid (B6.out.trans (hb'.mono B6.out.size))
        simp only [wpOp, List.getElem?_toArray, List.getElem?_cons_succ, List.getElem?_cons_zero, Region.wanted, if_true]
        refine Or.inl ?_
        simp only [Oper.wp, execOp]
        go_simp
        try simp only [wpOps]
        go_wp2_with fail
        go_meet
        exact ⟨rfl, HE⟩
    case rest =>
      obtain ⟨rfl, hw⟩ := hcut
      go_wp2_with fail
      exact bodyPost_ret (v := .bool true) (by simp [results, Tryd.results4, go_sem]) rfl ⟨rfl, hw.out⟩
  · have HNZ := Lib.hid hz
    have e1 : L = [] := by
      rw [← HL.out]
      have h1 := HE.out
      unfold outE at h1
      unfold outB
      split at h1
      · exact absurd h1.symm hz
      · rename_i h2; rw [if_neg h2]
    subst e1
    have es : st = ⟨#[]⟩ := by apply ByteArray.ext; apply Array.toList_inj.1; rw [HST.out]
    subst es
    have d0 : decide (E = 0) = false := by simp [hz]
    clear HE HL HST
    go_wp2_with fail
    exact bodyPost_ret (v := .bool true) (by simp [results, Tryd.results4, go_sem]) rfl ⟨rfl, B6.out⟩
end Go.Proofs.YtfhdhldgflbpjaaDoor
end

section
/-
  A table that came in: what an argument of this type holds.
-/
namespace Go.Proofs.YtfhdhldgflbpjaaDoor
open Go.RowKit Go.WideShapes Go.ChangeShapes Go.ChangeAt Go.Deep
set_option linter.unusedVariables false
set_option maxRecDepth 100000
/-- A slice that came in, element by element. -/
theorem open_row {H : Type} {enc : TypeId × Value → H} {W : World} {spare : Nat → Bool} {held : Bool} {t e : TypeId} {size : Nat} {a0 : Option Addr} {len cap : Nat} {y : DataW H × List MemPlace}
    (ht : Tryd.prog.underlying t = some (.slice e)) (hs : Tryd.prog.cellsOf e = size) (hs0 : 0 < size) (hd : ∃ n, DataW.trod enc Tryd.prog W 0 spare held n t [.slice a0 len cap] = some y) :
    len ≤ cap ∧ len ≤ 9223372036854775807 ∧ (len ≠ 0 → ∃ b o, a0 = some ⟨b, o, none⟩ ∧ b < W.heap.size ∧ ∀ i, i < len → ∃ (cs : List Value) (z : DataW H × List MemPlace), cs.length = size ∧ (∀ j, j < size → W.cell? ⟨b, o + i * size + j, none⟩ = cs[j]?) ∧ ∃ n, DataW.trod enc Tryd.prog W 0 spare held n e cs = some z) := by
  obtain ⟨fuel, hf⟩ := hd
  rcases open_slice ht hf with ⟨hcs, _⟩ | ⟨a, len', cap', m, n, D, Pl, hcs, _, hl, hm, hmm, _, hx⟩
  · simp at hcs
    obtain ⟨rfl, rfl, rfl⟩ := hcs
    exact ⟨Nat.le_refl _, by omega, fun h => absurd rfl h⟩
  · simp at hcs
    obtain ⟨rfl, rfl, rfl⟩ := hcs
    have hlm : len ≤ m := by rw [hmm]; split <;> omega
    refine ⟨hl, by unfold maxLen at hm; omega, fun h0 => ?_⟩
    obtain ⟨b, off, spot⟩ := a
    obtain ⟨cs0, h1, _⟩ := hx 0 (by omega)
    obtain ⟨_, hlen0, hcell0⟩ := World.cells?_some h1
    rw [hs] at hlen0 hcell0
    have hc0 := hcell0 0 hs0
    obtain ⟨v, hv⟩ : ∃ v, cs0[0]? = some v := by cases hk : cs0[0]? with
      | none => rw [List.getElem?_eq_none_iff] at hk; omega
      | some v => exact ⟨v, rfl⟩
    rw [hv] at hc0
    have hspot : spot = none := by simpa [Addr.add] using World.cell?_spot hc0
    subst hspot
    refine ⟨b, off, rfl, by have := World.block_lt_of_cell? _ _ hc0; simpa [Addr.add] using this, fun i hi => ?_⟩
    obtain ⟨cs, g1, g2⟩ := hx i (by omega)
    obtain ⟨_, hlen, hcell⟩ := World.cells?_some g1
    rw [hs] at hlen hcell
    refine ⟨cs, _, hlen, fun j hj => ?_, n, g2⟩
    have := hcell j hj
    rw [Addr.add_lit, Addr.add_lit] at this
    exact this
/-- A number that came in, by its three cells. -/
theorem open_nm {H : Type} {enc : TypeId × Value → H} {W : World} {spare : Nat → Bool} {held : Bool} {v0 v1 v2 : Value} {y : DataW H × List MemPlace}
    (hd : ∃ n, DataW.trod enc Tryd.prog W 0 spare held n 26 [v0, v1, v2] = some y) :
    ∃ (q : Nm) (A : Option Addr) (c : Nat), v0 = .bool q.1 ∧ v1 = .slice A q.2.1.length c ∧ v2 = .int .i64 q.2.2 ∧ Dg W A c q.2.1 ∧ q.2.1.length ≤ 9223372036854775807 := by
  obtain ⟨fuel, hf⟩ := hd
  obtain ⟨y0, y1, n, _, _, h0, h1⟩ := trod_struct2 Tryd.underlying26 hf
  have c0 : Tryd.prog.cellsOf 24 = 2 := by kernel_rfl
  have c1 : Tryd.prog.cellsOf 3 = 1 := by kernel_rfl
  have c2 : Tryd.prog.cellsOf 4 = 1 := by kernel_rfl
  have c3 : Tryd.prog.cellsOf 22 = 1 := by kernel_rfl
  simp only [c0, c1] at h0 h1
  obtain ⟨z0, z1, k, _, _, g0, g1⟩ := trod_struct2 Tryd.underlying24 h0
  simp only [c2, c3] at g0 g1
  obtain ⟨s, e0, _⟩ := DataW.trod_bool Tryd.underlying4 g0
  obtain rfl : v0 = .bool s := by simpa using e0
  obtain ⟨a0, len, cap, e1⟩ := Go.Joins.slice_form Tryd.underlying22 g1
  obtain rfl : v1 = .slice a0 len cap := by simpa using e1
  obtain ⟨e, e2, _, hw⟩ := DataW.trod_int Tryd.underlying3 h1
  obtain rfl : v2 = .int .i64 e := by simpa using e2
  obtain ⟨A, c, xs, ee, g, gl⟩ := open_dg0 ⟨k, g1⟩
  exact ⟨(s, xs, e), A, c, rfl, ee, rfl, g, gl⟩
theorem list3 {α : Type} : ∀ l : List α, l.length = 3 → ∃ a b c, l = [a, b, c]
  | [a, b, c], _ => ⟨a, b, c, rfl⟩
theorem list8 {α : Type} : ∀ l : List α, l.length = 8 → ∃ a b c d e f g h, l = [a, b, c, d, e, f, g, h]
  | [a, b, c, d, e, f, g, h], _ => ⟨a, b, c, d, e, f, g, h, rfl⟩
theorem list9 {α : Type} : ∀ l : List α, l.length = 9 → ∃ a b c d e f g h i, l = [a, b, c, d, e, f, g, h, i]
  | [a, b, c, d, e, f, g, h, i], _ => ⟨a, b, c, d, e, f, g, h, i, rfl⟩
theorem list7 {α : Type} : ∀ l : List α, l.length = 7 → ∃ a b c d e f g, l = [a, b, c, d, e, f, g]
  | [a, b, c, d, e, f, g], _ => ⟨a, b, c, d, e, f, g, rfl⟩
/-- Numbers that came in. -/
theorem open_nms {H : Type} {enc : TypeId × Value → H} {W : World} {spare : Nat → Bool} {held : Bool} {a0 : Option Addr} {len cap : Nat} {y : DataW H × List MemPlace}
    (hd : ∃ n, DataW.trod enc Tryd.prog W 0 spare held n 44 [.slice a0 len cap] = some y) : ∃ cs : List Nm, cs.length = len ∧ NsL W a0 cap cs := by
  obtain ⟨hl, _, h⟩ := open_row (size := 3) Tryd.underlying44 (by kernel_rfl) (by omega) hd
  by_cases h0 : len = 0
  · subst h0
    exact ⟨[], rfl, fun _ => none, fun _ => 0, by simp, fun h => absurd rfl h⟩
  obtain ⟨b, o, rfl, hb, hx⟩ := h h0
  have each : ∀ i, i < len → ∃ r : Nm × Option Addr × Nat, W.cell? ⟨b, o + i * 3, none⟩ = some (.bool r.1.1) ∧ W.cell? ⟨b, o + i * 3 + 1, none⟩ = some (.slice r.2.1 r.1.2.1.length r.2.2) ∧ W.cell? ⟨b, o + i * 3 + 2, none⟩ = some (.int .i64 r.1.2.2) ∧ Dg W r.2.1 r.2.2 r.1.2.1 := by
    intro i hi
    obtain ⟨cs, z, hcl, hc, ht⟩ := hx i hi
    obtain ⟨v0, v1, v2, rfl⟩ := list3 cs hcl
    obtain ⟨q, A, c, rfl, rfl, rfl, g, _⟩ := open_nm ht
    exact ⟨(q, A, c), by simpa using hc 0 (by omega), by simpa using hc 1 (by omega), by simpa using hc 2 (by omega), g⟩
  obtain ⟨f, hf⟩ := choose_lt each
  have hg : ∀ i, i < len → ((List.range len).map fun i => (f i).1)[i]?.getD (false, [], 0) = (f i).1 := fun i hi => by
    rw [List.getElem?_map, List.getElem?_range hi]; rfl
  refine ⟨(List.range len).map fun i => (f i).1, by simp, fun i => (f i).2.1, fun i => (f i).2.2, by simpa using hl, fun _ => ⟨b, o, rfl, hb, fun i hi => ?_⟩⟩
  have hi' : i < len := by simpa using hi
  dsimp only
  rw [hg i hi']
  exact hf i hi'
/-- A piece that came in, by its eight cells. -/
theorem open_pd {H : Type} {enc : TypeId × Value → H} {W : World} {spare : Nat → Bool} {held : Bool} {v0 v1 v2 v3 v4 v5 v6 v7 : Value} {y : DataW H × List MemPlace}
    (hd : ∃ n, DataW.trod enc Tryd.prog W 0 spare held n 46 [v0, v1, v2, v3, v4, v5, v6, v7] = some y) :
    ∃ (p : Pd) (A : Option Addr) (c : Nat) (B : Option Addr) (d : Nat) (P : Option Addr) (k : Nat), v0 = .bool p.a.1 ∧ v1 = .slice A p.a.2.1.length c ∧ v2 = .int .i64 p.a.2.2 ∧ v3 = .int .i64 p.w ∧ v4 = .slice P p.cs.length k ∧ v5 = .bool p.er.1 ∧ v6 = .slice B p.er.2.1.length d ∧ v7 = .int .i64 p.er.2.2 ∧ Dg W A c p.a.2.1 ∧ Dg W B d p.er.2.1 ∧ NsL W P k p.cs := by
  obtain ⟨fuel, hf⟩ := hd
  obtain ⟨y0, y1, y2, y3, n, _, _, h0, h1, h2, h3⟩ := Go.Joins.trod_struct4 Tryd.underlying46 hf
  have c0 : Tryd.prog.cellsOf 26 = 3 := by kernel_rfl
  have c1 : Tryd.prog.cellsOf 3 = 1 := by kernel_rfl
  have c2 : Tryd.prog.cellsOf 44 = 1 := by kernel_rfl
  simp only [c0, c1, c2] at h0 h1 h2 h3
  obtain ⟨q, A, c, rfl, rfl, rfl, g, _⟩ := open_nm ⟨n, h0⟩
  obtain ⟨e, e2, _, hw⟩ := DataW.trod_int Tryd.underlying3 h1
  obtain rfl : v3 = .int .i64 e := by simpa using e2
  obtain ⟨a0, len, cap, e1⟩ := Go.Joins.slice_form Tryd.underlying44 h2
  obtain rfl : v4 = .slice a0 len cap := by simpa using e1
  obtain ⟨cs, hcs, g2⟩ := open_nms ⟨n, h2⟩
  obtain ⟨r, B, d, rfl, rfl, rfl, g3, _⟩ := open_nm ⟨n, h3⟩
  exact ⟨⟨q, e, cs, r⟩, A, c, B, d, a0, cap, rfl, rfl, rfl, rfl, by rw [hcs], rfl, rfl, rfl, g, g3, g2⟩
instance : Inhabited Pd := ⟨⟨(false, [], 0), 0, [], (false, [], 0)⟩⟩
/-- Pieces that came in. -/
theorem open_pds {H : Type} {enc : TypeId × Value → H} {W : World} {spare : Nat → Bool} {held : Bool} {a0 : Option Addr} {len cap : Nat} {y : DataW H × List MemPlace}
    (hd : ∃ n, DataW.trod enc Tryd.prog W 0 spare held n 27 [.slice a0 len cap] = some y) : ∃ ps : List Pd, ps.length = len ∧ PsL W a0 ps ∧ ps.length ≤ cap ∧ ps.length ≤ 9223372036854775807 := by
  obtain ⟨hl, hm, h⟩ := open_row (size := 8) Tryd.underlying27 (by kernel_rfl) (by omega) hd
  by_cases h0 : len = 0
  · subst h0
    exact ⟨[], rfl, fun h => absurd rfl h, hl, hm⟩
  obtain ⟨b, o, rfl, hb, hx⟩ := h h0
  have each : ∀ i, i < len → ∃ p : Pd, ∃ A c B d P k, W.cell? ⟨b, o + i * 8, none⟩ = some (.bool p.a.1) ∧ W.cell? ⟨b, o + i * 8 + 1, none⟩ = some (.slice A p.a.2.1.length c) ∧ W.cell? ⟨b, o + i * 8 + 2, none⟩ = some (.int .i64 p.a.2.2) ∧ W.cell? ⟨b, o + i * 8 + 3, none⟩ = some (.int .i64 p.w) ∧ W.cell? ⟨b, o + i * 8 + 4, none⟩ = some (.slice P p.cs.length k) ∧ W.cell? ⟨b, o + i * 8 + 5, none⟩ = some (.bool p.er.1) ∧ W.cell? ⟨b, o + i * 8 + 6, none⟩ = some (.slice B p.er.2.1.length d) ∧ W.cell? ⟨b, o + i * 8 + 7, none⟩ = some (.int .i64 p.er.2.2) ∧ Dg W A c p.a.2.1 ∧ Dg W B d p.er.2.1 ∧ NsL W P k p.cs := by
    intro i hi
    obtain ⟨cs, z, hcl, hc, ht⟩ := hx i hi
    obtain ⟨v0, v1, v2, v3, v4, v5, v6, v7, rfl⟩ := list8 cs hcl
    obtain ⟨p, A, c, B, d, P, k, rfl, rfl, rfl, rfl, rfl, rfl, rfl, rfl, g1, g2, g3⟩ := open_pd ht
    exact ⟨p, A, c, B, d, P, k, by simpa using hc 0 (by omega), by simpa using hc 1 (by omega), by simpa using hc 2 (by omega), by simpa using hc 3 (by omega), by simpa using hc 4 (by omega), by simpa using hc 5 (by omega), by simpa using hc 6 (by omega), by simpa using hc 7 (by omega), g1, g2, g3⟩
  obtain ⟨f, hf⟩ := choose_lt each
  have hlen : ((List.range len).map f).length = len := by simp
  refine ⟨(List.range len).map f, hlen, fun _ => ⟨b, o, rfl, hb, fun i p hp => ?_⟩, by rw [hlen]; exact hl, by rw [hlen]; exact hm⟩
  have hi : i < len := by
    have := (List.getElem?_eq_some_iff.1 hp).1; rw [hlen] at this; exact this
  rw [List.getElem?_map, List.getElem?_range hi] at hp
  obtain rfl : f i = p := by simpa using hp
  exact hf i hi
/-- A table that came in. -/
theorem open_tab {H : Type} {enc : TypeId × Value → H} {W : World} {base : Nat} {v : Value} {d : DataW H} {ps : List MemPlace}
    (hval : Value.okWide Tryd.prog W .any base 29 v) (hd : DataW.Trod enc Tryd.prog W 0 (fun _ => true) true 29 v d ps) :
    ∃ (F O W1 Q D : Int) (a : Nm) (A : Option Addr) (c : Nat) (P : Option Addr) (k : Nat) (qs : List Pd), v = .agg #[.int .i64 F, .int .i64 O, .bool a.1, .slice A a.2.1.length c, .int .i64 a.2.2, .int .i64 W1, .int .i64 Q, .int .i64 D, .slice P qs.length k] ∧
      Dg W A c a.2.1 ∧ a.2.1.length ≤ 9223372036854775807 ∧ PsL W P qs ∧ qs.length ≤ k ∧ qs.length ≤ 9223372036854775807 := by
  obtain ⟨cs, rfl, hsz⟩ := okWide_struct Tryd.underlying29 hval
  obtain ⟨l⟩ := cs
  obtain ⟨v0, v1, v2, v3, v4, v5, v6, v7, v8, rfl⟩ := list9 l (hsz.trans (by kernel_rfl))
  obtain ⟨fuel, hf⟩ := hd
  obtain ⟨xs, n, _, _, _, hxl, hx⟩ := DataW.trod_struct Tryd.underlying29 hf
  obtain ⟨y0, y1, y2, y3, y4, y5, y6, rfl⟩ := list7 xs hxl
  have cI : Tryd.prog.cellsOf 3 = 1 := by kernel_rfl
  have cD : Tryd.prog.cellsOf 26 = 3 := by kernel_rfl
  have cP : Tryd.prog.cellsOf 27 = 1 := by kernel_rfl
  have h0 := hx 0 _ rfl
  have h1 := hx 1 _ rfl
  have h2 := hx 2 _ rfl
  have h3 := hx 3 _ rfl
  have h4 := hx 4 _ rfl
  have h5 := hx 5 _ rfl
  have h6 := hx 6 _ rfl
  obtain ⟨F, e0, _, _⟩ := DataW.trod_int Tryd.underlying3 h0
  obtain rfl : v0 = .int .i64 F := by simpa [Value.cells, cI] using e0
  obtain ⟨O, e1, _, _⟩ := DataW.trod_int Tryd.underlying3 h1
  obtain rfl : v1 = .int .i64 O := by simpa [Value.cells, cI] using e1
  obtain ⟨a, A, c, rfl, rfl, rfl, g, gl⟩ := open_nm (v0 := v2) (v1 := v3) (v2 := v4) ⟨n, by simpa [Value.cells, cD] using h2⟩
  obtain ⟨W1, e3, _, _⟩ := DataW.trod_int Tryd.underlying3 h3
  obtain rfl : v5 = .int .i64 W1 := by simpa [Value.cells, cI] using e3
  obtain ⟨Q, e4, _, _⟩ := DataW.trod_int Tryd.underlying3 h4
  obtain rfl : v6 = .int .i64 Q := by simpa [Value.cells, cI] using e4
  obtain ⟨D, e5, _, _⟩ := DataW.trod_int Tryd.underlying3 h5
  obtain rfl : v7 = .int .i64 D := by simpa [Value.cells, cI] using e5
  obtain ⟨P, len, cap, e6⟩ := Go.Joins.slice_form Tryd.underlying27 h6
  obtain rfl : v8 = .slice P len cap := by simpa [Value.cells, cP] using e6
  obtain ⟨qs, hq, g1, g2, g3⟩ := open_pds (a0 := P) (len := len) (cap := cap) ⟨n, by simpa [Value.cells, cP] using h6⟩
  exact ⟨F, O, W1, Q, D, a, A, c, P, cap, qs, by rw [hq], g, gl, g1, g2, g3⟩
end Go.Proofs.YtfhdhldgflbpjaaDoor
end

section
/-
  TabcSizes, FOR EVERY ARGUMENT: the law returns true, and each argument reads behind the call as it read ahead of it. THE TIED CARD.
-/
namespace Go.Proofs.YtfhdhldgflbpjaaDoor.tabcSizes
open Go Go.ChangeShapes Go.WideShapes Go.ChangeAt Go.RowKit
set_option linter.unusedVariables false
/-- The door's own heap meets the condition. -/
theorem door_met (os : Os) (args : Array Value) : laidMetH Tryd.prog Rows.tabcSizesRow.laid ((World.doorLaid Tryd.prog 400 os).forCall (fun _ _ => 0) ⟨#[], args, []⟩).memory :=
  laidMetH_of_parts3 (fuel := 8) (laidMet_of_run' 8 (by kernel_rfl) (by kernel_rfl)) (by kernel_rfl) (by kernel_rfl)
set_option maxRecDepth 100000 in
theorem lifted (os : Os) (started : os.Started) (H : Type) (enc : TypeId × Value → H) :
    ReturnsInHanded {} Tryd.checked os 4 .any (fun w args => (Rows.tabcSizesSpec.pre enc Tryd.prog Tryd.f4 [] false w args ∧ laidMetH Tryd.prog Rows.tabcSizesRow.laid w) ∧ sizedMet enc Tryd.prog Tryd.f4 (OpenSpec.ofChange Rows.tabcSizesSpec) false w args)
      (Rows.tabcSizesSpec.post enc Tryd.prog Tryd.f4 false true false false) := by
  refine returnsInHanded_of_change_and (C := Tryd.checked) (X := fun w _ => laidMetH Tryd.prog Rows.tabcSizesRow.laid w) (fun _ _ _ hh h => h.of_heap hh) own started (by kernel_rfl) Tryd.func4
    (ChangeSpec.witness_shaped (enc := enc) (C := Tryd.checked) (os := os) (X := fun w _ => laidMetH Tryd.prog Rows.tabcSizesRow.laid w) false (World.doorLaid Tryd.prog 400 os) #[.agg #[.int .i64 0, .int .i64 0, .bool false, .slice none 0 0, .int .i64 0, .int .i64 0, .int .i64 0, .int .i64 0, .slice none 0 0]] 8 rfl (World.shaped_of_RefB (by kernel_rfl) (by kernel_rfl)) (by kernel_rfl) (by kernel_rfl) (by kernel_rfl) (door_met os _)) ?_
  intro W base args ds gs before hval0 hW _ _ hL _
  rw [MakeChecks.laidMetH_plain _ _ _ (by kernel_rfl)] at hL
  have htab := t32_laid hL
  clear hL
  have hval : ∀ (j : Nat) t v, Tryd.f4.params[j]? = some t → args[j]? = some v → Value.okWide Tryd.prog W .any base t v := hval0
  have hW' := hW
  obtain ⟨p, q, hA0, hV, rfl, hfz, hnd⟩ := hW
  have hA : DataW.TrodAll enc Tryd.prog W 0 (fun _ => true) true Tryd.f4.params.toList args.toList ds p := hA0
  rw [Tryd.params4] at hA hval
  obtain ⟨v0, vs0, d0, ds0, p0, q0, hargs, rfl, rfl, h0, r0⟩ := trodAll_cons hA
  obtain ⟨rfl, rfl, rfl⟩ := trodAll_nil r0
  obtain rfl : args = #[v0] := by cases args; simp_all
  obtain ⟨rfl, rfl⟩ := trodVars_none hV
  obtain ⟨F, O, W1, Q, D, a, A, c, P, k, qs, rfl, g0, l0, u1, u2, u3⟩ := open_tab (hval 0 _ _ rfl rfl) h0
  clear hA0
  simp only [List.append_nil] at hW'
  refine (sizes_law A P c k F O W1 Q D a qs W g0 u1 u2 u3 l0 htab).mono fun e W' ⟨he, hb⟩ => ?_
  subst he
  have hlt := hW'.lt
  refine ⟨_, rfl, law_post (tb := 4) hW' hb rfl rfl Tryd.underlying4 rfl rfl fun sp hsp => ?_⟩
  have hr := trodAll_cons_mk (again (by kernel_rfl) (of_decide_eq_true (by kernel_rfl)) h0 hb (fun x hx => hlt x (by simp [hx])) sp (fun x hx => hsp x (by simp [hx]))) trodAll_mk0
  simp only [List.append_nil] at hr
  exact hr
theorem row_holds : Rows.TabcSizesSaid :=
  OpenClaim.holds_of_wide 4 Tryd.f4 rfl rfl rfl rfl rfl rfl rfl ⟨rfl, rfl, rfl, rfl, rfl⟩ rfl rfl rfl rfl rfl (by kernel_rfl) Tryd.func4 (by kernel_rfl)
    (of_decide_eq_true (by kernel_rfl)) (by unfold Func.isWrapper; first | (rw [if_pos (by decide +kernel)]; kernel_rfl) | (rw [if_neg (by decide +kernel)]; exact ⟨rfl, rfl⟩))
    (fun os started H enc _ => lifted os started H enc)
/-- THE TIED CARD. -/
theorem proved : Rows.TabcSizesCardSaid :=
  Claim7.holds_tied_plain_at .later [] [.data] true (true, "9a7879e5c480726bccb6e5b1b99a1e513fb5047d72098107f89e42cc2d5490b1") false
    row_holds (fun _ h => by cases h) (by kernel_rfl) (fun _ h => by cases h) tabcSizes_row_tie rfl ⟨rfl, rfl⟩ (by kernel_rfl) rfl
    (fun f fn hf hfn => by
      obtain rfl : f = 4 := Option.some.inj ((show Tryd.prog.funcNamed Rows.tabcSizesRow.func = some 4 by kernel_rfl).symm.trans hf) |>.symm
      obtain rfl : fn = Tryd.f4 := (Option.some.inj (Tryd.func4.symm.trans hfn)).symm
      exact ⟨by kernel_rfl, fun j t ht => by
        have hall : (Tryd.f4.params.toList.all fun u => !Tryd.prog.wantsStandIn u) = true := by kernel_rfl
        exact (show Tryd.prog.wantsStandIn t = false by simpa using List.all_eq_true.1 hall t (Array.mem_toList_iff.2 (Array.mem_of_getElem? ht)))⟩)
    (by kernel_rfl)
end Go.Proofs.YtfhdhldgflbpjaaDoor.tabcSizes
end
