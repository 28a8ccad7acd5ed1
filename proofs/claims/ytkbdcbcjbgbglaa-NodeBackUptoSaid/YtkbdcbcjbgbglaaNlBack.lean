/-
  astrolabelaw21.NodeBack: a node that is written is read as it was; what is read is written as it stood.
-/
import Derived.Test.YtkbdcbcjbgbglaaNp
namespace Go.Proofs.Ytkbdcbcjbgbglaa
open Go.RowKit
set_option linter.unusedVariables false
set_option maxHeartbeats 8000000 in
set_option maxRecDepth 100000 in
theorem back_any (lf : Bool) (A : Option Addr) (c : Nat) (ks : List (List UInt8)) (B : Option Addr) (d : Nat) (ds : List Int) (A0 : Option Addr) (c0 : Nat) (l : List (List UInt8)) (S : List UInt8) (w : World) (h : Rl sv w A c ks) (h2 : Rl nv w B d ds) (h3 : Rl sv w A0 c0 l) (hkl : ∀ x ∈ ks, x.length ≤ 1048576) (hS : S.length ≤ 1048576) :
    Calls Try.prog 6 #[.agg #[.bool lf, .slice A ks.length c, .slice B ds.length d], .slice A0 l.length c0, .string ⟨S.toArray⟩] w fun e w' => e = .returned (.bool true) ∧ Below w.heap.size w w' := by
  have FS := Lib.hid (few_size (ds := ds) hkl)
  have FW := Lib.hid (fun V (hV : Below w.heap.size w V) => few_any lf A c ks B d ds V (h.below hV) (h2.below hV))
  have GA := Lib.hid (fun V (hV : Below w.heap.size w V) => grow_any A0 c0 l V (h3.below hV))
  have GF := Lib.hid (growM_facts l (min 12 l.length))
  obtain ⟨p, hp⟩ : ∃ p, growM l (min 12 l.length) = p := ⟨_, rfl⟩
  rw [hp] at GA GF
  obtain ⟨gk, gd⟩ := p
  simp only at GA
  obtain ⟨fk, hfk⟩ : ∃ z, ks.take 12 = z := ⟨_, rfl⟩
  obtain ⟨fd, hfd⟩ : ∃ z, ds.take 13 = z := ⟨_, rfl⟩
  have lf12 : fk.length ≤ 12 := by rw [← hfk, List.length_take]; omega
  have lf13 : fd.length ≤ 13 := by rw [← hfd, List.length_take]; omega
  rw [hfk, hfd] at FS FW
  have lk : gk.length ≤ 12 := by have := GF.out.2.2.1; simp only at this; omega
  have ld : gd.length ≤ 12 := by have := GF.out.2.1; simp only at this; omega
  have GS := Lib.hid (show sizeN gk gd < 4611686018427387904 by
    have h1 := sumN_le (ks := gk) (M := 16) (fun x hx => (GF.out.2.2.2.1 x hx).2)
    unfold sizeN
    omega)
  have DS := Lib.hid (fun V => decode_any S V hS)
  have EN0 := Lib.hid (show ∀ V, Calls Try.prog 12 #[.agg #[.bool false, .slice none 0 0, .slice none 0 0]] V fun e w' => e = .returned (.tuple #[.string ⟨#[]⟩, .int .i64 1]) ∧ Below V.heap.size V w' from fun V =>
    encode_no false none 0 [] none 0 [] V (Rl.nil_ _ _ _ _) (Rl.nil_ _ _ _ _) (by simp) (by simp) (by simp [sizeN, sumN]) (by rfl))
  have HS := Lib.hid hS
  clear h h2 h3 hp hkl hS hfk hfd GF
  obtain ⟨W, hW⟩ : ∃ W : World, W = w.alloc (.cells #[.bool lf, .slice A ks.length c, .slice B ds.length d] 25) := ⟨_, rfl⟩
  have RA := Lib.hid (show W.heap[w.heap.size]? = some (.cells #[.bool lf, .slice A ks.length c, .slice B ds.length d] 25 (0, 0)) by rw [hW]; exact heap_alloc_new _ _)
  have BA := Lib.hid (show Below w.heap.size w W by rw [hW]; exact bda _ _)
  have HW := Lib.hid hW
  clear hW
  go_enter Try.func6, Try.ntmps6
  go_wp2_with fail
  rw [← HW.out]
  clear HW
  refine (examples_any _).mono ?_
  rintro e w1 ⟨rfl, hb⟩
  have R1 := Lib.hid (row_on RA.out hb)
  have K1 := Lib.hid (BA.out.trans (hb.mono BA.out.size))
  clear hb
  have f0 := row_c R1.out (i := 0) rfl
  have f1 := row_c R1.out (i := 1) rfl
  have f2 := row_c R1.out (i := 2) rfl
  go_wp2_with fail
  refine (FW.out _ K1.out).mono ?_
  rintro e w2 ⟨A2, c2, B2, d2, rfl, ha, hb2, hb⟩
  have V2 := Lib.hid (And.intro ha hb2)
  have K2 := Lib.hid (K1.out.trans (hb.mono K1.out.size))
  clear hb ha hb2 f0 f1 f2
  go_wp2_with fail
  refine (GA.out _ K2.out).mono ?_
  rintro e w3 ⟨A3, c3, B3, d3, rfl, ha, hb2, hb⟩
  have V3 := Lib.hid (And.intro ha hb2)
  have V2b := Lib.hid (And.intro (V2.out.1.below hb) (V2.out.2.below hb))
  have K3 := Lib.hid (K2.out.trans (hb.mono K2.out.size))
  clear hb ha hb2 V2
  go_wp2_with fail
  obtain ⟨X, hX⟩ : ∃ X : World, X = w3.alloc (.cells #[.bool lf, .slice A2 fk.length c2, .slice B2 fd.length d2, .bool true, .slice A3 gk.length c3, .slice B3 gd.length d3] 25) := ⟨_, rfl⟩
  have RX := Lib.hid (show X.heap[w3.heap.size]? = some (.cells #[.bool lf, .slice A2 fk.length c2, .slice B2 fd.length d2, .bool true, .slice A3 gk.length c3, .slice B3 gd.length d3] 25 (0, 0)) by rw [hX]; exact heap_alloc_new _ _)
  have BX := Lib.hid (show Below w3.heap.size w3 X by rw [hX]; exact bda _ _)
  rw [← hX]
  clear hX
  have KX := Lib.hid (K3.out.trans (BX.out.mono K3.out.size))
  have U2 := Lib.hid (And.intro (V2b.out.1.below BX.out) (V2b.out.2.below BX.out))
  have U3 := Lib.hid (And.intro (V3.out.1.below BX.out) (V3.out.2.below BX.out))
  go_loopw [9] (fun i wr => ∃ k : Nat, k ≤ 2 ∧ i = .int .i64 k ∧ Hid (Below X.heap.size X wr)) (fun i _ => 2 - (intOf i).toNat)
  case atStart => exact ⟨0, by omega, rfl, Lib.hid (Below.refl _ _)⟩
  case round =>
    obtain ⟨k, hk, rfl, hb⟩ := hrel
    have KW := Lib.hid (show Below w.heap.size w wr from KX.out.trans (hb.out.mono KX.out.size))
    have RW := Lib.hid (row_on RX.out hb.out)
    have hk3 : k = 0 ∨ k = 1 ∨ k = 2 := by omega
    rcases hk3 with rfl | rfl | rfl
    · have f0 := row_c RW.out (i := 0) rfl
      have f1 := row_c RW.out (i := 1) rfl
      have f2 := row_c RW.out (i := 2) rfl
      have UW := Lib.hid (And.intro (U2.out.1.below hb.out) (U2.out.2.below hb.out))
      cases hr : rightB lf fk fd
      · have EN := Lib.hid (encode_no lf A2 c2 fk B2 d2 fd wr UW.out.1 UW.out.2 (by omega) (by omega) FS.out hr)
        clear hr
        go_wp2_with fail
        refine EN.out.mono ?_
        rintro e w5 ⟨rfl, hx⟩
        have K5 := Lib.hid (hb.out.trans (hx.mono hb.out.size))
        clear hx f0 f1 f2
        go_wp2
        go_roundw
        case rel => exact ⟨1, by omega, by go_num, K5⟩
        case measure => simp [intOf]
      · have EY := Lib.hid (encode_yes lf A2 c2 fk B2 d2 fd wr UW.out.1 UW.out.2 hr)
        have LE := enc_len hr
        have SM : sizeN fk fd ≤ 120 := (right_facts hr).2.2.2.2.1
        have DC := Lib.hid (fun V => decode_any (encL lf fk fd) V (by omega))
        have DE := Lib.hid (dec_enc hr)
        have SZ := Lib.hid (fun (A : Option Addr) (c : Nat) (B : Option Addr) (d : Nat) V (hV : Rl sv V A c fk) => size_any lf A c fk B d fd V hV (by omega) (by omega))
        obtain ⟨SN, hSN⟩ : ∃ n, sizeN fk fd = n := ⟨_, rfl⟩
        obtain ⟨E, hE⟩ : ∃ n, encL lf fk fd = n := ⟨_, rfl⟩
        rw [hE] at EY DC DE LE
        rw [hSN] at SZ LE
        have hs : (⟨E.toArray⟩ : ByteArray).size = SN := by rw [str_size, LE]
        clear hr LE SM hSN hE
        unfold sv at DC
        go_wp2_with fail
        refine EY.out.mono ?_
        rintro e w5 ⟨rfl, hx⟩
        have K5 := Lib.hid (hb.out.trans (hx.mono hb.out.size))
        clear hx f0 f1 f2
        go_wp2_with fail
        refine (DC.out _).mono ?_
        rintro e w6 ⟨h1, _, hx⟩
        obtain ⟨A5, c5, B5, d5, rfl, ha, hb5⟩ := h1 _ _ _ DE.out
        have K6 := Lib.hid (K5.out.trans (hx.mono K5.out.size))
        have M6 := Lib.hid (And.intro ha hb5)
        clear hx h1 ha hb5
        go_upto_region 11 with (fail)
        obtain ⟨V, hV⟩ : ∃ V : World, V = w6.alloc (.cells #[.bool lf, .slice A5 fk.length c5, .slice B5 fd.length d5] 25) := ⟨_, rfl⟩
        have RM := Lib.hid (show V.heap[w6.heap.size]? = some (.cells #[.bool lf, .slice A5 fk.length c5, .slice B5 fd.length d5] 25 (0, 0)) by rw [hV]; exact heap_alloc_new _ _)
        have BV := Lib.hid (show Below w6.heap.size w6 V by rw [hV]; exact bda _ _)
        rw [← hV]
        clear hV
        have K7 := Lib.hid (K6.out.trans (BV.out.mono K6.out.size))
        have M7 := Lib.hid (And.intro (M6.out.1.below BV.out) (M6.out.2.below BV.out))
        have U7 := Lib.hid (And.intro (U2.out.1.below K7.out) (U2.out.2.below K7.out))
        have R7 := Lib.hid (row_on RX.out K7.out)
        have FM := Lib.hid (fun x (K : Below V.heap.size V x) => (And.intro (row_c (row_on RM.out K) (i := 0) rfl) (And.intro (row_c (row_on RM.out K) (i := 1) rfl) (row_c (row_on RM.out K) (i := 2) rfl))))
        have FN := Lib.hid (fun x (K : Below V.heap.size V x) => (And.intro (row_c (row_on R7.out K) (i := 0) rfl) (And.intro (row_c (row_on R7.out K) (i := 1) rfl) (row_c (row_on R7.out K) (i := 2) rfl))))
        refine wp_operands (W := V) rfl 7 [46, 47, 48, 49, 50, 51, 52] (fun i u x => match i with | 0 => u = .agg #[.bool lf, .slice A5 fk.length c5, .slice B5 fd.length d5] | 1 => u = .slice (some ⟨w3.heap.size, 0, none⟩) 2 2 | 2 => u = .int .i64 0 | 3 => u = .pointer (some ⟨w3.heap.size, 0, none⟩) | 4 => u = .agg #[.bool lf, .slice A2 fk.length c2, .slice B2 fd.length d2] | 5 => u = .agg #[.bool lf, .slice A2 fk.length c2, .slice B2 fd.length d2] | 6 => u = .bool true | _ => True) (fun _ => false)
          (by decide) rfl (by kernel_rfl) (by kernel_rfl) (by decide) (by kernel_rfl) ?_ (fun _ _ _ h => by cases h) ?_ ?_
        · intro i u x x' hi hR hb'
          have hi' : i = 0 ∨ i = 1 ∨ i = 2 ∨ i = 3 ∨ i = 4 ∨ i = 5 ∨ i = 6 := by omega
          rcases hi' with rfl | rfl | rfl | rfl | rfl | rfl | rfl
          · exact hR
          · exact hR
          · exact hR
          · exact hR
          · exact hR
          · exact hR
          · exact hR
        · intro i av x K hi hF hb' hw hK
          have hi' : i = 0 ∨ i = 1 ∨ i = 2 ∨ i = 3 ∨ i = 4 ∨ i = 5 ∨ i = 6 := by omega
          rcases hi' with rfl | rfl | rfl | rfl | rfl | rfl | rfl
          · simp only [wpOp, List.getElem?_toArray, List.getElem?_cons_zero, Region.wanted, if_true]
            refine Or.inl ?_
            have e0 : av.tmps.getD 12 undef = .pointer (some ⟨w6.heap.size, 0, none⟩) := hF.2.2 12 (by decide)
            have e0e : av.eval (.tmp 12) = .pointer (some ⟨w6.heap.size, 0, none⟩) := e0
            have e0g : av.tmps[12]?.getD undef = .pointer (some ⟨w6.heap.size, 0, none⟩) := by have := e0; simp only [Array.getD_eq_getD_getElem?] at this; exact this
            obtain ⟨f0, f1, f2⟩ := FM.out x hb'
            clear hw hF
            simp only [Oper.wp, execOp]
            try simp only [e0e]
            go_simp
            exact hK _ x (by first | rfl | (simp only [Nat.add_zero]; done) | (congr 1; omega)) (Below.refl _ _) (fun h => by cases h)
          · simp only [wpOp, List.getElem?_toArray, List.getElem?_cons_succ, List.getElem?_cons_zero, Region.wanted, if_true]
            refine Or.inl ?_
            have e0 : av.tmps.getD 8 undef = .slice (some ⟨w3.heap.size, 0, none⟩) 2 2 := hF.2.2 8 (by decide)
            have e0e : av.eval (.tmp 8) = .slice (some ⟨w3.heap.size, 0, none⟩) 2 2 := e0
            have e0g : av.tmps[8]?.getD undef = .slice (some ⟨w3.heap.size, 0, none⟩) 2 2 := by have := e0; simp only [Array.getD_eq_getD_getElem?] at this; exact this
            clear hw hF
            simp only [Oper.wp, execOp]
            try simp only [e0e]
            go_simp
            exact hK _ x (by first | rfl | (simp only [Nat.add_zero]; done) | (congr 1; omega)) (Below.refl _ _) (fun h => by cases h)
          · simp only [wpOp, List.getElem?_toArray, List.getElem?_cons_succ, List.getElem?_cons_zero, Region.wanted, if_true]
            refine Or.inl ?_
            have e0 : av.tmps.getD 9 undef = .int .i64 0 := hF.2.2 9 (by decide)
            have e0e : av.eval (.tmp 9) = .int .i64 0 := e0
            have e0g : av.tmps[9]?.getD undef = .int .i64 0 := by have := e0; simp only [Array.getD_eq_getD_getElem?] at this; exact this
            clear hw hF
            simp only [Oper.wp, execOp]
            try simp only [e0e]
            go_simp
            exact hK _ x (by first | rfl | (simp only [Nat.add_zero]; done) | (congr 1; omega)) (Below.refl _ _) (fun h => by cases h)
          · simp only [wpOp, List.getElem?_toArray, List.getElem?_cons_succ, List.getElem?_cons_zero, Region.wanted, if_true]
            refine Or.inl ?_
            have e0 : av.tmps.getD 47 undef = .slice (some ⟨w3.heap.size, 0, none⟩) 2 2 := (hw 1 (by kernel_rfl))
            have e0e : av.eval (.tmp 47) = .slice (some ⟨w3.heap.size, 0, none⟩) 2 2 := e0
            have e0g : av.tmps[47]?.getD undef = .slice (some ⟨w3.heap.size, 0, none⟩) 2 2 := by have := e0; simp only [Array.getD_eq_getD_getElem?] at this; exact this
            have e1 : av.tmps.getD 48 undef = .int .i64 0 := (hw 2 (by kernel_rfl))
            have e1e : av.eval (.tmp 48) = .int .i64 0 := e1
            have e1g : av.tmps[48]?.getD undef = .int .i64 0 := by have := e1; simp only [Array.getD_eq_getD_getElem?] at this; exact this
            clear hw hF
            simp only [Oper.wp, execOp]
            try simp only [e0e, e1e]
            go_simp
            exact hK _ x (by first | rfl | (simp only [Nat.add_zero]; done) | (congr 1; omega)) (Below.refl _ _) (fun h => by cases h)
          · simp only [wpOp, List.getElem?_toArray, List.getElem?_cons_succ, List.getElem?_cons_zero, Region.wanted, if_true]
            refine Or.inl ?_
            have e0 : av.tmps.getD 49 undef = .pointer (some ⟨w3.heap.size, 0, none⟩) := (hw 3 (by kernel_rfl))
            have e0e : av.eval (.tmp 49) = .pointer (some ⟨w3.heap.size, 0, none⟩) := e0
            have e0g : av.tmps[49]?.getD undef = .pointer (some ⟨w3.heap.size, 0, none⟩) := by have := e0; simp only [Array.getD_eq_getD_getElem?] at this; exact this
            obtain ⟨f0, f1, f2⟩ := FN.out x hb'
            clear hw hF
            simp only [Oper.wp, execOp]
            try simp only [e0e]
            go_simp
            exact hK _ x (by first | rfl | (simp only [Nat.add_zero]; done) | (congr 1; omega)) (Below.refl _ _) (fun h => by cases h)
          · simp only [wpOp, List.getElem?_toArray, List.getElem?_cons_succ, List.getElem?_cons_zero, Region.wanted, if_true]
            refine Or.inl ?_
            have e0 : av.tmps.getD 50 undef = .agg #[.bool lf, .slice A2 fk.length c2, .slice B2 fd.length d2] := (hw 4 (by kernel_rfl))
            have e0e : av.eval (.tmp 50) = .agg #[.bool lf, .slice A2 fk.length c2, .slice B2 fd.length d2] := e0
            have e0g : av.tmps[50]?.getD undef = .agg #[.bool lf, .slice A2 fk.length c2, .slice B2 fd.length d2] := by have := e0; simp only [Array.getD_eq_getD_getElem?] at this; exact this
            clear hw hF
            simp only [Oper.wp, execOp]
            try simp only [e0e]
            go_simp
            refine (ref_any lf A2 c2 fk B2 d2 fd x (U7.out.1.below hb') (U7.out.2.below hb')).mono ?_
            rintro e x' ⟨rfl, hx⟩
            exact hK _ x' rfl hx (fun h => by cases h)
          · simp only [wpOp, List.getElem?_toArray, List.getElem?_cons_succ, List.getElem?_cons_zero, Region.wanted, if_true]
            refine Or.inl ?_
            have e0 : av.tmps.getD 46 undef = .agg #[.bool lf, .slice A5 fk.length c5, .slice B5 fd.length d5] := (hw 0 (by kernel_rfl))
            have e0e : av.eval (.tmp 46) = .agg #[.bool lf, .slice A5 fk.length c5, .slice B5 fd.length d5] := e0
            have e0g : av.tmps[46]?.getD undef = .agg #[.bool lf, .slice A5 fk.length c5, .slice B5 fd.length d5] := by have := e0; simp only [Array.getD_eq_getD_getElem?] at this; exact this
            have e1 : av.tmps.getD 51 undef = .agg #[.bool lf, .slice A2 fk.length c2, .slice B2 fd.length d2] := (hw 5 (by kernel_rfl))
            have e1e : av.eval (.tmp 51) = .agg #[.bool lf, .slice A2 fk.length c2, .slice B2 fd.length d2] := e1
            have e1g : av.tmps[51]?.getD undef = .agg #[.bool lf, .slice A2 fk.length c2, .slice B2 fd.length d2] := by have := e1; simp only [Array.getD_eq_getD_getElem?] at this; exact this
            clear hw hF
            simp only [Oper.wp, execOp]
            try simp only [e0e, e1e]
            go_simp
            refine (nodes_any lf A5 A2 B5 B2 c5 c2 d5 d2 fk fd x (M7.out.1.below hb') (M7.out.2.below hb') (U7.out.1.below hb') (U7.out.2.below hb') (by omega) (by omega)).mono ?_
            rintro e x' ⟨rfl, hx⟩
            exact hK _ x' rfl hx (fun h => by cases h)
        · intro av x hF hb' hR _
          have e0 : av.tmps.getD 46 undef = .agg #[.bool lf, .slice A5 fk.length c5, .slice B5 fd.length d5] := hR 0 (by decide)
          have e1 : av.tmps.getD 47 undef = .slice (some ⟨w3.heap.size, 0, none⟩) 2 2 := hR 1 (by decide)
          have e2 : av.tmps.getD 48 undef = .int .i64 0 := hR 2 (by decide)
          have e3 : av.tmps.getD 49 undef = .pointer (some ⟨w3.heap.size, 0, none⟩) := hR 3 (by decide)
          have e4 : av.tmps.getD 50 undef = .agg #[.bool lf, .slice A2 fk.length c2, .slice B2 fd.length d2] := hR 4 (by decide)
          have e5 : av.tmps.getD 51 undef = .agg #[.bool lf, .slice A2 fk.length c2, .slice B2 fd.length d2] := hR 5 (by decide)
          have e6 : av.tmps.getD 52 undef = .bool true := hR 6 (by decide)
          rw [hF.fold (by kernel_rfl)]
          simp only [List.foldl_cons, List.foldl_nil, e0, e1, e2, e3, e4, e5, e6]
          simp only [Act.put, List.setIfInBounds_toArray, List.set_cons_zero, List.set_cons_succ]
          change wpOps _ _ _ [7] _ _
          simp only [wpOps_cons]
          clear e0 e1 e2 e3 e4 e5 e6 hR hF
          have R8 := Lib.hid (row_on RM.out hb')
          have K8 := Lib.hid (K7.out.trans (hb'.mono K7.out.size))
          have M8 := Lib.hid (M7.out.1.below hb')
          clear hb' FM FN RM R7 U7 M7
          try rw [wpOps_cons]
          simp only [wpOp, List.getElem?_toArray, List.getElem?_cons_succ, List.getElem?_cons_zero, Region.wanted, if_true]
          refine Or.inl ?_
          simp only [Oper.wp, execOp]
          go_simp
          try simp only [wpOps]
          have f0 := row_c R8.out (i := 0) rfl
          have f1 := row_c R8.out (i := 1) rfl
          have f2 := row_c R8.out (i := 2) rfl
          have n0 : (SN != SN) = false := by simp
          have n1 : ((SN : Int) != (SN : Int)) = false := by simp
          go_wp2_with fail
          refine (SZ.out _ _ _ _ _ M8.out).mono ?_
          rintro e w9 ⟨rfl, hx⟩
          have K9 := Lib.hid (K8.out.trans (hx.mono K8.out.size))
          clear hx f0 f1 f2
          go_wp2
          go_roundw
          case rel => exact ⟨1, by omega, by go_num, K9⟩
          case measure => simp [intOf]
    · have f0 := row_c RW.out (i := 3) rfl
      have f1 := row_c RW.out (i := 4) rfl
      have f2 := row_c RW.out (i := 5) rfl
      have UW := Lib.hid (And.intro (U3.out.1.below hb.out) (U3.out.2.below hb.out))
      cases hr : rightB true gk gd
      · have EN := Lib.hid (encode_no true A3 c3 gk B3 d3 gd wr UW.out.1 UW.out.2 (by omega) (by omega) GS.out hr)
        clear hr
        go_wp2_with fail
        refine EN.out.mono ?_
        rintro e w5 ⟨rfl, hx⟩
        have K5 := Lib.hid (hb.out.trans (hx.mono hb.out.size))
        clear hx f0 f1 f2
        go_wp2
        go_roundw
        case rel => exact ⟨2, by omega, by go_num, K5⟩
        case measure => simp [intOf]
      · have EY := Lib.hid (encode_yes true A3 c3 gk B3 d3 gd wr UW.out.1 UW.out.2 hr)
        have LE := enc_len hr
        have SM : sizeN gk gd ≤ 120 := (right_facts hr).2.2.2.2.1
        have DC := Lib.hid (fun V => decode_any (encL true gk gd) V (by omega))
        have DE := Lib.hid (dec_enc hr)
        have SZ := Lib.hid (fun (A : Option Addr) (c : Nat) (B : Option Addr) (d : Nat) V (hV : Rl sv V A c gk) => size_any true A c gk B d gd V hV (by omega) (by omega))
        obtain ⟨SN, hSN⟩ : ∃ n, sizeN gk gd = n := ⟨_, rfl⟩
        obtain ⟨E, hE⟩ : ∃ n, encL true gk gd = n := ⟨_, rfl⟩
        rw [hE] at EY DC DE LE
        rw [hSN] at SZ LE
        have hs : (⟨E.toArray⟩ : ByteArray).size = SN := by rw [str_size, LE]
        clear hr LE SM hSN hE
        unfold sv at DC
        go_wp2_with fail
        refine EY.out.mono ?_
        rintro e w5 ⟨rfl, hx⟩
        have K5 := Lib.hid (hb.out.trans (hx.mono hb.out.size))
        clear hx f0 f1 f2
        go_wp2_with fail
        refine (DC.out _).mono ?_
        rintro e w6 ⟨h1, _, hx⟩
        obtain ⟨A5, c5, B5, d5, rfl, ha, hb5⟩ := h1 _ _ _ DE.out
        have K6 := Lib.hid (K5.out.trans (hx.mono K5.out.size))
        have M6 := Lib.hid (And.intro ha hb5)
        clear hx h1 ha hb5
        go_upto_region 11 with (fail)
        obtain ⟨V, hV⟩ : ∃ V : World, V = w6.alloc (.cells #[.bool true, .slice A5 gk.length c5, .slice B5 gd.length d5] 25) := ⟨_, rfl⟩
        have RM := Lib.hid (show V.heap[w6.heap.size]? = some (.cells #[.bool true, .slice A5 gk.length c5, .slice B5 gd.length d5] 25 (0, 0)) by rw [hV]; exact heap_alloc_new _ _)
        have BV := Lib.hid (show Below w6.heap.size w6 V by rw [hV]; exact bda _ _)
        rw [← hV]
        clear hV
        have K7 := Lib.hid (K6.out.trans (BV.out.mono K6.out.size))
        have M7 := Lib.hid (And.intro (M6.out.1.below BV.out) (M6.out.2.below BV.out))
        have U7 := Lib.hid (And.intro (U3.out.1.below K7.out) (U3.out.2.below K7.out))
        have R7 := Lib.hid (row_on RX.out K7.out)
        have FM := Lib.hid (fun x (K : Below V.heap.size V x) => (And.intro (row_c (row_on RM.out K) (i := 0) rfl) (And.intro (row_c (row_on RM.out K) (i := 1) rfl) (row_c (row_on RM.out K) (i := 2) rfl))))
        have FN := Lib.hid (fun x (K : Below V.heap.size V x) => (And.intro (row_c (row_on R7.out K) (i := 3) rfl) (And.intro (row_c (row_on R7.out K) (i := 4) rfl) (row_c (row_on R7.out K) (i := 5) rfl))))
        refine wp_operands (W := V) rfl 7 [46, 47, 48, 49, 50, 51, 52] (fun i u x => match i with | 0 => u = .agg #[.bool true, .slice A5 gk.length c5, .slice B5 gd.length d5] | 1 => u = .slice (some ⟨w3.heap.size, 0, none⟩) 2 2 | 2 => u = .int .i64 1 | 3 => u = .pointer (some ⟨w3.heap.size, 3, none⟩) | 4 => u = .agg #[.bool true, .slice A3 gk.length c3, .slice B3 gd.length d3] | 5 => u = .agg #[.bool true, .slice A3 gk.length c3, .slice B3 gd.length d3] | 6 => u = .bool true | _ => True) (fun _ => false)
          (by decide) rfl (by kernel_rfl) (by kernel_rfl) (by decide) (by kernel_rfl) ?_ (fun _ _ _ h => by cases h) ?_ ?_
        · intro i u x x' hi hR hb'
          have hi' : i = 0 ∨ i = 1 ∨ i = 2 ∨ i = 3 ∨ i = 4 ∨ i = 5 ∨ i = 6 := by omega
          rcases hi' with rfl | rfl | rfl | rfl | rfl | rfl | rfl
          · exact hR
          · exact hR
          · exact hR
          · exact hR
          · exact hR
          · exact hR
          · exact hR
        · intro i av x K hi hF hb' hw hK
          have hi' : i = 0 ∨ i = 1 ∨ i = 2 ∨ i = 3 ∨ i = 4 ∨ i = 5 ∨ i = 6 := by omega
          rcases hi' with rfl | rfl | rfl | rfl | rfl | rfl | rfl
          · simp only [wpOp, List.getElem?_toArray, List.getElem?_cons_zero, Region.wanted, if_true]
            refine Or.inl ?_
            have e0 : av.tmps.getD 12 undef = .pointer (some ⟨w6.heap.size, 0, none⟩) := hF.2.2 12 (by decide)
            have e0e : av.eval (.tmp 12) = .pointer (some ⟨w6.heap.size, 0, none⟩) := e0
            have e0g : av.tmps[12]?.getD undef = .pointer (some ⟨w6.heap.size, 0, none⟩) := by have := e0; simp only [Array.getD_eq_getD_getElem?] at this; exact this
            obtain ⟨f0, f1, f2⟩ := FM.out x hb'
            clear hw hF
            simp only [Oper.wp, execOp]
            try simp only [e0e]
            go_simp
            exact hK _ x (by first | rfl | (simp only [Nat.add_zero]; done) | (congr 1; omega)) (Below.refl _ _) (fun h => by cases h)
          · simp only [wpOp, List.getElem?_toArray, List.getElem?_cons_succ, List.getElem?_cons_zero, Region.wanted, if_true]
            refine Or.inl ?_
            have e0 : av.tmps.getD 8 undef = .slice (some ⟨w3.heap.size, 0, none⟩) 2 2 := hF.2.2 8 (by decide)
            have e0e : av.eval (.tmp 8) = .slice (some ⟨w3.heap.size, 0, none⟩) 2 2 := e0
            have e0g : av.tmps[8]?.getD undef = .slice (some ⟨w3.heap.size, 0, none⟩) 2 2 := by have := e0; simp only [Array.getD_eq_getD_getElem?] at this; exact this
            clear hw hF
            simp only [Oper.wp, execOp]
            try simp only [e0e]
            go_simp
            exact hK _ x (by first | rfl | (simp only [Nat.add_zero]; done) | (congr 1; omega)) (Below.refl _ _) (fun h => by cases h)
          · simp only [wpOp, List.getElem?_toArray, List.getElem?_cons_succ, List.getElem?_cons_zero, Region.wanted, if_true]
            refine Or.inl ?_
            have e0 : av.tmps.getD 9 undef = .int .i64 1 := hF.2.2 9 (by decide)
            have e0e : av.eval (.tmp 9) = .int .i64 1 := e0
            have e0g : av.tmps[9]?.getD undef = .int .i64 1 := by have := e0; simp only [Array.getD_eq_getD_getElem?] at this; exact this
            clear hw hF
            simp only [Oper.wp, execOp]
            try simp only [e0e]
            go_simp
            exact hK _ x (by first | rfl | (simp only [Nat.add_zero]; done) | (congr 1; omega)) (Below.refl _ _) (fun h => by cases h)
          · simp only [wpOp, List.getElem?_toArray, List.getElem?_cons_succ, List.getElem?_cons_zero, Region.wanted, if_true]
            refine Or.inl ?_
            have e0 : av.tmps.getD 47 undef = .slice (some ⟨w3.heap.size, 0, none⟩) 2 2 := (hw 1 (by kernel_rfl))
            have e0e : av.eval (.tmp 47) = .slice (some ⟨w3.heap.size, 0, none⟩) 2 2 := e0
            have e0g : av.tmps[47]?.getD undef = .slice (some ⟨w3.heap.size, 0, none⟩) 2 2 := by have := e0; simp only [Array.getD_eq_getD_getElem?] at this; exact this
            have e1 : av.tmps.getD 48 undef = .int .i64 1 := (hw 2 (by kernel_rfl))
            have e1e : av.eval (.tmp 48) = .int .i64 1 := e1
            have e1g : av.tmps[48]?.getD undef = .int .i64 1 := by have := e1; simp only [Array.getD_eq_getD_getElem?] at this; exact this
            clear hw hF
            simp only [Oper.wp, execOp]
            try simp only [e0e, e1e]
            go_simp
            exact hK _ x (by first | rfl | (simp only [Nat.add_zero]; done) | (congr 1; omega)) (Below.refl _ _) (fun h => by cases h)
          · simp only [wpOp, List.getElem?_toArray, List.getElem?_cons_succ, List.getElem?_cons_zero, Region.wanted, if_true]
            refine Or.inl ?_
            have e0 : av.tmps.getD 49 undef = .pointer (some ⟨w3.heap.size, 3, none⟩) := (hw 3 (by kernel_rfl))
            have e0e : av.eval (.tmp 49) = .pointer (some ⟨w3.heap.size, 3, none⟩) := e0
            have e0g : av.tmps[49]?.getD undef = .pointer (some ⟨w3.heap.size, 3, none⟩) := by have := e0; simp only [Array.getD_eq_getD_getElem?] at this; exact this
            obtain ⟨f0, f1, f2⟩ := FN.out x hb'
            clear hw hF
            simp only [Oper.wp, execOp]
            try simp only [e0e]
            go_simp
            exact hK _ x (by first | rfl | (simp only [Nat.add_zero]; done) | (congr 1; omega)) (Below.refl _ _) (fun h => by cases h)
          · simp only [wpOp, List.getElem?_toArray, List.getElem?_cons_succ, List.getElem?_cons_zero, Region.wanted, if_true]
            refine Or.inl ?_
            have e0 : av.tmps.getD 50 undef = .agg #[.bool true, .slice A3 gk.length c3, .slice B3 gd.length d3] := (hw 4 (by kernel_rfl))
            have e0e : av.eval (.tmp 50) = .agg #[.bool true, .slice A3 gk.length c3, .slice B3 gd.length d3] := e0
            have e0g : av.tmps[50]?.getD undef = .agg #[.bool true, .slice A3 gk.length c3, .slice B3 gd.length d3] := by have := e0; simp only [Array.getD_eq_getD_getElem?] at this; exact this
            clear hw hF
            simp only [Oper.wp, execOp]
            try simp only [e0e]
            go_simp
            refine (ref_any true A3 c3 gk B3 d3 gd x (U7.out.1.below hb') (U7.out.2.below hb')).mono ?_
            rintro e x' ⟨rfl, hx⟩
            exact hK _ x' rfl hx (fun h => by cases h)
          · simp only [wpOp, List.getElem?_toArray, List.getElem?_cons_succ, List.getElem?_cons_zero, Region.wanted, if_true]
            refine Or.inl ?_
            have e0 : av.tmps.getD 46 undef = .agg #[.bool true, .slice A5 gk.length c5, .slice B5 gd.length d5] := (hw 0 (by kernel_rfl))
            have e0e : av.eval (.tmp 46) = .agg #[.bool true, .slice A5 gk.length c5, .slice B5 gd.length d5] := e0
            have e0g : av.tmps[46]?.getD undef = .agg #[.bool true, .slice A5 gk.length c5, .slice B5 gd.length d5] := by have := e0; simp only [Array.getD_eq_getD_getElem?] at this; exact this
            have e1 : av.tmps.getD 51 undef = .agg #[.bool true, .slice A3 gk.length c3, .slice B3 gd.length d3] := (hw 5 (by kernel_rfl))
            have e1e : av.eval (.tmp 51) = .agg #[.bool true, .slice A3 gk.length c3, .slice B3 gd.length d3] := e1
            have e1g : av.tmps[51]?.getD undef = .agg #[.bool true, .slice A3 gk.length c3, .slice B3 gd.length d3] := by have := e1; simp only [Array.getD_eq_getD_getElem?] at this; exact this
            clear hw hF
            simp only [Oper.wp, execOp]
            try simp only [e0e, e1e]
            go_simp
            refine (nodes_any true A5 A3 B5 B3 c5 c3 d5 d3 gk gd x (M7.out.1.below hb') (M7.out.2.below hb') (U7.out.1.below hb') (U7.out.2.below hb') (by omega) (by omega)).mono ?_
            rintro e x' ⟨rfl, hx⟩
            exact hK _ x' rfl hx (fun h => by cases h)
        · intro av x hF hb' hR _
          have e0 : av.tmps.getD 46 undef = .agg #[.bool true, .slice A5 gk.length c5, .slice B5 gd.length d5] := hR 0 (by decide)
          have e1 : av.tmps.getD 47 undef = .slice (some ⟨w3.heap.size, 0, none⟩) 2 2 := hR 1 (by decide)
          have e2 : av.tmps.getD 48 undef = .int .i64 1 := hR 2 (by decide)
          have e3 : av.tmps.getD 49 undef = .pointer (some ⟨w3.heap.size, 3, none⟩) := hR 3 (by decide)
          have e4 : av.tmps.getD 50 undef = .agg #[.bool true, .slice A3 gk.length c3, .slice B3 gd.length d3] := hR 4 (by decide)
          have e5 : av.tmps.getD 51 undef = .agg #[.bool true, .slice A3 gk.length c3, .slice B3 gd.length d3] := hR 5 (by decide)
          have e6 : av.tmps.getD 52 undef = .bool true := hR 6 (by decide)
          rw [hF.fold (by kernel_rfl)]
          simp only [List.foldl_cons, List.foldl_nil, e0, e1, e2, e3, e4, e5, e6]
          simp only [Act.put, List.setIfInBounds_toArray, List.set_cons_zero, List.set_cons_succ]
          change wpOps _ _ _ [7] _ _
          simp only [wpOps_cons]
          clear e0 e1 e2 e3 e4 e5 e6 hR hF
          have R8 := Lib.hid (row_on RM.out hb')
          have K8 := Lib.hid (K7.out.trans (hb'.mono K7.out.size))
          have M8 := Lib.hid (M7.out.1.below hb')
          clear hb' FM FN RM R7 U7 M7
          try rw [wpOps_cons]
          simp only [wpOp, List.getElem?_toArray, List.getElem?_cons_succ, List.getElem?_cons_zero, Region.wanted, if_true]
          refine Or.inl ?_
          simp only [Oper.wp, execOp]
          go_simp
          try simp only [wpOps]
          have f0 := row_c R8.out (i := 0) rfl
          have f1 := row_c R8.out (i := 1) rfl
          have f2 := row_c R8.out (i := 2) rfl
          have n0 : (SN != SN) = false := by simp
          have n1 : ((SN : Int) != (SN : Int)) = false := by simp
          go_wp2_with fail
          refine (SZ.out _ _ _ _ _ M8.out).mono ?_
          rintro e w9 ⟨rfl, hx⟩
          have K9 := Lib.hid (K8.out.trans (hx.mono K8.out.size))
          clear hx f0 f1 f2
          go_wp2
          go_roundw
          case rel => exact ⟨2, by omega, by go_num, K9⟩
          case measure => simp [intOf]
    · have WB := Lib.hid (show wr.heap.size = wr.heap.size from rfl)
      unfold sv at DS
      cases hD : decA S with
      | none =>
        have HD := Lib.hid hD
        clear hD
        go_wp2_with fail
        refine (DS.out _).mono ?_
        rintro e w5 ⟨_, h2, hx⟩
        obtain rfl := h2 HD.out
        have K5 := Lib.hid (KW.out.trans (hx.mono KW.out.size))
        clear h2 hx
        go_wp2_with fail
        refine (EN0.out _).mono ?_
        rintro e w6 ⟨rfl, hx⟩
        have K6 := Lib.hid (K5.out.trans (((bda w5 _).trans (hx.mono (by simp))).mono K5.out.size))
        clear hx
        go_wp2
        go_ret
        exact ⟨rfl, K6.out⟩
      | some t =>
        obtain ⟨tl, tk, td⟩ := t
        obtain ⟨hr, hE⟩ := decA_some hD
        have HD := Lib.hid hD
        have EY := Lib.hid (fun A c B d V (h1 : Rl sv V A c tk) (h2 : Rl nv V B d td) => encode_yes tl A c tk B d td V h1 h2 hr)
        rw [hE] at EY
        have sS : (S == S) = true := beq_self_eq_true S
        clear hD hr hE
        go_wp2_with fail
        refine (DS.out _).mono ?_
        rintro e w5 ⟨h1, _, hx⟩
        obtain ⟨A5, c5, B5, d5, rfl, ha, hb5⟩ := h1 _ _ _ HD.out
        have K5 := Lib.hid (KW.out.trans (hx.mono KW.out.size))
        have M5 := Lib.hid (And.intro (ha.below (bda w5 (.cells #[.bool tl, .slice A5 tk.length c5, .slice B5 td.length d5] 25))) (hb5.below (bda w5 (.cells #[.bool tl, .slice A5 tk.length c5, .slice B5 td.length d5] 25))))
        clear h1 hx ha hb5
        go_wp2_with fail
        refine (EY.out _ _ _ _ _ M5.out.1 M5.out.2).mono ?_
        rintro e w6 ⟨rfl, hx⟩
        have K6 := Lib.hid (K5.out.trans (((bda w5 _).trans (hx.mono (by simp))).mono K5.out.size))
        clear hx
        go_wp2
        go_ret
        exact ⟨rfl, K6.out⟩
end Go.Proofs.Ytkbdcbcjbgbglaa
