/-
  The document's Encode.
-/
import Derived.Test.YtkbdcbcjbgbglaaYa
namespace Go.Proofs.Ytkbdcbcjbgbglaa
open Go.RowKit
set_option linter.unusedVariables false
set_option linter.unusedSimpArgs false
theorem ents_bd {ps : List (List UInt8 × Int)} (h : ∀ p ∈ ps, p.1.length ≤ 16) : (ps.flatMap entL).length ≤ 19 * ps.length := by
  rw [ents_len]
  induction ps with
  | nil => simp
  | cons p r ih =>
    have h1 := ih (fun q hq => h q (by simp [hq]))
    have h2 := h p (by simp)
    simp only [List.map_cons, List.sum_cons, List.length_cons]
    omega
/-- What has been written behind k keys. -/
def wrN (L0 : List UInt8) (ks : List (List UInt8)) (es : List Int) (k : Nat) : List UInt8 := L0 ++ ((ks.zip es).take k).flatMap entL
theorem wrN_succ {L0 : List UInt8} {ks : List (List UInt8)} {es : List Int} {k : Nat} {x : List UInt8} {q : Int} (h : ks[k]? = some x) (h2 : es[k]? = some q) : wrN L0 ks es (k + 1) = wrN L0 ks es k ++ (UInt8.ofNat x.length :: x) ++ b2 q := by
  unfold wrN
  rw [ents_take (zip_at h h2)]
  unfold entL
  simp
theorem wrN_len {L0 : List UInt8} {ks : List (List UInt8)} {es : List Int} {k : Nat} (h : ∀ x ∈ ks, x.length ≤ 16) (hl : ks.length ≤ 120) : (wrN L0 ks es k).length ≤ L0.length + 2280 := by
  unfold wrN
  have h1 := ents_bd (ps := (ks.zip es).take k) (fun p hp => h _ (zip_mem (List.mem_of_mem_take hp)).1)
  have h2 : ((ks.zip es).take k).length ≤ ks.length := by rw [List.length_take, List.length_zip]; omega
  rw [List.length_append]
  omega
theorem wrN_end {L0 : List UInt8} {ks : List (List UInt8)} {es : List Int} (h : es.length = ks.length) : wrN L0 ks es ks.length = L0 ++ entsL ks es := by
  unfold wrN entsL
  rw [List.take_of_length_le (by rw [List.length_zip]; omega)]
set_option maxHeartbeats 4000000 in
set_option maxRecDepth 100000 in
theorem rencode_no (lf : Bool) (A : Option Addr) (c : Nat) (ks : List (List UInt8)) (B : Option Addr) (d : Nat) (ds : List Int) (w : World) (h : Rl sv w A c ks) (h2 : Rl nv w B d ds) (hl : ks.length ≤ 4000000) (hl2 : ds.length ≤ 4000001) (hz : sizeN ks ds < 4611686018427387904) (hr : rightB lf ks ds = false) :
    Calls Try.prog 13 #[.agg #[.bool lf, .slice A ks.length c, .slice B ds.length d]] w fun e w' => e = .returned (.tuple #[.string ⟨#[]⟩, .bool false]) ∧ Below w.heap.size w w' := by
  have RG := Lib.hid (fun V (hV : Below w.heap.size w V) => rright_any lf A c ks B d ds V (h.below hV) (h2.below hV) hl hl2 hz)
  rw [hr] at RG
  clear h h2 hl hl2 hz hr
  go_enter Try.func13, Try.ntmps13
  go_wp2_with fail
  refine (RG.out _ (bda _ _)).mono ?_
  rintro e w2 ⟨rfl, hb⟩
  go_wp2
  go_ret2
  exact ⟨rfl, bon (bda _ _) hb⟩
set_option maxHeartbeats 4000000 in
set_option maxRecDepth 100000 in
theorem renc_t (A : Option Addr) (c : Nat) (ks : List (List UInt8)) (B : Option Addr) (d : Nat) (ds : List Int) (w : World) (h : Rl sv w A c ks) (h2 : Rl nv w B d ds) (hr : rightB true ks ds = true) :
    Calls Try.prog 13 #[.agg #[.bool true, .slice A ks.length c, .slice B ds.length d]] w fun e w' => e = .returned (.tuple #[.string ⟨(encL true ks ds).toArray⟩, .bool true]) ∧ Below w.heap.size w w' := by
  have RF := Lib.hid (right_facts hr)
  have lk := RF.out.2.2.2.2.2.1
  have hds : ds.length = ks.length := by have := RF.out.1; simpa using this
  have RG := Lib.hid (fun V (hV : Below w.heap.size w V) => rright_any true A c ks B d ds V (h.below hV) (h2.below hV) (by omega) (by omega) (by have := RF.out.2.2.2.2.1; omega))
  rw [hr] at RG
  have H := Lib.hid h
  have H2 := Lib.hid h2
  have LK := Lib.hid (And.intro lk hds)
  have WL := Lib.hid (fun k => wrN_len (L0 := [1]) (es := ds) (k := k) (fun x hx => (RF.out.2.1 x hx).2) lk)
  have XL := Lib.hid (fun x hx => (RF.out.2.1 x hx).2)
  have DQ := Lib.hid (fun q hq => RF.out.2.2.1 q hq)
  have EN := Lib.hid (show encL true ks ds = wrN [1] ks ds ks.length by rw [wrN_end hds]; rfl)
  clear h h2 hr lk hds
  go_enter Try.func13, Try.ntmps13
  go_wp2_with fail
  obtain ⟨W, hW⟩ : ∃ W : World, W = w.alloc (.cells #[.bool true, .slice A ks.length c, .slice B ds.length d] 33) := ⟨_, rfl⟩
  have RW := Lib.hid (show W.heap[w.heap.size]? = some (.cells #[.bool true, .slice A ks.length c, .slice B ds.length d] 33 (0, 0)) by rw [hW]; exact heap_alloc_new _ _)
  have BW := Lib.hid (show Below w.heap.size w W by rw [hW]; exact bda _ _)
  rw [← hW]
  clear hW
  refine (RG.out _ BW.out).mono ?_
  rintro e w2 ⟨rfl, hb⟩
  have R2 := Lib.hid (row_on RW.out hb)
  have K2 := Lib.hid (BW.out.trans (hb.mono BW.out.size))
  clear hb RW BW RG
  have f0 := row_c R2.out (i := 0) rfl
  go_wp2_with fail
  clear f0
  obtain ⟨w3, hw3⟩ : ∃ z, w2 = z := ⟨_, rfl⟩
  rw [hw3] at R2 K2 ⊢
  clear hw3
  go_loopw [5, 6] (fun s i wr => ∃ k : Nat, k ≤ ks.length ∧ s = .string ⟨(wrN [1] ks ds k).toArray⟩ ∧ i = .int .i64 k ∧ Hid (Below w3.heap.size w3 wr)) (fun _ i _ => ks.length - (intOf i).toNat)
  case atStart => exact ⟨0, Nat.zero_le _, by simp [wrN], rfl, Lib.hid (Below.refl _ _)⟩
  case round =>
    obtain ⟨k, hk, rfl, rfl, hb⟩ := hrel
    have f1 := row_c (row_on R2.out hb.out) (i := 1) rfl
    have KW := Lib.hid (K2.out.trans (hb.out.mono K2.out.size))
    by_cases hlt : k < ks.length
    · obtain ⟨x_, hx⟩ := get_lt hlt
      obtain ⟨q_, hq⟩ := get_lt (xs := ds) (k := k) (by have := LK.out; omega)
      have hq1 := DQ.out q_ (List.mem_of_getElem? hq)
      obtain ⟨q, rfl⟩ := Int.eq_ofNat_of_zero_le (show 0 ≤ q_ by omega)
      have hx16 := XL.out x_ (List.mem_of_getElem? hx)
      have WS := Lib.hid (wrN_succ (L0 := [1]) hx hq)
      obtain ⟨bk, ok, hA, hbk, c4⟩ := (H.out.below KW.out).cell hx
      obtain ⟨bd, od, hB, hbd, c5⟩ := (H2.out.below KW.out).cell hq
      subst hA
      subst hB
      unfold sv at c4
      unfold nv at c5
      have HLT := Lib.hid hlt
      obtain ⟨dd, hdd⟩ : ∃ d : ByteArray, d = ⟨(wrN [1] ks ds k).toArray⟩ := ⟨_, rfl⟩
      obtain ⟨d4, hd4⟩ : ∃ d : ByteArray, d = ⟨(UInt8.ofNat x_.length :: x_).toArray⟩ := ⟨_, rfl⟩
      obtain ⟨d2, hd2⟩ : ∃ d : ByteArray, d = ⟨(b2 (q : Int)).toArray⟩ := ⟨_, rfl⟩
      obtain ⟨da, hda⟩ : ∃ z : ByteArray, dd ++ d4 = z := ⟨_, rfl⟩
      obtain ⟨dz, hdz⟩ : ∃ z : ByteArray, da ++ d2 = z := ⟨_, rfl⟩
      have s1 : dd.size ≤ 2400 := by rw [hdd, str_size]; have := WL.out k; simp only [List.length_cons, List.length_nil] at this; omega
      have s2 : d4.size ≤ 17 := by rw [hd4, str_size]; simp only [List.length_cons]; omega
      have s3 : d2.size = 2 := by rw [hd2, str_size, b2_len]
      have s4 : da.size ≤ 2417 := by rw [← hda, ByteArray.size_append]; omega
      have OO := Lib.hid (And.intro hda hdz)
      have SZ := Lib.hid (show (¬ 9223372036854775807 < dd.size + d4.size) ∧ ¬ 9223372036854775807 < da.size + d2.size from ⟨by omega, by omega⟩)
      have DZ := Lib.hid (show dz = ⟨(wrN [1] ks ds (k + 1)).toArray⟩ by rw [WS.out, ← hdz, ← hda, hdd, hd4, hd2, app_b, app_b])
      have RK := Lib.hid (fun V => rkey_any x_ V (by omega))
      have RQ := Lib.hid (fun V => rkid_any q V)
      unfold sv at RK RQ
      rw [← hd4] at RK
      rw [← hd2] at RQ
      rw [← hdd]
      clear s1 s2 s3 s4 hda hdz hdd hd4 hd2 hx hq hq1 hx16 WS
      have jw : IntKind.i64.wrap ((k : Int) + 1) = (k : Int) + 1 := IntWalk.i64_in _ (by have := LK.out; omega)
      have JW := Lib.hid jw
      have CK := Lib.hid (fun V (hV : Below wr.heap.size wr V) => (hV.cell (p := ⟨bk, ok + k, none⟩) hbk).trans c4)
      have CD := Lib.hid (fun V (hV : Below wr.heap.size wr V) => (hV.cell (p := ⟨bd, od + k, none⟩) hbd).trans c5)
      have i0 : (0 : Int) ≤ (k : Int) := by omega
      have i1 : (k : Int) < (ks.length : Int) := by omega
      have i2 : (k : Int) < (ds.length : Int) := by have := LK.out; omega
      have FW := Lib.hid (fun V (hV : Below wr.heap.size wr V) => And.intro (row_c (row_on (row_on R2.out hb.out) hV) (i := 1) rfl) (row_c (row_on (row_on R2.out hb.out) hV) (i := 2) rfl))
      clear hlt hk c4 c5 hbk hbd
      go_upto_region 9 with (fail)
      clear f1 jw
      refine wp_operands (W := wr) rfl 15 [22, 23, 24, 25, 26, 27, 28, 29, 30, 31, 32, 33, 34, 35, 36] (fun i u x => match i with | 0 => u = .string dd | 1 => u = .pointer (some ⟨w.heap.size, 1, none⟩) | 2 => u = .slice (some ⟨bk, ok, none⟩) ks.length c | 3 => u = .int .i64 (k : Int) | 4 => u = .pointer (some ⟨bk, ok + k, none⟩) | 5 => u = .string ⟨x_.toArray⟩ | 6 => u = .string d4 | 7 => u = .string da | 8 => u = .pointer (some ⟨w.heap.size, 2, none⟩) | 9 => u = .slice (some ⟨bd, od, none⟩) ds.length d | 10 => u = .int .i64 (k : Int) | 11 => u = .pointer (some ⟨bd, od + k, none⟩) | 12 => u = .int .i64 (q : Int) | 13 => u = .string d2 | 14 => u = .string dz | _ => True) (fun _ => false)
        (by decide) rfl (by kernel_rfl) (by kernel_rfl) (by decide) (by kernel_rfl) ?_ (fun _ _ _ h => by cases h) ?_ ?_
      · intro i u x x' hi hR hb'
        have hi' : i = 0 ∨ i = 1 ∨ i = 2 ∨ i = 3 ∨ i = 4 ∨ i = 5 ∨ i = 6 ∨ i = 7 ∨ i = 8 ∨ i = 9 ∨ i = 10 ∨ i = 11 ∨ i = 12 ∨ i = 13 ∨ i = 14 := by omega
        rcases hi' with rfl | rfl | rfl | rfl | rfl | rfl | rfl | rfl | rfl | rfl | rfl | rfl | rfl | rfl | rfl
        · exact hR
        · exact hR
        · exact hR
        · exact hR
        · exact hR
        · exact hR
        · exact hR
        · exact hR
        · exact hR
        · exact hR
        · exact hR
        · exact hR
        · exact hR
        · exact hR
        · exact hR
      · intro i av x K hi hF hb' hw hK
        have hi' : i = 0 ∨ i = 1 ∨ i = 2 ∨ i = 3 ∨ i = 4 ∨ i = 5 ∨ i = 6 ∨ i = 7 ∨ i = 8 ∨ i = 9 ∨ i = 10 ∨ i = 11 ∨ i = 12 ∨ i = 13 ∨ i = 14 := by omega
        rcases hi' with rfl | rfl | rfl | rfl | rfl | rfl | rfl | rfl | rfl | rfl | rfl | rfl | rfl | rfl | rfl
        · simp only [wpOp, List.getElem?_toArray, List.getElem?_cons_zero, Region.wanted, if_true]
          refine Or.inl ?_
          have e0 : av.tmps.getD 5 undef = .string dd := hF.2.2 5 (by decide)
          have e0e : av.eval (.tmp 5) = .string dd := e0
          have e0g : av.tmps[5]?.getD undef = .string dd := by have := e0; simp only [Array.getD_eq_getD_getElem?] at this; exact this
          clear hw hF
          simp only [Oper.wp, execOp]
          try simp only [e0e]
          go_simp
          exact hK _ x (by first | rfl | (simp only [Nat.add_zero]; done) | (congr 1; omega)) (Below.refl _ _) (fun h => by cases h)
        · simp only [wpOp, List.getElem?_toArray, List.getElem?_cons_succ, List.getElem?_cons_zero, Region.wanted, if_true]
          refine Or.inl ?_
          have e0 : av.tmps.getD 1 undef = .pointer (some ⟨w.heap.size, 0, none⟩) := hF.2.2 1 (by decide)
          have e0e : av.eval (.tmp 1) = .pointer (some ⟨w.heap.size, 0, none⟩) := e0
          have e0g : av.tmps[1]?.getD undef = .pointer (some ⟨w.heap.size, 0, none⟩) := by have := e0; simp only [Array.getD_eq_getD_getElem?] at this; exact this
          clear hw hF
          simp only [Oper.wp, execOp]
          try simp only [e0e]
          go_simp
          exact hK _ x (by first | rfl | (simp only [Nat.add_zero]; done) | (congr 1; omega)) (Below.refl _ _) (fun h => by cases h)
        · simp only [wpOp, List.getElem?_toArray, List.getElem?_cons_succ, List.getElem?_cons_zero, Region.wanted, if_true]
          refine Or.inl ?_
          have e0 : av.tmps.getD 23 undef = .pointer (some ⟨w.heap.size, 1, none⟩) := (hw 1 (by kernel_rfl))
          have e0e : av.eval (.tmp 23) = .pointer (some ⟨w.heap.size, 1, none⟩) := e0
          have e0g : av.tmps[23]?.getD undef = .pointer (some ⟨w.heap.size, 1, none⟩) := by have := e0; simp only [Array.getD_eq_getD_getElem?] at this; exact this
          obtain ⟨f1, f2⟩ := FW.out x hb'
          clear hw hF
          simp only [Oper.wp, execOp]
          try simp only [e0e]
          go_simp
          exact hK _ x (by first | rfl | (simp only [Nat.add_zero]; done) | (congr 1; omega)) (Below.refl _ _) (fun h => by cases h)
        · simp only [wpOp, List.getElem?_toArray, List.getElem?_cons_succ, List.getElem?_cons_zero, Region.wanted, if_true]
          refine Or.inl ?_
          have e0 : av.tmps.getD 6 undef = .int .i64 (k : Int) := hF.2.2 6 (by decide)
          have e0e : av.eval (.tmp 6) = .int .i64 (k : Int) := e0
          have e0g : av.tmps[6]?.getD undef = .int .i64 (k : Int) := by have := e0; simp only [Array.getD_eq_getD_getElem?] at this; exact this
          clear hw hF
          simp only [Oper.wp, execOp]
          try simp only [e0e]
          go_simp
          exact hK _ x (by first | rfl | (simp only [Nat.add_zero]; done) | (congr 1; omega)) (Below.refl _ _) (fun h => by cases h)
        · simp only [wpOp, List.getElem?_toArray, List.getElem?_cons_succ, List.getElem?_cons_zero, Region.wanted, if_true]
          refine Or.inl ?_
          have e0 : av.tmps.getD 24 undef = .slice (some ⟨bk, ok, none⟩) ks.length c := (hw 2 (by kernel_rfl))
          have e0e : av.eval (.tmp 24) = .slice (some ⟨bk, ok, none⟩) ks.length c := e0
          have e0g : av.tmps[24]?.getD undef = .slice (some ⟨bk, ok, none⟩) ks.length c := by have := e0; simp only [Array.getD_eq_getD_getElem?] at this; exact this
          have e1 : av.tmps.getD 25 undef = .int .i64 (k : Int) := (hw 3 (by kernel_rfl))
          have e1e : av.eval (.tmp 25) = .int .i64 (k : Int) := e1
          have e1g : av.tmps[25]?.getD undef = .int .i64 (k : Int) := by have := e1; simp only [Array.getD_eq_getD_getElem?] at this; exact this
          clear hw hF
          simp only [Oper.wp, execOp]
          try simp only [e0e, e1e]
          go_simp
          exact hK _ x (by first | rfl | (simp only [Nat.add_zero]; done) | (congr 1; omega)) (Below.refl _ _) (fun h => by cases h)
        · simp only [wpOp, List.getElem?_toArray, List.getElem?_cons_succ, List.getElem?_cons_zero, Region.wanted, if_true]
          refine Or.inl ?_
          have e0 : av.tmps.getD 26 undef = .pointer (some ⟨bk, ok + k, none⟩) := (hw 4 (by kernel_rfl))
          have e0e : av.eval (.tmp 26) = .pointer (some ⟨bk, ok + k, none⟩) := e0
          have e0g : av.tmps[26]?.getD undef = .pointer (some ⟨bk, ok + k, none⟩) := by have := e0; simp only [Array.getD_eq_getD_getElem?] at this; exact this
          have fc := CK.out x hb'
          clear hw hF
          simp only [Oper.wp, execOp]
          try simp only [e0e]
          go_simp
          exact hK _ x (by first | rfl | (simp only [Nat.add_zero]; done) | (congr 1; omega)) (Below.refl _ _) (fun h => by cases h)
        · simp only [wpOp, List.getElem?_toArray, List.getElem?_cons_succ, List.getElem?_cons_zero, Region.wanted, if_true]
          refine Or.inl ?_
          have e0 : av.tmps.getD 27 undef = .string ⟨x_.toArray⟩ := (hw 5 (by kernel_rfl))
          have e0e : av.eval (.tmp 27) = .string ⟨x_.toArray⟩ := e0
          have e0g : av.tmps[27]?.getD undef = .string ⟨x_.toArray⟩ := by have := e0; simp only [Array.getD_eq_getD_getElem?] at this; exact this
          clear hw hF
          simp only [Oper.wp, execOp]
          try simp only [e0e]
          go_simp
          refine (RK.out x).mono ?_
          rintro e x' ⟨rfl, hx⟩
          exact hK _ x' rfl hx (fun h => by cases h)
        · simp only [wpOp, List.getElem?_toArray, List.getElem?_cons_succ, List.getElem?_cons_zero, Region.wanted, if_true]
          refine Or.inl ?_
          have e0 : av.tmps.getD 22 undef = .string dd := (hw 0 (by kernel_rfl))
          have e0e : av.eval (.tmp 22) = .string dd := e0
          have e0g : av.tmps[22]?.getD undef = .string dd := by have := e0; simp only [Array.getD_eq_getD_getElem?] at this; exact this
          have e1 : av.tmps.getD 28 undef = .string d4 := (hw 6 (by kernel_rfl))
          have e1e : av.eval (.tmp 28) = .string d4 := e1
          have e1g : av.tmps[28]?.getD undef = .string d4 := by have := e1; simp only [Array.getD_eq_getD_getElem?] at this; exact this
          have oo := OO.out.1
          have ss := SZ.out.1
          clear hw hF
          simp only [Oper.wp, execOp]
          try simp only [e0e, e1e]
          go_simp
          exact hK _ x (by first | rfl | (simp only [Nat.add_zero]; done) | (congr 1; omega)) (Below.refl _ _) (fun h => by cases h)
        · simp only [wpOp, List.getElem?_toArray, List.getElem?_cons_succ, List.getElem?_cons_zero, Region.wanted, if_true]
          refine Or.inl ?_
          have e0 : av.tmps.getD 1 undef = .pointer (some ⟨w.heap.size, 0, none⟩) := hF.2.2 1 (by decide)
          have e0e : av.eval (.tmp 1) = .pointer (some ⟨w.heap.size, 0, none⟩) := e0
          have e0g : av.tmps[1]?.getD undef = .pointer (some ⟨w.heap.size, 0, none⟩) := by have := e0; simp only [Array.getD_eq_getD_getElem?] at this; exact this
          clear hw hF
          simp only [Oper.wp, execOp]
          try simp only [e0e]
          go_simp
          exact hK _ x (by first | rfl | (simp only [Nat.add_zero]; done) | (congr 1; omega)) (Below.refl _ _) (fun h => by cases h)
        · simp only [wpOp, List.getElem?_toArray, List.getElem?_cons_succ, List.getElem?_cons_zero, Region.wanted, if_true]
          refine Or.inl ?_
          have e0 : av.tmps.getD 30 undef = .pointer (some ⟨w.heap.size, 2, none⟩) := (hw 8 (by kernel_rfl))
          have e0e : av.eval (.tmp 30) = .pointer (some ⟨w.heap.size, 2, none⟩) := e0
          have e0g : av.tmps[30]?.getD undef = .pointer (some ⟨w.heap.size, 2, none⟩) := by have := e0; simp only [Array.getD_eq_getD_getElem?] at this; exact this
          obtain ⟨f1, f2⟩ := FW.out x hb'
          clear hw hF
          simp only [Oper.wp, execOp]
          try simp only [e0e]
          go_simp
          exact hK _ x (by first | rfl | (simp only [Nat.add_zero]; done) | (congr 1; omega)) (Below.refl _ _) (fun h => by cases h)
        · simp only [wpOp, List.getElem?_toArray, List.getElem?_cons_succ, List.getElem?_cons_zero, Region.wanted, if_true]
          refine Or.inl ?_
          have e0 : av.tmps.getD 6 undef = .int .i64 (k : Int) := hF.2.2 6 (by decide)
          have e0e : av.eval (.tmp 6) = .int .i64 (k : Int) := e0
          have e0g : av.tmps[6]?.getD undef = .int .i64 (k : Int) := by have := e0; simp only [Array.getD_eq_getD_getElem?] at this; exact this
          clear hw hF
          simp only [Oper.wp, execOp]
          try simp only [e0e]
          go_simp
          exact hK _ x (by first | rfl | (simp only [Nat.add_zero]; done) | (congr 1; omega)) (Below.refl _ _) (fun h => by cases h)
        · simp only [wpOp, List.getElem?_toArray, List.getElem?_cons_succ, List.getElem?_cons_zero, Region.wanted, if_true]
          refine Or.inl ?_
          have e0 : av.tmps.getD 31 undef = .slice (some ⟨bd, od, none⟩) ds.length d := (hw 9 (by kernel_rfl))
          have e0e : av.eval (.tmp 31) = .slice (some ⟨bd, od, none⟩) ds.length d := e0
          have e0g : av.tmps[31]?.getD undef = .slice (some ⟨bd, od, none⟩) ds.length d := by have := e0; simp only [Array.getD_eq_getD_getElem?] at this; exact this
          have e1 : av.tmps.getD 32 undef = .int .i64 (k : Int) := (hw 10 (by kernel_rfl))
          have e1e : av.eval (.tmp 32) = .int .i64 (k : Int) := e1
          have e1g : av.tmps[32]?.getD undef = .int .i64 (k : Int) := by have := e1; simp only [Array.getD_eq_getD_getElem?] at this; exact this
          clear hw hF
          simp only [Oper.wp, execOp]
          try simp only [e0e, e1e]
          go_simp
          exact hK _ x (by first | rfl | (simp only [Nat.add_zero]; done) | (congr 1; omega)) (Below.refl _ _) (fun h => by cases h)
        · simp only [wpOp, List.getElem?_toArray, List.getElem?_cons_succ, List.getElem?_cons_zero, Region.wanted, if_true]
          refine Or.inl ?_
          have e0 : av.tmps.getD 33 undef = .pointer (some ⟨bd, od + k, none⟩) := (hw 11 (by kernel_rfl))
          have e0e : av.eval (.tmp 33) = .pointer (some ⟨bd, od + k, none⟩) := e0
          have e0g : av.tmps[33]?.getD undef = .pointer (some ⟨bd, od + k, none⟩) := by have := e0; simp only [Array.getD_eq_getD_getElem?] at this; exact this
          have fc := CD.out x hb'
          clear hw hF
          simp only [Oper.wp, execOp]
          try simp only [e0e]
          go_simp
          exact hK _ x (by first | rfl | (simp only [Nat.add_zero]; done) | (congr 1; omega)) (Below.refl _ _) (fun h => by cases h)
        · simp only [wpOp, List.getElem?_toArray, List.getElem?_cons_succ, List.getElem?_cons_zero, Region.wanted, if_true]
          refine Or.inl ?_
          have e0 : av.tmps.getD 34 undef = .int .i64 (q : Int) := (hw 12 (by kernel_rfl))
          have e0e : av.eval (.tmp 34) = .int .i64 (q : Int) := e0
          have e0g : av.tmps[34]?.getD undef = .int .i64 (q : Int) := by have := e0; simp only [Array.getD_eq_getD_getElem?] at this; exact this
          clear hw hF
          simp only [Oper.wp, execOp]
          try simp only [e0e]
          go_simp
          refine (RQ.out x).mono ?_
          rintro e x' ⟨rfl, hx⟩
          exact hK _ x' rfl hx (fun h => by cases h)
        · simp only [wpOp, List.getElem?_toArray, List.getElem?_cons_succ, List.getElem?_cons_zero, Region.wanted, if_true]
          refine Or.inl ?_
          have e0 : av.tmps.getD 29 undef = .string da := (hw 7 (by kernel_rfl))
          have e0e : av.eval (.tmp 29) = .string da := e0
          have e0g : av.tmps[29]?.getD undef = .string da := by have := e0; simp only [Array.getD_eq_getD_getElem?] at this; exact this
          have e1 : av.tmps.getD 35 undef = .string d2 := (hw 13 (by kernel_rfl))
          have e1e : av.eval (.tmp 35) = .string d2 := e1
          have e1g : av.tmps[35]?.getD undef = .string d2 := by have := e1; simp only [Array.getD_eq_getD_getElem?] at this; exact this
          have oo := OO.out.2
          have ss := SZ.out.2
          clear hw hF
          simp only [Oper.wp, execOp]
          try simp only [e0e, e1e]
          go_simp
          exact hK _ x (by first | rfl | (simp only [Nat.add_zero]; done) | (congr 1; omega)) (Below.refl _ _) (fun h => by cases h)
      intro av x hF hb' hR _
      have e0 : av.tmps.getD 22 undef = .string dd := hR 0 (by decide)
      have e1 : av.tmps.getD 23 undef = .pointer (some ⟨w.heap.size, 1, none⟩) := hR 1 (by decide)
      have e2 : av.tmps.getD 24 undef = .slice (some ⟨bk, ok, none⟩) ks.length c := hR 2 (by decide)
      have e3 : av.tmps.getD 25 undef = .int .i64 (k : Int) := hR 3 (by decide)
      have e4 : av.tmps.getD 26 undef = .pointer (some ⟨bk, ok + k, none⟩) := hR 4 (by decide)
      have e5 : av.tmps.getD 27 undef = .string ⟨x_.toArray⟩ := hR 5 (by decide)
      have e6 : av.tmps.getD 28 undef = .string d4 := hR 6 (by decide)
      have e7 : av.tmps.getD 29 undef = .string da := hR 7 (by decide)
      have e8 : av.tmps.getD 30 undef = .pointer (some ⟨w.heap.size, 2, none⟩) := hR 8 (by decide)
      have e9 : av.tmps.getD 31 undef = .slice (some ⟨bd, od, none⟩) ds.length d := hR 9 (by decide)
      have e10 : av.tmps.getD 32 undef = .int .i64 (k : Int) := hR 10 (by decide)
      have e11 : av.tmps.getD 33 undef = .pointer (some ⟨bd, od + k, none⟩) := hR 11 (by decide)
      have e12 : av.tmps.getD 34 undef = .int .i64 (q : Int) := hR 12 (by decide)
      have e13 : av.tmps.getD 35 undef = .string d2 := hR 13 (by decide)
      have e14 : av.tmps.getD 36 undef = .string dz := hR 14 (by decide)
      rw [hF.fold (by kernel_rfl)]
      simp only [List.foldl_cons, List.foldl_nil, e0, e1, e2, e3, e4, e5, e6, e7, e8, e9, e10, e11, e12, e13, e14]
      simp only [Act.put, List.setIfInBounds_toArray, List.set_cons_zero, List.set_cons_succ]
      change wpOps _ _ _ [15] _ _
      simp only [wpOps_cons]
      clear e0 e1 e2 e3 e4 e5 e6 e7 e8 e9 e10 e11 e12 e13 e14 hR hF
      have BX9 := Lib.hid (hb.out.trans (hb'.mono hb.out.size))
      clear hb'
      try rw [wpOps_cons]
      simp only [wpOp, List.getElem?_toArray, List.getElem?_cons_succ, List.getElem?_cons_zero, Region.wanted, if_true]
      refine Or.inl ?_
      simp only [Oper.wp, execOp]
      go_simp
      try simp only [wpOps]
      have jw := JW.out
      go_wp2
      go_roundw
      case rel => exact ⟨k + 1, HLT.out, by rw [DZ.out], by go_num, BX9⟩
      case measure =>
        clear jw i0 i1 i2
        simp [intOf]
        have := HLT.out
        omega
    · obtain rfl : k = ks.length := by omega
      have k9 : decide (ks.length < ks.length) = false := decide_eq_false (Nat.lt_irrefl _)
      go_wp2
      go_ret2
      exact ⟨congrArg (fun z : List UInt8 => Ending.returned (.tuple #[.string ⟨z.toArray⟩, .bool true])) EN.out.symm, KW.out⟩
set_option maxHeartbeats 4000000 in
set_option maxRecDepth 100000 in
theorem renc_f (A : Option Addr) (c : Nat) (ks : List (List UInt8)) (B : Option Addr) (d : Nat) (ds : List Int) (w : World) (h : Rl sv w A c ks) (h2 : Rl nv w B d ds) (hr : rightB false ks ds = true) :
    Calls Try.prog 13 #[.agg #[.bool false, .slice A ks.length c, .slice B ds.length d]] w fun e w' => e = .returned (.tuple #[.string ⟨(encL false ks ds).toArray⟩, .bool true]) ∧ Below w.heap.size w w' := by
  have RF := Lib.hid (right_facts hr)
  have lk := RF.out.2.2.2.2.2.1
  have hds : ds.length = ks.length + 1 := by have := RF.out.1; simpa using this
  have RG := Lib.hid (fun V (hV : Below w.heap.size w V) => rright_any false A c ks B d ds V (h.below hV) (h2.below hV) (by omega) (by omega) (by have := RF.out.2.2.2.2.1; omega))
  rw [hr] at RG
  have H := Lib.hid h
  have H2 := Lib.hid h2
  have LK := Lib.hid (And.intro lk hds)
  have WL := Lib.hid (fun k => wrN_len (L0 := (0 :: b2 (ds[0]?.getD 0))) (es := ds.drop 1) (k := k) (fun x hx => (RF.out.2.1 x hx).2) lk)
  have XL := Lib.hid (fun x hx => (RF.out.2.1 x hx).2)
  have DQ := Lib.hid (fun q hq => RF.out.2.2.1 q hq)
  obtain ⟨d0, hd0⟩ := get_lt (xs := ds) (k := 0) (by omega)
  have hq0 := DQ.out d0 (List.mem_of_getElem? hd0)
  obtain ⟨q0, rfl⟩ := Int.eq_ofNat_of_zero_le (show 0 ≤ d0 by omega)
  have he0 : ds[0]?.getD 0 = (q0 : Int) := by rw [hd0]; rfl
  rw [he0] at WL
  obtain ⟨es, hes⟩ : ∃ es, ds.drop 1 = es := ⟨_, rfl⟩
  have EA := Lib.hid (fun j q (hq : es[j]? = some q) => show ds[j + 1]? = some q by rw [← hes, List.getElem?_drop] at hq; rw [← hq]; congr 1; omega)
  have LE := Lib.hid (show es.length = ks.length by rw [← hes, List.length_drop]; omega)
  have EN := Lib.hid (show encL false ks ds = wrN (0 :: b2 (q0 : Int)) ks es ks.length by rw [wrN_end LE.out]; unfold encL; rw [he0, hes]; rfl)
  rw [hes] at WL
  obtain ⟨bd0, od0, hB, hbd, c5⟩ := h2.cell hd0
  have KC := Lib.hid (fun V (hV : Below w.heap.size w V) => (hV.cell (p := ⟨bd0, od0 + 0, none⟩) hbd).trans c5)
  have pd : (0 : Int) < (ds.length : Int) := by omega
  subst hB
  clear hd0 hq0 he0 hes c5
  clear h h2 hr lk hds
  go_enter Try.func13, Try.ntmps13
  go_wp2_with fail
  obtain ⟨W, hW⟩ : ∃ W : World, W = w.alloc (.cells #[.bool false, .slice A ks.length c, .slice (some ⟨bd0, od0, none⟩) ds.length d] 33) := ⟨_, rfl⟩
  have RW := Lib.hid (show W.heap[w.heap.size]? = some (.cells #[.bool false, .slice A ks.length c, .slice (some ⟨bd0, od0, none⟩) ds.length d] 33 (0, 0)) by rw [hW]; exact heap_alloc_new _ _)
  have BW := Lib.hid (show Below w.heap.size w W by rw [hW]; exact bda _ _)
  rw [← hW]
  clear hW
  refine (RG.out _ BW.out).mono ?_
  rintro e w2 ⟨rfl, hb⟩
  have R2 := Lib.hid (row_on RW.out hb)
  have K2 := Lib.hid (BW.out.trans (hb.mono BW.out.size))
  clear hb RW BW RG
  have f0 := row_c R2.out (i := 0) rfl
  have f2 := row_c R2.out (i := 2) rfl
  have c5 := KC.out _ K2.out
  unfold nv at c5
  have hadd : (⟨#[0]⟩ : ByteArray) ++ ⟨(b2 (q0 : Int)).toArray⟩ = ⟨(0 :: b2 (q0 : Int)).toArray⟩ := app_b [0] _
  obtain ⟨dz, hdz⟩ : ∃ d : ByteArray, ⟨(0 :: b2 (q0 : Int)).toArray⟩ = d := ⟨_, rfl⟩
  obtain ⟨d2, hd2⟩ : ∃ d : ByteArray, ⟨(b2 (q0 : Int)).toArray⟩ = d := ⟨_, rfl⟩
  rw [hdz, hd2] at hadd
  have s2 : d2.size = 2 := by rw [← hd2]; rfl
  have s1 : ¬ 9223372036854775807 < (⟨#[0]⟩ : ByteArray).size + d2.size := by rw [s2]; decide
  have HDZ := Lib.hid hdz
  have RK := Lib.hid (rkid_any q0 w2)
  unfold sv at RK
  rw [hd2] at RK
  clear hdz hd2
  simp only [Nat.add_zero] at c5
  go_wp2_with fail
  refine RK.out.mono ?_
  rintro e w3 ⟨rfl, hb⟩
  have R3 := Lib.hid (row_on R2.out hb)
  have K3 := Lib.hid (K2.out.trans (hb.mono K2.out.size))
  clear hb f0 f2 c5 R2 K2 RK pd
  have R2 := R3
  have K2 := K3
  clear R3 K3
  go_wp2_with fail
  clear hadd s1 s2
  go_loopw [7, 8] (fun s i wr => ∃ k : Nat, k ≤ ks.length ∧ s = .string ⟨(wrN (0 :: b2 (q0 : Int)) ks es k).toArray⟩ ∧ i = .int .i64 k ∧ Hid (Below w3.heap.size w3 wr)) (fun _ i _ => ks.length - (intOf i).toNat)
  case atStart => exact ⟨0, Nat.zero_le _, by rw [← HDZ.out]; simp [wrN], rfl, Lib.hid (Below.refl _ _)⟩
  case round =>
    obtain ⟨k, hk, rfl, rfl, hb⟩ := hrel
    have f1 := row_c (row_on R2.out hb.out) (i := 1) rfl
    have KW := Lib.hid (K2.out.trans (hb.out.mono K2.out.size))
    by_cases hlt : k < ks.length
    · obtain ⟨x_, hx⟩ := get_lt hlt
      obtain ⟨q_, hq⟩ := get_lt (xs := es) (k := k) (by rw [LE.out]; exact hlt)
      have hq1 := DQ.out q_ (List.mem_of_getElem? (EA.out _ _ hq))
      obtain ⟨q, rfl⟩ := Int.eq_ofNat_of_zero_le (show 0 ≤ q_ by omega)
      have hx16 := XL.out x_ (List.mem_of_getElem? hx)
      have WS := Lib.hid (wrN_succ (L0 := (0 :: b2 (q0 : Int))) hx hq)
      obtain ⟨bk, ok, hA, hbk, c4⟩ := (H.out.below KW.out).cell hx
      obtain ⟨bd, od, hB, hbd, c5⟩ := (H2.out.below KW.out).cell (EA.out _ _ hq)
      subst hA
      injection hB with hB; injection hB with hB1 hB2; subst hB1 hB2
      unfold sv at c4
      unfold nv at c5
      have HLT := Lib.hid hlt
      obtain ⟨dd, hdd⟩ : ∃ d : ByteArray, d = ⟨(wrN (0 :: b2 (q0 : Int)) ks es k).toArray⟩ := ⟨_, rfl⟩
      obtain ⟨d4, hd4⟩ : ∃ d : ByteArray, d = ⟨(UInt8.ofNat x_.length :: x_).toArray⟩ := ⟨_, rfl⟩
      obtain ⟨d2, hd2⟩ : ∃ d : ByteArray, d = ⟨(b2 (q : Int)).toArray⟩ := ⟨_, rfl⟩
      obtain ⟨da, hda⟩ : ∃ z : ByteArray, dd ++ d4 = z := ⟨_, rfl⟩
      obtain ⟨dz, hdz⟩ : ∃ z : ByteArray, da ++ d2 = z := ⟨_, rfl⟩
      have s1 : dd.size ≤ 2400 := by rw [hdd, str_size]; have := WL.out k; simp only [List.length_cons, List.length_nil, b2_len] at this; omega
      have s2 : d4.size ≤ 17 := by rw [hd4, str_size]; simp only [List.length_cons]; omega
      have s3 : d2.size = 2 := by rw [hd2, str_size, b2_len]
      have s4 : da.size ≤ 2417 := by rw [← hda, ByteArray.size_append]; omega
      have OO := Lib.hid (And.intro hda hdz)
      have SZ := Lib.hid (show (¬ 9223372036854775807 < dd.size + d4.size) ∧ ¬ 9223372036854775807 < da.size + d2.size from ⟨by omega, by omega⟩)
      have DZ := Lib.hid (show dz = ⟨(wrN (0 :: b2 (q0 : Int)) ks es (k + 1)).toArray⟩ by rw [WS.out, ← hdz, ← hda, hdd, hd4, hd2, app_b, app_b])
      have RK := Lib.hid (fun V => rkey_any x_ V (by omega))
      have RQ := Lib.hid (fun V => rkid_any q V)
      unfold sv at RK RQ
      rw [← hd4] at RK
      rw [← hd2] at RQ
      rw [← hdd]
      clear s1 s2 s3 s4 hda hdz hdd hd4 hd2 hx hq hq1 hx16 WS
      have jw : IntKind.i64.wrap ((k : Int) + 1) = (k : Int) + 1 := IntWalk.i64_in _ (by have := LK.out; omega)
      have JW := Lib.hid jw
      have CK := Lib.hid (fun V (hV : Below wr.heap.size wr V) => (hV.cell (p := ⟨bk, ok + k, none⟩) hbk).trans c4)
      have CD := Lib.hid (fun V (hV : Below wr.heap.size wr V) => (hV.cell (p := ⟨bd0, od0 + (k + 1), none⟩) hbd).trans c5)
      have i0 : (0 : Int) ≤ (k : Int) := by omega
      have i1 : (k : Int) < (ks.length : Int) := by omega
      have i2 : (k : Int) + 1 < (ds.length : Int) := by have := LK.out; omega
      have FW := Lib.hid (fun V (hV : Below wr.heap.size wr V) => And.intro (row_c (row_on (row_on R2.out hb.out) hV) (i := 1) rfl) (row_c (row_on (row_on R2.out hb.out) hV) (i := 2) rfl))
      clear hlt hk c4 c5 hbk hbd
      go_upto_region 15 with (fail)
      clear f1 jw
      refine wp_operands (W := wr) rfl 16 [51, 52, 53, 54, 55, 56, 57, 58, 59, 60, 61, 62, 63, 64, 65, 66] (fun i u x => match i with | 0 => u = .string dd | 1 => u = .pointer (some ⟨w.heap.size, 1, none⟩) | 2 => u = .slice (some ⟨bk, ok, none⟩) ks.length c | 3 => u = .int .i64 (k : Int) | 4 => u = .pointer (some ⟨bk, ok + k, none⟩) | 5 => u = .string ⟨x_.toArray⟩ | 6 => u = .string d4 | 7 => u = .string da | 8 => u = .pointer (some ⟨w.heap.size, 2, none⟩) | 9 => u = .slice (some ⟨bd0, od0, none⟩) ds.length d | 10 => u = .int .i64 (k : Int) | 11 => u = .int .i64 ((k : Int) + 1) | 12 => u = .pointer (some ⟨bd0, od0 + (k + 1), none⟩) | 13 => u = .int .i64 (q : Int) | 14 => u = .string d2 | 15 => u = .string dz | _ => True) (fun _ => false)
        (by decide) rfl (by kernel_rfl) (by kernel_rfl) (by decide) (by kernel_rfl) ?_ (fun _ _ _ h => by cases h) ?_ ?_
      · intro i u x x' hi hR hb'
        have hi' : i = 0 ∨ i = 1 ∨ i = 2 ∨ i = 3 ∨ i = 4 ∨ i = 5 ∨ i = 6 ∨ i = 7 ∨ i = 8 ∨ i = 9 ∨ i = 10 ∨ i = 11 ∨ i = 12 ∨ i = 13 ∨ i = 14 ∨ i = 15 := by omega
        rcases hi' with rfl | rfl | rfl | rfl | rfl | rfl | rfl | rfl | rfl | rfl | rfl | rfl | rfl | rfl | rfl | rfl
        · exact hR
        · exact hR
        · exact hR
        · exact hR
        · exact hR
        · exact hR
        · exact hR
        · exact hR
        · exact hR
        · exact hR
        · exact hR
        · exact hR
        · exact hR
        · exact hR
        · exact hR
        · exact hR
      · intro i av x K hi hF hb' hw hK
        have hi' : i = 0 ∨ i = 1 ∨ i = 2 ∨ i = 3 ∨ i = 4 ∨ i = 5 ∨ i = 6 ∨ i = 7 ∨ i = 8 ∨ i = 9 ∨ i = 10 ∨ i = 11 ∨ i = 12 ∨ i = 13 ∨ i = 14 ∨ i = 15 := by omega
        rcases hi' with rfl | rfl | rfl | rfl | rfl | rfl | rfl | rfl | rfl | rfl | rfl | rfl | rfl | rfl | rfl | rfl
        · simp only [wpOp, List.getElem?_toArray, List.getElem?_cons_zero, Region.wanted, if_true]
          refine Or.inl ?_
          have e0 : av.tmps.getD 7 undef = .string dd := hF.2.2 7 (by decide)
          have e0e : av.eval (.tmp 7) = .string dd := e0
          have e0g : av.tmps[7]?.getD undef = .string dd := by have := e0; simp only [Array.getD_eq_getD_getElem?] at this; exact this
          clear hw hF
          simp only [Oper.wp, execOp]
          try simp only [e0e]
          go_simp
          exact hK _ x (by first | rfl | (simp only [Nat.add_zero]; done) | (congr 1; omega)) (Below.refl _ _) (fun h => by cases h)
        · simp only [wpOp, List.getElem?_toArray, List.getElem?_cons_succ, List.getElem?_cons_zero, Region.wanted, if_true]
          refine Or.inl ?_
          have e0 : av.tmps.getD 1 undef = .pointer (some ⟨w.heap.size, 0, none⟩) := hF.2.2 1 (by decide)
          have e0e : av.eval (.tmp 1) = .pointer (some ⟨w.heap.size, 0, none⟩) := e0
          have e0g : av.tmps[1]?.getD undef = .pointer (some ⟨w.heap.size, 0, none⟩) := by have := e0; simp only [Array.getD_eq_getD_getElem?] at this; exact this
          clear hw hF
          simp only [Oper.wp, execOp]
          try simp only [e0e]
          go_simp
          exact hK _ x (by first | rfl | (simp only [Nat.add_zero]; done) | (congr 1; omega)) (Below.refl _ _) (fun h => by cases h)
        · simp only [wpOp, List.getElem?_toArray, List.getElem?_cons_succ, List.getElem?_cons_zero, Region.wanted, if_true]
          refine Or.inl ?_
          have e0 : av.tmps.getD 52 undef = .pointer (some ⟨w.heap.size, 1, none⟩) := (hw 1 (by kernel_rfl))
          have e0e : av.eval (.tmp 52) = .pointer (some ⟨w.heap.size, 1, none⟩) := e0
          have e0g : av.tmps[52]?.getD undef = .pointer (some ⟨w.heap.size, 1, none⟩) := by have := e0; simp only [Array.getD_eq_getD_getElem?] at this; exact this
          obtain ⟨f1, f2⟩ := FW.out x hb'
          clear hw hF
          simp only [Oper.wp, execOp]
          try simp only [e0e]
          go_simp
          exact hK _ x (by first | rfl | (simp only [Nat.add_zero]; done) | (congr 1; omega)) (Below.refl _ _) (fun h => by cases h)
        · simp only [wpOp, List.getElem?_toArray, List.getElem?_cons_succ, List.getElem?_cons_zero, Region.wanted, if_true]
          refine Or.inl ?_
          have e0 : av.tmps.getD 8 undef = .int .i64 (k : Int) := hF.2.2 8 (by decide)
          have e0e : av.eval (.tmp 8) = .int .i64 (k : Int) := e0
          have e0g : av.tmps[8]?.getD undef = .int .i64 (k : Int) := by have := e0; simp only [Array.getD_eq_getD_getElem?] at this; exact this
          clear hw hF
          simp only [Oper.wp, execOp]
          try simp only [e0e]
          go_simp
          exact hK _ x (by first | rfl | (simp only [Nat.add_zero]; done) | (congr 1; omega)) (Below.refl _ _) (fun h => by cases h)
        · simp only [wpOp, List.getElem?_toArray, List.getElem?_cons_succ, List.getElem?_cons_zero, Region.wanted, if_true]
          refine Or.inl ?_
          have e0 : av.tmps.getD 53 undef = .slice (some ⟨bk, ok, none⟩) ks.length c := (hw 2 (by kernel_rfl))
          have e0e : av.eval (.tmp 53) = .slice (some ⟨bk, ok, none⟩) ks.length c := e0
          have e0g : av.tmps[53]?.getD undef = .slice (some ⟨bk, ok, none⟩) ks.length c := by have := e0; simp only [Array.getD_eq_getD_getElem?] at this; exact this
          have e1 : av.tmps.getD 54 undef = .int .i64 (k : Int) := (hw 3 (by kernel_rfl))
          have e1e : av.eval (.tmp 54) = .int .i64 (k : Int) := e1
          have e1g : av.tmps[54]?.getD undef = .int .i64 (k : Int) := by have := e1; simp only [Array.getD_eq_getD_getElem?] at this; exact this
          clear hw hF
          simp only [Oper.wp, execOp]
          try simp only [e0e, e1e]
          go_simp
          exact hK _ x (by first | rfl | (simp only [Nat.add_zero]; done) | (congr 1; omega)) (Below.refl _ _) (fun h => by cases h)
        · simp only [wpOp, List.getElem?_toArray, List.getElem?_cons_succ, List.getElem?_cons_zero, Region.wanted, if_true]
          refine Or.inl ?_
          have e0 : av.tmps.getD 55 undef = .pointer (some ⟨bk, ok + k, none⟩) := (hw 4 (by kernel_rfl))
          have e0e : av.eval (.tmp 55) = .pointer (some ⟨bk, ok + k, none⟩) := e0
          have e0g : av.tmps[55]?.getD undef = .pointer (some ⟨bk, ok + k, none⟩) := by have := e0; simp only [Array.getD_eq_getD_getElem?] at this; exact this
          have fc := CK.out x hb'
          clear hw hF
          simp only [Oper.wp, execOp]
          try simp only [e0e]
          go_simp
          exact hK _ x (by first | rfl | (simp only [Nat.add_zero]; done) | (congr 1; omega)) (Below.refl _ _) (fun h => by cases h)
        · simp only [wpOp, List.getElem?_toArray, List.getElem?_cons_succ, List.getElem?_cons_zero, Region.wanted, if_true]
          refine Or.inl ?_
          have e0 : av.tmps.getD 56 undef = .string ⟨x_.toArray⟩ := (hw 5 (by kernel_rfl))
          have e0e : av.eval (.tmp 56) = .string ⟨x_.toArray⟩ := e0
          have e0g : av.tmps[56]?.getD undef = .string ⟨x_.toArray⟩ := by have := e0; simp only [Array.getD_eq_getD_getElem?] at this; exact this
          clear hw hF
          simp only [Oper.wp, execOp]
          try simp only [e0e]
          go_simp
          refine (RK.out x).mono ?_
          rintro e x' ⟨rfl, hx⟩
          exact hK _ x' rfl hx (fun h => by cases h)
        · simp only [wpOp, List.getElem?_toArray, List.getElem?_cons_succ, List.getElem?_cons_zero, Region.wanted, if_true]
          refine Or.inl ?_
          have e0 : av.tmps.getD 51 undef = .string dd := (hw 0 (by kernel_rfl))
          have e0e : av.eval (.tmp 51) = .string dd := e0
          have e0g : av.tmps[51]?.getD undef = .string dd := by have := e0; simp only [Array.getD_eq_getD_getElem?] at this; exact this
          have e1 : av.tmps.getD 57 undef = .string d4 := (hw 6 (by kernel_rfl))
          have e1e : av.eval (.tmp 57) = .string d4 := e1
          have e1g : av.tmps[57]?.getD undef = .string d4 := by have := e1; simp only [Array.getD_eq_getD_getElem?] at this; exact this
          have oo := OO.out.1
          have ss := SZ.out.1
          clear hw hF
          simp only [Oper.wp, execOp]
          try simp only [e0e, e1e]
          go_simp
          exact hK _ x (by first | rfl | (simp only [Nat.add_zero]; done) | (congr 1; omega)) (Below.refl _ _) (fun h => by cases h)
        · simp only [wpOp, List.getElem?_toArray, List.getElem?_cons_succ, List.getElem?_cons_zero, Region.wanted, if_true]
          refine Or.inl ?_
          have e0 : av.tmps.getD 1 undef = .pointer (some ⟨w.heap.size, 0, none⟩) := hF.2.2 1 (by decide)
          have e0e : av.eval (.tmp 1) = .pointer (some ⟨w.heap.size, 0, none⟩) := e0
          have e0g : av.tmps[1]?.getD undef = .pointer (some ⟨w.heap.size, 0, none⟩) := by have := e0; simp only [Array.getD_eq_getD_getElem?] at this; exact this
          clear hw hF
          simp only [Oper.wp, execOp]
          try simp only [e0e]
          go_simp
          exact hK _ x (by first | rfl | (simp only [Nat.add_zero]; done) | (congr 1; omega)) (Below.refl _ _) (fun h => by cases h)
        · simp only [wpOp, List.getElem?_toArray, List.getElem?_cons_succ, List.getElem?_cons_zero, Region.wanted, if_true]
          refine Or.inl ?_
          have e0 : av.tmps.getD 59 undef = .pointer (some ⟨w.heap.size, 2, none⟩) := (hw 8 (by kernel_rfl))
          have e0e : av.eval (.tmp 59) = .pointer (some ⟨w.heap.size, 2, none⟩) := e0
          have e0g : av.tmps[59]?.getD undef = .pointer (some ⟨w.heap.size, 2, none⟩) := by have := e0; simp only [Array.getD_eq_getD_getElem?] at this; exact this
          obtain ⟨f1, f2⟩ := FW.out x hb'
          clear hw hF
          simp only [Oper.wp, execOp]
          try simp only [e0e]
          go_simp
          exact hK _ x (by first | rfl | (simp only [Nat.add_zero]; done) | (congr 1; omega)) (Below.refl _ _) (fun h => by cases h)
        · simp only [wpOp, List.getElem?_toArray, List.getElem?_cons_succ, List.getElem?_cons_zero, Region.wanted, if_true]
          refine Or.inl ?_
          have e0 : av.tmps.getD 8 undef = .int .i64 (k : Int) := hF.2.2 8 (by decide)
          have e0e : av.eval (.tmp 8) = .int .i64 (k : Int) := e0
          have e0g : av.tmps[8]?.getD undef = .int .i64 (k : Int) := by have := e0; simp only [Array.getD_eq_getD_getElem?] at this; exact this
          clear hw hF
          simp only [Oper.wp, execOp]
          try simp only [e0e]
          go_simp
          exact hK _ x (by first | rfl | (simp only [Nat.add_zero]; done) | (congr 1; omega)) (Below.refl _ _) (fun h => by cases h)
        · simp only [wpOp, List.getElem?_toArray, List.getElem?_cons_succ, List.getElem?_cons_zero, Region.wanted, if_true]
          refine Or.inl ?_
          have e0 : av.tmps.getD 61 undef = .int .i64 (k : Int) := (hw 10 (by kernel_rfl))
          have e0e : av.eval (.tmp 61) = .int .i64 (k : Int) := e0
          have e0g : av.tmps[61]?.getD undef = .int .i64 (k : Int) := by have := e0; simp only [Array.getD_eq_getD_getElem?] at this; exact this
          have jw := JW.out
          clear hw hF
          simp only [Oper.wp, execOp]
          try simp only [e0e]
          go_simp
          exact hK _ x (by first | rfl | (simp only [Nat.add_zero]; done) | (congr 1; omega)) (Below.refl _ _) (fun h => by cases h)
        · simp only [wpOp, List.getElem?_toArray, List.getElem?_cons_succ, List.getElem?_cons_zero, Region.wanted, if_true]
          refine Or.inl ?_
          have e0 : av.tmps.getD 60 undef = .slice (some ⟨bd0, od0, none⟩) ds.length d := (hw 9 (by kernel_rfl))
          have e0e : av.eval (.tmp 60) = .slice (some ⟨bd0, od0, none⟩) ds.length d := e0
          have e0g : av.tmps[60]?.getD undef = .slice (some ⟨bd0, od0, none⟩) ds.length d := by have := e0; simp only [Array.getD_eq_getD_getElem?] at this; exact this
          have e1 : av.tmps.getD 62 undef = .int .i64 ((k : Int) + 1) := (hw 11 (by kernel_rfl))
          have e1e : av.eval (.tmp 62) = .int .i64 ((k : Int) + 1) := e1
          have e1g : av.tmps[62]?.getD undef = .int .i64 ((k : Int) + 1) := by have := e1; simp only [Array.getD_eq_getD_getElem?] at this; exact this
          clear hw hF
          simp only [Oper.wp, execOp]
          try simp only [e0e, e1e]
          go_simp
          exact hK _ x (by first | rfl | (simp only [Nat.add_zero]; done) | (congr 1; omega)) (Below.refl _ _) (fun h => by cases h)
        · simp only [wpOp, List.getElem?_toArray, List.getElem?_cons_succ, List.getElem?_cons_zero, Region.wanted, if_true]
          refine Or.inl ?_
          have e0 : av.tmps.getD 63 undef = .pointer (some ⟨bd0, od0 + (k + 1), none⟩) := (hw 12 (by kernel_rfl))
          have e0e : av.eval (.tmp 63) = .pointer (some ⟨bd0, od0 + (k + 1), none⟩) := e0
          have e0g : av.tmps[63]?.getD undef = .pointer (some ⟨bd0, od0 + (k + 1), none⟩) := by have := e0; simp only [Array.getD_eq_getD_getElem?] at this; exact this
          have fc := CD.out x hb'
          clear hw hF
          simp only [Oper.wp, execOp]
          try simp only [e0e]
          go_simp
          exact hK _ x (by first | rfl | (simp only [Nat.add_zero]; done) | (congr 1; omega)) (Below.refl _ _) (fun h => by cases h)
        · simp only [wpOp, List.getElem?_toArray, List.getElem?_cons_succ, List.getElem?_cons_zero, Region.wanted, if_true]
          refine Or.inl ?_
          have e0 : av.tmps.getD 64 undef = .int .i64 (q : Int) := (hw 13 (by kernel_rfl))
          have e0e : av.eval (.tmp 64) = .int .i64 (q : Int) := e0
          have e0g : av.tmps[64]?.getD undef = .int .i64 (q : Int) := by have := e0; simp only [Array.getD_eq_getD_getElem?] at this; exact this
          clear hw hF
          simp only [Oper.wp, execOp]
          try simp only [e0e]
          go_simp
          refine (RQ.out x).mono ?_
          rintro e x' ⟨rfl, hx⟩
          exact hK _ x' rfl hx (fun h => by cases h)
        · simp only [wpOp, List.getElem?_toArray, List.getElem?_cons_succ, List.getElem?_cons_zero, Region.wanted, if_true]
          refine Or.inl ?_
          have e0 : av.tmps.getD 58 undef = .string da := (hw 7 (by kernel_rfl))
          have e0e : av.eval (.tmp 58) = .string da := e0
          have e0g : av.tmps[58]?.getD undef = .string da := by have := e0; simp only [Array.getD_eq_getD_getElem?] at this; exact this
          have e1 : av.tmps.getD 65 undef = .string d2 := (hw 14 (by kernel_rfl))
          have e1e : av.eval (.tmp 65) = .string d2 := e1
          have e1g : av.tmps[65]?.getD undef = .string d2 := by have := e1; simp only [Array.getD_eq_getD_getElem?] at this; exact this
          have oo := OO.out.2
          have ss := SZ.out.2
          clear hw hF
          simp only [Oper.wp, execOp]
          try simp only [e0e, e1e]
          go_simp
          exact hK _ x (by first | rfl | (simp only [Nat.add_zero]; done) | (congr 1; omega)) (Below.refl _ _) (fun h => by cases h)
      intro av x hF hb' hR _
      have e0 : av.tmps.getD 51 undef = .string dd := hR 0 (by decide)
      have e1 : av.tmps.getD 52 undef = .pointer (some ⟨w.heap.size, 1, none⟩) := hR 1 (by decide)
      have e2 : av.tmps.getD 53 undef = .slice (some ⟨bk, ok, none⟩) ks.length c := hR 2 (by decide)
      have e3 : av.tmps.getD 54 undef = .int .i64 (k : Int) := hR 3 (by decide)
      have e4 : av.tmps.getD 55 undef = .pointer (some ⟨bk, ok + k, none⟩) := hR 4 (by decide)
      have e5 : av.tmps.getD 56 undef = .string ⟨x_.toArray⟩ := hR 5 (by decide)
      have e6 : av.tmps.getD 57 undef = .string d4 := hR 6 (by decide)
      have e7 : av.tmps.getD 58 undef = .string da := hR 7 (by decide)
      have e8 : av.tmps.getD 59 undef = .pointer (some ⟨w.heap.size, 2, none⟩) := hR 8 (by decide)
      have e9 : av.tmps.getD 60 undef = .slice (some ⟨bd0, od0, none⟩) ds.length d := hR 9 (by decide)
      have e10 : av.tmps.getD 61 undef = .int .i64 (k : Int) := hR 10 (by decide)
      have e11 : av.tmps.getD 62 undef = .int .i64 ((k : Int) + 1) := hR 11 (by decide)
      have e12 : av.tmps.getD 63 undef = .pointer (some ⟨bd0, od0 + (k + 1), none⟩) := hR 12 (by decide)
      have e13 : av.tmps.getD 64 undef = .int .i64 (q : Int) := hR 13 (by decide)
      have e14 : av.tmps.getD 65 undef = .string d2 := hR 14 (by decide)
      have e15 : av.tmps.getD 66 undef = .string dz := hR 15 (by decide)
      rw [hF.fold (by kernel_rfl)]
      simp only [List.foldl_cons, List.foldl_nil, e0, e1, e2, e3, e4, e5, e6, e7, e8, e9, e10, e11, e12, e13, e14, e15]
      simp only [Act.put, List.setIfInBounds_toArray, List.set_cons_zero, List.set_cons_succ]
      change wpOps _ _ _ [16] _ _
      simp only [wpOps_cons]
      clear e0 e1 e2 e3 e4 e5 e6 e7 e8 e9 e10 e11 e12 e13 e14 e15 hR hF
      have BX9 := Lib.hid (hb.out.trans (hb'.mono hb.out.size))
      clear hb'
      try rw [wpOps_cons]
      simp only [wpOp, List.getElem?_toArray, List.getElem?_cons_succ, List.getElem?_cons_zero, Region.wanted, if_true]
      refine Or.inl ?_
      simp only [Oper.wp, execOp]
      go_simp
      try simp only [wpOps]
      have jw := JW.out
      go_wp2
      go_roundw
      case rel => exact ⟨k + 1, HLT.out, by rw [DZ.out], by go_num, BX9⟩
      case measure =>
        clear jw i0 i1 i2
        simp [intOf]
        have := HLT.out
        omega
    · obtain rfl : k = ks.length := by omega
      have k9 : decide (ks.length < ks.length) = false := decide_eq_false (Nat.lt_irrefl _)
      go_wp2
      go_ret2
      exact ⟨congrArg (fun z : List UInt8 => Ending.returned (.tuple #[.string ⟨z.toArray⟩, .bool true])) EN.out.symm, KW.out⟩
theorem rencode_yes (lf : Bool) (A : Option Addr) (c : Nat) (ks : List (List UInt8)) (B : Option Addr) (d : Nat) (ds : List Int) (w : World) (h : Rl sv w A c ks) (h2 : Rl nv w B d ds) (hr : rightB lf ks ds = true) :
    Calls Try.prog 13 #[.agg #[.bool lf, .slice A ks.length c, .slice B ds.length d]] w fun e w' => e = .returned (.tuple #[.string ⟨(encL lf ks ds).toArray⟩, .bool true]) ∧ Below w.heap.size w w' := by
  cases lf
  · exact renc_f A c ks B d ds w h h2 hr
  · exact renc_t A c ks B d ds w h h2 hr
end Go.Proofs.Ytkbdcbcjbgbglaa
