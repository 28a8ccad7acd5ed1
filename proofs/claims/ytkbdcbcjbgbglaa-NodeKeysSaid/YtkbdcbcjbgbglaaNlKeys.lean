/-
  astrolabelaw21.NodeKeys: keys that are put in, in whatever order, stand in theirs, each with the kid told last.
-/
import Derived.Test.YtkbdcbcjbgbglaaKa
namespace Go.Proofs.Ytkbdcbcjbgbglaa
open Go.RowKit
set_option linter.unusedVariables false
set_option linter.unusedSimpArgs false
open Go.Maps Go.WideMaps
theorem law_s : Keyed Try.prog 9 := string_keyed Try.underlying9
theorem key_str {x : List UInt8} (h : x.length ≤ 16) : keyOf Try.prog 9 (.string ⟨x.toArray⟩) = some (.string x) :=
  keyOf_string_mk Try.underlying9 (s := ⟨x.toArray⟩) (by rw [str_size]; unfold maxLen; omega)
theorem out_t (A : Option Addr) (c : Nat) (ks : List (List UInt8)) (B : Option Addr) (d : Nat) (ds : List Int) (p : Nat) (w : World) (h : Rl sv w A c ks) (h2 : Rl nv w B d ds) (hl : ks.length ≤ 12) (hd : ds.length = ks.length) (hp : p < ks.length) :
    Calls Try.prog 24 #[.agg #[.bool true, .slice A ks.length c, .slice B ds.length d], .int .i64 (p : Int)] w fun e w' => ∃ A' c' B' d', e = .returned (.agg #[.bool true, .slice A' (rmv p ks).length c', .slice B' (rmv p ds).length d']) ∧ Rl sv w' A' c' (rmv p ks) ∧ Rl nv w' B' d' (rmv p ds) ∧ Below w.heap.size w w' :=
  out_any true A c ks B d ds p w h h2 (by omega) (by unfold shapedB; simpa using hd) (by omega) (by omega)
set_option maxHeartbeats 8000000 in
set_option maxRecDepth 100000 in
theorem keys_any (A0 : Option Addr) (c0 : Nat) (l : List (List UInt8)) (key : List UInt8) (out : Int) (w : World) (h : Rl sv w A0 c0 l) (ho1 : -9223372036854775808 ≤ out) (ho2 : out ≤ 9223372036854775807) :
    Calls Try.prog 7 #[.slice A0 l.length c0, sv key, .int .i64 out] w fun e w' => e = .returned (.bool true) ∧ Below w.heap.size w w' := by
  obtain ⟨M, hM⟩ : ∃ M, min 12 l.length = M := ⟨_, rfl⟩
  have GF := Lib.hid (growM_facts l M)
  have GA := Lib.hid (fun V (hV : Below w.heap.size w V) => grow_any A0 c0 l V (h.below hV))
  rw [hM] at GA
  obtain ⟨p, hp⟩ : ∃ p, growM l M = p := ⟨_, rfl⟩
  rw [hp] at GA GF
  obtain ⟨ks, ds⟩ := p
  simp only at GA
  have lk : ks.length ≤ 12 := by have := GF.out.2.2.1; simp only at this; omega
  have LD := Lib.hid (show ds.length = ks.length from GF.out.2.1)
  have HSR := Lib.hid (show Srt ks from GF.out.1)
  have HP := Lib.hid hp
  have LK := Lib.hid lk
  have H := Lib.hid h
  have HO := Lib.hid (And.intro ho1 ho2)
  have HM := Lib.hid hM
  clear h hp GF ho1 ho2 hM lk
  unfold sv
  go_enter Try.func7, Try.ntmps7
  go_wp2_with fail
  refine (examples_any _).mono ?_
  rintro e w1 ⟨rfl, hb⟩
  have K1 := Lib.hid hb
  clear hb
  go_wp2_with fail
  refine (GA.out _ K1.out).mono ?_
  rintro e w2 ⟨A1, c1, B1, d1, rfl, hk, hd, hb⟩
  have K2 := Lib.hid (K1.out.trans (hb.mono K1.out.size))
  have V2 := Lib.hid (And.intro hk hd)
  clear hb hk hd K1 GA
  go_upto_region 6 with (fail)
  obtain ⟨V, hV⟩ : ∃ V : World, V = w2.alloc (.cells #[.bool true, .slice A1 ks.length c1, .slice B1 ds.length d1] 25) := ⟨_, rfl⟩
  obtain ⟨gn, hgn⟩ : ∃ g : Nat, w2.heap.size = g := ⟨_, rfl⟩
  have RN := Lib.hid (show V.heap[gn]? = some (.cells #[.bool true, .slice A1 ks.length c1, .slice B1 ds.length d1] 25 (0, 0)) by rw [← hgn, hV]; exact heap_alloc_new _ _)
  have BV := Lib.hid (show Below w2.heap.size w2 V by rw [hV]; exact bda _ _)
  have KN := Lib.hid (K2.out.trans (BV.out.mono K2.out.size))
  have VN := Lib.hid (And.intro (V2.out.1.below BV.out) (V2.out.2.below BV.out))
  rw [← hV, hgn]
  have HGN := Lib.hid hgn
  clear hV BV K2 V2 hgn
  have hmm := @run_makeMap Try.prog
  go_wp2_with fail
  clear hmm
  have OM := Lib.hid (World.ownsMap_made V Try.prog 9 (plainElem (H := Unit) Try.prog 4))
  have BM := Lib.hid (bda V (.map #[] 0))
  obtain ⟨X, hX⟩ : ∃ X : World, V.alloc (.map #[] 0) = X := ⟨_, rfl⟩
  rw [hX] at OM BM ⊢
  clear hX
  go_loopw [9, 11] (fun wv i wr => ∃ (k : Nat) (D : DataW Unit) (want : Int), k ≤ M ∧ wv = .int .i64 want ∧ i = .int .i64 k ∧ Hid (Kst l key k D want) ∧ Hid (wr.ownsMap Try.prog 9 (plainElem (H := Unit) Try.prog 4) V.heap.size k D) ∧ Hid (Below V.heap.size V wr)) (fun _ i _ => M - (intOf i).toNat)
  case atStart => exact ⟨0, .map [], -1, Nat.zero_le _, rfl, rfl, Lib.hid (Kst.zero l key), OM, BM⟩
  case round =>
    obtain ⟨k, D, want, hk, rfl, rfl, hs, hown, hb⟩ := hrel
    have KW := Lib.hid (KN.out.trans (hb.out.mono KN.out.size))
    go_upto_region 8 with (fail)
    go_cut [30] (fun v wx => v = .bool (decide (k < M)) ∧ wx = wr)
    case first =>
      have EX : (decide (k < l.length) = false ∧ decide ((k : Int) < (l.length : Int)) = false ∧ decide (k < M) = false) ∨ (decide (k < l.length) = true ∧ decide ((k : Int) < (l.length : Int)) = true ∧ decide ((k : Int) < 12) = false ∧ decide (k < 12) = false ∧ decide (k < M) = false) ∨ (decide (k < l.length) = true ∧ decide ((k : Int) < (l.length : Int)) = true ∧ decide ((k : Int) < 12) = true ∧ decide (k < 12) = true ∧ decide (k < M) = true) := by
        have hm := HM.out
        by_cases h1 : k < l.length
        · by_cases h2 : k < 12
          · exact .inr (.inr ⟨decide_eq_true h1, decide_eq_true (by omega), decide_eq_true (by omega), decide_eq_true h2, decide_eq_true (by omega)⟩)
          · exact .inr (.inl ⟨decide_eq_true h1, decide_eq_true (by omega), decide_eq_false (by omega), decide_eq_false h2, decide_eq_false (by omega)⟩)
        · exact .inl ⟨decide_eq_false h1, decide_eq_false (by omega), decide_eq_false (by omega)⟩
      rcases EX with ⟨x1, x2, x5⟩ | ⟨x1, x2, x3, x4, x5⟩ | ⟨x1, x2, x3, x4, x5⟩
      all_goals
        have X5 := Lib.hid x5
        clear x5
        go_wp2_with fail
        go_meet
        exact ⟨by rw [X5.out], rfl⟩
    case rest =>
    obtain ⟨rfl, hwc⟩ := hcut
    obtain rfl : wr = wc := hwc.symm
    by_cases hlt : k < M
    · have hkl : k < l.length := by have := HM.out; omega
      have hk12 : k < 12 := by have := HM.out; omega
      obtain ⟨x, hx⟩ := get_lt hkl
      obtain ⟨b0, off0, hA, hbl, g2⟩ := (H.out.below KW.out).cell hx
      have hb0 := Lib.hid (show b0 < w.heap.size by obtain ⟨b1, o1, e, hlt, _⟩ := H.out.cell hx; rw [hA] at e; injection e with e; injection e with e1 e2; omega)
      have HLT := Lib.hid hlt
      have HN12 := Lib.hid hk12
      have HX := Lib.hid hx
      have hsx := str_size x
      unfold sv at g2
      have kw : wrap64 ((k : Int) + 1) = (k : Int) + 1 := IntWalk.wrap64_in _ (by omega)
      have kw2 : IntKind.i64.wrap ((k : Int) + 1) = (k : Int) + 1 := IntWalk.i64_in _ (by omega)
      have k0 : (0 : Int) ≤ (k : Int) := by omega
      have k1 : (k : Int) < (l.length : Int) := by omega
      have k2 : decide (k < M) = true := decide_eq_true hlt
      rw [k2]
      clear k2
      subst hA
      clear hx hlt hk hkl hbl hk12
      generalize hX : x.length = n at *
      by_cases h1 : n < 1
      · have l1 : decide (n < 1) = true := decide_eq_true h1
        have l2 : decide ((n : Int) < 1) = true := decide_eq_true (by omega)
        have KS := Lib.hid (hs.out.no HX.out (by unfold nameOk; rw [hX]; simp; omega))
        clear h1 hX
        go_wp2
        have hk12 := HN12.out
        go_roundw
        case rel => exact ⟨k + 1, D, want, HLT.out, rfl, by go_num, Lib.hid (KS.out), Lib.hid (hown.out.mono (Nat.le_succ k)), hb⟩
        case measure => simp [intOf]; have := HLT.out; omega
      · by_cases h16 : 16 < n
        · have l1 : decide (n < 1) = false := decide_eq_false h1
          have l2 : decide ((n : Int) < 1) = false := decide_eq_false (by omega)
          have l3 : decide (16 < n) = true := decide_eq_true h16
          have l4 : decide ((16 : Int) < (n : Int)) = true := decide_eq_true (by omega)
          have KS := Lib.hid (hs.out.no HX.out (by unfold nameOk; rw [hX]; simp; omega))
          clear h1 h16 hX
          go_wp2
          have hk12 := HN12.out
          go_roundw
          case rel => exact ⟨k + 1, D, want, HLT.out, rfl, by go_num, Lib.hid (KS.out), Lib.hid (hown.out.mono (Nat.le_succ k)), hb⟩
          case measure => simp [intOf]; have := HLT.out; omega
        · have l1 : decide (n < 1) = false := decide_eq_false h1
          have l2 : decide ((n : Int) < 1) = false := decide_eq_false (by omega)
          have l3 : decide (16 < n) = false := decide_eq_false h16
          have l4 : decide ((16 : Int) < (n : Int)) = false := decide_eq_false (by omega)
          have hkey := Lib.hid (key_str (x := x) (by omega))
          have hnm := Lib.hid (show nameOk x = true by unfold nameOk; rw [hX]; simp; omega)
          clear h1 h16 hX
          go_wp2_with (at_mapUpdate; refine wpList_mapUpdate_own _ rfl _ _ _ 63 rfl 9 4 law_s Try.underlying63 (plainElem (H := Unit) Try.prog 4) V.heap.size k D rfl hown.out (by unfold maxLen; have := HN12.out; omega) _ _ _ rfl rfl hkey.out _ [] (plainElem_bool Try.underlying4 true) ?_)
          intro w9 hown9 hgrow9
          have g3 : w9.cell? ⟨b0, off0 + k, none⟩ = some (.string ⟨x.toArray⟩) := (cell_of_block (hgrow9.block b0 (by have := hb0.out; have := KW.out.size; omega) (by simp; have := hb0.out; have := KN.out.size; omega)) _).trans g2
          have hb9 := Lib.hid (show Below V.heap.size V w9 from hb.out.grown hgrow9 hb.out.size (fun j hj => by cases hj; exact Nat.le_refl _))
          have own9 := Lib.hid hown9
          clear hown9 hgrow9 g2
          by_cases hxk : x = key
          · have KS := Lib.hid (hs.out.yes (w2 := (k : Int) + 2) HX.out hnm.out (by rw [if_pos hxk]))
            have e1 : (x == key) = true := by rw [hxk]; exact beq_self_eq_true _
            have w1 : IntKind.i64.wrap ((k : Int) + 2) = (k : Int) + 2 := IntWalk.i64_in _ (by have := HN12.out; omega)
            clear hxk
            go_wp2
            have hk12 := HN12.out
            go_roundw
            case rel => exact ⟨k + 1, _, _, HLT.out, rfl, by go_num, Lib.hid (KS.out), own9, hb9⟩
            case measure => simp [intOf]; have := HLT.out; omega
          · have KS := Lib.hid (hs.out.yes (w2 := want) HX.out hnm.out (by rw [if_neg hxk]))
            have e1 : (x == key) = false := by simpa using hxk
            clear hxk
            go_wp2
            have hk12 := HN12.out
            go_roundw
            case rel => exact ⟨k + 1, _, _, HLT.out, rfl, by go_num, Lib.hid (KS.out), own9, hb9⟩
            case measure => simp [intOf]; have := HLT.out; omega
    · obtain rfl : M = k := by omega
      have KS := hs
      have HL := fun ty => hown.out.len (t := 63) (e := 4) Try.underlying63 ty
      rw [KS.out.size, HP.out] at HL
      simp only at HL
      have WN := Lib.hid (show key ∉ ks → want = -1 by have := KS.out.wn; rw [HP.out] at this; exact this)
      have WY := Lib.hid (show ∀ p : Nat, ks[p]? = some key → ds[p]? = some want by have := KS.out.wy; rw [HP.out] at this; exact this)
      have RN2 := Lib.hid (row_on RN.out hb.out)
      have V2 := Lib.hid (And.intro (VN.out.1.below hb.out) (VN.out.2.below hb.out))
      have f0 := row_c RN2.out (i := 0) rfl
      have f1 := row_c RN2.out (i := 1) rfl
      have f2 := row_c RN2.out (i := 2) rfl
      have n1 : (ds.length != ks.length) = false := by rw [LD.out]; simp
      have n2 : ((ds.length : Int) != (ks.length : Int)) = false := by rw [LD.out]; simp
      have k2 : decide (M < M) = false := decide_eq_false (Nat.lt_irrefl _)
      rw [k2]
      clear k2 hlt hk hs hown KS
      go_wp2_with fail
      clear  HL n1 n2 f0 f1 f2
      obtain ⟨Y, hY⟩ : ∃ z, wr = z := ⟨_, rfl⟩
      rw [hY] at RN2 V2 KW ⊢
      clear hY hb
      go_loopw [12] (fun i w3 => ∃ k : Nat, 1 ≤ k ∧ i = .int .i64 k ∧ Hid (Below Y.heap.size Y w3)) (fun i _ => ks.length - (intOf i).toNat)
      case atStart => exact ⟨1, Nat.le_refl _, rfl, Lib.hid (Below.refl _ _)⟩
      case round =>
        obtain ⟨j, hj, rfl, hb⟩ := hrel
        have f1 := row_c (row_on RN2.out hb.out) (i := 1) rfl
        have K3 := Lib.hid (KW.out.trans (hb.out.mono KW.out.size))
        have R3 := Lib.hid (row_on RN2.out hb.out)
        have V3 := Lib.hid (And.intro (V2.out.1.below hb.out) (V2.out.2.below hb.out))
        have BYZ := hb
        clear hb
        obtain ⟨Z, hZ⟩ : ∃ z, wr = z := ⟨_, rfl⟩
        rw [hZ] at f1 K3 R3 V3 BYZ ⊢
        clear hZ
        by_cases hlt : j < ks.length
        · obtain ⟨j1, hj1⟩ : ∃ j1, j1 + 1 = j := ⟨j - 1, by omega⟩
          obtain ⟨kx, hx⟩ := get_lt (xs := ks) (k := j1) (by omega)
          obtain ⟨ky, hy⟩ := get_lt hlt
          have hxy := HSR.out j1 j kx ky (by omega) hx hy
          have LS := less_dec kx ky
          rw [decide_eq_true hxy] at LS
          have LS2 := less_dec ky kx
          rw [decide_eq_false (fun h => lt_ir _ (lt_tr hxy h))] at LS2
          have e9 : (kx == ky) = false := by simpa using (fun (e : kx = ky) => lt_ir ky (e ▸ hxy))
          obtain ⟨bm, om, hA, hbm, c4⟩ := V3.out.1.cell hx
          obtain ⟨bm', om', hA', _, c5⟩ := V3.out.1.cell hy
          rw [hA] at hA'
          injection hA' with hA'
          injection hA' with hA1 hA2
          subst hA1 hA2
          subst hA
          have CX := Lib.hid (fun V_ (K : Below Z.heap.size Z V_) => (K.cell (p := ⟨bm, om + j1, none⟩) hbm).trans c4)
          have CY := Lib.hid (fun V_ (K : Below Z.heap.size Z V_) => (K.cell (p := ⟨bm, om + j, none⟩) hbm).trans c5)
          have FN := Lib.hid (fun V_ (K : Below Z.heap.size Z V_) => row_c (row_on R3.out K) (i := 1) rfl)
          have m1 : IntKind.i64.wrap ((j : Int) - 1) = (j1 : Int) := by rw [IntWalk.i64_in _ (by have := LK.out; omega)]; omega
          have HLT := Lib.hid hlt
          have i0 : (0 : Int) ≤ (j1 : Int) := by omega
          have i1 : (j1 : Int) < (ks.length : Int) := by omega
          have i2 : (0 : Int) ≤ (j : Int) := by omega
          have i3 : (j : Int) < (ks.length : Int) := by omega
          have I := Lib.hid (And.intro i0 (And.intro i1 (And.intro i2 i3)))
          have J := Lib.hid (And.intro hj LS)
          have J2 := Lib.hid (And.intro LS2 e9)
          have jw : wrap64 ((j : Int) + 1) = (j : Int) + 1 := IntWalk.wrap64_in _ (by have := LK.out; omega)
          have jw2 : IntKind.i64.wrap ((j : Int) + 1) = (j : Int) + 1 := IntWalk.i64_in _ (by have := LK.out; omega)
          have JW := Lib.hid jw
          have JW2 := Lib.hid jw2
          clear jw2 hx hy hxy c4 c5 hj1 hj hbm jw
          go_upto_region 19 with (fail)
          clear hlt f1
          refine wp_operands (W := Z) rfl 12 [81, 82, 83, 84, 85, 86, 87, 88, 89, 90, 91, 92] (fun i u x => match i with | 0 => u = .pointer (some ⟨gn, 1, none⟩) | 1 => u = .slice (some ⟨bm, om, none⟩) ks.length c1 | 2 => u = .int .i64 (j : Int) | 3 => u = .int .i64 (j1 : Int) | 4 => u = .pointer (some ⟨bm, om + j1, none⟩) | 5 => u = .string ⟨kx.toArray⟩ | 6 => u = .pointer (some ⟨gn, 1, none⟩) | 7 => u = .slice (some ⟨bm, om, none⟩) ks.length c1 | 8 => u = .int .i64 (j : Int) | 9 => u = .pointer (some ⟨bm, om + j, none⟩) | 10 => u = .string ⟨ky.toArray⟩ | 11 => u = .bool false | _ => True) (fun _ => false)
            (by decide) rfl (by kernel_rfl) (by kernel_rfl) (by decide) (by kernel_rfl) ?_ (fun _ _ _ h => by cases h) ?_ ?_
          · intro i u x x' hi hR hb'
            have hi' : i = 0 ∨ i = 1 ∨ i = 2 ∨ i = 3 ∨ i = 4 ∨ i = 5 ∨ i = 6 ∨ i = 7 ∨ i = 8 ∨ i = 9 ∨ i = 10 ∨ i = 11 := by omega
            rcases hi' with rfl | rfl | rfl | rfl | rfl | rfl | rfl | rfl | rfl | rfl | rfl | rfl
            · exact hR
            · exact hR
            · exact hR
            · exact hR
            · exact hR
            · exact hR
            · exact hR
            · exact hR
            · exact hR
            · exact hR
            · exact hR
            · exact hR
          · intro i av x K hi hF hb' hw hK
            have hi' : i = 0 ∨ i = 1 ∨ i = 2 ∨ i = 3 ∨ i = 4 ∨ i = 5 ∨ i = 6 ∨ i = 7 ∨ i = 8 ∨ i = 9 ∨ i = 10 ∨ i = 11 := by omega
            rcases hi' with rfl | rfl | rfl | rfl | rfl | rfl | rfl | rfl | rfl | rfl | rfl | rfl
            · simp only [wpOp, List.getElem?_toArray, List.getElem?_cons_zero, Region.wanted, if_true]
              refine Or.inl ?_
              have e0 : av.tmps.getD 8 undef = .pointer (some ⟨gn, 0, none⟩) := hF.2.2 8 (by decide)
              have e0e : av.eval (.tmp 8) = .pointer (some ⟨gn, 0, none⟩) := e0
              have e0g : av.tmps[8]?.getD undef = .pointer (some ⟨gn, 0, none⟩) := by have := e0; simp only [Array.getD_eq_getD_getElem?] at this; exact this
              clear hw hF
              simp only [Oper.wp, execOp]
              try simp only [e0e]
              go_simp
              exact hK _ x (by first | rfl | (simp only [Nat.add_zero]; done) | (congr 1; omega)) (Below.refl _ _) (fun h => by cases h)
            · simp only [wpOp, List.getElem?_toArray, List.getElem?_cons_succ, List.getElem?_cons_zero, Region.wanted, if_true]
              refine Or.inl ?_
              have e0 : av.tmps.getD 81 undef = .pointer (some ⟨gn, 1, none⟩) := (hw 0 (by kernel_rfl))
              have e0e : av.eval (.tmp 81) = .pointer (some ⟨gn, 1, none⟩) := e0
              have e0g : av.tmps[81]?.getD undef = .pointer (some ⟨gn, 1, none⟩) := by have := e0; simp only [Array.getD_eq_getD_getElem?] at this; exact this
              have fn := FN.out x hb'
              clear hw hF
              simp only [Oper.wp, execOp]
              try simp only [e0e]
              go_simp
              exact hK _ x (by first | rfl | (simp only [Nat.add_zero]; done) | (congr 1; omega)) (Below.refl _ _) (fun h => by cases h)
            · simp only [wpOp, List.getElem?_toArray, List.getElem?_cons_succ, List.getElem?_cons_zero, Region.wanted, if_true]
              refine Or.inl ?_
              have e0 : av.tmps.getD 12 undef = .int .i64 (j : Int) := hF.2.2 12 (by decide)
              have e0e : av.eval (.tmp 12) = .int .i64 (j : Int) := e0
              have e0g : av.tmps[12]?.getD undef = .int .i64 (j : Int) := by have := e0; simp only [Array.getD_eq_getD_getElem?] at this; exact this
              clear hw hF
              simp only [Oper.wp, execOp]
              try simp only [e0e]
              go_simp
              exact hK _ x (by first | rfl | (simp only [Nat.add_zero]; done) | (congr 1; omega)) (Below.refl _ _) (fun h => by cases h)
            · simp only [wpOp, List.getElem?_toArray, List.getElem?_cons_succ, List.getElem?_cons_zero, Region.wanted, if_true]
              refine Or.inl ?_
              have e0 : av.tmps.getD 83 undef = .int .i64 (j : Int) := (hw 2 (by kernel_rfl))
              have e0e : av.eval (.tmp 83) = .int .i64 (j : Int) := e0
              have e0g : av.tmps[83]?.getD undef = .int .i64 (j : Int) := by have := e0; simp only [Array.getD_eq_getD_getElem?] at this; exact this
              clear hw hF
              simp only [Oper.wp, execOp]
              try simp only [e0e]
              go_simp
              exact hK _ x (by first | rfl | (simp only [Nat.add_zero]; done) | (congr 1; omega)) (Below.refl _ _) (fun h => by cases h)
            · simp only [wpOp, List.getElem?_toArray, List.getElem?_cons_succ, List.getElem?_cons_zero, Region.wanted, if_true]
              refine Or.inl ?_
              have e0 : av.tmps.getD 82 undef = .slice (some ⟨bm, om, none⟩) ks.length c1 := (hw 1 (by kernel_rfl))
              have e0e : av.eval (.tmp 82) = .slice (some ⟨bm, om, none⟩) ks.length c1 := e0
              have e0g : av.tmps[82]?.getD undef = .slice (some ⟨bm, om, none⟩) ks.length c1 := by have := e0; simp only [Array.getD_eq_getD_getElem?] at this; exact this
              have e1 : av.tmps.getD 84 undef = .int .i64 (j1 : Int) := (hw 3 (by kernel_rfl))
              have e1e : av.eval (.tmp 84) = .int .i64 (j1 : Int) := e1
              have e1g : av.tmps[84]?.getD undef = .int .i64 (j1 : Int) := by have := e1; simp only [Array.getD_eq_getD_getElem?] at this; exact this
              clear hw hF
              simp only [Oper.wp, execOp]
              try simp only [e0e, e1e]
              go_simp
              exact hK _ x (by first | rfl | (simp only [Nat.add_zero]; done) | (congr 1; omega)) (Below.refl _ _) (fun h => by cases h)
            · simp only [wpOp, List.getElem?_toArray, List.getElem?_cons_succ, List.getElem?_cons_zero, Region.wanted, if_true]
              refine Or.inl ?_
              have e0 : av.tmps.getD 85 undef = .pointer (some ⟨bm, om + j1, none⟩) := (hw 4 (by kernel_rfl))
              have e0e : av.eval (.tmp 85) = .pointer (some ⟨bm, om + j1, none⟩) := e0
              have e0g : av.tmps[85]?.getD undef = .pointer (some ⟨bm, om + j1, none⟩) := by have := e0; simp only [Array.getD_eq_getD_getElem?] at this; exact this
              have fc := CX.out x hb'
              clear hw hF
              simp only [Oper.wp, execOp]
              try simp only [e0e]
              go_simp
              exact hK _ x (by first | rfl | (simp only [Nat.add_zero]; done) | (congr 1; omega)) (Below.refl _ _) (fun h => by cases h)
            · simp only [wpOp, List.getElem?_toArray, List.getElem?_cons_succ, List.getElem?_cons_zero, Region.wanted, if_true]
              refine Or.inl ?_
              have e0 : av.tmps.getD 8 undef = .pointer (some ⟨gn, 0, none⟩) := hF.2.2 8 (by decide)
              have e0e : av.eval (.tmp 8) = .pointer (some ⟨gn, 0, none⟩) := e0
              have e0g : av.tmps[8]?.getD undef = .pointer (some ⟨gn, 0, none⟩) := by have := e0; simp only [Array.getD_eq_getD_getElem?] at this; exact this
              clear hw hF
              simp only [Oper.wp, execOp]
              try simp only [e0e]
              go_simp
              exact hK _ x (by first | rfl | (simp only [Nat.add_zero]; done) | (congr 1; omega)) (Below.refl _ _) (fun h => by cases h)
            · simp only [wpOp, List.getElem?_toArray, List.getElem?_cons_succ, List.getElem?_cons_zero, Region.wanted, if_true]
              refine Or.inl ?_
              have e0 : av.tmps.getD 87 undef = .pointer (some ⟨gn, 1, none⟩) := (hw 6 (by kernel_rfl))
              have e0e : av.eval (.tmp 87) = .pointer (some ⟨gn, 1, none⟩) := e0
              have e0g : av.tmps[87]?.getD undef = .pointer (some ⟨gn, 1, none⟩) := by have := e0; simp only [Array.getD_eq_getD_getElem?] at this; exact this
              have fn := FN.out x hb'
              clear hw hF
              simp only [Oper.wp, execOp]
              try simp only [e0e]
              go_simp
              exact hK _ x (by first | rfl | (simp only [Nat.add_zero]; done) | (congr 1; omega)) (Below.refl _ _) (fun h => by cases h)
            · simp only [wpOp, List.getElem?_toArray, List.getElem?_cons_succ, List.getElem?_cons_zero, Region.wanted, if_true]
              refine Or.inl ?_
              have e0 : av.tmps.getD 12 undef = .int .i64 (j : Int) := hF.2.2 12 (by decide)
              have e0e : av.eval (.tmp 12) = .int .i64 (j : Int) := e0
              have e0g : av.tmps[12]?.getD undef = .int .i64 (j : Int) := by have := e0; simp only [Array.getD_eq_getD_getElem?] at this; exact this
              clear hw hF
              simp only [Oper.wp, execOp]
              try simp only [e0e]
              go_simp
              exact hK _ x (by first | rfl | (simp only [Nat.add_zero]; done) | (congr 1; omega)) (Below.refl _ _) (fun h => by cases h)
            · simp only [wpOp, List.getElem?_toArray, List.getElem?_cons_succ, List.getElem?_cons_zero, Region.wanted, if_true]
              refine Or.inl ?_
              have e0 : av.tmps.getD 88 undef = .slice (some ⟨bm, om, none⟩) ks.length c1 := (hw 7 (by kernel_rfl))
              have e0e : av.eval (.tmp 88) = .slice (some ⟨bm, om, none⟩) ks.length c1 := e0
              have e0g : av.tmps[88]?.getD undef = .slice (some ⟨bm, om, none⟩) ks.length c1 := by have := e0; simp only [Array.getD_eq_getD_getElem?] at this; exact this
              have e1 : av.tmps.getD 89 undef = .int .i64 (j : Int) := (hw 8 (by kernel_rfl))
              have e1e : av.eval (.tmp 89) = .int .i64 (j : Int) := e1
              have e1g : av.tmps[89]?.getD undef = .int .i64 (j : Int) := by have := e1; simp only [Array.getD_eq_getD_getElem?] at this; exact this
              clear hw hF
              simp only [Oper.wp, execOp]
              try simp only [e0e, e1e]
              go_simp
              exact hK _ x (by first | rfl | (simp only [Nat.add_zero]; done) | (congr 1; omega)) (Below.refl _ _) (fun h => by cases h)
            · simp only [wpOp, List.getElem?_toArray, List.getElem?_cons_succ, List.getElem?_cons_zero, Region.wanted, if_true]
              refine Or.inl ?_
              have e0 : av.tmps.getD 90 undef = .pointer (some ⟨bm, om + j, none⟩) := (hw 9 (by kernel_rfl))
              have e0e : av.eval (.tmp 90) = .pointer (some ⟨bm, om + j, none⟩) := e0
              have e0g : av.tmps[90]?.getD undef = .pointer (some ⟨bm, om + j, none⟩) := by have := e0; simp only [Array.getD_eq_getD_getElem?] at this; exact this
              have fc := CY.out x hb'
              clear hw hF
              simp only [Oper.wp, execOp]
              try simp only [e0e]
              go_simp
              exact hK _ x (by first | rfl | (simp only [Nat.add_zero]; done) | (congr 1; omega)) (Below.refl _ _) (fun h => by cases h)
            · simp only [wpOp, List.getElem?_toArray, List.getElem?_cons_succ, List.getElem?_cons_zero, Region.wanted, if_true]
              refine Or.inl ?_
              have e0 : av.tmps.getD 86 undef = .string ⟨kx.toArray⟩ := (hw 5 (by kernel_rfl))
              have e0e : av.eval (.tmp 86) = .string ⟨kx.toArray⟩ := e0
              have e0g : av.tmps[86]?.getD undef = .string ⟨kx.toArray⟩ := by have := e0; simp only [Array.getD_eq_getD_getElem?] at this; exact this
              have e1 : av.tmps.getD 91 undef = .string ⟨ky.toArray⟩ := (hw 10 (by kernel_rfl))
              have e1e : av.eval (.tmp 91) = .string ⟨ky.toArray⟩ := e1
              have e1g : av.tmps[91]?.getD undef = .string ⟨ky.toArray⟩ := by have := e1; simp only [Array.getD_eq_getD_getElem?] at this; exact this
              clear hw hF
              simp only [Oper.wp, execOp]
              try simp only [e0e, e1e]
              go_simp
              exact hK _ x (by first | rfl | (simp only [Nat.add_zero]; done) | (congr 1; omega)) (Below.refl _ _) (fun h => by cases h)
          intro av x hF hb' hR _
          have e0 : av.tmps.getD 81 undef = .pointer (some ⟨gn, 1, none⟩) := hR 0 (by decide)
          have e1 : av.tmps.getD 82 undef = .slice (some ⟨bm, om, none⟩) ks.length c1 := hR 1 (by decide)
          have e2 : av.tmps.getD 83 undef = .int .i64 (j : Int) := hR 2 (by decide)
          have e3 : av.tmps.getD 84 undef = .int .i64 (j1 : Int) := hR 3 (by decide)
          have e4 : av.tmps.getD 85 undef = .pointer (some ⟨bm, om + j1, none⟩) := hR 4 (by decide)
          have e5 : av.tmps.getD 86 undef = .string ⟨kx.toArray⟩ := hR 5 (by decide)
          have e6 : av.tmps.getD 87 undef = .pointer (some ⟨gn, 1, none⟩) := hR 6 (by decide)
          have e7 : av.tmps.getD 88 undef = .slice (some ⟨bm, om, none⟩) ks.length c1 := hR 7 (by decide)
          have e8 : av.tmps.getD 89 undef = .int .i64 (j : Int) := hR 8 (by decide)
          have e9 : av.tmps.getD 90 undef = .pointer (some ⟨bm, om + j, none⟩) := hR 9 (by decide)
          have e10 : av.tmps.getD 91 undef = .string ⟨ky.toArray⟩ := hR 10 (by decide)
          have e11 : av.tmps.getD 92 undef = .bool false := hR 11 (by decide)
          rw [hF.fold (by kernel_rfl)]
          simp only [List.foldl_cons, List.foldl_nil, e0, e1, e2, e3, e4, e5, e6, e7, e8, e9, e10, e11]
          simp only [Act.put, List.setIfInBounds_toArray, List.set_cons_zero, List.set_cons_succ]
          change wpOps _ _ _ [] _ _
          try simp only [wpOps_cons]
          clear e0 e1 e2 e3 e4 e5 e6 e7 e8 e9 e10 e11 hR hF
          have BX := Lib.hid hb'
          clear hb'
          try simp only [wpOps]
          have jw := JW.out
          have jw2 := JW2.out
          go_wp2
          go_roundw
          case rel => exact ⟨j + 1, by omega, by go_num, Lib.hid (BYZ.out.trans (BX.out.mono BYZ.out.size))⟩
          case measure =>
            try simp only [jw]
            clear jw jw2 m1 LS LS2 e9 i0 i1 i2 i3
            simp [intOf]
            have := HLT.out
            omega
        · have k9 : decide (j < ks.length) = false := decide_eq_false hlt
          have k8 : decide ((j : Int) < (ks.length : Int)) = false := decide_eq_false (by omega)
          have f0 := row_c R3.out (i := 0) rfl
          have f2 := row_c R3.out (i := 2) rfl
          clear hlt hj
          go_wp2_with fail
          clear k9 k8 f0 f1 f2
          refine (child_any true A1 c1 ks B1 d1 ds key _ V3.out.1 (by have := LK.out; omega)).mono ?_
          rintro e w4 ⟨r, rfl, hr, hb⟩
          obtain rfl := hr HSR.out
          have R4 := Lib.hid (row_on R3.out hb)
          have K4 := Lib.hid (K3.out.trans (hb.mono K3.out.size))
          have V4 := Lib.hid (And.intro (V3.out.1.below hb) (V3.out.2.below hb))
          clear hb R3 K3 V3 hr
          have f0 := row_c R4.out (i := 0) rfl
          have f1 := row_c R4.out (i := 1) rfl
          have f2 := row_c R4.out (i := 2) rfl
          obtain ⟨r0, hr0⟩ : ∃ r, childI true key ks = r := ⟨_, rfl⟩
          rw [hr0]
          have HR0 := Lib.hid hr0
          clear hr0
          go_upto_region 22 with (fail)
          clear f0 f1 f2
          obtain ⟨Zc, hZc⟩ : ∃ z, w4 = z := ⟨_, rfl⟩
          rw [hZc] at R4 K4 V4 ⊢
          clear hZc
          have f0 := row_c R4.out (i := 0) rfl
          have f1 := row_c R4.out (i := 1) rfl
          have f2 := row_c R4.out (i := 2) rfl
          go_cut [134] from 96 (fun v wx => v = .bool false ∧ wx = Zc)
          case first =>
            cases hbt : thereB key ks
            · have hw := WN.out (by have h9 := there_mem HSR.out (x := key); rw [hbt] at h9; exact of_decide_eq_false h9.symm)
              have hc : r0 = -1 := by rw [← HR0.out]; unfold childI; rw [hbt]; rfl
              subst hw
              clear HR0
              subst hc
              clear hbt WN WY
              have g1 : decide ((ks.length : Int) ≤ -1) = false := decide_eq_false (by omega)
              go_wp2_with fail
              go_meet
              exact ⟨rfl, rfl⟩
            · obtain ⟨p0, hp0⟩ : ∃ n, lbK key ks = n := ⟨_, rfl⟩
              have hk0 := there_spec.1 hbt
              rw [hp0] at hk0
              have hd0 := WY.out p0 hk0
              have hc : r0 = (p0 : Int) := by rw [← HR0.out]; unfold childI; rw [hbt, hp0]; rfl
              clear HR0
              subst hc
              have hpl := (List.getElem?_eq_some_iff.1 hk0).1
              obtain ⟨bk, ok, hA, hbk, c4⟩ := V4.out.1.cell hk0
              obtain ⟨bd, od, hB, hbd, c5⟩ := V4.out.2.cell hd0
              unfold sv at c4
              unfold nv at c5
              have HAB := Lib.hid (And.intro hA hB)
              clear hbt WN WY hp0 hk0 hd0 hbk hbd
              have g1 : decide ((ks.length : Int) ≤ (p0 : Int)) = false := decide_eq_false (by omega)
              have g2 : decide (ks.length ≤ p0) = false := decide_eq_false (by omega)
              have g3 : decide ((p0 : Int) < -1) = false := decide_eq_false (by omega)
              have g4 : decide ((0 : Int) ≤ (p0 : Int)) = true := decide_eq_true (by omega)
              have g5 : decide ((p0 : Int) < 0) = false := decide_eq_false (by omega)
              have g6 : (p0 : Int) < (ks.length : Int) := by omega
              have g7 : (0 : Int) ≤ (p0 : Int) := by omega
              have g8 : (p0 : Int) < (ds.length : Int) := by rw [LD.out]; omega
              rw [hA] at f1 V4 R4
              rw [hB] at f2 V4 R4
              clear hA hB hpl
              go_wp2_with fail
              go_meet
              exact ⟨rfl, rfl⟩
          case rest =>
            obtain ⟨rfl, hwc⟩ := hcut
            obtain rfl : Zc = wc := hwc.symm
            go_upto_region 24 with (fail)
            by_cases hz : ks.length = 0
            · have e0 : (ks.length == 0) = true := by simp [hz]
              have e1 : ((ks.length : Int) == 0) = true := by simp [hz]
              clear hz
              go_wp2
              go_ret
              exact ⟨rfl, K4.out⟩
            · have e0 : (ks.length == 0) = false := by simpa using hz
              have e1 : ((ks.length : Int) == 0) = false := by simp; intro h; exact hz (by simp [h])
              have NZ := Lib.hid (show 0 < ks.length by omega)
              have e2 : (ks.length : Int) ≠ 0 := by have := NZ.out; omega
              clear hz
              by_cases hneg : out < 0
              · obtain ⟨o1, ho1⟩ : ∃ o1 : Nat, (o1 : Int) = -(out + 1) := ⟨(-(out + 1)).toNat, by omega⟩
                have d1_ : decide (out < 0) = true := decide_eq_true hneg
                have d2_ : IntKind.i64.wrap (out + 1) = out + 1 := IntWalk.i64_in _ (by have := HO.out; omega)
                have d3_ : IntKind.i64.wrap (-(out + 1)) = (o1 : Int) := by rw [← ho1]; exact IntWalk.i64_in _ (by have := HO.out; omega)
                obtain ⟨p, hp⟩ : ∃ p, o1 % ks.length = p := ⟨_, rfl⟩
                have hpl : p < ks.length := by rw [← hp]; exact Nat.mod_lt _ NZ.out
                have m1 : (o1 : Int).tmod (ks.length : Int) = (p : Int) := by rw [Int.tmod_eq_emod_of_nonneg (by omega)]; omega
                have m2 : (o1 : Int) % (ks.length : Int) = (p : Int) := by omega
                have m3 : IntKind.i64.wrap (p : Int) = (p : Int) := IntWalk.i64_in _ (by have := LK.out; omega)
                have PL := Lib.hid hpl
                clear hneg hp hpl ho1
                go_wp2_with fail
                clear e0 e1 e2 d1_ d2_ d3_ m1 m2 m3
                refine (out_t A1 c1 ks B1 d1 ds p _ V4.out.1 V4.out.2 LK.out LD.out PL.out).mono ?_
                rintro e w5 ⟨A2, c2, B2, d2, rfl, h3, h4, hb⟩
                have R5 := Lib.hid (row_on R4.out hb)
                have K5 := Lib.hid (K4.out.trans (hb.mono K4.out.size))
                have V5 := Lib.hid (And.intro (V4.out.1.below hb) (V4.out.2.below hb))
                have W5 := Lib.hid (And.intro h3 h4)
                clear hb h3 h4 R4 K4 V4 f0 f1 f2
                obtain ⟨x0, hx0⟩ := get_lt (xs := ks) (k := p) PL.out
                obtain ⟨q0, hq0⟩ := get_lt (xs := ds) (k := p) (by rw [LD.out]; exact PL.out)
                obtain ⟨bk, ok, hA, hbk, c4⟩ := V5.out.1.cell hx0
                obtain ⟨bd, od, hB, hbd, c5⟩ := V5.out.2.cell hq0
                subst hA hB
                have LB := Lib.hid (rmv_lb HSR.out hx0)
                have PK := Lib.hid (rmv_putK HSR.out hx0)
                have PD := Lib.hid (rmv_putD HSR.out hx0 hq0)
                have SR := Lib.hid (rmv_srt HSR.out PL.out)
                have ML := Lib.hid (rmv_len (xs := ks) PL.out)
                have ML2 := Lib.hid (rmv_len (xs := ds) (p := p) (by rw [LD.out]; exact PL.out))
                generalize rmv p ks = ms at *
                generalize rmv p ds = es at *
                unfold sv at c4
                unfold nv at c5
                go_upto_region 30 with (fail)
                obtain ⟨X5, hX⟩ : ∃ V : World, V = w5.alloc (.cells #[.bool true, .slice A2 ms.length c2, .slice B2 es.length d2] 25) := ⟨_, rfl⟩
                obtain ⟨gm, hgm⟩ : ∃ g : Nat, w5.heap.size = g := ⟨_, rfl⟩
                have RM := Lib.hid (show X5.heap[gm]? = some (.cells #[.bool true, .slice A2 ms.length c2, .slice B2 es.length d2] 25 (0, 0)) by rw [← hgm, hX]; exact heap_alloc_new _ _)
                have BV := Lib.hid (show Below w5.heap.size w5 X5 by rw [hX]; exact bda _ _)
                rw [← hX]
                try rw [hgm]
                clear hX
                have R6 := Lib.hid (row_on R5.out BV.out)
                have K6 := Lib.hid (K5.out.trans (BV.out.mono K5.out.size))
                have V6 := Lib.hid (And.intro (V5.out.1.below BV.out) (V5.out.2.below BV.out))
                have W6 := Lib.hid (And.intro (W5.out.1.below BV.out) (W5.out.2.below BV.out))
                have C4 := Lib.hid (fun V_ (K : Below X5.heap.size X5 V_) => (K.cell (p := ⟨bk, ok + p, none⟩) (Nat.lt_of_lt_of_le hbk BV.out.size)).trans ((BV.out.cell (p := ⟨bk, ok + p, none⟩) hbk).trans c4))
                have C5 := Lib.hid (fun V_ (K : Below X5.heap.size X5 V_) => (K.cell (p := ⟨bd, od + p, none⟩) (Nat.lt_of_lt_of_le hbd BV.out.size)).trans ((BV.out.cell (p := ⟨bd, od + p, none⟩) hbd).trans c5))
                clear BV R5 K5 V5 W5 c4 c5 hbk hbd hx0 hq0
                have F6 := Lib.hid (fun V_ (K : Below X5.heap.size X5 V_) => And.intro (row_c (row_on R6.out K) (i := 0) rfl) (And.intro (row_c (row_on R6.out K) (i := 1) rfl) (row_c (row_on R6.out K) (i := 2) rfl)))
                have G6 := Lib.hid (fun V_ (K : Below X5.heap.size X5 V_) => And.intro (row_c (row_on RM.out K) (i := 0) rfl) (And.intro (row_c (row_on RM.out K) (i := 1) rfl) (row_c (row_on RM.out K) (i := 2) rfl)))
                have pi0 : (0 : Int) ≤ (p : Int) := by omega
                have pi1 : (p : Int) < (ks.length : Int) := by have := PL.out; omega
                have pi2 : (p : Int) < (ds.length : Int) := by rw [LD.out]; exact pi1
                refine wp_operands (W := X5) rfl 8 [153, 154, 155, 156, 157, 158, 159, 160] (fun i u x => match i with | 0 => u = .agg #[.bool true, .slice A2 ms.length c2, .slice B2 es.length d2] | 1 => u = .pointer (some ⟨gn, 1, none⟩) | 2 => u = .slice (some ⟨bk, ok, none⟩) ks.length c1 | 3 => u = .int .i64 (p : Int) | 4 => u = .pointer (some ⟨bk, ok + p, none⟩) | 5 => u = .string ⟨x0.toArray⟩ | 6 => u = .int .i64 (-1) | 7 => u = .bool true | _ => True) (fun _ => false)
                  (by decide) rfl (by kernel_rfl) (by kernel_rfl) (by decide) (by kernel_rfl) ?_ (fun _ _ _ h => by cases h) ?_ ?_
                · intro i u x x' hi hR hb'
                  have hi' : i = 0 ∨ i = 1 ∨ i = 2 ∨ i = 3 ∨ i = 4 ∨ i = 5 ∨ i = 6 ∨ i = 7 := by omega
                  rcases hi' with rfl | rfl | rfl | rfl | rfl | rfl | rfl | rfl
                  · exact hR
                  · exact hR
                  · exact hR
                  · exact hR
                  · exact hR
                  · exact hR
                  · exact hR
                  · exact hR
                · intro i av x K hi hF hb' hw hK
                  have hi' : i = 0 ∨ i = 1 ∨ i = 2 ∨ i = 3 ∨ i = 4 ∨ i = 5 ∨ i = 6 ∨ i = 7 := by omega
                  rcases hi' with rfl | rfl | rfl | rfl | rfl | rfl | rfl | rfl
                  · simp only [wpOp, List.getElem?_toArray, List.getElem?_cons_zero, Region.wanted, if_true]
                    refine Or.inl ?_
                    have e0 : av.tmps.getD 14 undef = .pointer (some ⟨gm, 0, none⟩) := hF.2.2 14 (by decide)
                    have e0e : av.eval (.tmp 14) = .pointer (some ⟨gm, 0, none⟩) := e0
                    have e0g : av.tmps[14]?.getD undef = .pointer (some ⟨gm, 0, none⟩) := by have := e0; simp only [Array.getD_eq_getD_getElem?] at this; exact this
                    obtain ⟨f0, f1, f2⟩ := G6.out x hb'
                    clear hw hF
                    simp only [Oper.wp, execOp]
                    try simp only [e0e]
                    go_simp
                    exact hK _ x (by first | rfl | (simp only [Nat.add_zero]; done) | (congr 1; omega)) (Below.refl _ _) (fun h => by cases h)
                  · simp only [wpOp, List.getElem?_toArray, List.getElem?_cons_succ, List.getElem?_cons_zero, Region.wanted, if_true]
                    refine Or.inl ?_
                    have e0 : av.tmps.getD 8 undef = .pointer (some ⟨gn, 0, none⟩) := hF.2.2 8 (by decide)
                    have e0e : av.eval (.tmp 8) = .pointer (some ⟨gn, 0, none⟩) := e0
                    have e0g : av.tmps[8]?.getD undef = .pointer (some ⟨gn, 0, none⟩) := by have := e0; simp only [Array.getD_eq_getD_getElem?] at this; exact this
                    clear hw hF
                    simp only [Oper.wp, execOp]
                    try simp only [e0e]
                    go_simp
                    exact hK _ x (by first | rfl | (simp only [Nat.add_zero]; done) | (congr 1; omega)) (Below.refl _ _) (fun h => by cases h)
                  · simp only [wpOp, List.getElem?_toArray, List.getElem?_cons_succ, List.getElem?_cons_zero, Region.wanted, if_true]
                    refine Or.inl ?_
                    have e0 : av.tmps.getD 154 undef = .pointer (some ⟨gn, 1, none⟩) := (hw 1 (by kernel_rfl))
                    have e0e : av.eval (.tmp 154) = .pointer (some ⟨gn, 1, none⟩) := e0
                    have e0g : av.tmps[154]?.getD undef = .pointer (some ⟨gn, 1, none⟩) := by have := e0; simp only [Array.getD_eq_getD_getElem?] at this; exact this
                    obtain ⟨f0, f1, f2⟩ := F6.out x hb'
                    clear hw hF
                    simp only [Oper.wp, execOp]
                    try simp only [e0e]
                    go_simp
                    exact hK _ x (by first | rfl | (simp only [Nat.add_zero]; done) | (congr 1; omega)) (Below.refl _ _) (fun h => by cases h)
                  · simp only [wpOp, List.getElem?_toArray, List.getElem?_cons_succ, List.getElem?_cons_zero, Region.wanted, if_true]
                    refine Or.inl ?_
                    have e0 : av.tmps.getD 2 undef = .int .i64 (p : Int) := hF.2.2 2 (by decide)
                    have e0e : av.eval (.tmp 2) = .int .i64 (p : Int) := e0
                    have e0g : av.tmps[2]?.getD undef = .int .i64 (p : Int) := by have := e0; simp only [Array.getD_eq_getD_getElem?] at this; exact this
                    clear hw hF
                    simp only [Oper.wp, execOp]
                    try simp only [e0e]
                    go_simp
                    exact hK _ x (by first | rfl | (simp only [Nat.add_zero]; done) | (congr 1; omega)) (Below.refl _ _) (fun h => by cases h)
                  · simp only [wpOp, List.getElem?_toArray, List.getElem?_cons_succ, List.getElem?_cons_zero, Region.wanted, if_true]
                    refine Or.inl ?_
                    have e0 : av.tmps.getD 155 undef = .slice (some ⟨bk, ok, none⟩) ks.length c1 := (hw 2 (by kernel_rfl))
                    have e0e : av.eval (.tmp 155) = .slice (some ⟨bk, ok, none⟩) ks.length c1 := e0
                    have e0g : av.tmps[155]?.getD undef = .slice (some ⟨bk, ok, none⟩) ks.length c1 := by have := e0; simp only [Array.getD_eq_getD_getElem?] at this; exact this
                    have e1 : av.tmps.getD 156 undef = .int .i64 (p : Int) := (hw 3 (by kernel_rfl))
                    have e1e : av.eval (.tmp 156) = .int .i64 (p : Int) := e1
                    have e1g : av.tmps[156]?.getD undef = .int .i64 (p : Int) := by have := e1; simp only [Array.getD_eq_getD_getElem?] at this; exact this
                    clear hw hF
                    simp only [Oper.wp, execOp]
                    try simp only [e0e, e1e]
                    go_simp
                    exact hK _ x (by first | rfl | (simp only [Nat.add_zero]; done) | (congr 1; omega)) (Below.refl _ _) (fun h => by cases h)
                  · simp only [wpOp, List.getElem?_toArray, List.getElem?_cons_succ, List.getElem?_cons_zero, Region.wanted, if_true]
                    refine Or.inl ?_
                    have e0 : av.tmps.getD 157 undef = .pointer (some ⟨bk, ok + p, none⟩) := (hw 4 (by kernel_rfl))
                    have e0e : av.eval (.tmp 157) = .pointer (some ⟨bk, ok + p, none⟩) := e0
                    have e0g : av.tmps[157]?.getD undef = .pointer (some ⟨bk, ok + p, none⟩) := by have := e0; simp only [Array.getD_eq_getD_getElem?] at this; exact this
                    have fc := C4.out x hb'
                    clear hw hF
                    simp only [Oper.wp, execOp]
                    try simp only [e0e]
                    go_simp
                    exact hK _ x (by first | rfl | (simp only [Nat.add_zero]; done) | (congr 1; omega)) (Below.refl _ _) (fun h => by cases h)
                  · simp only [wpOp, List.getElem?_toArray, List.getElem?_cons_succ, List.getElem?_cons_zero, Region.wanted, if_true]
                    refine Or.inl ?_
                    have e0 : av.tmps.getD 153 undef = .agg #[.bool true, .slice A2 ms.length c2, .slice B2 es.length d2] := (hw 0 (by kernel_rfl))
                    have e0e : av.eval (.tmp 153) = .agg #[.bool true, .slice A2 ms.length c2, .slice B2 es.length d2] := e0
                    have e0g : av.tmps[153]?.getD undef = .agg #[.bool true, .slice A2 ms.length c2, .slice B2 es.length d2] := by have := e0; simp only [Array.getD_eq_getD_getElem?] at this; exact this
                    have e1 : av.tmps.getD 158 undef = .string ⟨x0.toArray⟩ := (hw 5 (by kernel_rfl))
                    have e1e : av.eval (.tmp 158) = .string ⟨x0.toArray⟩ := e1
                    have e1g : av.tmps[158]?.getD undef = .string ⟨x0.toArray⟩ := by have := e1; simp only [Array.getD_eq_getD_getElem?] at this; exact this
                    clear hw hF
                    simp only [Oper.wp, execOp]
                    try simp only [e0e, e1e]
                    go_simp
                    refine (child_any true A2 c2 ms B2 d2 es x0 x (W6.out.1.below hb') (by have := LK.out; have := ML.out; omega)).mono ?_
                    rintro e x' ⟨r, rfl, hr, hx⟩
                    have hrr : r = -1 := by rw [hr SR.out]; unfold childI; rw [LB.out.2]; rfl
                    subst hrr
                    exact hK _ x' rfl hx (fun h => by cases h)
                  · simp only [wpOp, List.getElem?_toArray, List.getElem?_cons_succ, List.getElem?_cons_zero, Region.wanted, if_true]
                    refine Or.inl ?_
                    have e0 : av.tmps.getD 159 undef = .int .i64 (-1) := (hw 6 (by kernel_rfl))
                    have e0e : av.eval (.tmp 159) = .int .i64 (-1) := e0
                    have e0g : av.tmps[159]?.getD undef = .int .i64 (-1) := by have := e0; simp only [Array.getD_eq_getD_getElem?] at this; exact this
                    clear hw hF
                    simp only [Oper.wp, execOp]
                    try simp only [e0e]
                    go_simp
                    exact hK _ x (by first | rfl | (simp only [Nat.add_zero]; done) | (congr 1; omega)) (Below.refl _ _) (fun h => by cases h)
                intro av x hF hb' hR _
                have e0 : av.tmps.getD 153 undef = .agg #[.bool true, .slice A2 ms.length c2, .slice B2 es.length d2] := hR 0 (by decide)
                have e1 : av.tmps.getD 154 undef = .pointer (some ⟨gn, 1, none⟩) := hR 1 (by decide)
                have e2 : av.tmps.getD 155 undef = .slice (some ⟨bk, ok, none⟩) ks.length c1 := hR 2 (by decide)
                have e3 : av.tmps.getD 156 undef = .int .i64 (p : Int) := hR 3 (by decide)
                have e4 : av.tmps.getD 157 undef = .pointer (some ⟨bk, ok + p, none⟩) := hR 4 (by decide)
                have e5 : av.tmps.getD 158 undef = .string ⟨x0.toArray⟩ := hR 5 (by decide)
                have e6 : av.tmps.getD 159 undef = .int .i64 (-1) := hR 6 (by decide)
                have e7 : av.tmps.getD 160 undef = .bool true := hR 7 (by decide)
                rw [hF.fold (by kernel_rfl)]
                simp only [List.foldl_cons, List.foldl_nil, e0, e1, e2, e3, e4, e5, e6, e7]
                simp only [Act.put, List.setIfInBounds_toArray, List.set_cons_zero, List.set_cons_succ]
                change wpOps _ _ _ [8] _ _
                simp only [wpOps_cons]
                clear e0 e1 e2 e3 e4 e5 e6 e7 hR hF
                have R7 := Lib.hid (row_on R6.out hb')
                have RM7 := Lib.hid (row_on RM.out hb')
                have K7 := Lib.hid (K6.out.trans (hb'.mono K6.out.size))
                have V7 := Lib.hid (And.intro (V6.out.1.below hb') (V6.out.2.below hb'))
                have W7 := Lib.hid (And.intro (W6.out.1.below hb') (W6.out.2.below hb'))
                have C4b := Lib.hid (fun V_ (K : Below x.heap.size x V_) => C4.out V_ (hb'.trans (K.mono hb'.size)))
                have C5b := Lib.hid (fun V_ (K : Below x.heap.size x V_) => C5.out V_ (hb'.trans (K.mono hb'.size)))
                clear hb' R6 RM K6 V6 W6 F6 G6 C4 C5
                try rw [wpOps_cons]
                simp only [wpOp, List.getElem?_toArray, List.getElem?_cons_succ, List.getElem?_cons_zero, Region.wanted, if_true]
                refine Or.inl ?_
                simp only [Oper.wp, execOp]
                go_simp
                try simp only [wpOps]
                obtain ⟨Y5, hY5⟩ : ∃ z, x = z := ⟨_, rfl⟩
                rw [hY5] at R7 RM7 K7 V7 W7 C4b C5b ⊢
                clear hY5
                have F7 := Lib.hid (fun V_ (K : Below Y5.heap.size Y5 V_) => And.intro (row_c (row_on R7.out K) (i := 0) rfl) (And.intro (row_c (row_on R7.out K) (i := 1) rfl) (row_c (row_on R7.out K) (i := 2) rfl)))
                have G7 := Lib.hid (fun V_ (K : Below Y5.heap.size Y5 V_) => And.intro (row_c (row_on RM7.out K) (i := 0) rfl) (And.intro (row_c (row_on RM7.out K) (i := 1) rfl) (row_c (row_on RM7.out K) (i := 2) rfl)))
                go_upto_region 31 with (fail)
                refine wp_operands (W := Y5) rfl 15 [161, 162, 163, 164, 165, 166, 167, 168, 169, 170, 171, 172, 173, 174, 175] (fun i u x => match i with | 0 => u = .agg #[.bool true, .slice A2 ms.length c2, .slice B2 es.length d2] | 1 => u = .pointer (some ⟨gn, 1, none⟩) | 2 => u = .slice (some ⟨bk, ok, none⟩) ks.length c1 | 3 => u = .int .i64 (p : Int) | 4 => u = .pointer (some ⟨bk, ok + p, none⟩) | 5 => u = .string ⟨x0.toArray⟩ | 6 => u = .pointer (some ⟨gn, 2, none⟩) | 7 => u = .slice (some ⟨bd, od, none⟩) ds.length d1 | 8 => u = .int .i64 (p : Int) | 9 => u = .pointer (some ⟨bd, od + p, none⟩) | 10 => u = .int .i64 q0 | 11 => ∃ A0 c0 B0 d0, u = .agg #[.bool true, .slice A0 ks.length c0, .slice B0 ds.length d0] ∧ Rl sv x A0 c0 ks ∧ Rl nv x B0 d0 ds | 12 => u = .agg #[.bool true, .slice (some ⟨bk, ok, none⟩) ks.length c1, .slice (some ⟨bd, od, none⟩) ds.length d1] | 13 => u = .agg #[.bool true, .slice (some ⟨bk, ok, none⟩) ks.length c1, .slice (some ⟨bd, od, none⟩) ds.length d1] | 14 => u = .bool true | _ => True) (fun _ => false)
                  (by decide) rfl (by kernel_rfl) (by kernel_rfl) (by decide) (by kernel_rfl) ?_ (fun _ _ _ h => by cases h) ?_ ?_
                · intro i u x x' hi hR hb'
                  have hi' : i = 0 ∨ i = 1 ∨ i = 2 ∨ i = 3 ∨ i = 4 ∨ i = 5 ∨ i = 6 ∨ i = 7 ∨ i = 8 ∨ i = 9 ∨ i = 10 ∨ i = 11 ∨ i = 12 ∨ i = 13 ∨ i = 14 := by omega
                  rcases hi' with rfl | rfl | rfl | rfl | rfl | rfl | rfl | rfl | rfl | rfl | rfl | rfl | rfl | rfl | rfl
                  · exact hR
                  · exact hR
                  · exact hR
                  · exact hR
                  · exact hR
                  · exact hR
                  · exact hR
                  · exact hR
                  · exact hR
                  · exact hR
                  · exact hR
                  · obtain ⟨A0, c0, B0, d0, e, h1, h2⟩ := hR; exact ⟨A0, c0, B0, d0, e, h1.below hb', h2.below hb'⟩
                  · exact hR
                  · exact hR
                  · exact hR
                · intro i av x K hi hF hb' hw hK
                  have hi' : i = 0 ∨ i = 1 ∨ i = 2 ∨ i = 3 ∨ i = 4 ∨ i = 5 ∨ i = 6 ∨ i = 7 ∨ i = 8 ∨ i = 9 ∨ i = 10 ∨ i = 11 ∨ i = 12 ∨ i = 13 ∨ i = 14 := by omega
                  rcases hi' with rfl | rfl | rfl | rfl | rfl | rfl | rfl | rfl | rfl | rfl | rfl | rfl | rfl | rfl | rfl
                  · simp only [wpOp, List.getElem?_toArray, List.getElem?_cons_zero, Region.wanted, if_true]
                    refine Or.inl ?_
                    have e0 : av.tmps.getD 14 undef = .pointer (some ⟨gm, 0, none⟩) := hF.2.2 14 (by decide)
                    have e0e : av.eval (.tmp 14) = .pointer (some ⟨gm, 0, none⟩) := e0
                    have e0g : av.tmps[14]?.getD undef = .pointer (some ⟨gm, 0, none⟩) := by have := e0; simp only [Array.getD_eq_getD_getElem?] at this; exact this
                    obtain ⟨f0, f1, f2⟩ := G7.out x hb'
                    clear hw hF
                    simp only [Oper.wp, execOp]
                    try simp only [e0e]
                    go_simp
                    exact hK _ x (by first | rfl | (simp only [Nat.add_zero]; done) | (congr 1; omega)) (Below.refl _ _) (fun h => by cases h)
                  · simp only [wpOp, List.getElem?_toArray, List.getElem?_cons_succ, List.getElem?_cons_zero, Region.wanted, if_true]
                    refine Or.inl ?_
                    have e0 : av.tmps.getD 8 undef = .pointer (some ⟨gn, 0, none⟩) := hF.2.2 8 (by decide)
                    have e0e : av.eval (.tmp 8) = .pointer (some ⟨gn, 0, none⟩) := e0
                    have e0g : av.tmps[8]?.getD undef = .pointer (some ⟨gn, 0, none⟩) := by have := e0; simp only [Array.getD_eq_getD_getElem?] at this; exact this
                    clear hw hF
                    simp only [Oper.wp, execOp]
                    try simp only [e0e]
                    go_simp
                    exact hK _ x (by first | rfl | (simp only [Nat.add_zero]; done) | (congr 1; omega)) (Below.refl _ _) (fun h => by cases h)
                  · simp only [wpOp, List.getElem?_toArray, List.getElem?_cons_succ, List.getElem?_cons_zero, Region.wanted, if_true]
                    refine Or.inl ?_
                    have e0 : av.tmps.getD 162 undef = .pointer (some ⟨gn, 1, none⟩) := (hw 1 (by kernel_rfl))
                    have e0e : av.eval (.tmp 162) = .pointer (some ⟨gn, 1, none⟩) := e0
                    have e0g : av.tmps[162]?.getD undef = .pointer (some ⟨gn, 1, none⟩) := by have := e0; simp only [Array.getD_eq_getD_getElem?] at this; exact this
                    obtain ⟨f0, f1, f2⟩ := F7.out x hb'
                    clear hw hF
                    simp only [Oper.wp, execOp]
                    try simp only [e0e]
                    go_simp
                    exact hK _ x (by first | rfl | (simp only [Nat.add_zero]; done) | (congr 1; omega)) (Below.refl _ _) (fun h => by cases h)
                  · simp only [wpOp, List.getElem?_toArray, List.getElem?_cons_succ, List.getElem?_cons_zero, Region.wanted, if_true]
                    refine Or.inl ?_
                    have e0 : av.tmps.getD 2 undef = .int .i64 (p : Int) := hF.2.2 2 (by decide)
                    have e0e : av.eval (.tmp 2) = .int .i64 (p : Int) := e0
                    have e0g : av.tmps[2]?.getD undef = .int .i64 (p : Int) := by have := e0; simp only [Array.getD_eq_getD_getElem?] at this; exact this
                    clear hw hF
                    simp only [Oper.wp, execOp]
                    try simp only [e0e]
                    go_simp
                    exact hK _ x (by first | rfl | (simp only [Nat.add_zero]; done) | (congr 1; omega)) (Below.refl _ _) (fun h => by cases h)
                  · simp only [wpOp, List.getElem?_toArray, List.getElem?_cons_succ, List.getElem?_cons_zero, Region.wanted, if_true]
                    refine Or.inl ?_
                    have e0 : av.tmps.getD 163 undef = .slice (some ⟨bk, ok, none⟩) ks.length c1 := (hw 2 (by kernel_rfl))
                    have e0e : av.eval (.tmp 163) = .slice (some ⟨bk, ok, none⟩) ks.length c1 := e0
                    have e0g : av.tmps[163]?.getD undef = .slice (some ⟨bk, ok, none⟩) ks.length c1 := by have := e0; simp only [Array.getD_eq_getD_getElem?] at this; exact this
                    have e1 : av.tmps.getD 164 undef = .int .i64 (p : Int) := (hw 3 (by kernel_rfl))
                    have e1e : av.eval (.tmp 164) = .int .i64 (p : Int) := e1
                    have e1g : av.tmps[164]?.getD undef = .int .i64 (p : Int) := by have := e1; simp only [Array.getD_eq_getD_getElem?] at this; exact this
                    clear hw hF
                    simp only [Oper.wp, execOp]
                    try simp only [e0e, e1e]
                    go_simp
                    exact hK _ x (by first | rfl | (simp only [Nat.add_zero]; done) | (congr 1; omega)) (Below.refl _ _) (fun h => by cases h)
                  · simp only [wpOp, List.getElem?_toArray, List.getElem?_cons_succ, List.getElem?_cons_zero, Region.wanted, if_true]
                    refine Or.inl ?_
                    have e0 : av.tmps.getD 165 undef = .pointer (some ⟨bk, ok + p, none⟩) := (hw 4 (by kernel_rfl))
                    have e0e : av.eval (.tmp 165) = .pointer (some ⟨bk, ok + p, none⟩) := e0
                    have e0g : av.tmps[165]?.getD undef = .pointer (some ⟨bk, ok + p, none⟩) := by have := e0; simp only [Array.getD_eq_getD_getElem?] at this; exact this
                    have fc := C4b.out x hb'
                    clear hw hF
                    simp only [Oper.wp, execOp]
                    try simp only [e0e]
                    go_simp
                    exact hK _ x (by first | rfl | (simp only [Nat.add_zero]; done) | (congr 1; omega)) (Below.refl _ _) (fun h => by cases h)
                  · simp only [wpOp, List.getElem?_toArray, List.getElem?_cons_succ, List.getElem?_cons_zero, Region.wanted, if_true]
                    refine Or.inl ?_
                    have e0 : av.tmps.getD 8 undef = .pointer (some ⟨gn, 0, none⟩) := hF.2.2 8 (by decide)
                    have e0e : av.eval (.tmp 8) = .pointer (some ⟨gn, 0, none⟩) := e0
                    have e0g : av.tmps[8]?.getD undef = .pointer (some ⟨gn, 0, none⟩) := by have := e0; simp only [Array.getD_eq_getD_getElem?] at this; exact this
                    clear hw hF
                    simp only [Oper.wp, execOp]
                    try simp only [e0e]
                    go_simp
                    exact hK _ x (by first | rfl | (simp only [Nat.add_zero]; done) | (congr 1; omega)) (Below.refl _ _) (fun h => by cases h)
                  · simp only [wpOp, List.getElem?_toArray, List.getElem?_cons_succ, List.getElem?_cons_zero, Region.wanted, if_true]
                    refine Or.inl ?_
                    have e0 : av.tmps.getD 167 undef = .pointer (some ⟨gn, 2, none⟩) := (hw 6 (by kernel_rfl))
                    have e0e : av.eval (.tmp 167) = .pointer (some ⟨gn, 2, none⟩) := e0
                    have e0g : av.tmps[167]?.getD undef = .pointer (some ⟨gn, 2, none⟩) := by have := e0; simp only [Array.getD_eq_getD_getElem?] at this; exact this
                    obtain ⟨f0, f1, f2⟩ := F7.out x hb'
                    clear hw hF
                    simp only [Oper.wp, execOp]
                    try simp only [e0e]
                    go_simp
                    exact hK _ x (by first | rfl | (simp only [Nat.add_zero]; done) | (congr 1; omega)) (Below.refl _ _) (fun h => by cases h)
                  · simp only [wpOp, List.getElem?_toArray, List.getElem?_cons_succ, List.getElem?_cons_zero, Region.wanted, if_true]
                    refine Or.inl ?_
                    have e0 : av.tmps.getD 2 undef = .int .i64 (p : Int) := hF.2.2 2 (by decide)
                    have e0e : av.eval (.tmp 2) = .int .i64 (p : Int) := e0
                    have e0g : av.tmps[2]?.getD undef = .int .i64 (p : Int) := by have := e0; simp only [Array.getD_eq_getD_getElem?] at this; exact this
                    clear hw hF
                    simp only [Oper.wp, execOp]
                    try simp only [e0e]
                    go_simp
                    exact hK _ x (by first | rfl | (simp only [Nat.add_zero]; done) | (congr 1; omega)) (Below.refl _ _) (fun h => by cases h)
                  · simp only [wpOp, List.getElem?_toArray, List.getElem?_cons_succ, List.getElem?_cons_zero, Region.wanted, if_true]
                    refine Or.inl ?_
                    have e0 : av.tmps.getD 168 undef = .slice (some ⟨bd, od, none⟩) ds.length d1 := (hw 7 (by kernel_rfl))
                    have e0e : av.eval (.tmp 168) = .slice (some ⟨bd, od, none⟩) ds.length d1 := e0
                    have e0g : av.tmps[168]?.getD undef = .slice (some ⟨bd, od, none⟩) ds.length d1 := by have := e0; simp only [Array.getD_eq_getD_getElem?] at this; exact this
                    have e1 : av.tmps.getD 169 undef = .int .i64 (p : Int) := (hw 8 (by kernel_rfl))
                    have e1e : av.eval (.tmp 169) = .int .i64 (p : Int) := e1
                    have e1g : av.tmps[169]?.getD undef = .int .i64 (p : Int) := by have := e1; simp only [Array.getD_eq_getD_getElem?] at this; exact this
                    clear hw hF
                    simp only [Oper.wp, execOp]
                    try simp only [e0e, e1e]
                    go_simp
                    exact hK _ x (by first | rfl | (simp only [Nat.add_zero]; done) | (congr 1; omega)) (Below.refl _ _) (fun h => by cases h)
                  · simp only [wpOp, List.getElem?_toArray, List.getElem?_cons_succ, List.getElem?_cons_zero, Region.wanted, if_true]
                    refine Or.inl ?_
                    have e0 : av.tmps.getD 170 undef = .pointer (some ⟨bd, od + p, none⟩) := (hw 9 (by kernel_rfl))
                    have e0e : av.eval (.tmp 170) = .pointer (some ⟨bd, od + p, none⟩) := e0
                    have e0g : av.tmps[170]?.getD undef = .pointer (some ⟨bd, od + p, none⟩) := by have := e0; simp only [Array.getD_eq_getD_getElem?] at this; exact this
                    have fc := C5b.out x hb'
                    clear hw hF
                    simp only [Oper.wp, execOp]
                    try simp only [e0e]
                    go_simp
                    exact hK _ x (by first | rfl | (simp only [Nat.add_zero]; done) | (congr 1; omega)) (Below.refl _ _) (fun h => by cases h)
                  · simp only [wpOp, List.getElem?_toArray, List.getElem?_cons_succ, List.getElem?_cons_zero, Region.wanted, if_true]
                    refine Or.inl ?_
                    have e0 : av.tmps.getD 161 undef = .agg #[.bool true, .slice A2 ms.length c2, .slice B2 es.length d2] := (hw 0 (by kernel_rfl))
                    have e0e : av.eval (.tmp 161) = .agg #[.bool true, .slice A2 ms.length c2, .slice B2 es.length d2] := e0
                    have e0g : av.tmps[161]?.getD undef = .agg #[.bool true, .slice A2 ms.length c2, .slice B2 es.length d2] := by have := e0; simp only [Array.getD_eq_getD_getElem?] at this; exact this
                    have e1 : av.tmps.getD 166 undef = .string ⟨x0.toArray⟩ := (hw 5 (by kernel_rfl))
                    have e1e : av.eval (.tmp 166) = .string ⟨x0.toArray⟩ := e1
                    have e1g : av.tmps[166]?.getD undef = .string ⟨x0.toArray⟩ := by have := e1; simp only [Array.getD_eq_getD_getElem?] at this; exact this
                    have e2 : av.tmps.getD 171 undef = .int .i64 q0 := (hw 10 (by kernel_rfl))
                    have e2e : av.eval (.tmp 171) = .int .i64 q0 := e2
                    have e2g : av.tmps[171]?.getD undef = .int .i64 q0 := by have := e2; simp only [Array.getD_eq_getD_getElem?] at this; exact this
                    clear hw hF
                    simp only [Oper.wp, execOp]
                    try simp only [e0e, e1e, e2e]
                    go_simp
                    refine (put_any true A2 c2 ms B2 d2 es x0 q0 x (W7.out.1.below hb') (W7.out.2.below hb') (by have := LK.out; have := ML.out; omega) (by unfold shapedB; have h1 := ML.out; have h2 := ML2.out; rw [LD.out] at h2; simp; omega)).mono ?_
                    rintro e x' ⟨i9, b9, A0, c0, B0, d0, rfl, h3, h4, _, _, hi, hx, _, _⟩
                    obtain ⟨rfl, rfl⟩ := hi SR.out
                    rw [PK.out] at h3 ⊢
                    rw [PD.out] at h4 ⊢
                    exact hK _ x' ⟨A0, c0, B0, d0, rfl, h3, h4⟩ hx (fun h => by cases h)
                  · simp only [wpOp, List.getElem?_toArray, List.getElem?_cons_succ, List.getElem?_cons_zero, Region.wanted, if_true]
                    refine Or.inl ?_
                    have e0 : av.tmps.getD 8 undef = .pointer (some ⟨gn, 0, none⟩) := hF.2.2 8 (by decide)
                    have e0e : av.eval (.tmp 8) = .pointer (some ⟨gn, 0, none⟩) := e0
                    have e0g : av.tmps[8]?.getD undef = .pointer (some ⟨gn, 0, none⟩) := by have := e0; simp only [Array.getD_eq_getD_getElem?] at this; exact this
                    obtain ⟨f0, f1, f2⟩ := F7.out x hb'
                    clear hw hF
                    simp only [Oper.wp, execOp]
                    try simp only [e0e]
                    go_simp
                    exact hK _ x (by first | rfl | (simp only [Nat.add_zero]; done) | (congr 1; omega)) (Below.refl _ _) (fun h => by cases h)
                  · simp only [wpOp, List.getElem?_toArray, List.getElem?_cons_succ, List.getElem?_cons_zero, Region.wanted, if_true]
                    refine Or.inl ?_
                    have e0 : av.tmps.getD 173 undef = .agg #[.bool true, .slice (some ⟨bk, ok, none⟩) ks.length c1, .slice (some ⟨bd, od, none⟩) ds.length d1] := (hw 12 (by kernel_rfl))
                    have e0e : av.eval (.tmp 173) = .agg #[.bool true, .slice (some ⟨bk, ok, none⟩) ks.length c1, .slice (some ⟨bd, od, none⟩) ds.length d1] := e0
                    have e0g : av.tmps[173]?.getD undef = .agg #[.bool true, .slice (some ⟨bk, ok, none⟩) ks.length c1, .slice (some ⟨bd, od, none⟩) ds.length d1] := by have := e0; simp only [Array.getD_eq_getD_getElem?] at this; exact this
                    clear hw hF
                    simp only [Oper.wp, execOp]
                    try simp only [e0e]
                    go_simp
                    refine (ref_any true _ c1 ks _ d1 ds x (V7.out.1.below hb') (V7.out.2.below hb')).mono ?_
                    rintro e x' ⟨rfl, hx⟩
                    exact hK _ x' rfl hx (fun h => by cases h)
                  · simp only [wpOp, List.getElem?_toArray, List.getElem?_cons_succ, List.getElem?_cons_zero, Region.wanted, if_true]
                    refine Or.inl ?_
                    obtain ⟨Ax0, cx0, Bx0, dx0, e0, h1x0, h2x0⟩ := (hw 11 (by kernel_rfl))
                    have e0e : av.eval (.tmp 172) = .agg #[.bool true, .slice Ax0 ks.length cx0, .slice Bx0 ds.length dx0] := e0
                    have e0g : av.tmps[172]?.getD undef = .agg #[.bool true, .slice Ax0 ks.length cx0, .slice Bx0 ds.length dx0] := by have := e0; simp only [Array.getD_eq_getD_getElem?] at this; exact this
                    have e1 : av.tmps.getD 174 undef = .agg #[.bool true, .slice (some ⟨bk, ok, none⟩) ks.length c1, .slice (some ⟨bd, od, none⟩) ds.length d1] := (hw 13 (by kernel_rfl))
                    have e1e : av.eval (.tmp 174) = .agg #[.bool true, .slice (some ⟨bk, ok, none⟩) ks.length c1, .slice (some ⟨bd, od, none⟩) ds.length d1] := e1
                    have e1g : av.tmps[174]?.getD undef = .agg #[.bool true, .slice (some ⟨bk, ok, none⟩) ks.length c1, .slice (some ⟨bd, od, none⟩) ds.length d1] := by have := e1; simp only [Array.getD_eq_getD_getElem?] at this; exact this
                    clear hw hF
                    simp only [Oper.wp, execOp]
                    try simp only [e0e, e1e]
                    go_simp
                    refine (nodes_any true _ _ _ _ _ _ _ _ ks ds x h1x0 h2x0 (V7.out.1.below hb') (V7.out.2.below hb') (by have := LK.out; omega) (by have := LK.out; rw [LD.out]; omega)).mono ?_
                    rintro e x' ⟨rfl, hx⟩
                    exact hK _ x' rfl hx (fun h => by cases h)
                intro av x hF hb' hR _
                have e0 : av.tmps.getD 161 undef = .agg #[.bool true, .slice A2 ms.length c2, .slice B2 es.length d2] := hR 0 (by decide)
                have e1 : av.tmps.getD 162 undef = .pointer (some ⟨gn, 1, none⟩) := hR 1 (by decide)
                have e2 : av.tmps.getD 163 undef = .slice (some ⟨bk, ok, none⟩) ks.length c1 := hR 2 (by decide)
                have e3 : av.tmps.getD 164 undef = .int .i64 (p : Int) := hR 3 (by decide)
                have e4 : av.tmps.getD 165 undef = .pointer (some ⟨bk, ok + p, none⟩) := hR 4 (by decide)
                have e5 : av.tmps.getD 166 undef = .string ⟨x0.toArray⟩ := hR 5 (by decide)
                have e6 : av.tmps.getD 167 undef = .pointer (some ⟨gn, 2, none⟩) := hR 6 (by decide)
                have e7 : av.tmps.getD 168 undef = .slice (some ⟨bd, od, none⟩) ds.length d1 := hR 7 (by decide)
                have e8 : av.tmps.getD 169 undef = .int .i64 (p : Int) := hR 8 (by decide)
                have e9 : av.tmps.getD 170 undef = .pointer (some ⟨bd, od + p, none⟩) := hR 9 (by decide)
                have e10 : av.tmps.getD 171 undef = .int .i64 q0 := hR 10 (by decide)
                obtain ⟨Ax11, cx11, Bx11, dx11, e11, h1x11, h2x11⟩ := hR 11 (by decide)
                replace e11 : av.tmps.getD 172 undef = .agg #[.bool true, .slice Ax11 ks.length cx11, .slice Bx11 ds.length dx11] := e11
                have e12 : av.tmps.getD 173 undef = .agg #[.bool true, .slice (some ⟨bk, ok, none⟩) ks.length c1, .slice (some ⟨bd, od, none⟩) ds.length d1] := hR 12 (by decide)
                have e13 : av.tmps.getD 174 undef = .agg #[.bool true, .slice (some ⟨bk, ok, none⟩) ks.length c1, .slice (some ⟨bd, od, none⟩) ds.length d1] := hR 13 (by decide)
                have e14 : av.tmps.getD 175 undef = .bool true := hR 14 (by decide)
                rw [hF.fold (by kernel_rfl)]
                simp only [List.foldl_cons, List.foldl_nil, e0, e1, e2, e3, e4, e5, e6, e7, e8, e9, e10, e11, e12, e13, e14]
                simp only [Act.put, List.setIfInBounds_toArray, List.set_cons_zero, List.set_cons_succ]
                change wpOps _ _ _ [15] _ _
                simp only [wpOps_cons]
                clear e0 e1 e2 e3 e4 e5 e6 e7 e8 e9 e10 e11 e12 e13 e14 hR hF
                clear h1x11 h2x11
                have R8 := Lib.hid (row_on R7.out hb')
                have M8 := Lib.hid (row_on RM7.out hb')
                have K8 := Lib.hid (K7.out.trans (hb'.mono K7.out.size))
                clear hb' R7 RM7 K7 V7 W7 F7 G7 C4b C5b
                try rw [wpOps_cons]
                simp only [wpOp, List.getElem?_toArray, List.getElem?_cons_succ, List.getElem?_cons_zero, Region.wanted, if_true]
                refine Or.inl ?_
                simp only [Oper.wp, execOp]
                go_simp
                try simp only [wpOps]
                have f1 := row_c R8.out (i := 1) rfl
                have f9 := row_c M8.out (i := 1) rfl
                have z1 : IntKind.i64.wrap ((ks.length : Int) - 1) = (ms.length : Int) := by have h1 := ML.out; have h2 := NZ.out; have := LK.out; rw [IntWalk.i64_in _ (by omega)]; omega
                go_wp2
                go_ret
                exact ⟨rfl, K8.out⟩
              · obtain ⟨o1, ho1⟩ : ∃ o1 : Nat, (o1 : Int) = out := ⟨out.toNat, by omega⟩
                have d1_ : decide ((o1 : Int) < 0) = false := decide_eq_false (by omega)
                have d2_ := HO.out.2
                rw [← ho1] at d2_
                have d3_ := True.intro
                subst ho1
                have ho1 := True.intro
                obtain ⟨p, hp⟩ : ∃ p, o1 % ks.length = p := ⟨_, rfl⟩
                have hpl : p < ks.length := by rw [← hp]; exact Nat.mod_lt _ NZ.out
                have m1 : (o1 : Int).tmod (ks.length : Int) = (p : Int) := by rw [Int.tmod_eq_emod_of_nonneg (by omega)]; omega
                have m2 : (o1 : Int) % (ks.length : Int) = (p : Int) := by omega
                have m3 : IntKind.i64.wrap (p : Int) = (p : Int) := IntWalk.i64_in _ (by have := LK.out; omega)
                have PL := Lib.hid hpl
                clear hneg hp hpl ho1
                go_wp2_with fail
                clear e0 e1 e2 d1_ d2_ d3_ m1 m2 m3
                refine (out_t A1 c1 ks B1 d1 ds p _ V4.out.1 V4.out.2 LK.out LD.out PL.out).mono ?_
                rintro e w5 ⟨A2, c2, B2, d2, rfl, h3, h4, hb⟩
                have R5 := Lib.hid (row_on R4.out hb)
                have K5 := Lib.hid (K4.out.trans (hb.mono K4.out.size))
                have V5 := Lib.hid (And.intro (V4.out.1.below hb) (V4.out.2.below hb))
                have W5 := Lib.hid (And.intro h3 h4)
                clear hb h3 h4 R4 K4 V4 f0 f1 f2
                obtain ⟨x0, hx0⟩ := get_lt (xs := ks) (k := p) PL.out
                obtain ⟨q0, hq0⟩ := get_lt (xs := ds) (k := p) (by rw [LD.out]; exact PL.out)
                obtain ⟨bk, ok, hA, hbk, c4⟩ := V5.out.1.cell hx0
                obtain ⟨bd, od, hB, hbd, c5⟩ := V5.out.2.cell hq0
                subst hA hB
                have LB := Lib.hid (rmv_lb HSR.out hx0)
                have PK := Lib.hid (rmv_putK HSR.out hx0)
                have PD := Lib.hid (rmv_putD HSR.out hx0 hq0)
                have SR := Lib.hid (rmv_srt HSR.out PL.out)
                have ML := Lib.hid (rmv_len (xs := ks) PL.out)
                have ML2 := Lib.hid (rmv_len (xs := ds) (p := p) (by rw [LD.out]; exact PL.out))
                generalize rmv p ks = ms at *
                generalize rmv p ds = es at *
                unfold sv at c4
                unfold nv at c5
                go_upto_region 30 with (fail)
                obtain ⟨X5, hX⟩ : ∃ V : World, V = w5.alloc (.cells #[.bool true, .slice A2 ms.length c2, .slice B2 es.length d2] 25) := ⟨_, rfl⟩
                obtain ⟨gm, hgm⟩ : ∃ g : Nat, w5.heap.size = g := ⟨_, rfl⟩
                have RM := Lib.hid (show X5.heap[gm]? = some (.cells #[.bool true, .slice A2 ms.length c2, .slice B2 es.length d2] 25 (0, 0)) by rw [← hgm, hX]; exact heap_alloc_new _ _)
                have BV := Lib.hid (show Below w5.heap.size w5 X5 by rw [hX]; exact bda _ _)
                rw [← hX]
                try rw [hgm]
                clear hX
                have R6 := Lib.hid (row_on R5.out BV.out)
                have K6 := Lib.hid (K5.out.trans (BV.out.mono K5.out.size))
                have V6 := Lib.hid (And.intro (V5.out.1.below BV.out) (V5.out.2.below BV.out))
                have W6 := Lib.hid (And.intro (W5.out.1.below BV.out) (W5.out.2.below BV.out))
                have C4 := Lib.hid (fun V_ (K : Below X5.heap.size X5 V_) => (K.cell (p := ⟨bk, ok + p, none⟩) (Nat.lt_of_lt_of_le hbk BV.out.size)).trans ((BV.out.cell (p := ⟨bk, ok + p, none⟩) hbk).trans c4))
                have C5 := Lib.hid (fun V_ (K : Below X5.heap.size X5 V_) => (K.cell (p := ⟨bd, od + p, none⟩) (Nat.lt_of_lt_of_le hbd BV.out.size)).trans ((BV.out.cell (p := ⟨bd, od + p, none⟩) hbd).trans c5))
                clear BV R5 K5 V5 W5 c4 c5 hbk hbd hx0 hq0
                have F6 := Lib.hid (fun V_ (K : Below X5.heap.size X5 V_) => And.intro (row_c (row_on R6.out K) (i := 0) rfl) (And.intro (row_c (row_on R6.out K) (i := 1) rfl) (row_c (row_on R6.out K) (i := 2) rfl)))
                have G6 := Lib.hid (fun V_ (K : Below X5.heap.size X5 V_) => And.intro (row_c (row_on RM.out K) (i := 0) rfl) (And.intro (row_c (row_on RM.out K) (i := 1) rfl) (row_c (row_on RM.out K) (i := 2) rfl)))
                have pi0 : (0 : Int) ≤ (p : Int) := by omega
                have pi1 : (p : Int) < (ks.length : Int) := by have := PL.out; omega
                have pi2 : (p : Int) < (ds.length : Int) := by rw [LD.out]; exact pi1
                refine wp_operands (W := X5) rfl 8 [153, 154, 155, 156, 157, 158, 159, 160] (fun i u x => match i with | 0 => u = .agg #[.bool true, .slice A2 ms.length c2, .slice B2 es.length d2] | 1 => u = .pointer (some ⟨gn, 1, none⟩) | 2 => u = .slice (some ⟨bk, ok, none⟩) ks.length c1 | 3 => u = .int .i64 (p : Int) | 4 => u = .pointer (some ⟨bk, ok + p, none⟩) | 5 => u = .string ⟨x0.toArray⟩ | 6 => u = .int .i64 (-1) | 7 => u = .bool true | _ => True) (fun _ => false)
                  (by decide) rfl (by kernel_rfl) (by kernel_rfl) (by decide) (by kernel_rfl) ?_ (fun _ _ _ h => by cases h) ?_ ?_
                · intro i u x x' hi hR hb'
                  have hi' : i = 0 ∨ i = 1 ∨ i = 2 ∨ i = 3 ∨ i = 4 ∨ i = 5 ∨ i = 6 ∨ i = 7 := by omega
                  rcases hi' with rfl | rfl | rfl | rfl | rfl | rfl | rfl | rfl
                  · exact hR
                  · exact hR
                  · exact hR
                  · exact hR
                  · exact hR
                  · exact hR
                  · exact hR
                  · exact hR
                · intro i av x K hi hF hb' hw hK
                  have hi' : i = 0 ∨ i = 1 ∨ i = 2 ∨ i = 3 ∨ i = 4 ∨ i = 5 ∨ i = 6 ∨ i = 7 := by omega
                  rcases hi' with rfl | rfl | rfl | rfl | rfl | rfl | rfl | rfl
                  · simp only [wpOp, List.getElem?_toArray, List.getElem?_cons_zero, Region.wanted, if_true]
                    refine Or.inl ?_
                    have e0 : av.tmps.getD 14 undef = .pointer (some ⟨gm, 0, none⟩) := hF.2.2 14 (by decide)
                    have e0e : av.eval (.tmp 14) = .pointer (some ⟨gm, 0, none⟩) := e0
                    have e0g : av.tmps[14]?.getD undef = .pointer (some ⟨gm, 0, none⟩) := by have := e0; simp only [Array.getD_eq_getD_getElem?] at this; exact this
                    obtain ⟨f0, f1, f2⟩ := G6.out x hb'
                    clear hw hF
                    simp only [Oper.wp, execOp]
                    try simp only [e0e]
                    go_simp
                    exact hK _ x (by first | rfl | (simp only [Nat.add_zero]; done) | (congr 1; omega)) (Below.refl _ _) (fun h => by cases h)
                  · simp only [wpOp, List.getElem?_toArray, List.getElem?_cons_succ, List.getElem?_cons_zero, Region.wanted, if_true]
                    refine Or.inl ?_
                    have e0 : av.tmps.getD 8 undef = .pointer (some ⟨gn, 0, none⟩) := hF.2.2 8 (by decide)
                    have e0e : av.eval (.tmp 8) = .pointer (some ⟨gn, 0, none⟩) := e0
                    have e0g : av.tmps[8]?.getD undef = .pointer (some ⟨gn, 0, none⟩) := by have := e0; simp only [Array.getD_eq_getD_getElem?] at this; exact this
                    clear hw hF
                    simp only [Oper.wp, execOp]
                    try simp only [e0e]
                    go_simp
                    exact hK _ x (by first | rfl | (simp only [Nat.add_zero]; done) | (congr 1; omega)) (Below.refl _ _) (fun h => by cases h)
                  · simp only [wpOp, List.getElem?_toArray, List.getElem?_cons_succ, List.getElem?_cons_zero, Region.wanted, if_true]
                    refine Or.inl ?_
                    have e0 : av.tmps.getD 154 undef = .pointer (some ⟨gn, 1, none⟩) := (hw 1 (by kernel_rfl))
                    have e0e : av.eval (.tmp 154) = .pointer (some ⟨gn, 1, none⟩) := e0
                    have e0g : av.tmps[154]?.getD undef = .pointer (some ⟨gn, 1, none⟩) := by have := e0; simp only [Array.getD_eq_getD_getElem?] at this; exact this
                    obtain ⟨f0, f1, f2⟩ := F6.out x hb'
                    clear hw hF
                    simp only [Oper.wp, execOp]
                    try simp only [e0e]
                    go_simp
                    exact hK _ x (by first | rfl | (simp only [Nat.add_zero]; done) | (congr 1; omega)) (Below.refl _ _) (fun h => by cases h)
                  · simp only [wpOp, List.getElem?_toArray, List.getElem?_cons_succ, List.getElem?_cons_zero, Region.wanted, if_true]
                    refine Or.inl ?_
                    have e0 : av.tmps.getD 2 undef = .int .i64 (p : Int) := hF.2.2 2 (by decide)
                    have e0e : av.eval (.tmp 2) = .int .i64 (p : Int) := e0
                    have e0g : av.tmps[2]?.getD undef = .int .i64 (p : Int) := by have := e0; simp only [Array.getD_eq_getD_getElem?] at this; exact this
                    clear hw hF
                    simp only [Oper.wp, execOp]
                    try simp only [e0e]
                    go_simp
                    exact hK _ x (by first | rfl | (simp only [Nat.add_zero]; done) | (congr 1; omega)) (Below.refl _ _) (fun h => by cases h)
                  · simp only [wpOp, List.getElem?_toArray, List.getElem?_cons_succ, List.getElem?_cons_zero, Region.wanted, if_true]
                    refine Or.inl ?_
                    have e0 : av.tmps.getD 155 undef = .slice (some ⟨bk, ok, none⟩) ks.length c1 := (hw 2 (by kernel_rfl))
                    have e0e : av.eval (.tmp 155) = .slice (some ⟨bk, ok, none⟩) ks.length c1 := e0
                    have e0g : av.tmps[155]?.getD undef = .slice (some ⟨bk, ok, none⟩) ks.length c1 := by have := e0; simp only [Array.getD_eq_getD_getElem?] at this; exact this
                    have e1 : av.tmps.getD 156 undef = .int .i64 (p : Int) := (hw 3 (by kernel_rfl))
                    have e1e : av.eval (.tmp 156) = .int .i64 (p : Int) := e1
                    have e1g : av.tmps[156]?.getD undef = .int .i64 (p : Int) := by have := e1; simp only [Array.getD_eq_getD_getElem?] at this; exact this
                    clear hw hF
                    simp only [Oper.wp, execOp]
                    try simp only [e0e, e1e]
                    go_simp
                    exact hK _ x (by first | rfl | (simp only [Nat.add_zero]; done) | (congr 1; omega)) (Below.refl _ _) (fun h => by cases h)
                  · simp only [wpOp, List.getElem?_toArray, List.getElem?_cons_succ, List.getElem?_cons_zero, Region.wanted, if_true]
                    refine Or.inl ?_
                    have e0 : av.tmps.getD 157 undef = .pointer (some ⟨bk, ok + p, none⟩) := (hw 4 (by kernel_rfl))
                    have e0e : av.eval (.tmp 157) = .pointer (some ⟨bk, ok + p, none⟩) := e0
                    have e0g : av.tmps[157]?.getD undef = .pointer (some ⟨bk, ok + p, none⟩) := by have := e0; simp only [Array.getD_eq_getD_getElem?] at this; exact this
                    have fc := C4.out x hb'
                    clear hw hF
                    simp only [Oper.wp, execOp]
                    try simp only [e0e]
                    go_simp
                    exact hK _ x (by first | rfl | (simp only [Nat.add_zero]; done) | (congr 1; omega)) (Below.refl _ _) (fun h => by cases h)
                  · simp only [wpOp, List.getElem?_toArray, List.getElem?_cons_succ, List.getElem?_cons_zero, Region.wanted, if_true]
                    refine Or.inl ?_
                    have e0 : av.tmps.getD 153 undef = .agg #[.bool true, .slice A2 ms.length c2, .slice B2 es.length d2] := (hw 0 (by kernel_rfl))
                    have e0e : av.eval (.tmp 153) = .agg #[.bool true, .slice A2 ms.length c2, .slice B2 es.length d2] := e0
                    have e0g : av.tmps[153]?.getD undef = .agg #[.bool true, .slice A2 ms.length c2, .slice B2 es.length d2] := by have := e0; simp only [Array.getD_eq_getD_getElem?] at this; exact this
                    have e1 : av.tmps.getD 158 undef = .string ⟨x0.toArray⟩ := (hw 5 (by kernel_rfl))
                    have e1e : av.eval (.tmp 158) = .string ⟨x0.toArray⟩ := e1
                    have e1g : av.tmps[158]?.getD undef = .string ⟨x0.toArray⟩ := by have := e1; simp only [Array.getD_eq_getD_getElem?] at this; exact this
                    clear hw hF
                    simp only [Oper.wp, execOp]
                    try simp only [e0e, e1e]
                    go_simp
                    refine (child_any true A2 c2 ms B2 d2 es x0 x (W6.out.1.below hb') (by have := LK.out; have := ML.out; omega)).mono ?_
                    rintro e x' ⟨r, rfl, hr, hx⟩
                    have hrr : r = -1 := by rw [hr SR.out]; unfold childI; rw [LB.out.2]; rfl
                    subst hrr
                    exact hK _ x' rfl hx (fun h => by cases h)
                  · simp only [wpOp, List.getElem?_toArray, List.getElem?_cons_succ, List.getElem?_cons_zero, Region.wanted, if_true]
                    refine Or.inl ?_
                    have e0 : av.tmps.getD 159 undef = .int .i64 (-1) := (hw 6 (by kernel_rfl))
                    have e0e : av.eval (.tmp 159) = .int .i64 (-1) := e0
                    have e0g : av.tmps[159]?.getD undef = .int .i64 (-1) := by have := e0; simp only [Array.getD_eq_getD_getElem?] at this; exact this
                    clear hw hF
                    simp only [Oper.wp, execOp]
                    try simp only [e0e]
                    go_simp
                    exact hK _ x (by first | rfl | (simp only [Nat.add_zero]; done) | (congr 1; omega)) (Below.refl _ _) (fun h => by cases h)
                intro av x hF hb' hR _
                have e0 : av.tmps.getD 153 undef = .agg #[.bool true, .slice A2 ms.length c2, .slice B2 es.length d2] := hR 0 (by decide)
                have e1 : av.tmps.getD 154 undef = .pointer (some ⟨gn, 1, none⟩) := hR 1 (by decide)
                have e2 : av.tmps.getD 155 undef = .slice (some ⟨bk, ok, none⟩) ks.length c1 := hR 2 (by decide)
                have e3 : av.tmps.getD 156 undef = .int .i64 (p : Int) := hR 3 (by decide)
                have e4 : av.tmps.getD 157 undef = .pointer (some ⟨bk, ok + p, none⟩) := hR 4 (by decide)
                have e5 : av.tmps.getD 158 undef = .string ⟨x0.toArray⟩ := hR 5 (by decide)
                have e6 : av.tmps.getD 159 undef = .int .i64 (-1) := hR 6 (by decide)
                have e7 : av.tmps.getD 160 undef = .bool true := hR 7 (by decide)
                rw [hF.fold (by kernel_rfl)]
                simp only [List.foldl_cons, List.foldl_nil, e0, e1, e2, e3, e4, e5, e6, e7]
                simp only [Act.put, List.setIfInBounds_toArray, List.set_cons_zero, List.set_cons_succ]
                change wpOps _ _ _ [8] _ _
                simp only [wpOps_cons]
                clear e0 e1 e2 e3 e4 e5 e6 e7 hR hF
                have R7 := Lib.hid (row_on R6.out hb')
                have RM7 := Lib.hid (row_on RM.out hb')
                have K7 := Lib.hid (K6.out.trans (hb'.mono K6.out.size))
                have V7 := Lib.hid (And.intro (V6.out.1.below hb') (V6.out.2.below hb'))
                have W7 := Lib.hid (And.intro (W6.out.1.below hb') (W6.out.2.below hb'))
                have C4b := Lib.hid (fun V_ (K : Below x.heap.size x V_) => C4.out V_ (hb'.trans (K.mono hb'.size)))
                have C5b := Lib.hid (fun V_ (K : Below x.heap.size x V_) => C5.out V_ (hb'.trans (K.mono hb'.size)))
                clear hb' R6 RM K6 V6 W6 F6 G6 C4 C5
                try rw [wpOps_cons]
                simp only [wpOp, List.getElem?_toArray, List.getElem?_cons_succ, List.getElem?_cons_zero, Region.wanted, if_true]
                refine Or.inl ?_
                simp only [Oper.wp, execOp]
                go_simp
                try simp only [wpOps]
                obtain ⟨Y5, hY5⟩ : ∃ z, x = z := ⟨_, rfl⟩
                rw [hY5] at R7 RM7 K7 V7 W7 C4b C5b ⊢
                clear hY5
                have F7 := Lib.hid (fun V_ (K : Below Y5.heap.size Y5 V_) => And.intro (row_c (row_on R7.out K) (i := 0) rfl) (And.intro (row_c (row_on R7.out K) (i := 1) rfl) (row_c (row_on R7.out K) (i := 2) rfl)))
                have G7 := Lib.hid (fun V_ (K : Below Y5.heap.size Y5 V_) => And.intro (row_c (row_on RM7.out K) (i := 0) rfl) (And.intro (row_c (row_on RM7.out K) (i := 1) rfl) (row_c (row_on RM7.out K) (i := 2) rfl)))
                go_upto_region 31 with (fail)
                refine wp_operands (W := Y5) rfl 15 [161, 162, 163, 164, 165, 166, 167, 168, 169, 170, 171, 172, 173, 174, 175] (fun i u x => match i with | 0 => u = .agg #[.bool true, .slice A2 ms.length c2, .slice B2 es.length d2] | 1 => u = .pointer (some ⟨gn, 1, none⟩) | 2 => u = .slice (some ⟨bk, ok, none⟩) ks.length c1 | 3 => u = .int .i64 (p : Int) | 4 => u = .pointer (some ⟨bk, ok + p, none⟩) | 5 => u = .string ⟨x0.toArray⟩ | 6 => u = .pointer (some ⟨gn, 2, none⟩) | 7 => u = .slice (some ⟨bd, od, none⟩) ds.length d1 | 8 => u = .int .i64 (p : Int) | 9 => u = .pointer (some ⟨bd, od + p, none⟩) | 10 => u = .int .i64 q0 | 11 => ∃ A0 c0 B0 d0, u = .agg #[.bool true, .slice A0 ks.length c0, .slice B0 ds.length d0] ∧ Rl sv x A0 c0 ks ∧ Rl nv x B0 d0 ds | 12 => u = .agg #[.bool true, .slice (some ⟨bk, ok, none⟩) ks.length c1, .slice (some ⟨bd, od, none⟩) ds.length d1] | 13 => u = .agg #[.bool true, .slice (some ⟨bk, ok, none⟩) ks.length c1, .slice (some ⟨bd, od, none⟩) ds.length d1] | 14 => u = .bool true | _ => True) (fun _ => false)
                  (by decide) rfl (by kernel_rfl) (by kernel_rfl) (by decide) (by kernel_rfl) ?_ (fun _ _ _ h => by cases h) ?_ ?_
                · intro i u x x' hi hR hb'
                  have hi' : i = 0 ∨ i = 1 ∨ i = 2 ∨ i = 3 ∨ i = 4 ∨ i = 5 ∨ i = 6 ∨ i = 7 ∨ i = 8 ∨ i = 9 ∨ i = 10 ∨ i = 11 ∨ i = 12 ∨ i = 13 ∨ i = 14 := by omega
                  rcases hi' with rfl | rfl | rfl | rfl | rfl | rfl | rfl | rfl | rfl | rfl | rfl | rfl | rfl | rfl | rfl
                  · exact hR
                  · exact hR
                  · exact hR
                  · exact hR
                  · exact hR
                  · exact hR
                  · exact hR
                  · exact hR
                  · exact hR
                  · exact hR
                  · exact hR
                  · obtain ⟨A0, c0, B0, d0, e, h1, h2⟩ := hR; exact ⟨A0, c0, B0, d0, e, h1.below hb', h2.below hb'⟩
                  · exact hR
                  · exact hR
                  · exact hR
                · intro i av x K hi hF hb' hw hK
                  have hi' : i = 0 ∨ i = 1 ∨ i = 2 ∨ i = 3 ∨ i = 4 ∨ i = 5 ∨ i = 6 ∨ i = 7 ∨ i = 8 ∨ i = 9 ∨ i = 10 ∨ i = 11 ∨ i = 12 ∨ i = 13 ∨ i = 14 := by omega
                  rcases hi' with rfl | rfl | rfl | rfl | rfl | rfl | rfl | rfl | rfl | rfl | rfl | rfl | rfl | rfl | rfl
                  · simp only [wpOp, List.getElem?_toArray, List.getElem?_cons_zero, Region.wanted, if_true]
                    refine Or.inl ?_
                    have e0 : av.tmps.getD 14 undef = .pointer (some ⟨gm, 0, none⟩) := hF.2.2 14 (by decide)
                    have e0e : av.eval (.tmp 14) = .pointer (some ⟨gm, 0, none⟩) := e0
                    have e0g : av.tmps[14]?.getD undef = .pointer (some ⟨gm, 0, none⟩) := by have := e0; simp only [Array.getD_eq_getD_getElem?] at this; exact this
                    obtain ⟨f0, f1, f2⟩ := G7.out x hb'
                    clear hw hF
                    simp only [Oper.wp, execOp]
                    try simp only [e0e]
                    go_simp
                    exact hK _ x (by first | rfl | (simp only [Nat.add_zero]; done) | (congr 1; omega)) (Below.refl _ _) (fun h => by cases h)
                  · simp only [wpOp, List.getElem?_toArray, List.getElem?_cons_succ, List.getElem?_cons_zero, Region.wanted, if_true]
                    refine Or.inl ?_
                    have e0 : av.tmps.getD 8 undef = .pointer (some ⟨gn, 0, none⟩) := hF.2.2 8 (by decide)
                    have e0e : av.eval (.tmp 8) = .pointer (some ⟨gn, 0, none⟩) := e0
                    have e0g : av.tmps[8]?.getD undef = .pointer (some ⟨gn, 0, none⟩) := by have := e0; simp only [Array.getD_eq_getD_getElem?] at this; exact this
                    clear hw hF
                    simp only [Oper.wp, execOp]
                    try simp only [e0e]
                    go_simp
                    exact hK _ x (by first | rfl | (simp only [Nat.add_zero]; done) | (congr 1; omega)) (Below.refl _ _) (fun h => by cases h)
                  · simp only [wpOp, List.getElem?_toArray, List.getElem?_cons_succ, List.getElem?_cons_zero, Region.wanted, if_true]
                    refine Or.inl ?_
                    have e0 : av.tmps.getD 162 undef = .pointer (some ⟨gn, 1, none⟩) := (hw 1 (by kernel_rfl))
                    have e0e : av.eval (.tmp 162) = .pointer (some ⟨gn, 1, none⟩) := e0
                    have e0g : av.tmps[162]?.getD undef = .pointer (some ⟨gn, 1, none⟩) := by have := e0; simp only [Array.getD_eq_getD_getElem?] at this; exact this
                    obtain ⟨f0, f1, f2⟩ := F7.out x hb'
                    clear hw hF
                    simp only [Oper.wp, execOp]
                    try simp only [e0e]
                    go_simp
                    exact hK _ x (by first | rfl | (simp only [Nat.add_zero]; done) | (congr 1; omega)) (Below.refl _ _) (fun h => by cases h)
                  · simp only [wpOp, List.getElem?_toArray, List.getElem?_cons_succ, List.getElem?_cons_zero, Region.wanted, if_true]
                    refine Or.inl ?_
                    have e0 : av.tmps.getD 2 undef = .int .i64 (p : Int) := hF.2.2 2 (by decide)
                    have e0e : av.eval (.tmp 2) = .int .i64 (p : Int) := e0
                    have e0g : av.tmps[2]?.getD undef = .int .i64 (p : Int) := by have := e0; simp only [Array.getD_eq_getD_getElem?] at this; exact this
                    clear hw hF
                    simp only [Oper.wp, execOp]
                    try simp only [e0e]
                    go_simp
                    exact hK _ x (by first | rfl | (simp only [Nat.add_zero]; done) | (congr 1; omega)) (Below.refl _ _) (fun h => by cases h)
                  · simp only [wpOp, List.getElem?_toArray, List.getElem?_cons_succ, List.getElem?_cons_zero, Region.wanted, if_true]
                    refine Or.inl ?_
                    have e0 : av.tmps.getD 163 undef = .slice (some ⟨bk, ok, none⟩) ks.length c1 := (hw 2 (by kernel_rfl))
                    have e0e : av.eval (.tmp 163) = .slice (some ⟨bk, ok, none⟩) ks.length c1 := e0
                    have e0g : av.tmps[163]?.getD undef = .slice (some ⟨bk, ok, none⟩) ks.length c1 := by have := e0; simp only [Array.getD_eq_getD_getElem?] at this; exact this
                    have e1 : av.tmps.getD 164 undef = .int .i64 (p : Int) := (hw 3 (by kernel_rfl))
                    have e1e : av.eval (.tmp 164) = .int .i64 (p : Int) := e1
                    have e1g : av.tmps[164]?.getD undef = .int .i64 (p : Int) := by have := e1; simp only [Array.getD_eq_getD_getElem?] at this; exact this
                    clear hw hF
                    simp only [Oper.wp, execOp]
                    try simp only [e0e, e1e]
                    go_simp
                    exact hK _ x (by first | rfl | (simp only [Nat.add_zero]; done) | (congr 1; omega)) (Below.refl _ _) (fun h => by cases h)
                  · simp only [wpOp, List.getElem?_toArray, List.getElem?_cons_succ, List.getElem?_cons_zero, Region.wanted, if_true]
                    refine Or.inl ?_
                    have e0 : av.tmps.getD 165 undef = .pointer (some ⟨bk, ok + p, none⟩) := (hw 4 (by kernel_rfl))
                    have e0e : av.eval (.tmp 165) = .pointer (some ⟨bk, ok + p, none⟩) := e0
                    have e0g : av.tmps[165]?.getD undef = .pointer (some ⟨bk, ok + p, none⟩) := by have := e0; simp only [Array.getD_eq_getD_getElem?] at this; exact this
                    have fc := C4b.out x hb'
                    clear hw hF
                    simp only [Oper.wp, execOp]
                    try simp only [e0e]
                    go_simp
                    exact hK _ x (by first | rfl | (simp only [Nat.add_zero]; done) | (congr 1; omega)) (Below.refl _ _) (fun h => by cases h)
                  · simp only [wpOp, List.getElem?_toArray, List.getElem?_cons_succ, List.getElem?_cons_zero, Region.wanted, if_true]
                    refine Or.inl ?_
                    have e0 : av.tmps.getD 8 undef = .pointer (some ⟨gn, 0, none⟩) := hF.2.2 8 (by decide)
                    have e0e : av.eval (.tmp 8) = .pointer (some ⟨gn, 0, none⟩) := e0
                    have e0g : av.tmps[8]?.getD undef = .pointer (some ⟨gn, 0, none⟩) := by have := e0; simp only [Array.getD_eq_getD_getElem?] at this; exact this
                    clear hw hF
                    simp only [Oper.wp, execOp]
                    try simp only [e0e]
                    go_simp
                    exact hK _ x (by first | rfl | (simp only [Nat.add_zero]; done) | (congr 1; omega)) (Below.refl _ _) (fun h => by cases h)
                  · simp only [wpOp, List.getElem?_toArray, List.getElem?_cons_succ, List.getElem?_cons_zero, Region.wanted, if_true]
                    refine Or.inl ?_
                    have e0 : av.tmps.getD 167 undef = .pointer (some ⟨gn, 2, none⟩) := (hw 6 (by kernel_rfl))
                    have e0e : av.eval (.tmp 167) = .pointer (some ⟨gn, 2, none⟩) := e0
                    have e0g : av.tmps[167]?.getD undef = .pointer (some ⟨gn, 2, none⟩) := by have := e0; simp only [Array.getD_eq_getD_getElem?] at this; exact this
                    obtain ⟨f0, f1, f2⟩ := F7.out x hb'
                    clear hw hF
                    simp only [Oper.wp, execOp]
                    try simp only [e0e]
                    go_simp
                    exact hK _ x (by first | rfl | (simp only [Nat.add_zero]; done) | (congr 1; omega)) (Below.refl _ _) (fun h => by cases h)
                  · simp only [wpOp, List.getElem?_toArray, List.getElem?_cons_succ, List.getElem?_cons_zero, Region.wanted, if_true]
                    refine Or.inl ?_
                    have e0 : av.tmps.getD 2 undef = .int .i64 (p : Int) := hF.2.2 2 (by decide)
                    have e0e : av.eval (.tmp 2) = .int .i64 (p : Int) := e0
                    have e0g : av.tmps[2]?.getD undef = .int .i64 (p : Int) := by have := e0; simp only [Array.getD_eq_getD_getElem?] at this; exact this
                    clear hw hF
                    simp only [Oper.wp, execOp]
                    try simp only [e0e]
                    go_simp
                    exact hK _ x (by first | rfl | (simp only [Nat.add_zero]; done) | (congr 1; omega)) (Below.refl _ _) (fun h => by cases h)
                  · simp only [wpOp, List.getElem?_toArray, List.getElem?_cons_succ, List.getElem?_cons_zero, Region.wanted, if_true]
                    refine Or.inl ?_
                    have e0 : av.tmps.getD 168 undef = .slice (some ⟨bd, od, none⟩) ds.length d1 := (hw 7 (by kernel_rfl))
                    have e0e : av.eval (.tmp 168) = .slice (some ⟨bd, od, none⟩) ds.length d1 := e0
                    have e0g : av.tmps[168]?.getD undef = .slice (some ⟨bd, od, none⟩) ds.length d1 := by have := e0; simp only [Array.getD_eq_getD_getElem?] at this; exact this
                    have e1 : av.tmps.getD 169 undef = .int .i64 (p : Int) := (hw 8 (by kernel_rfl))
                    have e1e : av.eval (.tmp 169) = .int .i64 (p : Int) := e1
                    have e1g : av.tmps[169]?.getD undef = .int .i64 (p : Int) := by have := e1; simp only [Array.getD_eq_getD_getElem?] at this; exact this
                    clear hw hF
                    simp only [Oper.wp, execOp]
                    try simp only [e0e, e1e]
                    go_simp
                    exact hK _ x (by first | rfl | (simp only [Nat.add_zero]; done) | (congr 1; omega)) (Below.refl _ _) (fun h => by cases h)
                  · simp only [wpOp, List.getElem?_toArray, List.getElem?_cons_succ, List.getElem?_cons_zero, Region.wanted, if_true]
                    refine Or.inl ?_
                    have e0 : av.tmps.getD 170 undef = .pointer (some ⟨bd, od + p, none⟩) := (hw 9 (by kernel_rfl))
                    have e0e : av.eval (.tmp 170) = .pointer (some ⟨bd, od + p, none⟩) := e0
                    have e0g : av.tmps[170]?.getD undef = .pointer (some ⟨bd, od + p, none⟩) := by have := e0; simp only [Array.getD_eq_getD_getElem?] at this; exact this
                    have fc := C5b.out x hb'
                    clear hw hF
                    simp only [Oper.wp, execOp]
                    try simp only [e0e]
                    go_simp
                    exact hK _ x (by first | rfl | (simp only [Nat.add_zero]; done) | (congr 1; omega)) (Below.refl _ _) (fun h => by cases h)
                  · simp only [wpOp, List.getElem?_toArray, List.getElem?_cons_succ, List.getElem?_cons_zero, Region.wanted, if_true]
                    refine Or.inl ?_
                    have e0 : av.tmps.getD 161 undef = .agg #[.bool true, .slice A2 ms.length c2, .slice B2 es.length d2] := (hw 0 (by kernel_rfl))
                    have e0e : av.eval (.tmp 161) = .agg #[.bool true, .slice A2 ms.length c2, .slice B2 es.length d2] := e0
                    have e0g : av.tmps[161]?.getD undef = .agg #[.bool true, .slice A2 ms.length c2, .slice B2 es.length d2] := by have := e0; simp only [Array.getD_eq_getD_getElem?] at this; exact this
                    have e1 : av.tmps.getD 166 undef = .string ⟨x0.toArray⟩ := (hw 5 (by kernel_rfl))
                    have e1e : av.eval (.tmp 166) = .string ⟨x0.toArray⟩ := e1
                    have e1g : av.tmps[166]?.getD undef = .string ⟨x0.toArray⟩ := by have := e1; simp only [Array.getD_eq_getD_getElem?] at this; exact this
                    have e2 : av.tmps.getD 171 undef = .int .i64 q0 := (hw 10 (by kernel_rfl))
                    have e2e : av.eval (.tmp 171) = .int .i64 q0 := e2
                    have e2g : av.tmps[171]?.getD undef = .int .i64 q0 := by have := e2; simp only [Array.getD_eq_getD_getElem?] at this; exact this
                    clear hw hF
                    simp only [Oper.wp, execOp]
                    try simp only [e0e, e1e, e2e]
                    go_simp
                    refine (put_any true A2 c2 ms B2 d2 es x0 q0 x (W7.out.1.below hb') (W7.out.2.below hb') (by have := LK.out; have := ML.out; omega) (by unfold shapedB; have h1 := ML.out; have h2 := ML2.out; rw [LD.out] at h2; simp; omega)).mono ?_
                    rintro e x' ⟨i9, b9, A0, c0, B0, d0, rfl, h3, h4, _, _, hi, hx, _, _⟩
                    obtain ⟨rfl, rfl⟩ := hi SR.out
                    rw [PK.out] at h3 ⊢
                    rw [PD.out] at h4 ⊢
                    exact hK _ x' ⟨A0, c0, B0, d0, rfl, h3, h4⟩ hx (fun h => by cases h)
                  · simp only [wpOp, List.getElem?_toArray, List.getElem?_cons_succ, List.getElem?_cons_zero, Region.wanted, if_true]
                    refine Or.inl ?_
                    have e0 : av.tmps.getD 8 undef = .pointer (some ⟨gn, 0, none⟩) := hF.2.2 8 (by decide)
                    have e0e : av.eval (.tmp 8) = .pointer (some ⟨gn, 0, none⟩) := e0
                    have e0g : av.tmps[8]?.getD undef = .pointer (some ⟨gn, 0, none⟩) := by have := e0; simp only [Array.getD_eq_getD_getElem?] at this; exact this
                    obtain ⟨f0, f1, f2⟩ := F7.out x hb'
                    clear hw hF
                    simp only [Oper.wp, execOp]
                    try simp only [e0e]
                    go_simp
                    exact hK _ x (by first | rfl | (simp only [Nat.add_zero]; done) | (congr 1; omega)) (Below.refl _ _) (fun h => by cases h)
                  · simp only [wpOp, List.getElem?_toArray, List.getElem?_cons_succ, List.getElem?_cons_zero, Region.wanted, if_true]
                    refine Or.inl ?_
                    have e0 : av.tmps.getD 173 undef = .agg #[.bool true, .slice (some ⟨bk, ok, none⟩) ks.length c1, .slice (some ⟨bd, od, none⟩) ds.length d1] := (hw 12 (by kernel_rfl))
                    have e0e : av.eval (.tmp 173) = .agg #[.bool true, .slice (some ⟨bk, ok, none⟩) ks.length c1, .slice (some ⟨bd, od, none⟩) ds.length d1] := e0
                    have e0g : av.tmps[173]?.getD undef = .agg #[.bool true, .slice (some ⟨bk, ok, none⟩) ks.length c1, .slice (some ⟨bd, od, none⟩) ds.length d1] := by have := e0; simp only [Array.getD_eq_getD_getElem?] at this; exact this
                    clear hw hF
                    simp only [Oper.wp, execOp]
                    try simp only [e0e]
                    go_simp
                    refine (ref_any true _ c1 ks _ d1 ds x (V7.out.1.below hb') (V7.out.2.below hb')).mono ?_
                    rintro e x' ⟨rfl, hx⟩
                    exact hK _ x' rfl hx (fun h => by cases h)
                  · simp only [wpOp, List.getElem?_toArray, List.getElem?_cons_succ, List.getElem?_cons_zero, Region.wanted, if_true]
                    refine Or.inl ?_
                    obtain ⟨Ax0, cx0, Bx0, dx0, e0, h1x0, h2x0⟩ := (hw 11 (by kernel_rfl))
                    have e0e : av.eval (.tmp 172) = .agg #[.bool true, .slice Ax0 ks.length cx0, .slice Bx0 ds.length dx0] := e0
                    have e0g : av.tmps[172]?.getD undef = .agg #[.bool true, .slice Ax0 ks.length cx0, .slice Bx0 ds.length dx0] := by have := e0; simp only [Array.getD_eq_getD_getElem?] at this; exact this
                    have e1 : av.tmps.getD 174 undef = .agg #[.bool true, .slice (some ⟨bk, ok, none⟩) ks.length c1, .slice (some ⟨bd, od, none⟩) ds.length d1] := (hw 13 (by kernel_rfl))
                    have e1e : av.eval (.tmp 174) = .agg #[.bool true, .slice (some ⟨bk, ok, none⟩) ks.length c1, .slice (some ⟨bd, od, none⟩) ds.length d1] := e1
                    have e1g : av.tmps[174]?.getD undef = .agg #[.bool true, .slice (some ⟨bk, ok, none⟩) ks.length c1, .slice (some ⟨bd, od, none⟩) ds.length d1] := by have := e1; simp only [Array.getD_eq_getD_getElem?] at this; exact this
                    clear hw hF
                    simp only [Oper.wp, execOp]
                    try simp only [e0e, e1e]
                    go_simp
                    refine (nodes_any true _ _ _ _ _ _ _ _ ks ds x h1x0 h2x0 (V7.out.1.below hb') (V7.out.2.below hb') (by have := LK.out; omega) (by have := LK.out; rw [LD.out]; omega)).mono ?_
                    rintro e x' ⟨rfl, hx⟩
                    exact hK _ x' rfl hx (fun h => by cases h)
                intro av x hF hb' hR _
                have e0 : av.tmps.getD 161 undef = .agg #[.bool true, .slice A2 ms.length c2, .slice B2 es.length d2] := hR 0 (by decide)
                have e1 : av.tmps.getD 162 undef = .pointer (some ⟨gn, 1, none⟩) := hR 1 (by decide)
                have e2 : av.tmps.getD 163 undef = .slice (some ⟨bk, ok, none⟩) ks.length c1 := hR 2 (by decide)
                have e3 : av.tmps.getD 164 undef = .int .i64 (p : Int) := hR 3 (by decide)
                have e4 : av.tmps.getD 165 undef = .pointer (some ⟨bk, ok + p, none⟩) := hR 4 (by decide)
                have e5 : av.tmps.getD 166 undef = .string ⟨x0.toArray⟩ := hR 5 (by decide)
                have e6 : av.tmps.getD 167 undef = .pointer (some ⟨gn, 2, none⟩) := hR 6 (by decide)
                have e7 : av.tmps.getD 168 undef = .slice (some ⟨bd, od, none⟩) ds.length d1 := hR 7 (by decide)
                have e8 : av.tmps.getD 169 undef = .int .i64 (p : Int) := hR 8 (by decide)
                have e9 : av.tmps.getD 170 undef = .pointer (some ⟨bd, od + p, none⟩) := hR 9 (by decide)
                have e10 : av.tmps.getD 171 undef = .int .i64 q0 := hR 10 (by decide)
                obtain ⟨Ax11, cx11, Bx11, dx11, e11, h1x11, h2x11⟩ := hR 11 (by decide)
                replace e11 : av.tmps.getD 172 undef = .agg #[.bool true, .slice Ax11 ks.length cx11, .slice Bx11 ds.length dx11] := e11
                have e12 : av.tmps.getD 173 undef = .agg #[.bool true, .slice (some ⟨bk, ok, none⟩) ks.length c1, .slice (some ⟨bd, od, none⟩) ds.length d1] := hR 12 (by decide)
                have e13 : av.tmps.getD 174 undef = .agg #[.bool true, .slice (some ⟨bk, ok, none⟩) ks.length c1, .slice (some ⟨bd, od, none⟩) ds.length d1] := hR 13 (by decide)
                have e14 : av.tmps.getD 175 undef = .bool true := hR 14 (by decide)
                rw [hF.fold (by kernel_rfl)]
                simp only [List.foldl_cons, List.foldl_nil, e0, e1, e2, e3, e4, e5, e6, e7, e8, e9, e10, e11, e12, e13, e14]
                simp only [Act.put, List.setIfInBounds_toArray, List.set_cons_zero, List.set_cons_succ]
                change wpOps _ _ _ [15] _ _
                simp only [wpOps_cons]
                clear e0 e1 e2 e3 e4 e5 e6 e7 e8 e9 e10 e11 e12 e13 e14 hR hF
                clear h1x11 h2x11
                have R8 := Lib.hid (row_on R7.out hb')
                have M8 := Lib.hid (row_on RM7.out hb')
                have K8 := Lib.hid (K7.out.trans (hb'.mono K7.out.size))
                clear hb' R7 RM7 K7 V7 W7 F7 G7 C4b C5b
                try rw [wpOps_cons]
                simp only [wpOp, List.getElem?_toArray, List.getElem?_cons_succ, List.getElem?_cons_zero, Region.wanted, if_true]
                refine Or.inl ?_
                simp only [Oper.wp, execOp]
                go_simp
                try simp only [wpOps]
                have f1 := row_c R8.out (i := 1) rfl
                have f9 := row_c M8.out (i := 1) rfl
                have z1 : IntKind.i64.wrap ((ks.length : Int) - 1) = (ms.length : Int) := by have h1 := ML.out; have h2 := NZ.out; have := LK.out; rw [IntWalk.i64_in _ (by omega)]; omega
                go_wp2
                go_ret
                exact ⟨rfl, K8.out⟩
end Go.Proofs.Ytkbdcbcjbgbglaa
