import Derived.Test.YtdmfapgclppmhaaGreatDoorMB7
import Derived.Test.YtdmfapgclppmhaaGreatDoorMB9
import Derived.Test.YtdmfapgclppmhaaGreatDoorMB5
import Derived.Test.YtdmfapgclppmhaaGreatDoorTie
import Derived.Test.YtdmfapgclppmhaaGreatDoorCards
import Derived.SevenTiedAt
import Derived.OpenShut
import Derived.ChangeMaps5
section
namespace Go.Proofs.YtdmfapgclppmhaaGreatDoor
open Go.RowKit
set_option linter.unusedSimpArgs false
set_option linter.unusedVariables false
/-- What the document's Encode answers of a table. -/
theorem r16enc_tab {A P : Option Addr} {c k : Nat} {F O W Q D : Int} {a : Nm} {ps : List Pd} {w : World} (h : Dg w A c a.2.1) (hl : a.2.1.length ≤ 10000) (hps : PsL w P ps) (hsm : SmP ps) {E : Int} {t : ByteArray} (hE : outE (encO F O a W Q D ps) = E) (ht : t.data.toList = outB (encO F O a W Q D ps)) :
    Calls Tryz.prog 8 #[.agg #[.int .i64 F, .int .i64 O, .bool a.1, .slice A a.2.1.length c, .int .i64 a.2.2, .int .i64 W, .int .i64 Q, .int .i64 D, .slice P ps.length k]] w fun e w' => e = .returned (.tuple #[.string t, .bool (E == 0)]) ∧ Below w.heap.size w w' := by
  obtain ⟨s, xs, x⟩ := a
  unfold encO at hE ht
  cases hq : rightT F O (s, xs, x) W Q D ps
  · rw [hq] at hE ht
    obtain rfl : E = 1 := by rw [← hE]; rfl
    obtain rfl : t = ⟨#[]⟩ := by apply ByteArray.ext; apply Array.toList_inj.1; rw [ht]; rfl
    exact r16encode_no A P c k _ F O W Q D s xs x ps w h hl hps hsm rfl hq
  · rw [hq, if_pos rfl] at hE ht
    refine (r16encode_go A P c k _ F O W Q D s xs x ps w h hl hps hsm rfl hq).mono ?_
    rintro e w' ⟨⟨t2, rfl, h2⟩, hb⟩
    obtain rfl : t2 = t := by apply ByteArray.ext; apply Array.toList_inj.1; rw [h2, ht]
    refine ⟨?_, hb⟩
    have e2 : ((encS F O (s, xs, x) W Q D ps).2 == 0) = (E == 0) := by
      rw [← hE]; unfold outE
      by_cases hz : (encS F O (s, xs, x) W Q D ps).2 = 0
      · rw [if_pos hz, hz]
      · rw [if_neg hz]; simp [hz]
    rw [e2]

set_option maxHeartbeats 8000000 in
set_option maxRecDepth 100000 in
theorem writes_law (A P : Option Addr) (c k : Nat) (F O W Q D : Int) (a : Nm) (ps : List Pd) (w : World) (h : Dg w A c a.2.1) (hps : PsL w P ps) (hk : ps.length ≤ k) (hk2 : ps.length ≤ 9223372036854775807) (hk3 : a.2.1.length ≤ 9223372036854775807) (hT : T32 w) :
    Calls Tryz.prog 3 #[.agg #[.int .i64 F, .int .i64 O, .bool a.1, .slice A a.2.1.length c, .int .i64 a.2.2, .int .i64 W, .int .i64 Q, .int .i64 D, .slice P ps.length k]] w fun e w' => e = .returned (.bool true) ∧ Below w.heap.size w w' := by
  have HT := Lib.hid hT
  have HD := Lib.hid h
  have HPS := Lib.hid hps
  have HK := Lib.hid (And.intro hk (And.intro hk2 hk3))
  obtain ⟨a2, ha2⟩ : ∃ z, cutN a = z := ⟨_, rfl⟩
  obtain ⟨ps2, hp2⟩ : ∃ z, (ps.take 40).map cutP = z := ⟨_, rfl⟩
  have HA2 := Lib.hid ha2
  have HP2 := Lib.hid hp2
  have SM := Lib.hid (cut_sm (a := a) (ps := ps))
  rw [ha2, hp2] at SM
  have D2 := Lib.hid (show Dg w A c a2.2.1 by rw [← ha2]; exact h.take 8)
  obtain ⟨E, hE⟩ : ∃ z, outE (encO F O a2 W Q D ps2) = z := ⟨_, rfl⟩
  obtain ⟨L, hL⟩ : ∃ z, outB (encO F O a2 W Q D ps2) = z := ⟨_, rfl⟩
  obtain ⟨st, hst⟩ : ∃ z : ByteArray, (⟨L.toArray⟩ : ByteArray) = z := ⟨_, rfl⟩
  have HST := Lib.hid (show st.data.toList = L by rw [← hst])
  have HE := Lib.hid hE
  have HL := Lib.hid hL
  clear h hps hk hk2 hk3 hT ha2 hp2 hE hL hst
  go_enter Tryz.func3, Tryz.ntmps3
  go_wp2_with fail
  obtain ⟨v1, hW⟩ : ∃ V : World, w.alloc (.cells #[.int .i64 F, .int .i64 O, .bool a.1, .slice A a.2.1.length c, .int .i64 a.2.2, .int .i64 W, .int .i64 Q, .int .i64 D, .slice P ps.length k] 29) = V := ⟨_, rfl⟩
  rw [hW]
  have B1 := Lib.hid (show Below w.heap.size w v1 by rw [← hW]; exact below1 _ _)
  have R1 := Lib.hid (show v1.heap[w.heap.size]? = some (.cells #[.int .i64 F, .int .i64 O, .bool a.1, .slice A a.2.1.length c, .int .i64 a.2.2, .int .i64 W, .int .i64 Q, .int .i64 D, .slice P ps.length k] 29 (0, 0)) by rw [← hW]; exact heap_alloc_new _ _)
  clear hW
  refine (examples_any v1 (t32_below HT.out B1.out)).mono ?_
  rintro e v2 ⟨rfl, hb⟩
  have B2 := Lib.hid (B1.out.trans (hb.mono B1.out.size))
  have R2 := co R1 hb
  clear hb
  go_wp2_with (refine wpList_load_box rfl 29 _ rfl w.heap.size rfl #[.int .i64 F, .int .i64 O, .bool a.1, .slice A a.2.1.length c, .int .i64 a.2.2, .int .i64 W, .int .i64 Q, .int .i64 D, .slice P ps.length k] _ R2.out _ Tryz.underlying29 rfl tab_size ?_)
  refine (trims_v (HD.out.below B2.out) (HPS.out.below B2.out) HK.out.1 HK.out.2.1 HK.out.2.2 HA2.out HP2.out).mono ?_
  rintro e v3 ⟨P2, k2, rfl, hp, hb⟩
  have B3 := Lib.hid (B2.out.trans (hb.mono B2.out.size))
  have R3 := co R2 hb
  have P3 := Lib.hid hp
  clear hb hp
  go_wp2_with (refine wpList_store_box rfl 29 _ _ rfl w.heap.size rfl #[.int .i64 F, .int .i64 O, .bool a2.1, .slice A a2.2.1.length c, .int .i64 a2.2.2, .int .i64 W, .int .i64 Q, .int .i64 D, .slice P2 ps2.length k2] rfl #[.int .i64 F, .int .i64 O, .bool a.1, .slice A a.2.1.length c, .int .i64 a.2.2, .int .i64 W, .int .i64 Q, .int .i64 D, .slice P ps.length k] 29 R3.out tab_size rfl tab_one ?_)
  intro v4 hO hr4
  have R4 := Lib.hid hr4
  clear hr4
  have B4 := Lib.hid (hO.below B3.out (Nat.le_refl _))
  have OK := Lib.hid (psl_ok (D2.out.below B3.out) P3.out.ps)
  have P4 := Lib.hid (P3.out.only hO R3.out (noint_of (by simp)) (by decide) (by decide))
  have D4 := Lib.hid (show Dg v4 A c a2.2.1 from (D2.out.below B3.out).kept (hO.kept R3.out (noint_of (by simp))))
  clear hO
  go_wp2_with (refine wpList_load_box rfl 29 _ rfl w.heap.size rfl #[.int .i64 F, .int .i64 O, .bool a2.1, .slice A a2.2.1.length c, .int .i64 a2.2.2, .int .i64 W, .int .i64 Q, .int .i64 D, .slice P2 ps2.length k2] _ R4.out _ Tryz.underlying29 rfl tab_size ?_)
  refine (enc_tab (F := F) (O := O) (W := W) (Q := Q) (D := D) (k := k2) D4.out (Nat.le_trans SM.out.1 (by decide)) (t32_below HT.out B4.out) P4.out.ps SM.out.2 HE.out (HST.out.trans HL.out.symm)).mono ?_
  rintro e v5 ⟨rfl, hb⟩
  have B5 := Lib.hid (B4.out.trans (hb.mono B4.out.size))
  have R5 := co R4 hb
  have P5 := Lib.hid (P4.out.ps.below hb)
  have D5 := Lib.hid (D4.out.below hb)
  clear hb P3 P4 D4 R3 R4
  go_wp2_with (refine wpList_load_box rfl 29 _ rfl w.heap.size rfl #[.int .i64 F, .int .i64 O, .bool a2.1, .slice A a2.2.1.length c, .int .i64 a2.2.2, .int .i64 W, .int .i64 Q, .int .i64 D, .slice P2 ps2.length k2] _ R5.out _ Tryz.underlying29 rfl tab_size ?_)
  refine (r16enc_tab (F := F) (O := O) (W := W) (Q := Q) (D := D) (k := k2) D5.out (Nat.le_trans SM.out.1 (by decide)) P5.out SM.out.2 HE.out (HST.out.trans HL.out.symm)).mono ?_
  rintro e v6 ⟨rfl, hb⟩
  have B6 := Lib.hid (B5.out.trans (hb.mono B5.out.size))
  have R6 := co R5 hb
  have P6 := Lib.hid (P5.out.below hb)
  have D6 := Lib.hid (D5.out.below hb)
  clear hb P5 D5 R5
  obtain ⟨m, hm⟩ : ∃ m, L.length = m := ⟨_, rfl⟩
  have HM := Lib.hid hm
  have hst : st.size = m := by rw [← hm, ← HST.out]; simp
  have tt : (st.data.toList == st.data.toList) = true := by simp
  have SZ := Lib.hid (fun (V : World) (hV : Below v6.heap.size v6 V) => (HM.out ▸ HL.out ▸ size_any (A := A) (P := P2) (c := c) (k := k2) (F := F) (O := O) (W := W) (Q := Q) (D := D) (a := a2) (ps := ps2) (D6.out.below hV) (Nat.le_trans SM.out.1 (by decide)) (t32_below HT.out (B6.out.trans (hV.mono B6.out.size))) (P6.out.below hV) SM.out.2 : Calls Tryz.prog 9 #[.agg #[.int .i64 F, .int .i64 O, .bool a2.1, .slice A a2.2.1.length c, .int .i64 a2.2.2, .int .i64 W, .int .i64 Q, .int .i64 D, .slice P2 ps2.length k2]] V fun e w' => e = .returned (.int .i64 (m : Nat)) ∧ Below V.heap.size V w'))
  by_cases hz : E = 0
  · subst hz
    have z0 : ((0 : Int) == 0) = true := rfl
    rw [z0]
    have HST2 := Lib.hid hst
    clear hm hst
    have r0 := row_c (i := 0) R6.out rfl
    have r1 := row_c (i := 1) R6.out rfl
    have r2 := row_c (i := 2) R6.out rfl
    have r3 := row_c (i := 3) R6.out rfl
    have r4 := row_c (i := 4) R6.out rfl
    have r5 := row_c (i := 5) R6.out rfl
    have r6 := row_c (i := 6) R6.out rfl
    have r7 := row_c (i := 7) R6.out rfl
    have r8 := row_c (i := 8) R6.out rfl
    have xr := heap_lt R6.out
    go_wp2_with fail
    refine (SZ.out _ (Below.refl _ _)).mono ?_
    rintro e v7 ⟨rfl, hb⟩
    have B7 := Lib.hid (B6.out.trans (hb.mono B6.out.size))
    have hst := HST2.out
    clear hb r0 r1 r2 r3 r4 r5 r6 r7 r8 xr
    go_wp2_with fail
    refine bodyPost_ret (v := .bool true) ?_ rfl ⟨rfl, B7.out⟩
    simp [results, Tryz.results3, go_sem, hst]
  · have e1 : E = 1 := by
      rw [← HE.out]; unfold outE; rw [if_neg]; intro h; apply hz; rw [← HE.out]; unfold outE; rw [if_pos h]
    subst e1
    have z1 : ((1 : Int) == 0) = false := rfl
    rw [z1]
    have HST2 := Lib.hid hst
    clear hm hst hz z1
    have r0 := row_c (i := 0) R6.out rfl
    have r1 := row_c (i := 1) R6.out rfl
    have r2 := row_c (i := 2) R6.out rfl
    have r3 := row_c (i := 3) R6.out rfl
    have r4 := row_c (i := 4) R6.out rfl
    have r5 := row_c (i := 5) R6.out rfl
    have r6 := row_c (i := 6) R6.out rfl
    have r7 := row_c (i := 7) R6.out rfl
    have r8 := row_c (i := 8) R6.out rfl
    have xr := heap_lt R6.out
    go_wp2_with fail
    refine (SZ.out _ (Below.refl _ _)).mono ?_
    rintro e v7 ⟨rfl, hb⟩
    have B7 := Lib.hid (B6.out.trans (hb.mono B6.out.size))
    have hst := HST2.out
    clear hb r0 r1 r2 r3 r4 r5 r6 r7 r8 xr
    go_wp2_with fail
    refine bodyPost_ret (v := .bool true) ?_ rfl ⟨rfl, B7.out⟩
    simp [results, Tryz.results3, go_sem, hst]
end Go.Proofs.YtdmfapgclppmhaaGreatDoor
end

section
namespace Go.Proofs.YtdmfapgclppmhaaGreatDoor
open Go.RowKit Go.WideShapes Go.ChangeShapes Go.ChangeAt Go.Deep
set_option linter.unusedVariables false
set_option maxRecDepth 100000
/-- A slice that came in, element by element. -/
theorem open_row {H : Type} {enc : TypeId × Value → H} {W : World} {spare : Nat → Bool} {held : Bool} {t e : TypeId} {size : Nat} {a0 : Option Addr} {len cap : Nat} {y : DataW H × List MemPlace}
    (ht : Tryz.prog.underlying t = some (.slice e)) (hs : Tryz.prog.cellsOf e = size) (hs0 : 0 < size) (hd : ∃ n, DataW.trod enc Tryz.prog W 0 spare held n t [.slice a0 len cap] = some y) :
    len ≤ cap ∧ len ≤ 9223372036854775807 ∧ (len ≠ 0 → ∃ b o, a0 = some ⟨b, o, none⟩ ∧ b < W.heap.size ∧ ∀ i, i < len → ∃ (cs : List Value) (z : DataW H × List MemPlace), cs.length = size ∧ (∀ j, j < size → W.cell? ⟨b, o + i * size + j, none⟩ = cs[j]?) ∧ ∃ n, DataW.trod enc Tryz.prog W 0 spare held n e cs = some z) := by
  obtain ⟨fuel, hf⟩ := hd
  rcases open_slice ht hf with ⟨hcs, _⟩ | ⟨a, len', cap', m, n, D, Pl, hcs, _, hl, hm, hmm, _, hx⟩
  · simp at hcs
    obtain ⟨rfl, rfl, rfl⟩ := hcs
    exact ⟨Nat.le_refl _, by omega, fun h => absurd rfl h⟩
  · simp at hcs
    obtain ⟨rfl, rfl, rfl⟩ := hcs
    have hlm : len ≤ m := by rw [hmm]; split <;> omega
    refine ⟨hl, by unfold maxLen at hm; omega, fun h0 => ?_⟩
    obtain ⟨b, off, spot⟩ := a
    obtain ⟨cs0, h1, _⟩ := hx 0 (by omega)
    obtain ⟨_, hlen0, hcell0⟩ := World.cells?_some h1
    rw [hs] at hlen0 hcell0
    have hc0 := hcell0 0 hs0
    obtain ⟨v, hv⟩ : ∃ v, cs0[0]? = some v := by cases hk : cs0[0]? with
      | none => rw [List.getElem?_eq_none_iff] at hk; omega
      | some v => exact ⟨v, rfl⟩
    rw [hv] at hc0
    have hspot : spot = none := by simpa [Addr.add] using World.cell?_spot hc0
    subst hspot
    refine ⟨b, off, rfl, by have := World.block_lt_of_cell? _ _ hc0; simpa [Addr.add] using this, fun i hi => ?_⟩
    obtain ⟨cs, g1, g2⟩ := hx i (by omega)
    obtain ⟨_, hlen, hcell⟩ := World.cells?_some g1
    rw [hs] at hlen hcell
    refine ⟨cs, _, hlen, fun j hj => ?_, n, g2⟩
    have := hcell j hj
    rw [Addr.add_lit, Addr.add_lit] at this
    exact this
/-- A number that came in, by its three cells. -/
theorem open_nm {H : Type} {enc : TypeId × Value → H} {W : World} {spare : Nat → Bool} {held : Bool} {v0 v1 v2 : Value} {y : DataW H × List MemPlace}
    (hd : ∃ n, DataW.trod enc Tryz.prog W 0 spare held n 26 [v0, v1, v2] = some y) :
    ∃ (q : Nm) (A : Option Addr) (c : Nat), v0 = .bool q.1 ∧ v1 = .slice A q.2.1.length c ∧ v2 = .int .i64 q.2.2 ∧ Dg W A c q.2.1 ∧ q.2.1.length ≤ 9223372036854775807 := by
  obtain ⟨fuel, hf⟩ := hd
  obtain ⟨y0, y1, n, _, _, h0, h1⟩ := trod_struct2 Tryz.underlying26 hf
  have c0 : Tryz.prog.cellsOf 24 = 2 := by kernel_rfl
  have c1 : Tryz.prog.cellsOf 3 = 1 := by kernel_rfl
  have c2 : Tryz.prog.cellsOf 4 = 1 := by kernel_rfl
  have c3 : Tryz.prog.cellsOf 22 = 1 := by kernel_rfl
  simp only [c0, c1] at h0 h1
  obtain ⟨z0, z1, k, _, _, g0, g1⟩ := trod_struct2 Tryz.underlying24 h0
  simp only [c2, c3] at g0 g1
  obtain ⟨s, e0, _⟩ := DataW.trod_bool Tryz.underlying4 g0
  obtain rfl : v0 = .bool s := by simpa using e0
  obtain ⟨a0, len, cap, e1⟩ := Go.Joins.slice_form Tryz.underlying22 g1
  obtain rfl : v1 = .slice a0 len cap := by simpa using e1
  obtain ⟨e, e2, _, hw⟩ := DataW.trod_int Tryz.underlying3 h1
  obtain rfl : v2 = .int .i64 e := by simpa using e2
  obtain ⟨A, c, xs, ee, g, gl⟩ := open_dg0 ⟨k, g1⟩
  exact ⟨(s, xs, e), A, c, rfl, ee, rfl, g, gl⟩
theorem list3 {α : Type} : ∀ l : List α, l.length = 3 → ∃ a b c, l = [a, b, c]
  | [a, b, c], _ => ⟨a, b, c, rfl⟩
theorem list8 {α : Type} : ∀ l : List α, l.length = 8 → ∃ a b c d e f g h, l = [a, b, c, d, e, f, g, h]
  | [a, b, c, d, e, f, g, h], _ => ⟨a, b, c, d, e, f, g, h, rfl⟩
theorem list9 {α : Type} : ∀ l : List α, l.length = 9 → ∃ a b c d e f g h i, l = [a, b, c, d, e, f, g, h, i]
  | [a, b, c, d, e, f, g, h, i], _ => ⟨a, b, c, d, e, f, g, h, i, rfl⟩
theorem list7 {α : Type} : ∀ l : List α, l.length = 7 → ∃ a b c d e f g, l = [a, b, c, d, e, f, g]
  | [a, b, c, d, e, f, g], _ => ⟨a, b, c, d, e, f, g, rfl⟩
/-- Numbers that came in. -/
theorem open_nms {H : Type} {enc : TypeId × Value → H} {W : World} {spare : Nat → Bool} {held : Bool} {a0 : Option Addr} {len cap : Nat} {y : DataW H × List MemPlace}
    (hd : ∃ n, DataW.trod enc Tryz.prog W 0 spare held n 47 [.slice a0 len cap] = some y) : ∃ cs : List Nm, cs.length = len ∧ NsL W a0 cap cs := by
  obtain ⟨hl, _, h⟩ := open_row (size := 3) Tryz.underlying47 (by kernel_rfl) (by omega) hd
  by_cases h0 : len = 0
  · subst h0
    exact ⟨[], rfl, fun _ => none, fun _ => 0, by simp, fun h => absurd rfl h⟩
  obtain ⟨b, o, rfl, hb, hx⟩ := h h0
  have each : ∀ i, i < len → ∃ r : Nm × Option Addr × Nat, W.cell? ⟨b, o + i * 3, none⟩ = some (.bool r.1.1) ∧ W.cell? ⟨b, o + i * 3 + 1, none⟩ = some (.slice r.2.1 r.1.2.1.length r.2.2) ∧ W.cell? ⟨b, o + i * 3 + 2, none⟩ = some (.int .i64 r.1.2.2) ∧ Dg W r.2.1 r.2.2 r.1.2.1 := by
    intro i hi
    obtain ⟨cs, z, hcl, hc, ht⟩ := hx i hi
    obtain ⟨v0, v1, v2, rfl⟩ := list3 cs hcl
    obtain ⟨q, A, c, rfl, rfl, rfl, g, _⟩ := open_nm ht
    exact ⟨(q, A, c), by simpa using hc 0 (by omega), by simpa using hc 1 (by omega), by simpa using hc 2 (by omega), g⟩
  obtain ⟨f, hf⟩ := choose_lt each
  have hg : ∀ i, i < len → ((List.range len).map fun i => (f i).1)[i]?.getD (false, [], 0) = (f i).1 := fun i hi => by
    rw [List.getElem?_map, List.getElem?_range hi]; rfl
  refine ⟨(List.range len).map fun i => (f i).1, by simp, fun i => (f i).2.1, fun i => (f i).2.2, by simpa using hl, fun _ => ⟨b, o, rfl, hb, fun i hi => ?_⟩⟩
  have hi' : i < len := by simpa using hi
  dsimp only
  rw [hg i hi']
  exact hf i hi'
/-- A piece that came in, by its eight cells. -/
theorem open_pd {H : Type} {enc : TypeId × Value → H} {W : World} {spare : Nat → Bool} {held : Bool} {v0 v1 v2 v3 v4 v5 v6 v7 : Value} {y : DataW H × List MemPlace}
    (hd : ∃ n, DataW.trod enc Tryz.prog W 0 spare held n 49 [v0, v1, v2, v3, v4, v5, v6, v7] = some y) :
    ∃ (p : Pd) (A : Option Addr) (c : Nat) (B : Option Addr) (d : Nat) (P : Option Addr) (k : Nat), v0 = .bool p.a.1 ∧ v1 = .slice A p.a.2.1.length c ∧ v2 = .int .i64 p.a.2.2 ∧ v3 = .int .i64 p.w ∧ v4 = .slice P p.cs.length k ∧ v5 = .bool p.er.1 ∧ v6 = .slice B p.er.2.1.length d ∧ v7 = .int .i64 p.er.2.2 ∧ Dg W A c p.a.2.1 ∧ Dg W B d p.er.2.1 ∧ NsL W P k p.cs := by
  obtain ⟨fuel, hf⟩ := hd
  obtain ⟨y0, y1, y2, y3, n, _, _, h0, h1, h2, h3⟩ := Go.Joins.trod_struct4 Tryz.underlying49 hf
  have c0 : Tryz.prog.cellsOf 26 = 3 := by kernel_rfl
  have c1 : Tryz.prog.cellsOf 3 = 1 := by kernel_rfl
  have c2 : Tryz.prog.cellsOf 47 = 1 := by kernel_rfl
  simp only [c0, c1, c2] at h0 h1 h2 h3
  obtain ⟨q, A, c, rfl, rfl, rfl, g, _⟩ := open_nm ⟨n, h0⟩
  obtain ⟨e, e2, _, hw⟩ := DataW.trod_int Tryz.underlying3 h1
  obtain rfl : v3 = .int .i64 e := by simpa using e2
  obtain ⟨a0, len, cap, e1⟩ := Go.Joins.slice_form Tryz.underlying47 h2
  obtain rfl : v4 = .slice a0 len cap := by simpa using e1
  obtain ⟨cs, hcs, g2⟩ := open_nms ⟨n, h2⟩
  obtain ⟨r, B, d, rfl, rfl, rfl, g3, _⟩ := open_nm ⟨n, h3⟩
  exact ⟨⟨q, e, cs, r⟩, A, c, B, d, a0, cap, rfl, rfl, rfl, rfl, by rw [hcs], rfl, rfl, rfl, g, g3, g2⟩
instance : Inhabited Pd := ⟨⟨(false, [], 0), 0, [], (false, [], 0)⟩⟩
/-- Pieces that came in. -/
theorem open_pds {H : Type} {enc : TypeId × Value → H} {W : World} {spare : Nat → Bool} {held : Bool} {a0 : Option Addr} {len cap : Nat} {y : DataW H × List MemPlace}
    (hd : ∃ n, DataW.trod enc Tryz.prog W 0 spare held n 27 [.slice a0 len cap] = some y) : ∃ ps : List Pd, ps.length = len ∧ PsL W a0 ps ∧ ps.length ≤ cap ∧ ps.length ≤ 9223372036854775807 := by
  obtain ⟨hl, hm, h⟩ := open_row (size := 8) Tryz.underlying27 (by kernel_rfl) (by omega) hd
  by_cases h0 : len = 0
  · subst h0
    exact ⟨[], rfl, fun h => absurd rfl h, hl, hm⟩
  obtain ⟨b, o, rfl, hb, hx⟩ := h h0
  have each : ∀ i, i < len → ∃ p : Pd, ∃ A c B d P k, W.cell? ⟨b, o + i * 8, none⟩ = some (.bool p.a.1) ∧ W.cell? ⟨b, o + i * 8 + 1, none⟩ = some (.slice A p.a.2.1.length c) ∧ W.cell? ⟨b, o + i * 8 + 2, none⟩ = some (.int .i64 p.a.2.2) ∧ W.cell? ⟨b, o + i * 8 + 3, none⟩ = some (.int .i64 p.w) ∧ W.cell? ⟨b, o + i * 8 + 4, none⟩ = some (.slice P p.cs.length k) ∧ W.cell? ⟨b, o + i * 8 + 5, none⟩ = some (.bool p.er.1) ∧ W.cell? ⟨b, o + i * 8 + 6, none⟩ = some (.slice B p.er.2.1.length d) ∧ W.cell? ⟨b, o + i * 8 + 7, none⟩ = some (.int .i64 p.er.2.2) ∧ Dg W A c p.a.2.1 ∧ Dg W B d p.er.2.1 ∧ NsL W P k p.cs := by
    intro i hi
    obtain ⟨cs, z, hcl, hc, ht⟩ := hx i hi
    obtain ⟨v0, v1, v2, v3, v4, v5, v6, v7, rfl⟩ := list8 cs hcl
    obtain ⟨p, A, c, B, d, P, k, rfl, rfl, rfl, rfl, rfl, rfl, rfl, rfl, g1, g2, g3⟩ := open_pd ht
    exact ⟨p, A, c, B, d, P, k, by simpa using hc 0 (by omega), by simpa using hc 1 (by omega), by simpa using hc 2 (by omega), by simpa using hc 3 (by omega), by simpa using hc 4 (by omega), by simpa using hc 5 (by omega), by simpa using hc 6 (by omega), by simpa using hc 7 (by omega), g1, g2, g3⟩
  obtain ⟨f, hf⟩ := choose_lt each
  have hlen : ((List.range len).map f).length = len := by simp
  refine ⟨(List.range len).map f, hlen, fun _ => ⟨b, o, rfl, hb, fun i p hp => ?_⟩, by rw [hlen]; exact hl, by rw [hlen]; exact hm⟩
  have hi : i < len := by
    have := (List.getElem?_eq_some_iff.1 hp).1; rw [hlen] at this; exact this
  rw [List.getElem?_map, List.getElem?_range hi] at hp
  obtain rfl : f i = p := by simpa using hp
  exact hf i hi
/-- A table that came in. -/
theorem open_tab {H : Type} {enc : TypeId × Value → H} {W : World} {base : Nat} {v : Value} {d : DataW H} {ps : List MemPlace}
    (hval : Value.okWide Tryz.prog W .any base 29 v) (hd : DataW.Trod enc Tryz.prog W 0 (fun _ => true) true 29 v d ps) :
    ∃ (F O W1 Q D : Int) (a : Nm) (A : Option Addr) (c : Nat) (P : Option Addr) (k : Nat) (qs : List Pd), v = .agg #[.int .i64 F, .int .i64 O, .bool a.1, .slice A a.2.1.length c, .int .i64 a.2.2, .int .i64 W1, .int .i64 Q, .int .i64 D, .slice P qs.length k] ∧
      Dg W A c a.2.1 ∧ a.2.1.length ≤ 9223372036854775807 ∧ PsL W P qs ∧ qs.length ≤ k ∧ qs.length ≤ 9223372036854775807 := by
  obtain ⟨cs, rfl, hsz⟩ := okWide_struct Tryz.underlying29 hval
  obtain ⟨l⟩ := cs
  obtain ⟨v0, v1, v2, v3, v4, v5, v6, v7, v8, rfl⟩ := list9 l (hsz.trans (by kernel_rfl))
  obtain ⟨fuel, hf⟩ := hd
  obtain ⟨xs, n, _, _, _, hxl, hx⟩ := DataW.trod_struct Tryz.underlying29 hf
  obtain ⟨y0, y1, y2, y3, y4, y5, y6, rfl⟩ := list7 xs hxl
  have cI : Tryz.prog.cellsOf 3 = 1 := by kernel_rfl
  have cD : Tryz.prog.cellsOf 26 = 3 := by kernel_rfl
  have cP : Tryz.prog.cellsOf 27 = 1 := by kernel_rfl
  have h0 := hx 0 _ rfl
  have h1 := hx 1 _ rfl
  have h2 := hx 2 _ rfl
  have h3 := hx 3 _ rfl
  have h4 := hx 4 _ rfl
  have h5 := hx 5 _ rfl
  have h6 := hx 6 _ rfl
  obtain ⟨F, e0, _, _⟩ := DataW.trod_int Tryz.underlying3 h0
  obtain rfl : v0 = .int .i64 F := by simpa [Value.cells, cI] using e0
  obtain ⟨O, e1, _, _⟩ := DataW.trod_int Tryz.underlying3 h1
  obtain rfl : v1 = .int .i64 O := by simpa [Value.cells, cI] using e1
  obtain ⟨a, A, c, rfl, rfl, rfl, g, gl⟩ := open_nm (v0 := v2) (v1 := v3) (v2 := v4) ⟨n, by simpa [Value.cells, cD] using h2⟩
  obtain ⟨W1, e3, _, _⟩ := DataW.trod_int Tryz.underlying3 h3
  obtain rfl : v5 = .int .i64 W1 := by simpa [Value.cells, cI] using e3
  obtain ⟨Q, e4, _, _⟩ := DataW.trod_int Tryz.underlying3 h4
  obtain rfl : v6 = .int .i64 Q := by simpa [Value.cells, cI] using e4
  obtain ⟨D, e5, _, _⟩ := DataW.trod_int Tryz.underlying3 h5
  obtain rfl : v7 = .int .i64 D := by simpa [Value.cells, cI] using e5
  obtain ⟨P, len, cap, e6⟩ := Go.Joins.slice_form Tryz.underlying27 h6
  obtain rfl : v8 = .slice P len cap := by simpa [Value.cells, cP] using e6
  obtain ⟨qs, hq, g1, g2, g3⟩ := open_pds (a0 := P) (len := len) (cap := cap) ⟨n, by simpa [Value.cells, cP] using h6⟩
  exact ⟨F, O, W1, Q, D, a, A, c, P, cap, qs, by rw [hq], g, gl, g1, g2, g3⟩
end Go.Proofs.YtdmfapgclppmhaaGreatDoor
end

section
namespace Go.Proofs.YtdmfapgclppmhaaGreatDoor.tabcWrites
open Go Go.ChangeShapes Go.WideShapes Go.ChangeAt Go.RowKit
set_option linter.unusedVariables false
/-- The door's own heap meets the condition. -/
theorem door_met (os : Os) (args : Array Value) : laidMetH Tryz.prog Rows.tabcWritesRow.laid ((World.doorLaid Tryz.prog 400 os).forCall (fun _ _ => 0) ⟨#[], args, []⟩).memory :=
  laidMetH_of_parts3 (fuel := 8) (laidMet_of_run' 8 (by kernel_rfl) (by kernel_rfl)) (by kernel_rfl) (by kernel_rfl)
set_option maxRecDepth 100000 in
theorem lifted (os : Os) (started : os.Started) (H : Type) (enc : TypeId × Value → H) :
    ReturnsInHanded {} Tryz.checked os 3 .any (fun w args => (Rows.tabcWritesSpec.pre enc Tryz.prog Tryz.f3 [] false w args ∧ laidMetH Tryz.prog Rows.tabcWritesRow.laid w) ∧ sizedMet enc Tryz.prog Tryz.f3 (OpenSpec.ofChange Rows.tabcWritesSpec) false w args)
      (Rows.tabcWritesSpec.post enc Tryz.prog Tryz.f3 false true false false) := by
  refine returnsInHanded_of_change_and (C := Tryz.checked) (X := fun w _ => laidMetH Tryz.prog Rows.tabcWritesRow.laid w) (fun _ _ _ hh h => h.of_heap hh) own started (by kernel_rfl) Tryz.func3
    (ChangeSpec.witness_shaped (enc := enc) (C := Tryz.checked) (os := os) (X := fun w _ => laidMetH Tryz.prog Rows.tabcWritesRow.laid w) false (World.doorLaid Tryz.prog 400 os) #[.agg #[.int .i64 0, .int .i64 0, .bool false, .slice none 0 0, .int .i64 0, .int .i64 0, .int .i64 0, .int .i64 0, .slice none 0 0]] 8 rfl (World.shaped_of_RefB (by kernel_rfl) (by kernel_rfl)) (by kernel_rfl) (by kernel_rfl) (by kernel_rfl) (door_met os _)) ?_
  intro W base args ds gs before hval0 hW _ _ hL _
  rw [MakeChecks.laidMetH_plain _ _ _ (by kernel_rfl)] at hL
  have htab := t32_laid hL
  clear hL
  have hval : ∀ (j : Nat) t v, Tryz.f3.params[j]? = some t → args[j]? = some v → Value.okWide Tryz.prog W .any base t v := hval0
  have hW' := hW
  obtain ⟨p, q, hA0, hV, rfl, hfz, hnd⟩ := hW
  have hA : DataW.TrodAll enc Tryz.prog W 0 (fun _ => true) true Tryz.f3.params.toList args.toList ds p := hA0
  rw [Tryz.params3] at hA hval
  obtain ⟨v0, vs0, d0, ds0, p0, q0, hargs, rfl, rfl, h0, r0⟩ := trodAll_cons hA
  obtain ⟨rfl, rfl, rfl⟩ := trodAll_nil r0
  obtain rfl : args = #[v0] := by cases args; simp_all
  obtain ⟨rfl, rfl⟩ := trodVars_none hV
  obtain ⟨F, O, W1, Q, D, a, A, c, P, k, qs, rfl, g0, l0, u1, u2, u3⟩ := open_tab (hval 0 _ _ rfl rfl) h0
  clear hA0
  simp only [List.append_nil] at hW'
  refine (writes_law A P c k F O W1 Q D a qs W g0 u1 u2 u3 l0 htab).mono fun e W' ⟨he, hb⟩ => ?_
  subst he
  have hlt := hW'.lt
  refine ⟨_, rfl, law_post (tb := 4) hW' hb rfl rfl Tryz.underlying4 rfl rfl fun sp hsp => ?_⟩
  have hr := trodAll_cons_mk (again (by kernel_rfl) (of_decide_eq_true (by kernel_rfl)) h0 hb (fun x hx => hlt x (by simp [hx])) sp (fun x hx => hsp x (by simp [hx]))) trodAll_mk0
  simp only [List.append_nil] at hr
  exact hr
theorem row_holds : Rows.TabcWritesSaid :=
  OpenClaim.holds_of_wide 3 Tryz.f3 rfl rfl rfl rfl rfl rfl rfl ⟨rfl, rfl, rfl, rfl, rfl⟩ rfl rfl rfl rfl rfl (by kernel_rfl) Tryz.func3 (by kernel_rfl)
    (of_decide_eq_true (by kernel_rfl)) (by unfold Func.isWrapper; first | (rw [if_pos (by decide +kernel)]; kernel_rfl) | (rw [if_neg (by decide +kernel)]; exact ⟨rfl, rfl⟩))
    (fun os started H enc _ => lifted os started H enc)
/-- THE TIED CARD. -/
theorem proved : Rows.TabcWritesCardSaid :=
  Claim7.holds_tied_plain_at .later [] [.data] true (true, "68282fad96624ad96969af55ccf78b163f7a08f81c9667c60e4b25741e10877e") false
    row_holds (fun _ h => by cases h) (by kernel_rfl) (fun _ h => by cases h) tabcWrites_row_tie rfl ⟨rfl, rfl⟩ (by kernel_rfl) rfl
    (fun f fn hf hfn => by
      obtain rfl : f = 3 := Option.some.inj ((show Tryz.prog.funcNamed Rows.tabcWritesRow.func = some 3 by kernel_rfl).symm.trans hf) |>.symm
      obtain rfl : fn = Tryz.f3 := (Option.some.inj (Tryz.func3.symm.trans hfn)).symm
      exact ⟨by kernel_rfl, fun j t ht => by
        have hall : (Tryz.f3.params.toList.all fun u => !Tryz.prog.wantsStandIn u) = true := by kernel_rfl
        exact (show Tryz.prog.wantsStandIn t = false by simpa using List.all_eq_true.1 hall t (Array.mem_toList_iff.2 (Array.mem_of_getElem? ht)))⟩)
    (by kernel_rfl)
end Go.Proofs.YtdmfapgclppmhaaGreatDoor.tabcWrites
end

