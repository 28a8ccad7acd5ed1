/-
  pager's lay on a disk with a fuse.
-/
import Derived.Test.YtnpopbobpbbamaaFp
namespace Go.Proofs.Ytnpopbobpbbamaa
open Go.RowKit
set_option linter.unusedSimpArgs false
set_option linter.unusedVariables false
theorem Us.chF {fu : Int} {dn : Bool} {B g gs b n : Nat} {U : Nat → Bool} {v : Value} {S : List (List UInt8)} {C : List Wt} {w w' : World} (h : Us w b n U) (d : Df fu dn B w g gs v S C) (k : Ch B g gs w w') : Us w' b n U := by
  obtain ⟨es, cl, hb⟩ := h.isMap
  exact h.same (k.typ b h.lt (ne_map hb d.hg) (ne_map hb d.hs) (fun c f e => by rw [hb] at e; cases e))
theorem Df.pset {fu : Int} {dn : Bool} {B g gs p : Nat} {v : Value} {S : List (List UInt8)} {C : List Wt} {w : World} (h : Df fu dn B w g gs v S C) {cs : Array Value} {T : TypeId} {fr : Nat × Nat} (hp : w.heap[p]? = some (.cells cs T fr)) (hT : T ≠ 70) (h1 : p ≠ g) (h2 : p ≠ gs) (i : Nat) (u : Value) : Df fu dn B (w.setCell ⟨p, i, none⟩ u) g gs v S C :=
  ⟨(Below.heap_setCell _ _ _ _ (fun e => h1 e.symm)).trans h.hg, (Below.heap_setCell _ _ _ _ (fun e => h2 e.symm)).trans h.hs, h.ho.kept (grown_set p i u) (by
    cases e : v.ownBlock with
    | none => exact .inl rfl
    | some k =>
      refine .inr (fun e2 => ?_)
      obtain rfl : k = p := Option.some.inj e2
      obtain ⟨c, fz, h3⟩ := Lib.ownsRow_kind h.ho k e
      rw [hp] at h3
      injection h3 with h3
      injection h3 with _ h3 _
      exact hT h3), h.gB, h.sB, h.ne, by simpa [World.setCell] using h.hB, h.s64, h.c64, h.cn, h.n1, h.n2⟩
theorem Df.p_ne {fu : Int} {dn : Bool} {B p g gs : Nat} {v : Value} {S : List (List UInt8)} {C : List Wt} {w : World} (h : Df fu dn B w g gs v S C) {T R : Int} {m f : Value} {g' : Nat} (hp : Pb w p T R m g' f) : p ≠ g ∧ p ≠ gs :=
  ⟨ne_rows hp h.hg (by decide), ne_rows hp h.hs (by decide)⟩

theorem hdW_q (T R : Nat) (U : Nat → Bool) (C : List Wt) {q : Nat} {s : ByteArray} (hq : T % 2 = q) (hsl : s.data.toList = headL T R U) : C ++ wr2 q ((sealL 1 s.data.toList).take 64) ((sealL 1 s.data.toList).drop 64) = C ++ hdW T R U := by unfold hdW wr2; rw [hq, hsl]
theorem pwrite_lt {B g gs : Nat} {v : Value} {S : List (List UInt8)} {C : List Wt} {f : Nat} (n k : Nat) (s : ByteArray) (w : World) (h : Df (f : Int) false B w g gs v S C) (hf : f < 2) (hn : 2 * n + 1 < S.length) (h1 : 1 ≤ k) (h9 : k ≤ 9) (ht : s.data.toList.length ≤ 120) (hC : C.length ≤ 1000) :
    Calls Try.prog 25 #[.pointer (some ⟨g, 0, none⟩), .int .i64 (n : Int), .int .i64 (k : Int), .string s] w fun e w' => e = .returned (.int .i64 7) ∧ ∃ v', Df 0 true B w' g gs v' S (C ++ (wr2 n ((sealL k s.data.toList).take 64) ((sealL k s.data.toList).drop 64)).take f) ∧ Ch B g gs w w' := by
  refine (pwrite_f f n k s w h (by omega) hn h1 h9 ht hC).mono ?_
  rintro e w' (⟨_, h2, _⟩ | ⟨he, _, hd⟩)
  · omega
  · exact ⟨he, hd⟩
theorem pwrite_ge {B g gs : Nat} {v : Value} {S : List (List UInt8)} {C : List Wt} {f : Nat} (n k : Nat) (s : ByteArray) (w : World) (h : Df ((f + 2 : Nat) : Int) false B w g gs v S C) (hf : f ≤ 900) (hn : 2 * n + 1 < S.length) (h1 : 1 ≤ k) (h9 : k ≤ 9) (ht : s.data.toList.length ≤ 120) (hC : C.length ≤ 1000) :
    Calls Try.prog 25 #[.pointer (some ⟨g, 0, none⟩), .int .i64 (n : Int), .int .i64 (k : Int), .string s] w fun e w' => e = .returned (.int .i64 0) ∧ ∃ v', Df (f : Int) false B w' g gs v' S (C ++ wr2 n ((sealL k s.data.toList).take 64) ((sealL k s.data.toList).drop 64)) ∧ Ch B g gs w w' := by
  refine (pwrite_f (f + 2) n k s w h (by omega) hn h1 h9 ht hC).mono ?_
  rintro e w' (⟨he, _, hd⟩ | ⟨_, h2, _⟩)
  · exact ⟨he, hd⟩
  · omega
set_option maxHeartbeats 4000000 in
set_option maxRecDepth 100000 in
theorem lay_ok {f : Nat} {B p g gs bm k0 : Nat} {v m0 f0 : Value} {T0 R0 : Int} {U : Nat → Bool} {S : List (List UInt8)} {C : List Wt} (T R : Nat) (w : World) (hp : Pb w p T0 R0 m0 g f0) (hu : Us w bm k0 U) (h : Df ((f + 1 + 2 : Nat) : Int) false B w g gs v S C) (hf : f ≤ 800) (hS : 4 ≤ S.length) (hC : C.length ≤ 900) :
    Calls Try.prog 39 #[.pointer (some ⟨p, 0, none⟩), .agg #[.int .i64 (T : Int), .int .i64 (R : Int), .map (some bm)]] w fun e w' => e = .returned (.int .i64 0) ∧ Pb w' p T R (.map (some bm)) g (.slice none 0 0) ∧ Us w' bm k0 U ∧ Df (f : Int) false B w' g gs (.slice none 0 0) (flush S (C ++ hdW T R U)) [] ∧ Cp B p g gs w w' := by
  obtain ⟨V, hV⟩ : ∃ V : World, V = w.alloc (.cells #[.int .i64 (T : Int), .int .i64 (R : Int), .map (some bm)] 45) := ⟨_, rfl⟩
  have hbV : Below w.heap.size w V := by rw [hV]; exact bda _ _
  have RV := Lib.hid (show V.heap[w.heap.size]? = some (.cells #[.int .i64 (T : Int), .int .i64 (R : Int), .map (some bm)] 45 (0, 0)) by rw [hV]; exact heap_alloc_new _ _)
  have PV := Lib.hid (show Pb V p T0 R0 m0 g f0 from row_on hp hbV)
  have UV := Lib.hid (hu.below hbV)
  have DV := Lib.hid (h.below hbV)
  have CV := Lib.hid (Cp.of_below (p := p) (g := g) (gs := gs) hbV h.hB)
  have PN := Lib.hid (h.p_ne hp)
  have CVB := Lib.hid (Nat.le_trans h.hB hbV.size)
  have HS := Lib.hid hS
  have HC := Lib.hid hC
  have KD := Lib.hid (bd0 V)
  have KP := Lib.hid (fun (w' : World) (hb : Below V.heap.size V w') => show w'.cell? ⟨p, 3, none⟩ = some (.pointer (some ⟨g, 0, none⟩)) from row_c (i := 3) (row_on PV.out hb) rfl)
  have PL := Lib.hid (fun (X : World) (hb : Below V.heap.size V X) => place_any (b := w.heap.size) T X (row_c (i := 0) (row_on RV.out hb) rfl))
  have TX := Lib.hid (fun (X : World) (hb : Below V.heap.size V X) => text_any (b := w.heap.size) T R X (UV.out.below hb) (Nat.lt_of_lt_of_le (heap_lt RV.out) hb.size) (row_c (i := 0) (row_on RV.out hb) rfl) (row_c (i := 1) (row_on RV.out hb) rfl) (row_c (i := 2) (row_on RV.out hb) rfl))
  obtain ⟨s, hs⟩ : ∃ s : ByteArray, (⟨(headL T R U).toArray⟩ : ByteArray) = s := ⟨_, rfl⟩
  rw [hs] at TX
  have hsl : s.data.toList = headL T R U := by rw [← hs]
  obtain ⟨q, hq⟩ : ∃ q, T % 2 = q := ⟨_, rfl⟩
  have hWW := hdW_q T R U C hq hsl
  have PW := Lib.hid (fun (X : World) (hb : Below V.heap.size V X) => show Calls Try.prog 25 #[.pointer (some ⟨g, 0, none⟩), .int .i64 (q : Int), .int .i64 1, .string s] X fun e w' => e = .returned (.int .i64 0) ∧ ∃ v', Df ((f + 1 : Nat) : Int) false B w' g gs v' S (C ++ hdW T R U) ∧ Ch B g gs X w' by
    rw [← hWW]
    exact pwrite_ge (f := f + 1) q 1 s X (DV.out.below hb) (by omega) (by omega) (by omega) (by omega) (by rw [hsl, headL_len]; omega) (by omega))
  rw [hq] at PL
  have SL := Lib.hid hsl
  have TOLD := Lib.hid (fun X => told_ok (p := p) X)
  have hpV := heap_lt hp
  clear hp hu h hS hC hbV hs hsl hpV hq hWW
  go_enter Try.func39, Try.ntmps39
  go_wp2_with fail
  rw [← hV]
  have c3 := row_c (i := 3) PV.out rfl
  clear hV
  go_region_held3 (fun w' => w'.cell? ⟨p, 3, none⟩ = some (.pointer (some ⟨g, 0, none⟩)))
    (first | with_reducible exact KP.out _ KD.out | with_reducible exact KP.out _ K1.out | with_reducible exact KP3.out)
    (first
      | (go_at_call 48; (with_reducible refine (PL.out _ KD.out).mono ?_); rintro e w1 ⟨rfl, rfl⟩)
      | (go_at_call 52; (with_reducible refine (TX.out _ KD.out).mono ?_); rintro e w2 ⟨rfl, hb⟩; (have K1 := Lib.hid (KD.out.trans (hb.mono KD.out.size))); clear hb)
      | (go_at_call 25; (with_reducible refine (PW.out _ K1.out).mono ?_); rintro e w3 ⟨rfl, v3, hd, hc⟩; (have P3 := Lib.hid (show Pb w3 p T0 R0 m0 g f0 from hc.stay (row_on PV.out K1.out) (by decide) PN.out.1 PN.out.2)); (have KP3 := Lib.hid (show w3.cell? ⟨p, 3, none⟩ = some (.pointer (some ⟨g, 0, none⟩)) from row_c (i := 3) P3.out rfl)); (have C3 := Lib.hid (CV.out.trans ((Cp.of_below (p := p) (g := g) (gs := gs) ((Below.refl _ _).trans K1.out) CVB.out).trans (Cp.of_ch hc)))); (have U3 := Lib.hid ((UV.out.below K1.out).chF (DV.out.below K1.out) hc)); (have R3 := Lib.hid (show w3.heap[w.heap.size]? = some (.cells #[.int .i64 (T : Int), .int .i64 (R : Int), .map (some bm)] 45 (0, 0)) from hc.stay (row_on RV.out K1.out) (by decide) (ne_rows RV.out DV.out.hg (by decide)) (ne_rows RV.out DV.out.hs (by decide)))); (have D3 := Lib.hid hd); clear hd hc)
      | (go_at_call 24; (with_reducible refine (TOLD.out _).mono ?_); rintro e w4 ⟨rfl, rfl⟩))
  rename_i hHeld
  clear hHeld c3
  have c3 := row_c (i := 3) P3.out rfl
  go_wp2_with fail
  refine (barrier_fs (n := f) _ D3.out (by omega) (by rw [List.length_append]; have := HC.out; simp [hdW]; omega)).mono ?_
  rintro e w4 ⟨rfl, hd, hc⟩
  have P4 := Lib.hid (show Pb w4 p T0 R0 m0 g f0 from hc.stay P3.out (by decide) PN.out.1 PN.out.2)
  have U4 := Lib.hid (U3.out.chF D3.out hc)
  have R4 := Lib.hid (show w4.heap[w.heap.size]? = some (.cells #[.int .i64 (T : Int), .int .i64 (R : Int), .map (some bm)] 45 (0, 0) ) from hc.stay R3.out (by decide) (ne_rows R3.out D3.out.hg (by decide)) (ne_rows R3.out D3.out.hs (by decide)))
  have D4 := Lib.hid hd
  have C4 := Lib.hid (C3.out.trans (Cp.of_ch hc))
  clear hd hc c3
  have TOLD4 := told_ok (p := p) w4
  go_wp2_with fail
  refine TOLD4.mono ?_
  rintro e w5 ⟨rfl, rfl⟩
  clear TOLD4
  have b0 := row_c (i := 0) R4.out rfl
  have b1 := row_c (i := 1) R4.out rfl
  have b2 := row_c (i := 2) R4.out rfl
  have p0 := row_c (i := 0) P4.out rfl
  have p1 := row_c (i := 1) P4.out rfl
  have p2 := row_c (i := 2) P4.out rfl
  have p4 := row_c (i := 4) P4.out rfl
  have z0 := frozen_of_row _ _ 0 _ _ P4.out
  have z1 := frozen_of_row _ _ 1 _ _ P4.out
  have z2 := frozen_of_row _ _ 2 _ _ P4.out
  have z4 := frozen_of_row _ _ 4 _ _ P4.out
  go_wp2_with fail
  go_ret
  have s0 := heap_setCell_same _ _ 0 _ _ (.int .i64 (T : Int)) P4.out
  have s1 := heap_setCell_same _ _ 1 _ _ (.int .i64 (R : Int)) s0
  have s2 := heap_setCell_same _ _ 2 _ _ (.map (some bm)) s1
  have s4 := heap_setCell_same _ _ 4 _ _ (.slice none 0 0) s2
  have d0 := D4.out.pset P4.out (by decide) PN.out.1 PN.out.2 0 (.int .i64 (T : Int))
  have d1 := d0.pset s0 (by decide) PN.out.1 PN.out.2 1 (.int .i64 (R : Int))
  have d2 := d1.pset s1 (by decide) PN.out.1 PN.out.2 2 (.map (some bm))
  have d4 := d2.pset s2 (by decide) PN.out.1 PN.out.2 4 (.slice none 0 0)
  have cc := ((((Cp.refl B p g gs w5).setCell 0 (.int .i64 (T : Int))).setCell 1 (.int .i64 (R : Int))).setCell 2 (.map (some bm))).setCell 4 (.slice none 0 0)
  obtain ⟨es, cl, hb⟩ := U4.out.isMap
  exact ⟨rfl, s4, U4.out.cp cc (ne_map hb P4.out) (ne_map hb D4.out.hg) (ne_map hb D4.out.hs), d4, C4.out.trans cc⟩
set_option maxHeartbeats 4000000 in
set_option maxRecDepth 100000 in
theorem lay_b {B p g gs bm k0 : Nat} {v m0 f0 : Value} {T0 R0 : Int} {U : Nat → Bool} {S : List (List UInt8)} {C : List Wt} (T R : Nat) (w : World) (hp : Pb w p T0 R0 m0 g f0) (hu : Us w bm k0 U) (h : Df ((0 + 2 : Nat) : Int) false B w g gs v S C) (hS : 4 ≤ S.length) (hC : C.length ≤ 900) :
    Calls Try.prog 39 #[.pointer (some ⟨p, 0, none⟩), .agg #[.int .i64 (T : Int), .int .i64 (R : Int), .map (some bm)]] w fun e w' => e = .returned (.int .i64 7) ∧ (∃ v', Df 0 true B w' g gs v' S (C ++ hdW T R U)) ∧ Cp B p g gs w w' := by
  obtain ⟨V, hV⟩ : ∃ V : World, V = w.alloc (.cells #[.int .i64 (T : Int), .int .i64 (R : Int), .map (some bm)] 45) := ⟨_, rfl⟩
  have hbV : Below w.heap.size w V := by rw [hV]; exact bda _ _
  have RV := Lib.hid (show V.heap[w.heap.size]? = some (.cells #[.int .i64 (T : Int), .int .i64 (R : Int), .map (some bm)] 45 (0, 0)) by rw [hV]; exact heap_alloc_new _ _)
  have PV := Lib.hid (show Pb V p T0 R0 m0 g f0 from row_on hp hbV)
  have UV := Lib.hid (hu.below hbV)
  have DV := Lib.hid (h.below hbV)
  have CV := Lib.hid (Cp.of_below (p := p) (g := g) (gs := gs) hbV h.hB)
  have PN := Lib.hid (h.p_ne hp)
  have CVB := Lib.hid (Nat.le_trans h.hB hbV.size)
  have HS := Lib.hid hS
  have HC := Lib.hid hC
  have KD := Lib.hid (bd0 V)
  have KP := Lib.hid (fun (w' : World) (hb : Below V.heap.size V w') => show w'.cell? ⟨p, 3, none⟩ = some (.pointer (some ⟨g, 0, none⟩)) from row_c (i := 3) (row_on PV.out hb) rfl)
  have PL := Lib.hid (fun (X : World) (hb : Below V.heap.size V X) => place_any (b := w.heap.size) T X (row_c (i := 0) (row_on RV.out hb) rfl))
  have TX := Lib.hid (fun (X : World) (hb : Below V.heap.size V X) => text_any (b := w.heap.size) T R X (UV.out.below hb) (Nat.lt_of_lt_of_le (heap_lt RV.out) hb.size) (row_c (i := 0) (row_on RV.out hb) rfl) (row_c (i := 1) (row_on RV.out hb) rfl) (row_c (i := 2) (row_on RV.out hb) rfl))
  obtain ⟨s, hs⟩ : ∃ s : ByteArray, (⟨(headL T R U).toArray⟩ : ByteArray) = s := ⟨_, rfl⟩
  rw [hs] at TX
  have hsl : s.data.toList = headL T R U := by rw [← hs]
  obtain ⟨q, hq⟩ : ∃ q, T % 2 = q := ⟨_, rfl⟩
  have hWW := hdW_q T R U C hq hsl
  have PW := Lib.hid (fun (X : World) (hb : Below V.heap.size V X) => show Calls Try.prog 25 #[.pointer (some ⟨g, 0, none⟩), .int .i64 (q : Int), .int .i64 1, .string s] X fun e w' => e = .returned (.int .i64 0) ∧ ∃ v', Df ((0 : Nat) : Int) false B w' g gs v' S (C ++ hdW T R U) ∧ Ch B g gs X w' by
    rw [← hWW]
    exact pwrite_ge (f := 0) q 1 s X (DV.out.below hb) (by omega) (by omega) (by omega) (by omega) (by rw [hsl, headL_len]; omega) (by omega))
  rw [hq] at PL
  have SL := Lib.hid hsl
  have TOLD := Lib.hid (fun X => told_ok (p := p) X)
  have hpV := heap_lt hp
  clear hp hu h hS hC hbV hs hsl hpV hq hWW
  go_enter Try.func39, Try.ntmps39
  go_wp2_with fail
  rw [← hV]
  have c3 := row_c (i := 3) PV.out rfl
  clear hV
  go_region_held3 (fun w' => w'.cell? ⟨p, 3, none⟩ = some (.pointer (some ⟨g, 0, none⟩)))
    (first | with_reducible exact KP.out _ KD.out | with_reducible exact KP.out _ K1.out | with_reducible exact KP3.out)
    (first
      | (go_at_call 48; (with_reducible refine (PL.out _ KD.out).mono ?_); rintro e w1 ⟨rfl, rfl⟩)
      | (go_at_call 52; (with_reducible refine (TX.out _ KD.out).mono ?_); rintro e w2 ⟨rfl, hb⟩; (have K1 := Lib.hid (KD.out.trans (hb.mono KD.out.size))); clear hb)
      | (go_at_call 25; (with_reducible refine (PW.out _ K1.out).mono ?_); rintro e w3 ⟨rfl, v3, hd, hc⟩; (have P3 := Lib.hid (show Pb w3 p T0 R0 m0 g f0 from hc.stay (row_on PV.out K1.out) (by decide) PN.out.1 PN.out.2)); (have KP3 := Lib.hid (show w3.cell? ⟨p, 3, none⟩ = some (.pointer (some ⟨g, 0, none⟩)) from row_c (i := 3) P3.out rfl)); (have C3 := Lib.hid (CV.out.trans ((Cp.of_below (p := p) (g := g) (gs := gs) ((Below.refl _ _).trans K1.out) CVB.out).trans (Cp.of_ch hc)))); (have U3 := Lib.hid ((UV.out.below K1.out).chF (DV.out.below K1.out) hc)); (have R3 := Lib.hid (show w3.heap[w.heap.size]? = some (.cells #[.int .i64 (T : Int), .int .i64 (R : Int), .map (some bm)] 45 (0, 0)) from hc.stay (row_on RV.out K1.out) (by decide) (ne_rows RV.out DV.out.hg (by decide)) (ne_rows RV.out DV.out.hs (by decide)))); (have D3 := Lib.hid hd); clear hd hc)
      | (go_at_call 24; (with_reducible refine (TOLD.out _).mono ?_); rintro e w4 ⟨rfl, rfl⟩))
  rename_i hHeld
  clear hHeld c3
  have c3 := row_c (i := 3) P3.out rfl
  go_wp2_with fail
  refine (barrier_f0 _ D3.out (by rw [List.length_append]; have := HC.out; simp [hdW]; omega)).mono ?_
  rintro e w4 ⟨rfl, hd, hc⟩
  have P4 := Lib.hid (show Pb w4 p T0 R0 m0 g f0 from hc.stay P3.out (by decide) PN.out.1 PN.out.2)
  have D4 := Lib.hid hd
  have C4 := Lib.hid (C3.out.trans (Cp.of_ch hc))
  clear hd hc c3
  have TOLD4 := told_dn w4 P4.out rfl
  go_wp2_with fail
  refine TOLD4.mono ?_
  rintro e w5 ⟨rfl, hw⟩
  have HW := Lib.hid hw
  clear TOLD4 hw
  go_wp2
  go_ret
  have d := D4.out.pset P4.out (by decide) PN.out.1 PN.out.2 5 (.bool true)
  have cc := (Cp.refl B p g gs w4).setCell 5 (.bool true)
  rw [← HW.out] at d cc
  exact ⟨rfl, ⟨_, d⟩, C4.out.trans cc⟩
set_option maxHeartbeats 4000000 in
set_option maxRecDepth 100000 in
theorem lay_w {f : Nat} {B p g gs bm k0 : Nat} {v m0 f0 : Value} {T0 R0 : Int} {U : Nat → Bool} {S : List (List UInt8)} {C : List Wt} (T R : Nat) (w : World) (hp : Pb w p T0 R0 m0 g f0) (hu : Us w bm k0 U) (h : Df (f : Int) false B w g gs v S C) (hf : f < 2) (hS : 4 ≤ S.length) (hC : C.length ≤ 900) :
    Calls Try.prog 39 #[.pointer (some ⟨p, 0, none⟩), .agg #[.int .i64 (T : Int), .int .i64 (R : Int), .map (some bm)]] w fun e w' => e = .returned (.int .i64 7) ∧ (∃ v', Df 0 true B w' g gs v' S (C ++ (hdW T R U).take f)) ∧ Cp B p g gs w w' := by
  obtain ⟨V, hV⟩ : ∃ V : World, V = w.alloc (.cells #[.int .i64 (T : Int), .int .i64 (R : Int), .map (some bm)] 45) := ⟨_, rfl⟩
  have hbV : Below w.heap.size w V := by rw [hV]; exact bda _ _
  have RV := Lib.hid (show V.heap[w.heap.size]? = some (.cells #[.int .i64 (T : Int), .int .i64 (R : Int), .map (some bm)] 45 (0, 0)) by rw [hV]; exact heap_alloc_new _ _)
  have PV := Lib.hid (show Pb V p T0 R0 m0 g f0 from row_on hp hbV)
  have UV := Lib.hid (hu.below hbV)
  have DV := Lib.hid (h.below hbV)
  have CV := Lib.hid (Cp.of_below (p := p) (g := g) (gs := gs) hbV h.hB)
  have PN := Lib.hid (h.p_ne hp)
  have CVB := Lib.hid (Nat.le_trans h.hB hbV.size)
  have HS := Lib.hid hS
  have HC := Lib.hid hC
  have KD := Lib.hid (bd0 V)
  have KP := Lib.hid (fun (w' : World) (hb : Below V.heap.size V w') => show w'.cell? ⟨p, 3, none⟩ = some (.pointer (some ⟨g, 0, none⟩)) from row_c (i := 3) (row_on PV.out hb) rfl)
  have PL := Lib.hid (fun (X : World) (hb : Below V.heap.size V X) => place_any (b := w.heap.size) T X (row_c (i := 0) (row_on RV.out hb) rfl))
  have TX := Lib.hid (fun (X : World) (hb : Below V.heap.size V X) => text_any (b := w.heap.size) T R X (UV.out.below hb) (Nat.lt_of_lt_of_le (heap_lt RV.out) hb.size) (row_c (i := 0) (row_on RV.out hb) rfl) (row_c (i := 1) (row_on RV.out hb) rfl) (row_c (i := 2) (row_on RV.out hb) rfl))
  obtain ⟨s, hs⟩ : ∃ s : ByteArray, (⟨(headL T R U).toArray⟩ : ByteArray) = s := ⟨_, rfl⟩
  rw [hs] at TX
  have hsl : s.data.toList = headL T R U := by rw [← hs]
  obtain ⟨q, hq⟩ : ∃ q, T % 2 = q := ⟨_, rfl⟩
  have hWW := hdW_q T R U C hq hsl
  have hW1 : C ++ (wr2 q ((sealL 1 s.data.toList).take 64) ((sealL 1 s.data.toList).drop 64)).take f = C ++ (hdW T R U).take f := by unfold hdW wr2; rw [hq, hsl]
  have PW := Lib.hid (fun (X : World) (hb : Below V.heap.size V X) => show Calls Try.prog 25 #[.pointer (some ⟨g, 0, none⟩), .int .i64 (q : Int), .int .i64 1, .string s] X fun e w' => e = .returned (.int .i64 7) ∧ ∃ v', Df 0 true B w' g gs v' S (C ++ (hdW T R U).take f) ∧ Ch B g gs X w' by
    rw [← hW1]
    exact pwrite_lt q 1 s X (DV.out.below hb) hf (by omega) (by omega) (by omega) (by rw [hsl, headL_len]; omega) (by omega))
  rw [hq] at PL
  have SL := Lib.hid hsl
  have TOLD := Lib.hid (fun X => told_ok (p := p) X)
  have hpV := heap_lt hp
  have HF := Lib.hid hf
  clear hp hu h hS hC hbV hs hsl hpV hq hWW hW1 hf
  go_enter Try.func39, Try.ntmps39
  go_wp2_with fail
  rw [← hV]
  have c3 := row_c (i := 3) PV.out rfl
  clear hV
  go_region_held3 (fun w' => w'.cell? ⟨p, 3, none⟩ = some (.pointer (some ⟨g, 0, none⟩)))
    (first | with_reducible exact KP.out _ KD.out | with_reducible exact KP.out _ K1.out | with_reducible exact KP3.out | with_reducible exact KP4.out)
    (first
      | (go_at_call 48; (with_reducible refine (PL.out _ KD.out).mono ?_); rintro e w1 ⟨rfl, rfl⟩)
      | (go_at_call 52; (with_reducible refine (TX.out _ KD.out).mono ?_); rintro e w2 ⟨rfl, hb⟩; (have K1 := Lib.hid (KD.out.trans (hb.mono KD.out.size))); clear hb)
      | (go_at_call 25; (with_reducible refine (PW.out _ K1.out).mono ?_); rintro e w3 ⟨rfl, v3, hd, hc⟩; (have P3 := Lib.hid (show Pb w3 p T0 R0 m0 g f0 from hc.stay (row_on PV.out K1.out) (by decide) PN.out.1 PN.out.2)); (have KP3 := Lib.hid (show w3.cell? ⟨p, 3, none⟩ = some (.pointer (some ⟨g, 0, none⟩)) from row_c (i := 3) P3.out rfl)); (have C3 := Lib.hid (CV.out.trans ((Cp.of_below (p := p) (g := g) (gs := gs) ((Below.refl _ _).trans K1.out) CVB.out).trans (Cp.of_ch hc)))); (have U3 := Lib.hid ((UV.out.below K1.out).chF (DV.out.below K1.out) hc)); (have R3 := Lib.hid (show w3.heap[w.heap.size]? = some (.cells #[.int .i64 (T : Int), .int .i64 (R : Int), .map (some bm)] 45 (0, 0)) from hc.stay (row_on RV.out K1.out) (by decide) (ne_rows RV.out DV.out.hg (by decide)) (ne_rows RV.out DV.out.hs (by decide)))); (have D3 := Lib.hid hd); (have TD3 := Lib.hid (told_dn w3 P3.out rfl)); (have CC3 := Lib.hid (Cp.setCell (Cp.refl B p g gs w3) 5 (.bool true))); clear hd hc)
      | (go_at_call 24; (with_reducible refine (TD3.out).mono ?_); rintro e w4 ⟨rfl, hw4⟩; (have HW4 := Lib.hid hw4); (have KP4 := Lib.hid (show w4.cell? ⟨p, 3, none⟩ = some (.pointer (some ⟨g, 0, none⟩)) by rw [hw4, World.cell?_setCell_other _ _ _ _ (fun e => by have := congrArg Addr.off e; simp at this)]; exact KP3.out)); clear hw4))
  rename_i hHeld
  clear hHeld c3
  go_wp2
  go_ret
  have d := D3.out.pset P3.out (by decide) PN.out.1 PN.out.2 5 (.bool true)
  have cc := CC3.out
  rw [← HW4.out] at d cc
  exact ⟨rfl, ⟨_, d⟩, C3.out.trans cc⟩
end Go.Proofs.Ytnpopbobpbbamaa
