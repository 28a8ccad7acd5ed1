/-
  pager's lay: a head written, and made last.
-/
import Derived.Test.YtmgdpchjimlmeaaGe
import Derived.Test.YtmgdpchjimlmeaaPo
import Derived.Test.YtmgdpchjimlmeaaEg
namespace Go.Proofs.Ytmgdpchjimlmeaa
open Go.RowKit
set_option linter.unusedSimpArgs false
set_option linter.unusedVariables false
/-- What a pager's call may turn: below B nothing but p, g, gs; and wherever it lies, what holds no waiting writes stays. -/
structure Cp (B p g gs : Nat) (w w' : World) : Prop where
  os : w'.os = w.os
  tape : w'.tape = w.tape
  output : w'.output = w.output
  size : w.heap.size ≤ w'.heap.size
  block : ∀ k, k < B → k ≠ p → k ≠ g → k ≠ gs → w'.heap[k]? = w.heap[k]?
  typ : ∀ k, k < w.heap.size → k ≠ p → k ≠ g → k ≠ gs → (∀ cs fr, w.heap[k]? ≠ some (.cells cs 107 fr)) → w'.heap[k]? = w.heap[k]?
theorem Cp.refl (B p g gs : Nat) (w : World) : Cp B p g gs w w := ⟨rfl, rfl, rfl, Nat.le_refl _, fun _ _ _ _ _ => rfl, fun _ _ _ _ _ _ => rfl⟩
theorem Cp.of_ch {B p g gs : Nat} {w w' : World} (h : Ch B g gs w w') : Cp B p g gs w w' := ⟨h.os, h.tape, h.output, h.size, fun k h1 _ h2 h3 => h.block k h1 h2 h3, fun k h1 _ h2 h3 h4 => h.typ k h1 h2 h3 h4⟩
theorem Cp.of_below {B p g gs : Nat} {a b : World} (h : Below a.heap.size a b) (hB : B ≤ a.heap.size) : Cp B p g gs a b := Cp.of_ch (Ch.of_below h hB)
theorem Cp.trans {B p g gs : Nat} {a b c : World} (h : Cp B p g gs a b) (k : Cp B p g gs b c) : Cp B p g gs a c :=
  ⟨k.os.trans h.os, k.tape.trans h.tape, k.output.trans h.output, Nat.le_trans h.size k.size, fun i h1 h2 h3 h4 => (k.block i h1 h2 h3 h4).trans (h.block i h1 h2 h3 h4),
    fun i h1 h2 h3 h4 h5 => (k.typ i (Nat.lt_of_lt_of_le h1 h.size) h2 h3 h4 (by rw [h.typ i h1 h2 h3 h4 h5]; exact h5)).trans (h.typ i h1 h2 h3 h4 h5)⟩
theorem Cp.setCell {B p g gs : Nat} {a b : World} (h : Cp B p g gs a b) (i : Nat) (u : Value) : Cp B p g gs a (b.setCell ⟨p, i, none⟩ u) :=
  h.trans ⟨rfl, rfl, rfl, by simp [World.setCell], fun k _ hk _ _ => Below.heap_setCell _ _ _ _ hk, fun k _ hk _ _ _ => Below.heap_setCell _ _ _ _ hk⟩
theorem Cp.drew {B p g gs : Nat} {a b : World} (h : Cp B p g gs a b) : Cp B p g gs a b.drew := ⟨h.os, h.tape, h.output, h.size, h.block, h.typ⟩
theorem Cp.stay {B p g gs k : Nat} {w w' : World} (h : Cp B p g gs w w') {cs : Array Value} {T : TypeId} {fr : Nat × Nat} (hr : w.heap[k]? = some (.cells cs T fr)) (hT : T ≠ 107) (h0 : k ≠ p) (h1 : k ≠ g) (h2 : k ≠ gs) : w'.heap[k]? = some (.cells cs T fr) :=
  (h.typ k (heap_lt hr) h0 h1 h2 (fun c f e => by rw [hr] at e; injection e with e; injection e with _ e2 _; exact hT e2)).trans hr
theorem Cp.map {B p g gs k : Nat} {w w' : World} (h : Cp B p g gs w w') {es : Array MapEntry} {cl : Nat} (hr : w.heap[k]? = some (.map es cl)) (h0 : k ≠ p) (h1 : k ≠ g) (h2 : k ≠ gs) : w'.heap[k]? = some (.map es cl) :=
  (h.typ k (heap_lt hr) h0 h1 h2 (fun c f e => by rw [hr] at e; cases e)).trans hr
theorem Cp.below {B N p g gs : Nat} {w0 a b : World} (h : Cp B p g gs a b) (hb : Below N w0 a) (h0 : N ≤ B) (h1 : N ≤ p) (h2 : N ≤ g) (h3 : N ≤ gs) : Below N w0 b :=
  ⟨h.os.trans hb.os, h.tape.trans hb.tape, h.output.trans hb.output, Nat.le_trans hb.size h.size, fun k hk => (h.block k (by omega) (by omega) (by omega) (by omega)).trans (hb.block k hk)⟩
theorem ne_rows {w : World} {a b : Nat} {c1 c2 : Array Value} {T1 T2 : TypeId} {f1 f2 : Nat × Nat} (h1 : w.heap[a]? = some (.cells c1 T1 f1)) (h2 : w.heap[b]? = some (.cells c2 T2 f2)) (h : T1 ≠ T2) : a ≠ b := by
  intro e; subst e
  rw [h1] at h2
  injection h2 with h2
  injection h2 with _ h2 _
  exact h h2
theorem ne_map {w : World} {a b : Nat} {c2 : Array Value} {T2 : TypeId} {f2 : Nat × Nat} {es : Array MapEntry} {cl : Nat} (h1 : w.heap[a]? = some (.map es cl)) (h2 : w.heap[b]? = some (.cells c2 T2 f2)) : a ≠ b := by
  intro e; subst e
  rw [h1] at h2
  injection h2 with h2
  cases h2
theorem Us.cp {B p g gs b n : Nat} {U : Nat → Bool} {w w' : World} (h : Us w b n U) (k : Cp B p g gs w w') (h0 : b ≠ p) (h1 : b ≠ g) (h2 : b ≠ gs) : Us w' b n U := by
  obtain ⟨es, cl, hb⟩ := h.isMap
  exact h.same ((k.map hb h0 h1 h2).trans hb.symm)
theorem Us.ch {B g gs b n : Nat} {U : Nat → Bool} {v : Value} {S : List (List UInt8)} {C : List Wt} {w w' : World} (h : Us w b n U) (d : Dk B w g gs v S C) (k : Ch B g gs w w') : Us w' b n U := by
  obtain ⟨es, cl, hb⟩ := h.isMap
  exact h.same (k.typ b h.lt (ne_map hb d.hg) (ne_map hb d.hs) (fun c f e => by rw [hb] at e; cases e))
theorem Dk.pset {B g gs p : Nat} {v : Value} {S : List (List UInt8)} {C : List Wt} {w : World} (h : Dk B w g gs v S C) {cs : Array Value} {T : TypeId} {fr : Nat × Nat} (hp : w.heap[p]? = some (.cells cs T fr)) (hT : T ≠ 107) (h1 : p ≠ g) (h2 : p ≠ gs) (i : Nat) (u : Value) : Dk B (w.setCell ⟨p, i, none⟩ u) g gs v S C :=
  ⟨(Below.heap_setCell _ _ _ _ (fun e => h1 e.symm)).trans h.hg, (Below.heap_setCell _ _ _ _ (fun e => h2 e.symm)).trans h.hs, h.ho.kept (grown_set p i u) (by
    cases e : v.ownBlock with
    | none => exact .inl rfl
    | some k =>
      refine .inr (fun e2 => ?_)
      obtain rfl : k = p := Option.some.inj e2
      obtain ⟨c, fz, h3⟩ := Lib.ownsRow_kind h.ho k e
      rw [hp] at h3
      injection h3 with h3
      injection h3 with _ h3 _
      exact hT h3), h.gB, h.sB, h.ne, by simpa [World.setCell] using h.hB, h.s64, h.c64, h.cn, h.n1, h.n2⟩
/-- A pager's box. -/
def Pb (w : World) (p : Nat) (T R : Int) (m : Value) (g : Nat) (f : Value) : Prop :=
  w.heap[p]? = some (.cells #[.int .i64 T, .int .i64 R, m, .pointer (some ⟨g, 0, none⟩), f, .bool false] 65 (0, 0))
/-- The two sectors of a head's page. -/
def hdW (T R : Nat) (U : Nat → Bool) : List Wt := [(2 * (T % 2), (sealL 1 (headL T R U)).take 64), (2 * (T % 2) + 1, (sealL 1 (headL T R U)).drop 64)]
theorem Dk.p_ne {B p g gs : Nat} {v : Value} {S : List (List UInt8)} {C : List Wt} {w : World} (h : Dk B w g gs v S C) {T R : Int} {m f : Value} {g' : Nat} (hp : Pb w p T R m g' f) : p ≠ g ∧ p ≠ gs :=
  ⟨ne_rows hp h.hg (by decide), ne_rows hp h.hs (by decide)⟩

set_option maxHeartbeats 4000000 in
set_option maxRecDepth 100000 in
theorem lay_any {B p g gs bm k0 : Nat} {v m0 f0 : Value} {T0 R0 : Int} {U : Nat → Bool} {S : List (List UInt8)} {C : List Wt} (T R : Nat) (w : World) (hp : Pb w p T0 R0 m0 g f0) (hu : Us w bm k0 U) (h : Dk B w g gs v S C) (hS : 4 ≤ S.length) (hC : C.length ≤ 900) :
    Calls Try.prog 19 #[.pointer (some ⟨p, 0, none⟩), .agg #[.int .i64 (T : Int), .int .i64 (R : Int), .map (some bm)]] w fun e w' => e = .returned (.int .i64 0) ∧ Pb w' p T R (.map (some bm)) g (.slice none 0 0) ∧ Us w' bm k0 U ∧ Dk B w' g gs (.slice none 0 0) (flush S (C ++ hdW T R U)) [] ∧ Cp B p g gs w w' := by
  obtain ⟨V, hV⟩ : ∃ V : World, V = w.alloc (.cells #[.int .i64 (T : Int), .int .i64 (R : Int), .map (some bm)] 62) := ⟨_, rfl⟩
  have hbV : Below w.heap.size w V := by rw [hV]; exact bda _ _
  have RV := Lib.hid (show V.heap[w.heap.size]? = some (.cells #[.int .i64 (T : Int), .int .i64 (R : Int), .map (some bm)] 62 (0, 0)) by rw [hV]; exact heap_alloc_new _ _)
  have PV := Lib.hid (show Pb V p T0 R0 m0 g f0 from row_on hp hbV)
  have UV := Lib.hid (hu.below hbV)
  have DV := Lib.hid (h.below hbV)
  have CV := Lib.hid (Cp.of_below (p := p) (g := g) (gs := gs) hbV h.hB)
  have PN := Lib.hid (h.p_ne hp)
  have CVB := Lib.hid (Nat.le_trans h.hB hbV.size)
  have HS := Lib.hid hS
  have HC := Lib.hid hC
  have KD := Lib.hid (bd0 V)
  have KP := Lib.hid (fun (w' : World) (hb : Below V.heap.size V w') => show w'.cell? ⟨p, 3, none⟩ = some (.pointer (some ⟨g, 0, none⟩)) from row_c (i := 3) (row_on PV.out hb) rfl)
  have PL := Lib.hid (fun (X : World) (hb : Below V.heap.size V X) => place_any (b := w.heap.size) T X (row_c (i := 0) (row_on RV.out hb) rfl))
  have TX := Lib.hid (fun (X : World) (hb : Below V.heap.size V X) => text_any (b := w.heap.size) T R X (UV.out.below hb) (Nat.lt_of_lt_of_le (heap_lt RV.out) hb.size) (row_c (i := 0) (row_on RV.out hb) rfl) (row_c (i := 1) (row_on RV.out hb) rfl) (row_c (i := 2) (row_on RV.out hb) rfl))
  obtain ⟨s, hs⟩ : ∃ s : ByteArray, (⟨(headL T R U).toArray⟩ : ByteArray) = s := ⟨_, rfl⟩
  rw [hs] at TX
  have hsl : s.data.toList = headL T R U := by rw [← hs]
  obtain ⟨q, hq⟩ : ∃ q, T % 2 = q := ⟨_, rfl⟩
  have hWW : (C ++ [(2 * q, (sealL 1 s.data.toList).take 64)]) ++ [(2 * q + 1, (sealL 1 s.data.toList).drop 64)] = C ++ hdW T R U := by unfold hdW; rw [hq, hsl, List.append_assoc]; rfl
  have PW := Lib.hid (fun (X : World) (hb : Below V.heap.size V X) => show Calls Try.prog 36 #[.pointer (some ⟨g, 0, none⟩), .int .i64 (q : Int), .int .i64 1, .string s] X fun e w' => e = .returned (.int .i64 0) ∧ ∃ v', Dk B w' g gs v' S (C ++ hdW T R U) ∧ Ch B g gs X w' by
    rw [← hWW]
    exact pwrite_any q 1 s X (DV.out.below hb) (by omega) (by omega) (by omega) (by rw [hsl, headL_len]; omega) (by omega))
  rw [hq] at PL
  have SL := Lib.hid hsl
  have TOLD := Lib.hid (fun X => told_ok (p := p) X)
  have hpV := heap_lt hp
  clear hp hu h hS hC hbV hs hsl hpV hq hWW
  go_enter Try.func19, Try.ntmps19
  go_wp2_with fail
  rw [← hV]
  have c3 := row_c (i := 3) PV.out rfl
  clear hV
  go_region_held3 (fun w' => w'.cell? ⟨p, 3, none⟩ = some (.pointer (some ⟨g, 0, none⟩)))
    (first | with_reducible exact KP.out _ KD.out | with_reducible exact KP.out _ K1.out | with_reducible exact KP3.out)
    (first
      | (go_at_call 37; (with_reducible refine (PL.out _ KD.out).mono ?_); rintro e w1 ⟨rfl, rfl⟩)
      | (go_at_call 38; (with_reducible refine (TX.out _ KD.out).mono ?_); rintro e w2 ⟨rfl, hb⟩; (have K1 := Lib.hid (KD.out.trans (hb.mono KD.out.size))); clear hb)
      | (go_at_call 36; (with_reducible refine (PW.out _ K1.out).mono ?_); rintro e w3 ⟨rfl, v3, hd, hc⟩; (have P3 := Lib.hid (show Pb w3 p T0 R0 m0 g f0 from hc.stay (row_on PV.out K1.out) (by decide) PN.out.1 PN.out.2)); (have KP3 := Lib.hid (show w3.cell? ⟨p, 3, none⟩ = some (.pointer (some ⟨g, 0, none⟩)) from row_c (i := 3) P3.out rfl)); (have C3 := Lib.hid (CV.out.trans ((Cp.of_below (p := p) (g := g) (gs := gs) ((Below.refl _ _).trans K1.out) CVB.out).trans (Cp.of_ch hc)))); (have U3 := Lib.hid ((UV.out.below K1.out).ch (DV.out.below K1.out) hc)); (have R3 := Lib.hid (show w3.heap[w.heap.size]? = some (.cells #[.int .i64 (T : Int), .int .i64 (R : Int), .map (some bm)] 62 (0, 0)) from hc.stay (row_on RV.out K1.out) (by decide) (ne_rows RV.out DV.out.hg (by decide)) (ne_rows RV.out DV.out.hs (by decide)))); (have D3 := Lib.hid hd); clear hd hc)
      | (go_at_call 35; (with_reducible refine (TOLD.out _).mono ?_); rintro e w4 ⟨rfl, rfl⟩))
  rename_i hHeld
  clear hHeld c3
  have c3 := row_c (i := 3) P3.out rfl
  go_wp2_with fail
  refine (barrier_all _ D3.out (by rw [List.length_append]; have := HC.out; simp [hdW]; omega)).mono ?_
  rintro e w4 ⟨rfl, hd, hc⟩
  have P4 := Lib.hid (show Pb w4 p T0 R0 m0 g f0 from hc.stay P3.out (by decide) PN.out.1 PN.out.2)
  have U4 := Lib.hid (U3.out.ch D3.out (hc.narrow D3.out.hB))
  have R4 := Lib.hid (show w4.heap[w.heap.size]? = some (.cells #[.int .i64 (T : Int), .int .i64 (R : Int), .map (some bm)] 62 (0, 0) ) from hc.stay R3.out (by decide) (ne_rows R3.out D3.out.hg (by decide)) (ne_rows R3.out D3.out.hs (by decide)))
  have D4 := Lib.hid hd
  have C4 := Lib.hid (C3.out.trans (Cp.of_ch (hc.narrow D3.out.hB)))
  clear hd hc c3
  have TOLD4 := told_ok (p := p) w4
  go_wp2_with fail
  refine TOLD4.mono ?_
  rintro e w5 ⟨rfl, rfl⟩
  clear TOLD4
  have b0 := row_c (i := 0) R4.out rfl
  have b1 := row_c (i := 1) R4.out rfl
  have b2 := row_c (i := 2) R4.out rfl
  have p0 := row_c (i := 0) P4.out rfl
  have p1 := row_c (i := 1) P4.out rfl
  have p2 := row_c (i := 2) P4.out rfl
  have p4 := row_c (i := 4) P4.out rfl
  have z0 := frozen_of_row _ _ 0 _ _ P4.out
  have z1 := frozen_of_row _ _ 1 _ _ P4.out
  have z2 := frozen_of_row _ _ 2 _ _ P4.out
  have z4 := frozen_of_row _ _ 4 _ _ P4.out
  go_wp2_with fail
  go_ret
  have s0 := heap_setCell_same _ _ 0 _ _ (.int .i64 (T : Int)) P4.out
  have s1 := heap_setCell_same _ _ 1 _ _ (.int .i64 (R : Int)) s0
  have s2 := heap_setCell_same _ _ 2 _ _ (.map (some bm)) s1
  have s4 := heap_setCell_same _ _ 4 _ _ (.slice none 0 0) s2
  have d0 := D4.out.pset P4.out (by decide) PN.out.1 PN.out.2 0 (.int .i64 (T : Int))
  have d1 := d0.pset s0 (by decide) PN.out.1 PN.out.2 1 (.int .i64 (R : Int))
  have d2 := d1.pset s1 (by decide) PN.out.1 PN.out.2 2 (.map (some bm))
  have d4 := d2.pset s2 (by decide) PN.out.1 PN.out.2 4 (.slice none 0 0)
  have cc := ((((Cp.refl B p g gs w5).setCell 0 (.int .i64 (T : Int))).setCell 1 (.int .i64 (R : Int))).setCell 2 (.map (some bm))).setCell 4 (.slice none 0 0)
  obtain ⟨es, cl, hb⟩ := U4.out.isMap
  exact ⟨rfl, s4, U4.out.cp cc (ne_map hb P4.out) (ne_map hb D4.out.hg) (ne_map hb D4.out.hs), d4, C4.out.trans cc⟩
end Go.Proofs.Ytmgdpchjimlmeaa
