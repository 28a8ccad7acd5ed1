import Derived.Test.YtijodbjdajddoaaGreatDoorMB5
import Derived.Test.YtijodbjdajddoaaGreatDoorMB3
import Derived.Test.YtijodbjdajddoaaGreatDoorMB4
import Derived.Test.YtijodbjdajddoaaGreatDoorMB6
import Derived.Test.YtijodbjdajddoaaGreatDoorTie
import Derived.Test.YtijodbjdajddoaaGreatDoorCards
import Derived.SevenTiedAt
import Derived.OpenShut
import Derived.ChangeMaps5
section
namespace Go.Proofs.YtijodbjdajddoaaGreatDoor
open Go.RowKit
set_option linter.unusedSimpArgs false
set_option linter.unusedVariables false
/-- All blocks that there were are as they were, but for g. -/
structure Tn (g : Nat) (w w' : World) : Prop where
  os : w'.os = w.os
  tape : w'.tape = w.tape
  output : w'.output = w.output
  size : w.heap.size ≤ w'.heap.size
  block : ∀ k, k < w.heap.size → k ≠ g → w'.heap[k]? = w.heap[k]?
theorem Tn.below {g : Nat} {w x y : World} (h : Tn g w x) (hb : Below x.heap.size x y) : Tn g w y :=
  ⟨hb.os.trans h.os, hb.tape.trans h.tape, hb.output.trans h.output, Nat.le_trans h.size hb.size, fun k hk hg => (hb.block k (Nat.lt_of_lt_of_le hk h.size)).trans (h.block k hk hg)⟩
theorem Tn.of {g : Nat} {w u : World} (hb : Below w.heap.size w u) : Tn g w u := ⟨hb.os, hb.tape, hb.output, hb.size, fun k hk _ => hb.block k hk⟩
theorem Tn.only {g : Nat} {w x y : World} (h : Tn g w x) (ho : Only g x y) : Tn g w y :=
  ⟨ho.os.trans h.os, ho.tape.trans h.tape, ho.output.trans h.output, by rw [ho.size]; exact h.size, fun k hk hg => (ho.block k hg).trans (h.block k hk hg)⟩
theorem Tn.far {g r : Nat} {w x y : World} (h : Tn g w x) (ho : Only r x y) (hr : w.heap.size ≤ r) : Tn g w y :=
  ⟨ho.os.trans h.os, ho.tape.trans h.tape, ho.output.trans h.output, by rw [ho.size]; exact h.size, fun k hk hg => (ho.block k (by omega)).trans (h.block k hk hg)⟩
theorem Tn.trans {g : Nat} {w x y : World} (h : Tn g w x) (k : Tn g x y) : Tn g w y :=
  ⟨k.os.trans h.os, k.tape.trans h.tape, k.output.trans h.output, Nat.le_trans h.size k.size, fun i hi hg => (k.block i (Nat.lt_of_lt_of_le hi h.size) hg).trans (h.block i hi hg)⟩
theorem Tn.row {g b : Nat} {w w' : World} {o : Obj} (h : Tn g w w') (hr : w.heap[b]? = some o) (hn : b ≠ g) : w'.heap[b]? = some o := (h.block b (heap_lt hr) hn).trans hr
theorem noint_ca {a b : Int} : ∀ (o : Nat) (n : Int), (#[Value.int .i64 a, .int .i64 b])[o]? ≠ some (.int .u32 n) := by
  intro o m; rcases o with _ | _ | o <;> simp
theorem Tn.kept {g : Nat} {w w' : World} {zs : Array Value} {T : TypeId} {fr : Nat × Nat} (h : Tn g w w') (hg : w.heap[g]? = some (.cells zs T fr)) (hz : ∀ (i : Nat) (n : Int), zs[i]? ≠ some (.int .u32 n)) : Kept w w' := by
  refine ⟨h.size, fun b o n e => ?_⟩
  by_cases hb : b = g
  · subst hb
    rw [cell_of_row _ _ _ _ _ _ hg] at e
    exact absurd e (hz _ _)
  · have hl := cell_lt e
    have := h.block b hl hb
    rw [← e]
    simp only [World.cell?, this]
theorem Tn.live {g : Nat} {w v v' : World} {L : List (Option Addr × Nat × List Nat)} {zs : Array Value} {T : TypeId} {fr : Nat × Nat} (h : Tn g v v') (hL : Live w v L) (hg : v.heap[g]? = some (.cells zs T fr)) (hz : ∀ (i : Nat) (n : Int), zs[i]? ≠ some (.int .u32 n)) (h0 : w.heap.size ≤ g) : Live w v' L :=
  ⟨⟨h.os.trans hL.1.os, h.tape.trans hL.1.tape, h.output.trans hL.1.output, Nat.le_trans hL.1.size h.size, fun k hk => (h.block k (Nat.lt_of_lt_of_le hk hL.1.size) (by omega)).trans (hL.1.block k hk)⟩, fun t ht => (hL.2 t ht).kept (h.kept hg hz)⟩
/-- A call that has set the calculator's error: what it hands back. -/
def Sx (z P : Int) (g : Nat) (v : Value) (w : World) (e : Ending) (w' : World) : Prop := e = .returned v ∧ Tn g w w' ∧ w'.heap[g]? = some (.cells #[.int .i64 z, .int .i64 P] 45 (0, 0))

set_option maxHeartbeats 4000000 in
set_option maxRecDepth 100000 in
theorem ans_held (A B : Option Addr) (c d : Nat) (m x n y z P : Int) (g : Nat) (w : World) (hk : w.heap[g]? = some (.cells #[.int .i64 z, .int .i64 P] 45 (0, 0))) (hz : z ≠ 0):
    Calls Tryz.prog 58 #[.pointer (some ⟨g, 0, none⟩), .agg #[.bool (decide (m < 0)), .slice A (digs m.natAbs).length c, .int .i64 x], .agg #[.bool (decide (n < 0)), .slice B (digs n.natAbs).length d, .int .i64 y]] w fun e w' => e = .returned (.agg #[.bool false, .slice none 0 0, .int .i64 0, .bool false, .slice none 0 0, .int .i64 0]) ∧ Below w.heap.size w w' := by
  have d0 : (z == 0) = false := by simpa using hz
  have d1 : (z != 0) = true := by simpa using hz
  have L0 := Lib.hid (live_start w)
  have Rk_0 := Lib.hid hk
  clear hk
  clear hz
  go_enter Tryz.func58, Tryz.ntmps58
  go_upto_region 1 with fail
  obtain ⟨v1, hW, hb, Rx_1, Ry_1, Rr_1⟩ := new3 w (.cells #[.bool (decide (m < 0)), .slice A (digs m.natAbs).length c, .int .i64 x] 26) (.cells #[.bool (decide (n < 0)), .slice B (digs n.natAbs).length d, .int .i64 y] 26) (.cells #[.bool false, .slice none 0 0, .int .i64 0, .bool false, .slice none 0 0, .int .i64 0] 34)
  rw [← hW]
  have L1 := ls L0 hb
  have Rk_1 := co Rk_0 hb
  have Gx := gl0 L0.out
  have Nkx := nl0 Rk_0.out
  have Gy := gl1 L0.out
  have Nky := nl1 Rk_0.out
  have Nxy : w.heap.size < w.heap.size + 1 := by omega
  have Gr := gl2 L0.out
  have Nkr := nl2 Rk_0.out
  have Nxr : w.heap.size < w.heap.size + 1 + 1 := by omega
  have Nyr : w.heap.size + 1 < w.heap.size + 1 + 1 := by omega
  clear hW hb
  obtain ⟨fk0, zk0, fk1, zk1, xk⟩ := ly2 Rk_1.out
  obtain ⟨fr0, zr0, fr1, zr1, fr2, zr2, fr3, zr3, fr4, zr4, fr5, zr5, xr⟩ := ly6 Rr_1.out
  go_wp2
  refine bodyPost_ret (v := .agg #[.bool false, .slice none 0 0, .int .i64 0, .bool false, .slice none 0 0, .int .i64 0]) (by simp [results, Tryz.results58, go_sem, fk0, fk1, fr0, fr1, fr2, fr3, fr4, fr5]) rfl ?_
  exact ⟨rfl, (fin6 L1.out Rr_1.out noint_iv Gr).1⟩

end Go.Proofs.YtijodbjdajddoaaGreatDoor
end

section
namespace Go.Proofs.YtijodbjdajddoaaGreatDoor
open Go.RowKit
set_option linter.unusedSimpArgs false
set_option linter.unusedVariables false
theorem Tn.cells {g b : Nat} {w w' : World} (h : Tn g w w') (hb : b < w.heap.size) (hn : b ≠ g) : ∀ o, w'.cell? ⟨b, o, none⟩ = w.cell? ⟨b, o, none⟩ := fun o => by
  simp only [World.cell?, h.block b hb hn]
theorem only6 (r : Nat) (t : World) (a b c d e f : Value) : Only r t ((((((t.setCell ⟨r, 0, none⟩ a).setCell ⟨r, 1, none⟩ b).setCell ⟨r, 2, none⟩ c).setCell ⟨r, 3, none⟩ d).setCell ⟨r, 4, none⟩ e).setCell ⟨r, 5, none⟩ f) :=
  ((((((Only.refl r t).setCell 0 _).setCell 1 _).setCell 2 _).setCell 3 _).setCell 4 _).setCell 5 _
theorem far6 {g r : Nat} {w t : World} {o : Obj} (h : Tn g w t) (hg : t.heap[g]? = some o) (hr : w.heap.size ≤ r) (hn : g < r) (a b c d e f : Value) :
    Tn g w ((((((t.setCell ⟨r, 0, none⟩ a).setCell ⟨r, 1, none⟩ b).setCell ⟨r, 2, none⟩ c).setCell ⟨r, 3, none⟩ d).setCell ⟨r, 4, none⟩ e).setCell ⟨r, 5, none⟩ f) ∧
    ((((((t.setCell ⟨r, 0, none⟩ a).setCell ⟨r, 1, none⟩ b).setCell ⟨r, 2, none⟩ c).setCell ⟨r, 3, none⟩ d).setCell ⟨r, 4, none⟩ e).setCell ⟨r, 5, none⟩ f).heap[g]? = some o :=
  ⟨h.far (only6 _ _ _ _ _ _ _ _) hr, ((only6 _ _ _ _ _ _ _ _).block g (by omega)).trans hg⟩
end Go.Proofs.YtijodbjdajddoaaGreatDoor
end

section
namespace Go.Proofs.YtijodbjdajddoaaGreatDoor
open Go.RowKit
set_option linter.unusedSimpArgs false
set_option linter.unusedVariables false
/-- The hull of two stretches; what they have in common. -/
def hullS (s t : St) : St := ⟨lst s.lo [t.lo], gst s.hi [t.hi]⟩
def meetS (s t : St) : St := ⟨gst s.lo [t.lo], lst s.hi [t.hi]⟩
theorem least1 {A B : Option Addr} {c d b : Nat} {x y z : Qn} {w : World} (h : Dg w A c (digs x.1.natAbs)) (ox : Qo x) (hr : w.heap[b]? = some (.cells #[.bool (decide (y.1 < 0)), .slice B (digs y.1.natAbs).length d, .int .i64 y.2] 26 (0, 0))) (hd : Dg w B d (digs y.1.natAbs)) (oy : Qo y) (he : lst x [y] = z) :
    Calls Tryz.prog 56 #[.agg #[.bool (decide (x.1 < 0)), .slice A (digs x.1.natAbs).length c, .int .i64 x.2], .slice (some ⟨b, 0, none⟩) 1 1] w fun e w' => Yr z.1 z.2 w e w' :=
  least_of (L := [y]) h ox.len ox.rt ⟨heap_lt hr, dqrow_1 hr hd⟩ (fun q hq => by simp at hq; subst hq; exact ⟨oy.rt, oy.len⟩) (by simp) (by simp) he
theorem greatest1 {A B : Option Addr} {c d b : Nat} {x y z : Qn} {w : World} (h : Dg w A c (digs x.1.natAbs)) (ox : Qo x) (hr : w.heap[b]? = some (.cells #[.bool (decide (y.1 < 0)), .slice B (digs y.1.natAbs).length d, .int .i64 y.2] 26 (0, 0))) (hd : Dg w B d (digs y.1.natAbs)) (oy : Qo y) (he : gst x [y] = z) :
    Calls Tryz.prog 57 #[.agg #[.bool (decide (x.1 < 0)), .slice A (digs x.1.natAbs).length c, .int .i64 x.2], .slice (some ⟨b, 0, none⟩) 1 1] w fun e w' => Yr z.1 z.2 w e w' :=
  greatest_of (L := [y]) h ox.len ox.rt ⟨heap_lt hr, dqrow_1 hr hd⟩ (fun q hq => by simp at hq; subst hq; exact ⟨oy.rt, oy.len⟩) (by simp) (by simp) he
theorem lst1_ok {x y : Qn} (ox : Qo x) (oy : Qo y) : Qo (lst x [y]) := by
  rcases lst_mem x [y] with h | h
  · rw [h]; exact ox
  · simp at h; rw [h]; exact oy
theorem gst1_ok {x y : Qn} (ox : Qo x) (oy : Qo y) : Qo (gst x [y]) := by
  rcases gst_mem x [y] with h | h
  · rw [h]; exact ox
  · simp at h; rw [h]; exact oy

set_option maxHeartbeats 4000000 in
set_option maxRecDepth 100000 in
theorem meet_ok (A B A' B' : Option Addr) (c d c' d' : Nat) (s t : St) (l v : Qn) (P : Int) (g : Nat) (w : World) (h : Dg w A c (digs s.lo.1.natAbs)) (h' : Dg w B d (digs s.hi.1.natAbs)) (os : So s) (k : Dg w A' c' (digs t.lo.1.natAbs)) (k' : Dg w B' d' (digs t.hi.1.natAbs)) (ot : So t)(hk : w.heap[g]? = some (.cells #[.int .i64 0, .int .i64 P] 45 (0, 0))) (hl : gst s.lo [t.lo] = l) (hu : lst s.hi [t.hi] = v) (hc : qr l ≤ qr v):
    Calls Tryz.prog 31 #[.pointer (some ⟨g, 0, none⟩), .agg #[.bool (decide (s.lo.1 < 0)), .slice A (digs s.lo.1.natAbs).length c, .int .i64 s.lo.2, .bool (decide (s.hi.1 < 0)), .slice B (digs s.hi.1.natAbs).length d, .int .i64 s.hi.2], .agg #[.bool (decide (t.lo.1 < 0)), .slice A' (digs t.lo.1.natAbs).length c', .int .i64 t.lo.2, .bool (decide (t.hi.1 < 0)), .slice B' (digs t.hi.1.natAbs).length d', .int .i64 t.hi.2]] w fun e w' => Ys ⟨l, v⟩ w e w' := by
  have OS := Lib.hid os
  have OT := Lib.hid ot
  have HL := Lib.hid hl
  have HU := Lib.hid hu
  have OL := Lib.hid (show Qo l by rw [← hl]; exact gst1_ok os.1 ot.1)
  have OU := Lib.hid (show Qo v by rw [← hu]; exact lst1_ok os.2.1 ot.2.1)
  obtain ⟨j, hj⟩ : ∃ j, cmpd (qr l) (qr v) = j := ⟨_, rfl⟩
  have d0 : decide (0 < j) = false := by rw [← hj]; exact decide_eq_false (fun h => by have := cmpd_gtd.1 h; grind)
  have HJ := Lib.hid hj
  have D0 := Lib.hid d0
  have L0 := Lib.hid (((((live_start w).add h).add h').add k).add k')
  have Rk_0 := Lib.hid hk
  have HLk := Lib.hid (heap_lt hk)
  clear hk
  clear h h' k k' os ot hl hu hc hj d0
  go_enter Tryz.func31, Tryz.ntmps31
  go_upto_region 1 with fail
  obtain ⟨v1, hW, hb, Ri_1, Rj_1, Rr_1⟩ := new3 w (.cells #[.bool (decide (s.lo.1 < 0)), .slice A (digs s.lo.1.natAbs).length c, .int .i64 s.lo.2, .bool (decide (s.hi.1 < 0)), .slice B (digs s.hi.1.natAbs).length d, .int .i64 s.hi.2] 34) (.cells #[.bool (decide (t.lo.1 < 0)), .slice A' (digs t.lo.1.natAbs).length c', .int .i64 t.lo.2, .bool (decide (t.hi.1 < 0)), .slice B' (digs t.hi.1.natAbs).length d', .int .i64 t.hi.2] 34) (.cells #[.bool false, .slice none 0 0, .int .i64 0, .bool false, .slice none 0 0, .int .i64 0] 34)
  rw [← hW]
  have L1 := ls L0 hb
  have Rk_1 := co Rk_0 hb
  have Gi := gl0 L0.out
  have Nki := nl0 Rk_0.out
  have Gj := gl1 L0.out
  have Nkj := nl1 Rk_0.out
  have Nij : w.heap.size < w.heap.size + 1 := by omega
  have Gr := gl2 L0.out
  have Nkr := nl2 Rk_0.out
  have Nir : w.heap.size < w.heap.size + 1 + 1 := by omega
  have Njr : w.heap.size + 1 < w.heap.size + 1 + 1 := by omega
  clear hW hb
  obtain ⟨fi0, zi0, fi1, zi1, fi2, zi2, fi3, zi3, fi4, zi4, fi5, zi5, xi⟩ := ly6 Ri_1.out
  obtain ⟨fj0, zj0, fj1, zj1, fj2, zj2, fj3, zj3, fj4, zj4, fj5, zj5, xj⟩ := ly6 Rj_1.out
  go_wp2_with fail
  obtain ⟨w2, hW, hb, Rsl_2⟩ := new1 v1 (.cells #[.bool (decide (s.lo.1 < 0)), .slice A (digs s.lo.1.natAbs).length c, .int .i64 s.lo.2, .bool (decide (s.hi.1 < 0)), .slice B (digs s.hi.1.natAbs).length d, .int .i64 s.hi.2, .bool (decide (t.lo.1 < 0)), .slice A' (digs t.lo.1.natAbs).length c', .int .i64 t.lo.2, .bool (decide (t.hi.1 < 0)), .slice B' (digs t.hi.1.natAbs).length d', .int .i64 t.hi.2] 34)
  rw [← hW]
  have L2 := ls L1 hb
  have Rk_2 := co Rk_1 hb
  have Ri_2 := co Ri_1 hb
  have Rj_2 := co Rj_1 hb
  have Rr_2 := co Rr_1 hb
  have Gsl := gl0 L1.out
  have Nksl := nl0 Rk_1.out
  have Nisl := nl0 Ri_1.out
  have Njsl := nl0 Rj_1.out
  have Nrsl := nl0 Rr_1.out
  clear hW hb
  clear fi0 zi0 fi1 zi1 fi2 zi2 fi3 zi3 fi4 zi4 fi5 zi5 xi fj0 zj0 fj1 zj1 fj2 zj2 fj3 zj3 fj4 zj4 fj5 zj5 xj
  refine (takes_2 Rk_2.out Rsl_2.out (L2.out.get (A := A) (c := c) (xs := digs s.lo.1.natAbs) (by simp)) (L2.out.get (A := B) (c := d) (xs := digs s.hi.1.natAbs) (by simp)) (inr_len OS.out.1.2) (inr_len OS.out.2.1.2) OS.out.1.rt OS.out.2.1.rt OS.out.2.2 (L2.out.get (A := A') (c := c') (xs := digs t.lo.1.natAbs) (by simp)) (L2.out.get (A := B') (c := d') (xs := digs t.hi.1.natAbs) (by simp)) (inr_len OT.out.1.2) (inr_len OT.out.2.1.2) OT.out.1.rt OT.out.2.1.rt OT.out.2.2 rfl).mono ?_
  rintro e w3 ⟨rfl, hb⟩
  have L3 := ls L2 hb
  have Rk_3 := co Rk_2 hb
  have Ri_3 := co Ri_2 hb
  have Rj_3 := co Rj_2 hb
  have Rr_3 := co Rr_2 hb
  have Rsl_3 := co Rsl_2 hb
  clear hb 
  go_upto_region 3 with fail
  refine wp_operands (W := w3) rfl 14 [16, 17, 18, 19, 20, 21, 22, 23, 24, 25, 26, 27, 7, 8] (fun i u ww => match i with | 0 => u = .pointer (some ⟨w.heap.size, 0, none⟩) | 1 => u = .agg #[.bool (decide (s.lo.1 < 0)), .slice A (digs s.lo.1.natAbs).length c, .int .i64 s.lo.2] | 2 => u = .pointer (some ⟨w.heap.size + 1, 0, none⟩) | 3 => u = .agg #[.bool (decide (t.lo.1 < 0)), .slice A' (digs t.lo.1.natAbs).length c', .int .i64 t.lo.2] | 4 => ∃ g A c, u = .slice (some ⟨g, 0, none⟩) 1 1 ∧ ww.heap[g]? = some (.cells #[.bool (decide (t.lo.1 < 0)), .slice A (digs t.lo.1.natAbs).length c, .int .i64 t.lo.2] 26 (0, 0)) ∧ w3.heap.size ≤ g ∧ Dg ww A c (digs t.lo.1.natAbs) | 5 => ∃ A c, u = .agg #[.bool (decide (l.1 < 0)), .slice A (digs l.1.natAbs).length c, .int .i64 l.2] ∧ Dg ww A c (digs l.1.natAbs) | 6 => u = .pointer (some ⟨w.heap.size, 3, none⟩) | 7 => u = .agg #[.bool (decide (s.hi.1 < 0)), .slice B (digs s.hi.1.natAbs).length d, .int .i64 s.hi.2] | 8 => u = .pointer (some ⟨w.heap.size + 1, 3, none⟩) | 9 => u = .agg #[.bool (decide (t.hi.1 < 0)), .slice B' (digs t.hi.1.natAbs).length d', .int .i64 t.hi.2] | 10 => ∃ g A c, u = .slice (some ⟨g, 0, none⟩) 1 1 ∧ ww.heap[g]? = some (.cells #[.bool (decide (t.hi.1 < 0)), .slice A (digs t.hi.1.natAbs).length c, .int .i64 t.hi.2] 26 (0, 0)) ∧ w3.heap.size ≤ g ∧ Dg ww A c (digs t.hi.1.natAbs) | 11 => ∃ A c, u = .agg #[.bool (decide (v.1 < 0)), .slice A (digs v.1.natAbs).length c, .int .i64 v.2] ∧ Dg ww A c (digs v.1.natAbs) | 12 => ∃ g, u = .pointer (some ⟨g, 0, none⟩) ∧ ww.heap[g]? = some (.cells #[.bool false, .slice none 0 0, .int .i64 0] 26 (0, 0)) ∧ w3.heap.size ≤ g | 13 => ∃ g, u = .pointer (some ⟨g, 0, none⟩) ∧ ww.heap[g]? = some (.cells #[.bool false, .slice none 0 0, .int .i64 0] 26 (0, 0)) ∧ w3.heap.size ≤ g | _ => True) (fun i => decide (i ∈ ([12, 13] : List Nat)))
    (by decide) rfl (by kernel_rfl) (by kernel_rfl) (by decide) (by kernel_rfl) ?_ ?_ ?_ ?_
  · intro i u x y hi h hb
    have hi' : i = 0 ∨ i = 1 ∨ i = 2 ∨ i = 3 ∨ i = 4 ∨ i = 5 ∨ i = 6 ∨ i = 7 ∨ i = 8 ∨ i = 9 ∨ i = 10 ∨ i = 11 ∨ i = 12 ∨ i = 13 := by omega
    rcases hi' with rfl | rfl | rfl | rfl | rfl | rfl | rfl | rfl | rfl | rfl | rfl | rfl | rfl | rfl
    · exact h
    · exact h
    · exact h
    · exact h
    · obtain ⟨g, A, c, e, hg, hge, hd⟩ := h
      exact ⟨g, A, c, e, cells_of hg hb, hge, hd.below hb⟩
    · obtain ⟨A, c, e, hd⟩ := h
      exact ⟨A, c, e, hd.below hb⟩
    · exact h
    · exact h
    · exact h
    · exact h
    · obtain ⟨g, A, c, e, hg, hge, hd⟩ := h
      exact ⟨g, A, c, e, cells_of hg hb, hge, hd.below hb⟩
    · obtain ⟨A, c, e, hd⟩ := h
      exact ⟨A, c, e, hd.below hb⟩
    · obtain ⟨g, e, hg, hge⟩ := h
      exact ⟨g, e, cells_of hg hb, hge⟩
    · obtain ⟨g, e, hg, hge⟩ := h
      exact ⟨g, e, cells_of hg hb, hge⟩
  · intro i u x hi h
    have hi' : i = 12 ∨ i = 13 := by simpa using hi
    rcases hi' with rfl | rfl
    all_goals
      obtain ⟨g, e, hg, _⟩ := h
      exact ⟨g, e, heap_lt hg⟩
  · intro i a x KK hi hF hb hw hK
    have hi' : i = 0 ∨ i = 1 ∨ i = 2 ∨ i = 3 ∨ i = 4 ∨ i = 5 ∨ i = 6 ∨ i = 7 ∨ i = 8 ∨ i = 9 ∨ i = 10 ∨ i = 11 ∨ i = 12 ∨ i = 13 := by omega
    rcases hi' with rfl | rfl | rfl | rfl | rfl | rfl | rfl | rfl | rfl | rfl | rfl | rfl | rfl | rfl
    · simp only [wpOp, List.getElem?_toArray, List.getElem?_cons_zero, Region.wanted, if_true]
      refine Or.inl ?_
      have e0 : a.eval (.tmp 4) = .pointer (some ⟨w.heap.size, 0, none⟩) := hF.2.2 4 (by decide)
      clear hw hF
      simp only [Oper.wp, execOp]
      rw [e0]
      go_simp
      exact hK _ x (by first | rfl | simp) (Below.refl _ _) (fun h => by simp at h)
    · simp only [wpOp, List.getElem?_toArray, List.getElem?_cons_succ, List.getElem?_cons_zero, Region.wanted, if_true]
      refine Or.inl ?_
      have e0 : a.eval (.tmp 16) = .pointer (some ⟨w.heap.size, 0, none⟩) := hw 0 (by kernel_rfl)
      have f0 := row_cell Ri_3.out hb 0
      have f1 := row_cell Ri_3.out hb 1
      have f2 := row_cell Ri_3.out hb 2
      have f3 := row_cell Ri_3.out hb 3
      have f4 := row_cell Ri_3.out hb 4
      have f5 := row_cell Ri_3.out hb 5
      simp only [List.getElem?_toArray, List.getElem?_cons_succ, List.getElem?_cons_zero] at f0 f1 f2 f3 f4 f5
      clear hw hF
      simp only [Oper.wp, execOp]
      rw [e0]
      go_simp
      exact hK _ x (by first | rfl | simp) (Below.refl _ _) (fun h => by simp at h)
    · simp only [wpOp, List.getElem?_toArray, List.getElem?_cons_succ, List.getElem?_cons_zero, Region.wanted, if_true]
      refine Or.inl ?_
      have e0 : a.eval (.tmp 5) = .pointer (some ⟨w.heap.size + 1, 0, none⟩) := hF.2.2 5 (by decide)
      clear hw hF
      simp only [Oper.wp, execOp]
      rw [e0]
      go_simp
      exact hK _ x (by first | rfl | simp) (Below.refl _ _) (fun h => by simp at h)
    · simp only [wpOp, List.getElem?_toArray, List.getElem?_cons_succ, List.getElem?_cons_zero, Region.wanted, if_true]
      refine Or.inl ?_
      have e0 : a.eval (.tmp 18) = .pointer (some ⟨w.heap.size + 1, 0, none⟩) := hw 2 (by kernel_rfl)
      have f0 := row_cell Rj_3.out hb 0
      have f1 := row_cell Rj_3.out hb 1
      have f2 := row_cell Rj_3.out hb 2
      have f3 := row_cell Rj_3.out hb 3
      have f4 := row_cell Rj_3.out hb 4
      have f5 := row_cell Rj_3.out hb 5
      simp only [List.getElem?_toArray, List.getElem?_cons_succ, List.getElem?_cons_zero] at f0 f1 f2 f3 f4 f5
      clear hw hF
      simp only [Oper.wp, execOp]
      rw [e0]
      go_simp
      exact hK _ x (by first | rfl | simp) (Below.refl _ _) (fun h => by simp at h)
    · simp only [wpOp, List.getElem?_toArray, List.getElem?_cons_succ, List.getElem?_cons_zero, Region.wanted, if_true]
      refine Or.inl ?_
      have e0 : a.eval (.tmp 19) = .agg #[.bool (decide (t.lo.1 < 0)), .slice A' (digs t.lo.1.natAbs).length c', .int .i64 t.lo.2] := hw 3 (by kernel_rfl)
      have hd := (L3.out.step hb).get (A := A') (c := c') (xs := digs t.lo.1.natAbs) (by simp)
      clear hw hF
      simp only [Oper.wp, execOp]
      simp only [List.map_toArray, List.map_cons, List.map_nil, e0]
      go_simp
      exact hK _ _ ⟨_, _, _, rfl, heap_alloc_new _ _, hb.size, hd.below (below1 _ _)⟩ (below1 _ _) (fun h => by simp at h)
    · simp only [wpOp, List.getElem?_toArray, List.getElem?_cons_succ, List.getElem?_cons_zero, Region.wanted, if_true]
      refine Or.inl ?_
      have e0 : a.tmps.getD 17 undef = .agg #[.bool (decide (s.lo.1 < 0)), .slice A (digs s.lo.1.natAbs).length c, .int .i64 s.lo.2] := hw 1 (by kernel_rfl)
      obtain ⟨gb, Ab, cb, e1, hgb, hgeb, hdb⟩ := hw 4 (by kernel_rfl)
      have e1 : a.tmps.getD 20 undef = _ := e1
      clear hw hF
      simp only [Oper.wp, execOp]
      go_simp
      refine (greatest1 ((L3.out.step hb).get (A := A) (c := c) (xs := digs s.lo.1.natAbs) (by simp)) OS.out.1 hgb hdb OT.out.1 HL.out).mono ?_
      rintro e y ⟨A2, c2, rfl, hd2, hbb⟩
      exact hK _ y ⟨A2, c2, rfl, hd2⟩ hbb (fun h => by simp at h)
    · simp only [wpOp, List.getElem?_toArray, List.getElem?_cons_succ, List.getElem?_cons_zero, Region.wanted, if_true]
      refine Or.inl ?_
      have e0 : a.eval (.tmp 4) = .pointer (some ⟨w.heap.size, 0, none⟩) := hF.2.2 4 (by decide)
      clear hw hF
      simp only [Oper.wp, execOp]
      rw [e0]
      go_simp
      exact hK _ x (by first | rfl | simp) (Below.refl _ _) (fun h => by simp at h)
    · simp only [wpOp, List.getElem?_toArray, List.getElem?_cons_succ, List.getElem?_cons_zero, Region.wanted, if_true]
      refine Or.inl ?_
      have e0 : a.eval (.tmp 22) = .pointer (some ⟨w.heap.size, 3, none⟩) := hw 6 (by kernel_rfl)
      have f0 := row_cell Ri_3.out hb 0
      have f1 := row_cell Ri_3.out hb 1
      have f2 := row_cell Ri_3.out hb 2
      have f3 := row_cell Ri_3.out hb 3
      have f4 := row_cell Ri_3.out hb 4
      have f5 := row_cell Ri_3.out hb 5
      simp only [List.getElem?_toArray, List.getElem?_cons_succ, List.getElem?_cons_zero] at f0 f1 f2 f3 f4 f5
      clear hw hF
      simp only [Oper.wp, execOp]
      rw [e0]
      go_simp
      exact hK _ x (by first | rfl | simp) (Below.refl _ _) (fun h => by simp at h)
    · simp only [wpOp, List.getElem?_toArray, List.getElem?_cons_succ, List.getElem?_cons_zero, Region.wanted, if_true]
      refine Or.inl ?_
      have e0 : a.eval (.tmp 5) = .pointer (some ⟨w.heap.size + 1, 0, none⟩) := hF.2.2 5 (by decide)
      clear hw hF
      simp only [Oper.wp, execOp]
      rw [e0]
      go_simp
      exact hK _ x (by first | rfl | simp) (Below.refl _ _) (fun h => by simp at h)
    · simp only [wpOp, List.getElem?_toArray, List.getElem?_cons_succ, List.getElem?_cons_zero, Region.wanted, if_true]
      refine Or.inl ?_
      have e0 : a.eval (.tmp 24) = .pointer (some ⟨w.heap.size + 1, 3, none⟩) := hw 8 (by kernel_rfl)
      have f0 := row_cell Rj_3.out hb 0
      have f1 := row_cell Rj_3.out hb 1
      have f2 := row_cell Rj_3.out hb 2
      have f3 := row_cell Rj_3.out hb 3
      have f4 := row_cell Rj_3.out hb 4
      have f5 := row_cell Rj_3.out hb 5
      simp only [List.getElem?_toArray, List.getElem?_cons_succ, List.getElem?_cons_zero] at f0 f1 f2 f3 f4 f5
      clear hw hF
      simp only [Oper.wp, execOp]
      rw [e0]
      go_simp
      exact hK _ x (by first | rfl | simp) (Below.refl _ _) (fun h => by simp at h)
    · simp only [wpOp, List.getElem?_toArray, List.getElem?_cons_succ, List.getElem?_cons_zero, Region.wanted, if_true]
      refine Or.inl ?_
      have e0 : a.eval (.tmp 25) = .agg #[.bool (decide (t.hi.1 < 0)), .slice B' (digs t.hi.1.natAbs).length d', .int .i64 t.hi.2] := hw 9 (by kernel_rfl)
      have hd := (L3.out.step hb).get (A := B') (c := d') (xs := digs t.hi.1.natAbs) (by simp)
      clear hw hF
      simp only [Oper.wp, execOp]
      simp only [List.map_toArray, List.map_cons, List.map_nil, e0]
      go_simp
      exact hK _ _ ⟨_, _, _, rfl, heap_alloc_new _ _, hb.size, hd.below (below1 _ _)⟩ (below1 _ _) (fun h => by simp at h)
    · simp only [wpOp, List.getElem?_toArray, List.getElem?_cons_succ, List.getElem?_cons_zero, Region.wanted, if_true]
      refine Or.inl ?_
      have e0 : a.tmps.getD 23 undef = .agg #[.bool (decide (s.hi.1 < 0)), .slice B (digs s.hi.1.natAbs).length d, .int .i64 s.hi.2] := hw 7 (by kernel_rfl)
      obtain ⟨gb, Ab, cb, e1, hgb, hgeb, hdb⟩ := hw 10 (by kernel_rfl)
      have e1 : a.tmps.getD 26 undef = _ := e1
      clear hw hF
      simp only [Oper.wp, execOp]
      go_simp
      refine (least1 ((L3.out.step hb).get (A := B) (c := d) (xs := digs s.hi.1.natAbs) (by simp)) OS.out.2.1 hgb hdb OT.out.2.1 HU.out).mono ?_
      rintro e y ⟨A2, c2, rfl, hd2, hbb⟩
      exact hK _ y ⟨A2, c2, rfl, hd2⟩ hbb (fun h => by simp at h)
    · simp only [wpOp, List.getElem?_toArray, List.getElem?_cons_succ, List.getElem?_cons_zero, Region.wanted, if_true]
      refine Or.inl ?_
      clear hw hF
      simp only [Oper.wp, execOp]
      go_simp
      exact hK _ _ ⟨_, rfl, heap_alloc_new _ _, hb.size⟩ (below1 _ _) (fun _ => rfl)
    · simp only [wpOp, List.getElem?_toArray, List.getElem?_cons_succ, List.getElem?_cons_zero, Region.wanted, if_true]
      refine Or.inl ?_
      clear hw hF
      simp only [Oper.wp, execOp]
      go_simp
      exact hK _ _ ⟨_, rfl, heap_alloc_new _ _, hb.size⟩ (below1 _ _) (fun _ => rfl)
  · intro a x hF0 hb hR hNe
    have hF : Fr6 [16, 17, 18, 19, 20, 21, 22, 23, 24, 25, 26, 27, 7, 8] _ a := hF0
    have e0 : a.tmps.getD 16 undef = .pointer (some ⟨w.heap.size, 0, none⟩) := hR 0 (by decide)
    have e1 : a.tmps.getD 17 undef = .agg #[.bool (decide (s.lo.1 < 0)), .slice A (digs s.lo.1.natAbs).length c, .int .i64 s.lo.2] := hR 1 (by decide)
    have e2 : a.tmps.getD 18 undef = .pointer (some ⟨w.heap.size + 1, 0, none⟩) := hR 2 (by decide)
    have e3 : a.tmps.getD 19 undef = .agg #[.bool (decide (t.lo.1 < 0)), .slice A' (digs t.lo.1.natAbs).length c', .int .i64 t.lo.2] := hR 3 (by decide)
    obtain ⟨g4, B4, d4, h4, hg4, hge4, hd4⟩ := hR 4 (by decide)
    have e4 : a.tmps.getD 20 undef = _ := h4
    obtain ⟨B5, d5, h5, hd5⟩ := hR 5 (by decide)
    have e5 : a.tmps.getD 21 undef = _ := h5
    have e6 : a.tmps.getD 22 undef = .pointer (some ⟨w.heap.size, 3, none⟩) := hR 6 (by decide)
    have e7 : a.tmps.getD 23 undef = .agg #[.bool (decide (s.hi.1 < 0)), .slice B (digs s.hi.1.natAbs).length d, .int .i64 s.hi.2] := hR 7 (by decide)
    have e8 : a.tmps.getD 24 undef = .pointer (some ⟨w.heap.size + 1, 3, none⟩) := hR 8 (by decide)
    have e9 : a.tmps.getD 25 undef = .agg #[.bool (decide (t.hi.1 < 0)), .slice B' (digs t.hi.1.natAbs).length d', .int .i64 t.hi.2] := hR 9 (by decide)
    obtain ⟨g10, B10, d10, h10, hg10, hge10, hd10⟩ := hR 10 (by decide)
    have e10 : a.tmps.getD 26 undef = _ := h10
    obtain ⟨B11, d11, h11, hd11⟩ := hR 11 (by decide)
    have e11 : a.tmps.getD 27 undef = _ := h11
    obtain ⟨g12, h12, hg12, hge12⟩ := hR 12 (by decide)
    have e12 : a.tmps.getD 7 undef = _ := h12
    obtain ⟨g13, h13, hg13, hge13⟩ := hR 13 (by decide)
    have e13 : a.tmps.getD 8 undef = _ := h13
    have Nd12_13 : g12 ≠ g13 := fun e => hNe 12 13 (by decide) (by decide) (by decide) (by decide) (by decide) (by show a.tmps.getD 7 undef = a.tmps.getD 8 undef; rw [e12, e13, e])
    clear hNe
    rw [hF.fold (by kernel_rfl)]
    simp only [List.foldl_cons, List.foldl_nil, e0, e1, e2, e3, e4, e5, e6, e7, e8, e9, e10, e11, e12, e13]
    simp only [Act.put, List.setIfInBounds_toArray, List.set_cons_zero, List.set_cons_succ]
    clear e0 e1 e2 e3 e4 e5 e6 e7 e8 e9 e10 e11 e12 e13 hR hF hF0 h4 h5 h10 h11 h12 h13
    obtain ⟨w4, hW⟩ : ∃ W : World, W = x := ⟨_, rfl⟩
    rw [← hW]
    rw [← hW] at hb hd4 hd5 hd10 hd11 hg12 hg13 hg4 hg10
    have L4 := Lib.hid (((((L3.out.step hb).add hd4).add hd5).add hd10).add hd11)
    have Rk_4 := co Rk_3 hb
    have Ri_4 := co Ri_3 hb
    have Rj_4 := co Rj_3 hb
    have Rr_4 := co Rr_3 hb
    have Rsl_4 := co Rsl_3 hb
    have Rq12_4 := Lib.hid hg12
    have Gq12 : w.heap.size ≤ g12 := Nat.le_trans L3.out.1.size hge12
    have Nkq12 : g < g12 := by have := heap_lt Rk_3.out; omega
    have Niq12 : w.heap.size < g12 := by have := heap_lt Ri_3.out; omega
    have Njq12 : w.heap.size + 1 < g12 := by have := heap_lt Rj_3.out; omega
    have Nrq12 : w.heap.size + 1 + 1 < g12 := by have := heap_lt Rr_3.out; omega
    have Nslq12 : v1.heap.size < g12 := by have := heap_lt Rsl_3.out; omega
    have Rq13_4 := Lib.hid hg13
    have Gq13 : w.heap.size ≤ g13 := Nat.le_trans L3.out.1.size hge13
    have Nkq13 : g < g13 := by have := heap_lt Rk_3.out; omega
    have Niq13 : w.heap.size < g13 := by have := heap_lt Ri_3.out; omega
    have Njq13 : w.heap.size + 1 < g13 := by have := heap_lt Rj_3.out; omega
    have Nrq13 : w.heap.size + 1 + 1 < g13 := by have := heap_lt Rr_3.out; omega
    have Nslq13 : v1.heap.size < g13 := by have := heap_lt Rsl_3.out; omega
    have Rq4_4 := Lib.hid hg4
    have Gq4 : w.heap.size ≤ g4 := Nat.le_trans L3.out.1.size hge4
    have Nkq4 : g < g4 := by have := heap_lt Rk_3.out; omega
    have Niq4 : w.heap.size < g4 := by have := heap_lt Ri_3.out; omega
    have Njq4 : w.heap.size + 1 < g4 := by have := heap_lt Rj_3.out; omega
    have Nrq4 : w.heap.size + 1 + 1 < g4 := by have := heap_lt Rr_3.out; omega
    have Nslq4 : v1.heap.size < g4 := by have := heap_lt Rsl_3.out; omega
    have Rq10_4 := Lib.hid hg10
    have Gq10 : w.heap.size ≤ g10 := Nat.le_trans L3.out.1.size hge10
    have Nkq10 : g < g10 := by have := heap_lt Rk_3.out; omega
    have Niq10 : w.heap.size < g10 := by have := heap_lt Ri_3.out; omega
    have Njq10 : w.heap.size + 1 < g10 := by have := heap_lt Rj_3.out; omega
    have Nrq10 : w.heap.size + 1 + 1 < g10 := by have := heap_lt Rr_3.out; omega
    have Nslq10 : v1.heap.size < g10 := by have := heap_lt Rsl_3.out; omega
    clear hW hb hd4 hd5 hd10 hd11 hg12 hg13 hg4 hg10 hge12 hge13 hge4 hge10
    change wpOps _ _ _ [14, 15] _ _
    obtain ⟨fq120, zq120, fq121, zq121, fq122, zq122, xq12⟩ := ly3 Rq12_4.out
    obtain ⟨fq130, zq130, fq131, zq131, fq132, zq132, xq13⟩ := ly3 Rq13_4.out
    simp only [wpOps_cons]
    simp only [wpOp, List.getElem?_toArray, List.getElem?_cons_succ, List.getElem?_cons_zero, Region.wanted, if_true]
    refine Or.inl ?_
    simp only [Oper.wp, execOp]
    go_simp
    simp only [wpOps_cons]
    simp only [wpOp, List.getElem?_toArray, List.getElem?_cons_succ, List.getElem?_cons_zero, Region.wanted, if_true]
    refine Or.inl ?_
    simp only [Oper.wp, execOp]
    go_simp
    try simp only [wpOps]
    clear fq120 zq120 fq121 zq121 fq122 zq122 xq12 fq130 zq130 fq131 zq131 fq132 zq132 xq13
    obtain ⟨w5, hW⟩ : ∃ W : World, W = (((w4.setCell ⟨g12, 0, none⟩ (.bool (decide (l.1 < 0)))).setCell ⟨g12, 1, none⟩ (.slice B5 (digs l.1.natAbs).length d5)).setCell ⟨g12, 2, none⟩ (.int .i64 l.2)) := ⟨_, rfl⟩
    rw [← hW]
    have hO : Only (g12) w4 w5 := by rw [hW]; exact ((((Only.refl (g12) w4).setCell 0 _).setCell 1 _).setCell 2 _)
    have L5 := Lib.hid (live_only L4.out hO Rq12_4.out noint_dy Gq12)
    have Rk_5 := Lib.hid ((hO.block _ (by omega)).trans Rk_4.out)
    have Ri_5 := Lib.hid ((hO.block _ (by omega)).trans Ri_4.out)
    have Rj_5 := Lib.hid ((hO.block _ (by omega)).trans Rj_4.out)
    have Rr_5 := Lib.hid ((hO.block _ (by omega)).trans Rr_4.out)
    have Rsl_5 := Lib.hid ((hO.block _ (by omega)).trans Rsl_4.out)
    have Rq13_5 := Lib.hid ((hO.block _ (by omega)).trans Rq13_4.out)
    have Rq12_5 := Lib.hid (show w5.heap[g12]? = some (.cells #[.bool (decide (l.1 < 0)), .slice B5 (digs l.1.natAbs).length d5, .int .i64 l.2] 26 (0, 0)) by rw [hW]; exact (heap_setCell_same _ _ 2 _ _ _ (heap_setCell_same _ _ 1 _ _ _ (heap_setCell_same _ _ 0 _ _ _ Rq12_4.out))))
    clear hW hO
    obtain ⟨w6, hW⟩ : ∃ W : World, W = (((w5.setCell ⟨g13, 0, none⟩ (.bool (decide (v.1 < 0)))).setCell ⟨g13, 1, none⟩ (.slice B11 (digs v.1.natAbs).length d11)).setCell ⟨g13, 2, none⟩ (.int .i64 v.2)) := ⟨_, rfl⟩
    rw [← hW]
    have hO : Only (g13) w5 w6 := by rw [hW]; exact ((((Only.refl (g13) w5).setCell 0 _).setCell 1 _).setCell 2 _)
    have L6 := Lib.hid (live_only L5.out hO Rq13_5.out noint_dy Gq13)
    have Rk_6 := Lib.hid ((hO.block _ (by omega)).trans Rk_5.out)
    have Ri_6 := Lib.hid ((hO.block _ (by omega)).trans Ri_5.out)
    have Rj_6 := Lib.hid ((hO.block _ (by omega)).trans Rj_5.out)
    have Rr_6 := Lib.hid ((hO.block _ (by omega)).trans Rr_5.out)
    have Rsl_6 := Lib.hid ((hO.block _ (by omega)).trans Rsl_5.out)
    have Rq12_6 := Lib.hid ((hO.block _ (by omega)).trans Rq12_5.out)
    have Rq13_6 := Lib.hid (show w6.heap[g13]? = some (.cells #[.bool (decide (v.1 < 0)), .slice B11 (digs v.1.natAbs).length d11, .int .i64 v.2] 26 (0, 0)) by rw [hW]; exact (heap_setCell_same _ _ 2 _ _ _ (heap_setCell_same _ _ 1 _ _ _ (heap_setCell_same _ _ 0 _ _ _ Rq13_5.out))))
    clear hW hO
    go_upto_region 4 with fail
    have d0 := D0.out
    obtain ⟨fq120, zq120, fq121, zq121, fq122, zq122, xq12⟩ := ly3 Rq12_6.out
    obtain ⟨fq130, zq130, fq131, zq131, fq132, zq132, xq13⟩ := ly3 Rq13_6.out
    have KD := Lib.hid (bd0 w6)
    have LD := ls L6 KD.out
    go_region_held3 (fun w' => ∀ b o, b < w6.heap.size → w'.cell? ⟨b, o, none⟩ = w6.cell? ⟨b, o, none⟩)
      (first | with_reducible exact (bcell KD.out).1 | with_reducible exact (bcell K8.out).1)
      (first
        | (go_at_call 32; (with_reducible refine (qcmp (LD.out.get (A := B5) (c := d5) (xs := digs l.1.natAbs) (by simp)) (LD.out.get (A := B11) (c := d11) (xs := digs v.1.natAbs) (by simp)) OL.out OU.out HJ.out).mono ?_); rintro e w8 ⟨rfl, hb⟩; (have K8 := bt KD hb); (have L8 := Lib.hid (LD.out.step hb)); clear hb )
        | (go_at_call 61; (with_reducible refine (note_no g 5 _).mono ?_); rintro e w9 ⟨rfl, rfl⟩))
    rename_i hHeld
    clear hHeld
    clear fq120 zq120 fq121 zq121 fq122 zq122 xq12 fq130 zq130 fq131 zq131 fq132 zq132 xq13
    have Rk_9 := co Rk_6 K8.out
    have Ri_9 := co Ri_6 K8.out
    have Rj_9 := co Rj_6 K8.out
    have Rr_9 := co Rr_6 K8.out
    have Rsl_9 := co Rsl_6 K8.out
    have Rq12_9 := co Rq12_6 K8.out
    have Rq13_9 := co Rq13_6 K8.out
    clear KD LD
    clear d0
    obtain ⟨fq120, zq120, fq121, zq121, fq122, zq122, xq12⟩ := ly3 Rq12_9.out
    obtain ⟨fq130, zq130, fq131, zq131, fq132, zq132, xq13⟩ := ly3 Rq13_9.out
    go_wp2_with fail
    refine (answer_iv B5 B11 d5 d11 l.1 l.2 v.1 v.2 P g _ (L8.out.get (A := B5) (c := d5) (xs := digs l.1.natAbs) (by simp)) (L8.out.get (A := B11) (c := d11) (xs := digs v.1.natAbs) (by simp)) Rk_9.out).mono ?_
    rintro e w10 ⟨A10, c10, B10, d10, rfl, hd, he, hb⟩
    have L10 := la2 L8 hb hd he
    clear fq120 zq120 fq121 zq121 fq122 zq122 xq12 fq130 zq130 fq131 zq131 fq132 zq132 xq13
    have Rk_10 := co Rk_9 hb
    have Ri_10 := co Ri_9 hb
    have Rj_10 := co Rj_9 hb
    have Rr_10 := co Rr_9 hb
    have Rsl_10 := co Rsl_9 hb
    have Rq12_10 := co Rq12_9 hb
    have Rq13_10 := co Rq13_9 hb
    clear hb hd he
    obtain ⟨fr0, zr0, fr1, zr1, fr2, zr2, fr3, zr3, fr4, zr4, fr5, zr5, xr⟩ := ly6 Rr_10.out
    go_wp2
    refine bodyPost_ret (v := .agg #[.bool (decide (l.1 < 0)), .slice A10 (digs l.1.natAbs).length c10, .int .i64 l.2, .bool (decide (v.1 < 0)), .slice B10 (digs v.1.natAbs).length d10, .int .i64 v.2]) (by simp [results, Tryz.results31, go_sem, fr0, fr1, fr2, fr3, fr4, fr5]) rfl ?_
    
    refine ⟨A10, c10, B10, d10, rfl, ?_, ?_, ?_⟩
    · exact (fin6 L10.out Rr_10.out noint_iv Gr).get (A := A10) (c := c10) (xs := digs l.1.natAbs) (by simp)
    · exact (fin6 L10.out Rr_10.out noint_iv Gr).get (A := B10) (c := d10) (xs := digs v.1.natAbs) (by simp)
    · exact (fin6 L10.out Rr_10.out noint_iv Gr).1

set_option maxHeartbeats 4000000 in
set_option maxRecDepth 100000 in
theorem meet_none (A B A' B' : Option Addr) (c d c' d' : Nat) (s t : St) (l v : Qn) (P : Int) (g : Nat) (w : World) (h : Dg w A c (digs s.lo.1.natAbs)) (h' : Dg w B d (digs s.hi.1.natAbs)) (os : So s) (k : Dg w A' c' (digs t.lo.1.natAbs)) (k' : Dg w B' d' (digs t.hi.1.natAbs)) (ot : So t)(hk : w.heap[g]? = some (.cells #[.int .i64 0, .int .i64 P] 45 (0, 0))) (hl : gst s.lo [t.lo] = l) (hu : lst s.hi [t.hi] = v) (hc : qr v < qr l):
    Calls Tryz.prog 31 #[.pointer (some ⟨g, 0, none⟩), .agg #[.bool (decide (s.lo.1 < 0)), .slice A (digs s.lo.1.natAbs).length c, .int .i64 s.lo.2, .bool (decide (s.hi.1 < 0)), .slice B (digs s.hi.1.natAbs).length d, .int .i64 s.hi.2], .agg #[.bool (decide (t.lo.1 < 0)), .slice A' (digs t.lo.1.natAbs).length c', .int .i64 t.lo.2, .bool (decide (t.hi.1 < 0)), .slice B' (digs t.hi.1.natAbs).length d', .int .i64 t.hi.2]] w fun e w' => Sx 5 P g (.agg #[.bool false, .slice none 0 0, .int .i64 0, .bool false, .slice none 0 0, .int .i64 0]) w e w' := by
  have OS := Lib.hid os
  have OT := Lib.hid ot
  have HL := Lib.hid hl
  have HU := Lib.hid hu
  have OL := Lib.hid (show Qo l by rw [← hl]; exact gst1_ok os.1 ot.1)
  have OU := Lib.hid (show Qo v by rw [← hu]; exact lst1_ok os.2.1 ot.2.1)
  obtain ⟨j, hj⟩ : ∃ j, cmpd (qr l) (qr v) = j := ⟨_, rfl⟩
  have d0 : decide (0 < j) = true := by rw [← hj]; exact decide_eq_true (cmpd_gtd.2 hc)
  have HJ := Lib.hid hj
  have D0 := Lib.hid d0
  have L0 := Lib.hid (((((live_start w).add h).add h').add k).add k')
  have Rk_0 := Lib.hid hk
  have HLk := Lib.hid (heap_lt hk)
  clear hk
  clear h h' k k' os ot hl hu hc hj d0
  go_enter Tryz.func31, Tryz.ntmps31
  go_upto_region 1 with fail
  obtain ⟨v1, hW, hb, Ri_1, Rj_1, Rr_1⟩ := new3 w (.cells #[.bool (decide (s.lo.1 < 0)), .slice A (digs s.lo.1.natAbs).length c, .int .i64 s.lo.2, .bool (decide (s.hi.1 < 0)), .slice B (digs s.hi.1.natAbs).length d, .int .i64 s.hi.2] 34) (.cells #[.bool (decide (t.lo.1 < 0)), .slice A' (digs t.lo.1.natAbs).length c', .int .i64 t.lo.2, .bool (decide (t.hi.1 < 0)), .slice B' (digs t.hi.1.natAbs).length d', .int .i64 t.hi.2] 34) (.cells #[.bool false, .slice none 0 0, .int .i64 0, .bool false, .slice none 0 0, .int .i64 0] 34)
  rw [← hW]
  have L1 := ls L0 hb
  have Rk_1 := co Rk_0 hb
  have Gi := gl0 L0.out
  have Nki := nl0 Rk_0.out
  have Gj := gl1 L0.out
  have Nkj := nl1 Rk_0.out
  have Nij : w.heap.size < w.heap.size + 1 := by omega
  have Gr := gl2 L0.out
  have Nkr := nl2 Rk_0.out
  have Nir : w.heap.size < w.heap.size + 1 + 1 := by omega
  have Njr : w.heap.size + 1 < w.heap.size + 1 + 1 := by omega
  clear hW hb
  obtain ⟨fi0, zi0, fi1, zi1, fi2, zi2, fi3, zi3, fi4, zi4, fi5, zi5, xi⟩ := ly6 Ri_1.out
  obtain ⟨fj0, zj0, fj1, zj1, fj2, zj2, fj3, zj3, fj4, zj4, fj5, zj5, xj⟩ := ly6 Rj_1.out
  go_wp2_with fail
  obtain ⟨w2, hW, hb, Rsl_2⟩ := new1 v1 (.cells #[.bool (decide (s.lo.1 < 0)), .slice A (digs s.lo.1.natAbs).length c, .int .i64 s.lo.2, .bool (decide (s.hi.1 < 0)), .slice B (digs s.hi.1.natAbs).length d, .int .i64 s.hi.2, .bool (decide (t.lo.1 < 0)), .slice A' (digs t.lo.1.natAbs).length c', .int .i64 t.lo.2, .bool (decide (t.hi.1 < 0)), .slice B' (digs t.hi.1.natAbs).length d', .int .i64 t.hi.2] 34)
  rw [← hW]
  have L2 := ls L1 hb
  have Rk_2 := co Rk_1 hb
  have Ri_2 := co Ri_1 hb
  have Rj_2 := co Rj_1 hb
  have Rr_2 := co Rr_1 hb
  have Gsl := gl0 L1.out
  have Nksl := nl0 Rk_1.out
  have Nisl := nl0 Ri_1.out
  have Njsl := nl0 Rj_1.out
  have Nrsl := nl0 Rr_1.out
  clear hW hb
  clear fi0 zi0 fi1 zi1 fi2 zi2 fi3 zi3 fi4 zi4 fi5 zi5 xi fj0 zj0 fj1 zj1 fj2 zj2 fj3 zj3 fj4 zj4 fj5 zj5 xj
  refine (takes_2 Rk_2.out Rsl_2.out (L2.out.get (A := A) (c := c) (xs := digs s.lo.1.natAbs) (by simp)) (L2.out.get (A := B) (c := d) (xs := digs s.hi.1.natAbs) (by simp)) (inr_len OS.out.1.2) (inr_len OS.out.2.1.2) OS.out.1.rt OS.out.2.1.rt OS.out.2.2 (L2.out.get (A := A') (c := c') (xs := digs t.lo.1.natAbs) (by simp)) (L2.out.get (A := B') (c := d') (xs := digs t.hi.1.natAbs) (by simp)) (inr_len OT.out.1.2) (inr_len OT.out.2.1.2) OT.out.1.rt OT.out.2.1.rt OT.out.2.2 rfl).mono ?_
  rintro e w3 ⟨rfl, hb⟩
  have L3 := ls L2 hb
  have Rk_3 := co Rk_2 hb
  have Ri_3 := co Ri_2 hb
  have Rj_3 := co Rj_2 hb
  have Rr_3 := co Rr_2 hb
  have Rsl_3 := co Rsl_2 hb
  clear hb 
  go_upto_region 3 with fail
  refine wp_operands (W := w3) rfl 14 [16, 17, 18, 19, 20, 21, 22, 23, 24, 25, 26, 27, 7, 8] (fun i u ww => match i with | 0 => u = .pointer (some ⟨w.heap.size, 0, none⟩) | 1 => u = .agg #[.bool (decide (s.lo.1 < 0)), .slice A (digs s.lo.1.natAbs).length c, .int .i64 s.lo.2] | 2 => u = .pointer (some ⟨w.heap.size + 1, 0, none⟩) | 3 => u = .agg #[.bool (decide (t.lo.1 < 0)), .slice A' (digs t.lo.1.natAbs).length c', .int .i64 t.lo.2] | 4 => ∃ g A c, u = .slice (some ⟨g, 0, none⟩) 1 1 ∧ ww.heap[g]? = some (.cells #[.bool (decide (t.lo.1 < 0)), .slice A (digs t.lo.1.natAbs).length c, .int .i64 t.lo.2] 26 (0, 0)) ∧ w3.heap.size ≤ g ∧ Dg ww A c (digs t.lo.1.natAbs) | 5 => ∃ A c, u = .agg #[.bool (decide (l.1 < 0)), .slice A (digs l.1.natAbs).length c, .int .i64 l.2] ∧ Dg ww A c (digs l.1.natAbs) | 6 => u = .pointer (some ⟨w.heap.size, 3, none⟩) | 7 => u = .agg #[.bool (decide (s.hi.1 < 0)), .slice B (digs s.hi.1.natAbs).length d, .int .i64 s.hi.2] | 8 => u = .pointer (some ⟨w.heap.size + 1, 3, none⟩) | 9 => u = .agg #[.bool (decide (t.hi.1 < 0)), .slice B' (digs t.hi.1.natAbs).length d', .int .i64 t.hi.2] | 10 => ∃ g A c, u = .slice (some ⟨g, 0, none⟩) 1 1 ∧ ww.heap[g]? = some (.cells #[.bool (decide (t.hi.1 < 0)), .slice A (digs t.hi.1.natAbs).length c, .int .i64 t.hi.2] 26 (0, 0)) ∧ w3.heap.size ≤ g ∧ Dg ww A c (digs t.hi.1.natAbs) | 11 => ∃ A c, u = .agg #[.bool (decide (v.1 < 0)), .slice A (digs v.1.natAbs).length c, .int .i64 v.2] ∧ Dg ww A c (digs v.1.natAbs) | 12 => ∃ g, u = .pointer (some ⟨g, 0, none⟩) ∧ ww.heap[g]? = some (.cells #[.bool false, .slice none 0 0, .int .i64 0] 26 (0, 0)) ∧ w3.heap.size ≤ g | 13 => ∃ g, u = .pointer (some ⟨g, 0, none⟩) ∧ ww.heap[g]? = some (.cells #[.bool false, .slice none 0 0, .int .i64 0] 26 (0, 0)) ∧ w3.heap.size ≤ g | _ => True) (fun i => decide (i ∈ ([12, 13] : List Nat)))
    (by decide) rfl (by kernel_rfl) (by kernel_rfl) (by decide) (by kernel_rfl) ?_ ?_ ?_ ?_
  · intro i u x y hi h hb
    have hi' : i = 0 ∨ i = 1 ∨ i = 2 ∨ i = 3 ∨ i = 4 ∨ i = 5 ∨ i = 6 ∨ i = 7 ∨ i = 8 ∨ i = 9 ∨ i = 10 ∨ i = 11 ∨ i = 12 ∨ i = 13 := by omega
    rcases hi' with rfl | rfl | rfl | rfl | rfl | rfl | rfl | rfl | rfl | rfl | rfl | rfl | rfl | rfl
    · exact h
    · exact h
    · exact h
    · exact h
    · obtain ⟨g, A, c, e, hg, hge, hd⟩ := h
      exact ⟨g, A, c, e, cells_of hg hb, hge, hd.below hb⟩
    · obtain ⟨A, c, e, hd⟩ := h
      exact ⟨A, c, e, hd.below hb⟩
    · exact h
    · exact h
    · exact h
    · exact h
    · obtain ⟨g, A, c, e, hg, hge, hd⟩ := h
      exact ⟨g, A, c, e, cells_of hg hb, hge, hd.below hb⟩
    · obtain ⟨A, c, e, hd⟩ := h
      exact ⟨A, c, e, hd.below hb⟩
    · obtain ⟨g, e, hg, hge⟩ := h
      exact ⟨g, e, cells_of hg hb, hge⟩
    · obtain ⟨g, e, hg, hge⟩ := h
      exact ⟨g, e, cells_of hg hb, hge⟩
  · intro i u x hi h
    have hi' : i = 12 ∨ i = 13 := by simpa using hi
    rcases hi' with rfl | rfl
    all_goals
      obtain ⟨g, e, hg, _⟩ := h
      exact ⟨g, e, heap_lt hg⟩
  · intro i a x KK hi hF hb hw hK
    have hi' : i = 0 ∨ i = 1 ∨ i = 2 ∨ i = 3 ∨ i = 4 ∨ i = 5 ∨ i = 6 ∨ i = 7 ∨ i = 8 ∨ i = 9 ∨ i = 10 ∨ i = 11 ∨ i = 12 ∨ i = 13 := by omega
    rcases hi' with rfl | rfl | rfl | rfl | rfl | rfl | rfl | rfl | rfl | rfl | rfl | rfl | rfl | rfl
    · simp only [wpOp, List.getElem?_toArray, List.getElem?_cons_zero, Region.wanted, if_true]
      refine Or.inl ?_
      have e0 : a.eval (.tmp 4) = .pointer (some ⟨w.heap.size, 0, none⟩) := hF.2.2 4 (by decide)
      clear hw hF
      simp only [Oper.wp, execOp]
      rw [e0]
      go_simp
      exact hK _ x (by first | rfl | simp) (Below.refl _ _) (fun h => by simp at h)
    · simp only [wpOp, List.getElem?_toArray, List.getElem?_cons_succ, List.getElem?_cons_zero, Region.wanted, if_true]
      refine Or.inl ?_
      have e0 : a.eval (.tmp 16) = .pointer (some ⟨w.heap.size, 0, none⟩) := hw 0 (by kernel_rfl)
      have f0 := row_cell Ri_3.out hb 0
      have f1 := row_cell Ri_3.out hb 1
      have f2 := row_cell Ri_3.out hb 2
      have f3 := row_cell Ri_3.out hb 3
      have f4 := row_cell Ri_3.out hb 4
      have f5 := row_cell Ri_3.out hb 5
      simp only [List.getElem?_toArray, List.getElem?_cons_succ, List.getElem?_cons_zero] at f0 f1 f2 f3 f4 f5
      clear hw hF
      simp only [Oper.wp, execOp]
      rw [e0]
      go_simp
      exact hK _ x (by first | rfl | simp) (Below.refl _ _) (fun h => by simp at h)
    · simp only [wpOp, List.getElem?_toArray, List.getElem?_cons_succ, List.getElem?_cons_zero, Region.wanted, if_true]
      refine Or.inl ?_
      have e0 : a.eval (.tmp 5) = .pointer (some ⟨w.heap.size + 1, 0, none⟩) := hF.2.2 5 (by decide)
      clear hw hF
      simp only [Oper.wp, execOp]
      rw [e0]
      go_simp
      exact hK _ x (by first | rfl | simp) (Below.refl _ _) (fun h => by simp at h)
    · simp only [wpOp, List.getElem?_toArray, List.getElem?_cons_succ, List.getElem?_cons_zero, Region.wanted, if_true]
      refine Or.inl ?_
      have e0 : a.eval (.tmp 18) = .pointer (some ⟨w.heap.size + 1, 0, none⟩) := hw 2 (by kernel_rfl)
      have f0 := row_cell Rj_3.out hb 0
      have f1 := row_cell Rj_3.out hb 1
      have f2 := row_cell Rj_3.out hb 2
      have f3 := row_cell Rj_3.out hb 3
      have f4 := row_cell Rj_3.out hb 4
      have f5 := row_cell Rj_3.out hb 5
      simp only [List.getElem?_toArray, List.getElem?_cons_succ, List.getElem?_cons_zero] at f0 f1 f2 f3 f4 f5
      clear hw hF
      simp only [Oper.wp, execOp]
      rw [e0]
      go_simp
      exact hK _ x (by first | rfl | simp) (Below.refl _ _) (fun h => by simp at h)
    · simp only [wpOp, List.getElem?_toArray, List.getElem?_cons_succ, List.getElem?_cons_zero, Region.wanted, if_true]
      refine Or.inl ?_
      have e0 : a.eval (.tmp 19) = .agg #[.bool (decide (t.lo.1 < 0)), .slice A' (digs t.lo.1.natAbs).length c', .int .i64 t.lo.2] := hw 3 (by kernel_rfl)
      have hd := (L3.out.step hb).get (A := A') (c := c') (xs := digs t.lo.1.natAbs) (by simp)
      clear hw hF
      simp only [Oper.wp, execOp]
      simp only [List.map_toArray, List.map_cons, List.map_nil, e0]
      go_simp
      exact hK _ _ ⟨_, _, _, rfl, heap_alloc_new _ _, hb.size, hd.below (below1 _ _)⟩ (below1 _ _) (fun h => by simp at h)
    · simp only [wpOp, List.getElem?_toArray, List.getElem?_cons_succ, List.getElem?_cons_zero, Region.wanted, if_true]
      refine Or.inl ?_
      have e0 : a.tmps.getD 17 undef = .agg #[.bool (decide (s.lo.1 < 0)), .slice A (digs s.lo.1.natAbs).length c, .int .i64 s.lo.2] := hw 1 (by kernel_rfl)
      obtain ⟨gb, Ab, cb, e1, hgb, hgeb, hdb⟩ := hw 4 (by kernel_rfl)
      have e1 : a.tmps.getD 20 undef = _ := e1
      clear hw hF
      simp only [Oper.wp, execOp]
      go_simp
      refine (greatest1 ((L3.out.step hb).get (A := A) (c := c) (xs := digs s.lo.1.natAbs) (by simp)) OS.out.1 hgb hdb OT.out.1 HL.out).mono ?_
      rintro e y ⟨A2, c2, rfl, hd2, hbb⟩
      exact hK _ y ⟨A2, c2, rfl, hd2⟩ hbb (fun h => by simp at h)
    · simp only [wpOp, List.getElem?_toArray, List.getElem?_cons_succ, List.getElem?_cons_zero, Region.wanted, if_true]
      refine Or.inl ?_
      have e0 : a.eval (.tmp 4) = .pointer (some ⟨w.heap.size, 0, none⟩) := hF.2.2 4 (by decide)
      clear hw hF
      simp only [Oper.wp, execOp]
      rw [e0]
      go_simp
      exact hK _ x (by first | rfl | simp) (Below.refl _ _) (fun h => by simp at h)
    · simp only [wpOp, List.getElem?_toArray, List.getElem?_cons_succ, List.getElem?_cons_zero, Region.wanted, if_true]
      refine Or.inl ?_
      have e0 : a.eval (.tmp 22) = .pointer (some ⟨w.heap.size, 3, none⟩) := hw 6 (by kernel_rfl)
      have f0 := row_cell Ri_3.out hb 0
      have f1 := row_cell Ri_3.out hb 1
      have f2 := row_cell Ri_3.out hb 2
      have f3 := row_cell Ri_3.out hb 3
      have f4 := row_cell Ri_3.out hb 4
      have f5 := row_cell Ri_3.out hb 5
      simp only [List.getElem?_toArray, List.getElem?_cons_succ, List.getElem?_cons_zero] at f0 f1 f2 f3 f4 f5
      clear hw hF
      simp only [Oper.wp, execOp]
      rw [e0]
      go_simp
      exact hK _ x (by first | rfl | simp) (Below.refl _ _) (fun h => by simp at h)
    · simp only [wpOp, List.getElem?_toArray, List.getElem?_cons_succ, List.getElem?_cons_zero, Region.wanted, if_true]
      refine Or.inl ?_
      have e0 : a.eval (.tmp 5) = .pointer (some ⟨w.heap.size + 1, 0, none⟩) := hF.2.2 5 (by decide)
      clear hw hF
      simp only [Oper.wp, execOp]
      rw [e0]
      go_simp
      exact hK _ x (by first | rfl | simp) (Below.refl _ _) (fun h => by simp at h)
    · simp only [wpOp, List.getElem?_toArray, List.getElem?_cons_succ, List.getElem?_cons_zero, Region.wanted, if_true]
      refine Or.inl ?_
      have e0 : a.eval (.tmp 24) = .pointer (some ⟨w.heap.size + 1, 3, none⟩) := hw 8 (by kernel_rfl)
      have f0 := row_cell Rj_3.out hb 0
      have f1 := row_cell Rj_3.out hb 1
      have f2 := row_cell Rj_3.out hb 2
      have f3 := row_cell Rj_3.out hb 3
      have f4 := row_cell Rj_3.out hb 4
      have f5 := row_cell Rj_3.out hb 5
      simp only [List.getElem?_toArray, List.getElem?_cons_succ, List.getElem?_cons_zero] at f0 f1 f2 f3 f4 f5
      clear hw hF
      simp only [Oper.wp, execOp]
      rw [e0]
      go_simp
      exact hK _ x (by first | rfl | simp) (Below.refl _ _) (fun h => by simp at h)
    · simp only [wpOp, List.getElem?_toArray, List.getElem?_cons_succ, List.getElem?_cons_zero, Region.wanted, if_true]
      refine Or.inl ?_
      have e0 : a.eval (.tmp 25) = .agg #[.bool (decide (t.hi.1 < 0)), .slice B' (digs t.hi.1.natAbs).length d', .int .i64 t.hi.2] := hw 9 (by kernel_rfl)
      have hd := (L3.out.step hb).get (A := B') (c := d') (xs := digs t.hi.1.natAbs) (by simp)
      clear hw hF
      simp only [Oper.wp, execOp]
      simp only [List.map_toArray, List.map_cons, List.map_nil, e0]
      go_simp
      exact hK _ _ ⟨_, _, _, rfl, heap_alloc_new _ _, hb.size, hd.below (below1 _ _)⟩ (below1 _ _) (fun h => by simp at h)
    · simp only [wpOp, List.getElem?_toArray, List.getElem?_cons_succ, List.getElem?_cons_zero, Region.wanted, if_true]
      refine Or.inl ?_
      have e0 : a.tmps.getD 23 undef = .agg #[.bool (decide (s.hi.1 < 0)), .slice B (digs s.hi.1.natAbs).length d, .int .i64 s.hi.2] := hw 7 (by kernel_rfl)
      obtain ⟨gb, Ab, cb, e1, hgb, hgeb, hdb⟩ := hw 10 (by kernel_rfl)
      have e1 : a.tmps.getD 26 undef = _ := e1
      clear hw hF
      simp only [Oper.wp, execOp]
      go_simp
      refine (least1 ((L3.out.step hb).get (A := B) (c := d) (xs := digs s.hi.1.natAbs) (by simp)) OS.out.2.1 hgb hdb OT.out.2.1 HU.out).mono ?_
      rintro e y ⟨A2, c2, rfl, hd2, hbb⟩
      exact hK _ y ⟨A2, c2, rfl, hd2⟩ hbb (fun h => by simp at h)
    · simp only [wpOp, List.getElem?_toArray, List.getElem?_cons_succ, List.getElem?_cons_zero, Region.wanted, if_true]
      refine Or.inl ?_
      clear hw hF
      simp only [Oper.wp, execOp]
      go_simp
      exact hK _ _ ⟨_, rfl, heap_alloc_new _ _, hb.size⟩ (below1 _ _) (fun _ => rfl)
    · simp only [wpOp, List.getElem?_toArray, List.getElem?_cons_succ, List.getElem?_cons_zero, Region.wanted, if_true]
      refine Or.inl ?_
      clear hw hF
      simp only [Oper.wp, execOp]
      go_simp
      exact hK _ _ ⟨_, rfl, heap_alloc_new _ _, hb.size⟩ (below1 _ _) (fun _ => rfl)
  · intro a x hF0 hb hR hNe
    have hF : Fr6 [16, 17, 18, 19, 20, 21, 22, 23, 24, 25, 26, 27, 7, 8] _ a := hF0
    have e0 : a.tmps.getD 16 undef = .pointer (some ⟨w.heap.size, 0, none⟩) := hR 0 (by decide)
    have e1 : a.tmps.getD 17 undef = .agg #[.bool (decide (s.lo.1 < 0)), .slice A (digs s.lo.1.natAbs).length c, .int .i64 s.lo.2] := hR 1 (by decide)
    have e2 : a.tmps.getD 18 undef = .pointer (some ⟨w.heap.size + 1, 0, none⟩) := hR 2 (by decide)
    have e3 : a.tmps.getD 19 undef = .agg #[.bool (decide (t.lo.1 < 0)), .slice A' (digs t.lo.1.natAbs).length c', .int .i64 t.lo.2] := hR 3 (by decide)
    obtain ⟨g4, B4, d4, h4, hg4, hge4, hd4⟩ := hR 4 (by decide)
    have e4 : a.tmps.getD 20 undef = _ := h4
    obtain ⟨B5, d5, h5, hd5⟩ := hR 5 (by decide)
    have e5 : a.tmps.getD 21 undef = _ := h5
    have e6 : a.tmps.getD 22 undef = .pointer (some ⟨w.heap.size, 3, none⟩) := hR 6 (by decide)
    have e7 : a.tmps.getD 23 undef = .agg #[.bool (decide (s.hi.1 < 0)), .slice B (digs s.hi.1.natAbs).length d, .int .i64 s.hi.2] := hR 7 (by decide)
    have e8 : a.tmps.getD 24 undef = .pointer (some ⟨w.heap.size + 1, 3, none⟩) := hR 8 (by decide)
    have e9 : a.tmps.getD 25 undef = .agg #[.bool (decide (t.hi.1 < 0)), .slice B' (digs t.hi.1.natAbs).length d', .int .i64 t.hi.2] := hR 9 (by decide)
    obtain ⟨g10, B10, d10, h10, hg10, hge10, hd10⟩ := hR 10 (by decide)
    have e10 : a.tmps.getD 26 undef = _ := h10
    obtain ⟨B11, d11, h11, hd11⟩ := hR 11 (by decide)
    have e11 : a.tmps.getD 27 undef = _ := h11
    obtain ⟨g12, h12, hg12, hge12⟩ := hR 12 (by decide)
    have e12 : a.tmps.getD 7 undef = _ := h12
    obtain ⟨g13, h13, hg13, hge13⟩ := hR 13 (by decide)
    have e13 : a.tmps.getD 8 undef = _ := h13
    have Nd12_13 : g12 ≠ g13 := fun e => hNe 12 13 (by decide) (by decide) (by decide) (by decide) (by decide) (by show a.tmps.getD 7 undef = a.tmps.getD 8 undef; rw [e12, e13, e])
    clear hNe
    rw [hF.fold (by kernel_rfl)]
    simp only [List.foldl_cons, List.foldl_nil, e0, e1, e2, e3, e4, e5, e6, e7, e8, e9, e10, e11, e12, e13]
    simp only [Act.put, List.setIfInBounds_toArray, List.set_cons_zero, List.set_cons_succ]
    clear e0 e1 e2 e3 e4 e5 e6 e7 e8 e9 e10 e11 e12 e13 hR hF hF0 h4 h5 h10 h11 h12 h13
    obtain ⟨w4, hW⟩ : ∃ W : World, W = x := ⟨_, rfl⟩
    rw [← hW]
    rw [← hW] at hb hd4 hd5 hd10 hd11 hg12 hg13 hg4 hg10
    have L4 := Lib.hid (((((L3.out.step hb).add hd4).add hd5).add hd10).add hd11)
    have Rk_4 := co Rk_3 hb
    have Ri_4 := co Ri_3 hb
    have Rj_4 := co Rj_3 hb
    have Rr_4 := co Rr_3 hb
    have Rsl_4 := co Rsl_3 hb
    have Rq12_4 := Lib.hid hg12
    have Gq12 : w.heap.size ≤ g12 := Nat.le_trans L3.out.1.size hge12
    have Nkq12 : g < g12 := by have := heap_lt Rk_3.out; omega
    have Niq12 : w.heap.size < g12 := by have := heap_lt Ri_3.out; omega
    have Njq12 : w.heap.size + 1 < g12 := by have := heap_lt Rj_3.out; omega
    have Nrq12 : w.heap.size + 1 + 1 < g12 := by have := heap_lt Rr_3.out; omega
    have Nslq12 : v1.heap.size < g12 := by have := heap_lt Rsl_3.out; omega
    have Rq13_4 := Lib.hid hg13
    have Gq13 : w.heap.size ≤ g13 := Nat.le_trans L3.out.1.size hge13
    have Nkq13 : g < g13 := by have := heap_lt Rk_3.out; omega
    have Niq13 : w.heap.size < g13 := by have := heap_lt Ri_3.out; omega
    have Njq13 : w.heap.size + 1 < g13 := by have := heap_lt Rj_3.out; omega
    have Nrq13 : w.heap.size + 1 + 1 < g13 := by have := heap_lt Rr_3.out; omega
    have Nslq13 : v1.heap.size < g13 := by have := heap_lt Rsl_3.out; omega
    have Rq4_4 := Lib.hid hg4
    have Gq4 : w.heap.size ≤ g4 := Nat.le_trans L3.out.1.size hge4
    have Nkq4 : g < g4 := by have := heap_lt Rk_3.out; omega
    have Niq4 : w.heap.size < g4 := by have := heap_lt Ri_3.out; omega
    have Njq4 : w.heap.size + 1 < g4 := by have := heap_lt Rj_3.out; omega
    have Nrq4 : w.heap.size + 1 + 1 < g4 := by have := heap_lt Rr_3.out; omega
    have Nslq4 : v1.heap.size < g4 := by have := heap_lt Rsl_3.out; omega
    have Rq10_4 := Lib.hid hg10
    have Gq10 : w.heap.size ≤ g10 := Nat.le_trans L3.out.1.size hge10
    have Nkq10 : g < g10 := by have := heap_lt Rk_3.out; omega
    have Niq10 : w.heap.size < g10 := by have := heap_lt Ri_3.out; omega
    have Njq10 : w.heap.size + 1 < g10 := by have := heap_lt Rj_3.out; omega
    have Nrq10 : w.heap.size + 1 + 1 < g10 := by have := heap_lt Rr_3.out; omega
    have Nslq10 : v1.heap.size < g10 := by have := heap_lt Rsl_3.out; omega
    clear hW hb hd4 hd5 hd10 hd11 hg12 hg13 hg4 hg10 hge12 hge13 hge4 hge10
    change wpOps _ _ _ [14, 15] _ _
    obtain ⟨fq120, zq120, fq121, zq121, fq122, zq122, xq12⟩ := ly3 Rq12_4.out
    obtain ⟨fq130, zq130, fq131, zq131, fq132, zq132, xq13⟩ := ly3 Rq13_4.out
    simp only [wpOps_cons]
    simp only [wpOp, List.getElem?_toArray, List.getElem?_cons_succ, List.getElem?_cons_zero, Region.wanted, if_true]
    refine Or.inl ?_
    simp only [Oper.wp, execOp]
    go_simp
    simp only [wpOps_cons]
    simp only [wpOp, List.getElem?_toArray, List.getElem?_cons_succ, List.getElem?_cons_zero, Region.wanted, if_true]
    refine Or.inl ?_
    simp only [Oper.wp, execOp]
    go_simp
    try simp only [wpOps]
    clear fq120 zq120 fq121 zq121 fq122 zq122 xq12 fq130 zq130 fq131 zq131 fq132 zq132 xq13
    obtain ⟨w5, hW⟩ : ∃ W : World, W = (((w4.setCell ⟨g12, 0, none⟩ (.bool (decide (l.1 < 0)))).setCell ⟨g12, 1, none⟩ (.slice B5 (digs l.1.natAbs).length d5)).setCell ⟨g12, 2, none⟩ (.int .i64 l.2)) := ⟨_, rfl⟩
    rw [← hW]
    have hO : Only (g12) w4 w5 := by rw [hW]; exact ((((Only.refl (g12) w4).setCell 0 _).setCell 1 _).setCell 2 _)
    have L5 := Lib.hid (live_only L4.out hO Rq12_4.out noint_dy Gq12)
    have Rk_5 := Lib.hid ((hO.block _ (by omega)).trans Rk_4.out)
    have Ri_5 := Lib.hid ((hO.block _ (by omega)).trans Ri_4.out)
    have Rj_5 := Lib.hid ((hO.block _ (by omega)).trans Rj_4.out)
    have Rr_5 := Lib.hid ((hO.block _ (by omega)).trans Rr_4.out)
    have Rsl_5 := Lib.hid ((hO.block _ (by omega)).trans Rsl_4.out)
    have Rq13_5 := Lib.hid ((hO.block _ (by omega)).trans Rq13_4.out)
    have Rq12_5 := Lib.hid (show w5.heap[g12]? = some (.cells #[.bool (decide (l.1 < 0)), .slice B5 (digs l.1.natAbs).length d5, .int .i64 l.2] 26 (0, 0)) by rw [hW]; exact (heap_setCell_same _ _ 2 _ _ _ (heap_setCell_same _ _ 1 _ _ _ (heap_setCell_same _ _ 0 _ _ _ Rq12_4.out))))
    clear hW hO
    obtain ⟨w6, hW⟩ : ∃ W : World, W = (((w5.setCell ⟨g13, 0, none⟩ (.bool (decide (v.1 < 0)))).setCell ⟨g13, 1, none⟩ (.slice B11 (digs v.1.natAbs).length d11)).setCell ⟨g13, 2, none⟩ (.int .i64 v.2)) := ⟨_, rfl⟩
    rw [← hW]
    have hO : Only (g13) w5 w6 := by rw [hW]; exact ((((Only.refl (g13) w5).setCell 0 _).setCell 1 _).setCell 2 _)
    have L6 := Lib.hid (live_only L5.out hO Rq13_5.out noint_dy Gq13)
    have Rk_6 := Lib.hid ((hO.block _ (by omega)).trans Rk_5.out)
    have Ri_6 := Lib.hid ((hO.block _ (by omega)).trans Ri_5.out)
    have Rj_6 := Lib.hid ((hO.block _ (by omega)).trans Rj_5.out)
    have Rr_6 := Lib.hid ((hO.block _ (by omega)).trans Rr_5.out)
    have Rsl_6 := Lib.hid ((hO.block _ (by omega)).trans Rsl_5.out)
    have Rq12_6 := Lib.hid ((hO.block _ (by omega)).trans Rq12_5.out)
    have Rq13_6 := Lib.hid (show w6.heap[g13]? = some (.cells #[.bool (decide (v.1 < 0)), .slice B11 (digs v.1.natAbs).length d11, .int .i64 v.2] 26 (0, 0)) by rw [hW]; exact (heap_setCell_same _ _ 2 _ _ _ (heap_setCell_same _ _ 1 _ _ _ (heap_setCell_same _ _ 0 _ _ _ Rq13_5.out))))
    clear hW hO
    go_upto_region 4 with fail
    have Mq : True := trivial
    have d0 := D0.out
    have Mgq12 : g < g12 := by have := HLk.out; omega
    have Mgq13 : g < g13 := by have := HLk.out; omega
    obtain ⟨fq120, zq120, fq121, zq121, fq122, zq122, xq12⟩ := ly3 Rq12_6.out
    obtain ⟨fq130, zq130, fq131, zq131, fq132, zq132, xq13⟩ := ly3 Rq13_6.out
    have KD := Lib.hid (bd0 w6)
    have LD := ls L6 KD.out
    have HLk := Lib.hid (heap_lt Rk_6.out)
    have Mq12 : g12 ≠ g := by omega
    have Mq13 : g13 ≠ g := by omega
    go_region_held3 (fun w' => (∀ o, w'.cell? ⟨g12, o, none⟩ = w6.cell? ⟨g12, o, none⟩) ∧ (∀ o, w'.cell? ⟨g13, o, none⟩ = w6.cell? ⟨g13, o, none⟩))
      (first | with_reducible exact ⟨keep_b KD.out xq12, keep_b KD.out xq13⟩ | with_reducible exact ⟨keep_b K8.out xq12, keep_b K8.out xq13⟩ | exact ⟨keep_set (keep_b K8.out xq12) Mq12, keep_set (keep_b K8.out xq13) Mq13⟩)
      (first
        | (go_at_call 32; (with_reducible refine (qcmp (LD.out.get (A := B5) (c := d5) (xs := digs l.1.natAbs) (by simp)) (LD.out.get (A := B11) (c := d11) (xs := digs v.1.natAbs) (by simp)) OL.out OU.out HJ.out).mono ?_); rintro e w8 ⟨rfl, hb⟩; (have K8 := bt KD hb); (have L8 := Lib.hid (LD.out.step hb)); clear hb )
        | (go_at_call 61; (with_reducible refine (note_sets g 5 _ (row_c (i := 0) (cells_of Rk_6.out K8.out) rfl) (frozen_of_row _ _ 0 _ _ (cells_of Rk_6.out K8.out))).mono ?_); rintro e w9 ⟨rfl, rfl⟩))
    rename_i hHeld
    clear hHeld
    clear fq120 zq120 fq121 zq121 fq122 zq122 xq12 fq130 zq130 fq131 zq131 fq132 zq132 xq13
    have Rk_9 := co Rk_6 K8.out
    have Ri_9 := co Ri_6 K8.out
    have Rj_9 := co Rj_6 K8.out
    have Rr_9 := co Rr_6 K8.out
    have Rsl_9 := co Rsl_6 K8.out
    have Rq12_9 := co Rq12_6 K8.out
    have Rq13_9 := co Rq13_6 K8.out
    obtain ⟨t9, hW⟩ : ∃ x : World, x = w8.setCell ⟨g, 0, none⟩ (.int .i64 5) := ⟨_, rfl⟩
    rw [← hW]
    have hO : Only g w8 t9 := by rw [hW]; exact (Only.refl g w8).setCell 0 _
    have TN := Lib.hid ((Tn.of L8.out.1).only hO)
    have Rk_t9 := Lib.hid (show t9.heap[g]? = some (.cells #[.int .i64 5, .int .i64 P] 45 (0, 0)) from (by rw [hW]; exact heap_setCell_same _ _ 0 _ _ _ Rk_9.out))
    have Ri_t9 := Lib.hid ((hO.block _ (by have := HLk.out; omega)).trans Ri_9.out)
    have Rj_t9 := Lib.hid ((hO.block _ (by have := HLk.out; omega)).trans Rj_9.out)
    have Rr_t9 := Lib.hid ((hO.block _ (by have := HLk.out; omega)).trans Rr_9.out)
    have Rsl_t9 := Lib.hid ((hO.block _ (by have := HLk.out; omega)).trans Rsl_9.out)
    have Rq12_t9 := Lib.hid ((hO.block _ (by have := HLk.out; omega)).trans Rq12_9.out)
    have Rq13_t9 := Lib.hid ((hO.block _ (by have := HLk.out; omega)).trans Rq13_9.out)
    have Lt := Lib.hid (live_start t9)
    clear hW hO
    clear d0
    obtain ⟨fq120, zq120, fq121, zq121, fq122, zq122, xq12⟩ := ly3 Rq12_t9.out
    obtain ⟨fq130, zq130, fq131, zq131, fq132, zq132, xq13⟩ := ly3 Rq13_t9.out
    go_wp2_with fail
    refine (ans_held B5 B11 d5 d11 l.1 l.2 v.1 v.2 5 P g _ Rk_t9.out (by omega)).mono ?_
    rintro e w10 ⟨rfl, hb⟩
    have L10 := ls Lt hb
    clear fq120 zq120 fq121 zq121 fq122 zq122 xq12 fq130 zq130 fq131 zq131 fq132 zq132 xq13
    have Rk_10 := co Rk_t9 hb
    have Ri_10 := co Ri_t9 hb
    have Rj_10 := co Rj_t9 hb
    have Rr_10 := co Rr_t9 hb
    have Rsl_10 := co Rsl_t9 hb
    have Rq12_10 := co Rq12_t9 hb
    have Rq13_10 := co Rq13_t9 hb
    clear hb 
    have TN2 := Lib.hid (TN.out.below L10.out.1)
    clear TN
    have TN := TN2
    clear TN2
    obtain ⟨fr0, zr0, fr1, zr1, fr2, zr2, fr3, zr3, fr4, zr4, fr5, zr5, xr⟩ := ly6 Rr_10.out
    go_wp2
    refine bodyPost_ret (v := .agg #[.bool false, .slice none 0 0, .int .i64 0, .bool false, .slice none 0 0, .int .i64 0]) (by simp [results, Tryz.results31, go_sem, fr0, fr1, fr2, fr3, fr4, fr5]) rfl ?_
    have hf := far6 TN.out Rk_10.out Gr (by have := HLk.out; omega)
    exact ⟨rfl, (hf _ _ _ _ _ _).1, (hf _ _ _ _ _ _).2⟩
end Go.Proofs.YtijodbjdajddoaaGreatDoor
end

section
namespace Go.Proofs.YtijodbjdajddoaaGreatDoor
open Go.RowKit
set_option linter.unusedSimpArgs false
set_option linter.unusedVariables false
theorem row6 {t : World} {g : Nat} {T : TypeId} {a0 a1 a2 a3 a4 a5 : Value} (h : t.heap[g]? = some (.cells #[a0, a1, a2, a3, a4, a5] T (0, 0))) (b0 b1 b2 b3 b4 b5 : Value) :
    ((((((t.setCell ⟨g, 0, none⟩ b0).setCell ⟨g, 1, none⟩ b1).setCell ⟨g, 2, none⟩ b2).setCell ⟨g, 3, none⟩ b3).setCell ⟨g, 4, none⟩ b4).setCell ⟨g, 5, none⟩ b5).heap[g]? = some (.cells #[b0, b1, b2, b3, b4, b5] T (0, 0)) :=
  heap_setCell_same _ _ 5 _ _ _ (heap_setCell_same _ _ 4 _ _ _ (heap_setCell_same _ _ 3 _ _ _ (heap_setCell_same _ _ 2 _ _ _ (heap_setCell_same _ _ 1 _ _ _ (heap_setCell_same _ _ 0 _ _ _ h)))))

set_option maxHeartbeats 4000000 in
set_option maxRecDepth 100000 in
theorem hull_ok (A B A' B' : Option Addr) (c d c' d' : Nat) (s t : St) (l v : Qn) (P : Int) (g b : Nat) (w : World) (h : Dg w A c (digs s.lo.1.natAbs)) (h' : Dg w B d (digs s.hi.1.natAbs)) (os : So s) (k : Dg w A' c' (digs t.lo.1.natAbs)) (k' : Dg w B' d' (digs t.hi.1.natAbs)) (ot : So t)(hk : w.heap[g]? = some (.cells #[.int .i64 0, .int .i64 P] 45 (0, 0))) (hr : w.heap[b]? = some (.cells #[.bool (decide (s.lo.1 < 0)), .slice A (digs s.lo.1.natAbs).length c, .int .i64 s.lo.2, .bool (decide (s.hi.1 < 0)), .slice B (digs s.hi.1.natAbs).length d, .int .i64 s.hi.2, .bool (decide (t.lo.1 < 0)), .slice A' (digs t.lo.1.natAbs).length c', .int .i64 t.lo.2, .bool (decide (t.hi.1 < 0)), .slice B' (digs t.hi.1.natAbs).length d', .int .i64 t.hi.2] 34 (0, 0))) (hl : lst s.lo [t.lo] = l) (hv : gst s.hi [t.hi] = v):
    Calls Tryz.prog 26 #[.pointer (some ⟨g, 0, none⟩), .slice (some ⟨b, 0, none⟩) 2 2] w fun e w' => Ys ⟨l, v⟩ w e w' := by
  have OS := Lib.hid os
  have OT := Lib.hid ot
  have HL := Lib.hid hl
  have HV := Lib.hid hv
  have OL := Lib.hid (show Qo l by rw [← hl]; exact lst1_ok os.1 ot.1)
  have OV := Lib.hid (show Qo v by rw [← hv]; exact gst1_ok os.2.1 ot.2.1)
  have L0 := Lib.hid (((((live_start w).add h).add h').add k).add k')
  have Rk_0 := Lib.hid hk
  have Rsl_0 := Lib.hid hr
  clear hk hr
  clear h h' k k' os ot hl hv
  go_enter Tryz.func26, Tryz.ntmps26
  go_upto_region 1 with fail
  obtain ⟨v1, hW, hb, Rr_1⟩ := new1 w (.cells #[.bool false, .slice none 0 0, .int .i64 0, .bool false, .slice none 0 0, .int .i64 0] 34)
  rw [← hW]
  have L1 := ls L0 hb
  have Rk_1 := co Rk_0 hb
  have Rsl_1 := co Rsl_0 hb
  have Gr := gl0 L0.out
  have Nkr := nl0 Rk_0.out
  have Nslr := nl0 Rsl_0.out
  clear hW hb
  obtain ⟨fk0, zk0, fk1, zk1, xk⟩ := ly2 Rk_1.out
  go_wp2_with fail
  refine (note_no g 1 _).mono ?_
  rintro e w2 ⟨rfl, rfl⟩
  clear fk0 zk0 fk1 zk1 xk
  obtain ⟨fk0, zk0, fk1, zk1, xk⟩ := ly2 Rk_1.out
  go_wp2_with fail
  refine (takes_2 Rk_1.out Rsl_1.out (L1.out.get (A := A) (c := c) (xs := digs s.lo.1.natAbs) (by simp)) (L1.out.get (A := B) (c := d) (xs := digs s.hi.1.natAbs) (by simp)) (inr_len OS.out.1.2) (inr_len OS.out.2.1.2) OS.out.1.rt OS.out.2.1.rt OS.out.2.2 (L1.out.get (A := A') (c := c') (xs := digs t.lo.1.natAbs) (by simp)) (L1.out.get (A := B') (c := d') (xs := digs t.hi.1.natAbs) (by simp)) (inr_len OT.out.1.2) (inr_len OT.out.2.1.2) OT.out.1.rt OT.out.2.1.rt OT.out.2.2 rfl).mono ?_
  rintro e w3 ⟨rfl, hb⟩
  have L3 := ls L1 hb
  clear fk0 zk0 fk1 zk1 xk
  have Rk_3 := co Rk_1 hb
  have Rsl_3 := co Rsl_1 hb
  have Rr_3 := co Rr_1 hb
  clear hb 
  go_upto_region 4 with fail
  obtain ⟨fsl0, zsl0, fsl1, zsl1, fsl2, zsl2, fsl3, zsl3, fsl4, zsl4, fsl5, zsl5, fsl6, zsl6, fsl7, zsl7, fsl8, zsl8, fsl9, zsl9, fsl10, zsl10, fsl11, zsl11, xsl⟩ := ly12 Rsl_3.out
  go_wp2_with fail
  obtain ⟨w4, hW, hb, Ru_4⟩ := new1 w3 (.cells #[.bool (decide (s.lo.1 < 0)), .slice A (digs s.lo.1.natAbs).length c, .int .i64 s.lo.2, .bool (decide (s.hi.1 < 0)), .slice B (digs s.hi.1.natAbs).length d, .int .i64 s.hi.2] 34)
  rw [← hW]
  have L4 := ls L3 hb
  have Rk_4 := co Rk_3 hb
  have Rsl_4 := co Rsl_3 hb
  have Rr_4 := co Rr_3 hb
  have Gu := gl0 L3.out
  have Nku := nl0 Rk_3.out
  have Nslu := nl0 Rsl_3.out
  have Nru := nl0 Rr_3.out
  clear hW hb
  clear fsl0 zsl0 fsl1 zsl1 fsl2 zsl2 fsl3 zsl3 fsl4 zsl4 fsl5 zsl5 fsl6 zsl6 fsl7 zsl7 fsl8 zsl8 fsl9 zsl9 fsl10 zsl10 fsl11 zsl11 xsl
  obtain ⟨gu, hgu⟩ : ∃ q : Nat, q = w3.heap.size := ⟨_, rfl⟩
  have HG := Lib.hid hgu
  clear hgu
  go_loopw [26] (fun iv wr => (iv = .int .i64 0 ∧ wr = w4) ∨ (iv = .int .i64 1 ∧ ∃ A2 c2 B2 d2, Tn w3.heap.size w4 wr ∧ wr.heap[w3.heap.size]? = some (.cells #[.bool (decide (l.1 < 0)), .slice A2 (digs l.1.natAbs).length c2, .int .i64 l.2, .bool (decide (v.1 < 0)), .slice B2 (digs v.1.natAbs).length d2, .int .i64 v.2] 34 (0, 0)) ∧ Dg wr A2 c2 (digs l.1.natAbs) ∧ Dg wr B2 d2 (digs v.1.natAbs))) (fun iv _ => 1 - (intOf iv).toNat)
  case atStart => exact .inl ⟨rfl, rfl⟩
  case round =>
    rcases hrel with ⟨rfl, hwr⟩ | ⟨rfl, A2, c2, B2, d2, ht, hr, hd, he⟩
    · subst hwr
      obtain ⟨fsl0, zsl0, fsl1, zsl1, fsl2, zsl2, fsl3, zsl3, fsl4, zsl4, fsl5, zsl5, fsl6, zsl6, fsl7, zsl7, fsl8, zsl8, fsl9, zsl9, fsl10, zsl10, fsl11, zsl11, xsl⟩ := ly12 Rsl_4.out
      go_upto_region 8 with fail
      obtain ⟨w5, hW, hb, Ra_5⟩ := new1 wr (.cells #[.bool (decide (t.lo.1 < 0)), .slice A' (digs t.lo.1.natAbs).length c', .int .i64 t.lo.2, .bool (decide (t.hi.1 < 0)), .slice B' (digs t.hi.1.natAbs).length d', .int .i64 t.hi.2] 34)
      rw [← hW]
      have L5 := ls L4 hb
      have Rk_5 := co Rk_4 hb
      have Rsl_5 := co Rsl_4 hb
      have Rr_5 := co Rr_4 hb
      have Ru_5 := co Ru_4 hb
      have Ga := gl0 L4.out
      have Nka := nl0 Rk_4.out
      have Nsla := nl0 Rsl_4.out
      have Nra := nl0 Rr_4.out
      have Nua := nl0 Ru_4.out
      have BW1 := Lib.hid hb
      clear hW hb
      clear fsl0 zsl0 fsl1 zsl1 fsl2 zsl2 fsl3 zsl3 fsl4 zsl4 fsl5 zsl5 fsl6 zsl6 fsl7 zsl7 fsl8 zsl8 fsl9 zsl9 fsl10 zsl10 fsl11 zsl11 xsl
      refine wp_operands (W := w5) rfl 12 [30, 31, 32, 33, 34, 35, 36, 37, 38, 39, 40, 41] (fun i u ww => match i with | 0 => u = .pointer (some ⟨w3.heap.size, 0, none⟩) | 1 => u = .agg #[.bool (decide (s.lo.1 < 0)), .slice A (digs s.lo.1.natAbs).length c, .int .i64 s.lo.2] | 2 => u = .pointer (some ⟨wr.heap.size, 0, none⟩) | 3 => u = .agg #[.bool (decide (t.lo.1 < 0)), .slice A' (digs t.lo.1.natAbs).length c', .int .i64 t.lo.2] | 4 => ∃ g A c, u = .slice (some ⟨g, 0, none⟩) 1 1 ∧ ww.heap[g]? = some (.cells #[.bool (decide (t.lo.1 < 0)), .slice A (digs t.lo.1.natAbs).length c, .int .i64 t.lo.2] 26 (0, 0)) ∧ w5.heap.size ≤ g ∧ Dg ww A c (digs t.lo.1.natAbs) | 5 => ∃ A c, u = .agg #[.bool (decide (l.1 < 0)), .slice A (digs l.1.natAbs).length c, .int .i64 l.2] ∧ Dg ww A c (digs l.1.natAbs) | 6 => u = .pointer (some ⟨w3.heap.size, 3, none⟩) | 7 => u = .agg #[.bool (decide (s.hi.1 < 0)), .slice B (digs s.hi.1.natAbs).length d, .int .i64 s.hi.2] | 8 => u = .pointer (some ⟨wr.heap.size, 3, none⟩) | 9 => u = .agg #[.bool (decide (t.hi.1 < 0)), .slice B' (digs t.hi.1.natAbs).length d', .int .i64 t.hi.2] | 10 => ∃ g A c, u = .slice (some ⟨g, 0, none⟩) 1 1 ∧ ww.heap[g]? = some (.cells #[.bool (decide (t.hi.1 < 0)), .slice A (digs t.hi.1.natAbs).length c, .int .i64 t.hi.2] 26 (0, 0)) ∧ w5.heap.size ≤ g ∧ Dg ww A c (digs t.hi.1.natAbs) | 11 => ∃ A c, u = .agg #[.bool (decide (v.1 < 0)), .slice A (digs v.1.natAbs).length c, .int .i64 v.2] ∧ Dg ww A c (digs v.1.natAbs) | _ => True) (fun i => decide (i ∈ ([] : List Nat)))
        (by decide) rfl (by kernel_rfl) (by kernel_rfl) (by decide) (by kernel_rfl) ?_ ?_ ?_ ?_
      · intro i u x y hi h hb
        have hi' : i = 0 ∨ i = 1 ∨ i = 2 ∨ i = 3 ∨ i = 4 ∨ i = 5 ∨ i = 6 ∨ i = 7 ∨ i = 8 ∨ i = 9 ∨ i = 10 ∨ i = 11 := by omega
        rcases hi' with rfl | rfl | rfl | rfl | rfl | rfl | rfl | rfl | rfl | rfl | rfl | rfl
        · exact h
        · exact h
        · exact h
        · exact h
        · obtain ⟨g, A, c, e, hg, hge, hd⟩ := h
          exact ⟨g, A, c, e, cells_of hg hb, hge, hd.below hb⟩
        · obtain ⟨A, c, e, hd⟩ := h
          exact ⟨A, c, e, hd.below hb⟩
        · exact h
        · exact h
        · exact h
        · exact h
        · obtain ⟨g, A, c, e, hg, hge, hd⟩ := h
          exact ⟨g, A, c, e, cells_of hg hb, hge, hd.below hb⟩
        · obtain ⟨A, c, e, hd⟩ := h
          exact ⟨A, c, e, hd.below hb⟩
      · intro i u x hi; simp at hi
      · intro i a x KK hi hF hb hw hK
        have hi' : i = 0 ∨ i = 1 ∨ i = 2 ∨ i = 3 ∨ i = 4 ∨ i = 5 ∨ i = 6 ∨ i = 7 ∨ i = 8 ∨ i = 9 ∨ i = 10 ∨ i = 11 := by omega
        rcases hi' with rfl | rfl | rfl | rfl | rfl | rfl | rfl | rfl | rfl | rfl | rfl | rfl
        · simp only [wpOp, List.getElem?_toArray, List.getElem?_cons_zero, Region.wanted, if_true]
          refine Or.inl ?_
          have e0 : a.eval (.tmp 5) = .pointer (some ⟨w3.heap.size, 0, none⟩) := hF.2.2 5 (by decide)
          clear hw hF
          simp only [Oper.wp, execOp]
          rw [e0]
          go_simp
          exact hK _ x (by first | rfl | simp) (Below.refl _ _) (fun h => by simp at h)
        · simp only [wpOp, List.getElem?_toArray, List.getElem?_cons_succ, List.getElem?_cons_zero, Region.wanted, if_true]
          refine Or.inl ?_
          have e0 : a.eval (.tmp 30) = .pointer (some ⟨w3.heap.size, 0, none⟩) := hw 0 (by kernel_rfl)
          have f0 := row_cell Ru_5.out hb 0
          have f1 := row_cell Ru_5.out hb 1
          have f2 := row_cell Ru_5.out hb 2
          have f3 := row_cell Ru_5.out hb 3
          have f4 := row_cell Ru_5.out hb 4
          have f5 := row_cell Ru_5.out hb 5
          simp only [List.getElem?_toArray, List.getElem?_cons_succ, List.getElem?_cons_zero] at f0 f1 f2 f3 f4 f5
          clear hw hF
          simp only [Oper.wp, execOp]
          rw [e0]
          go_simp
          exact hK _ x (by first | rfl | simp) (Below.refl _ _) (fun h => by simp at h)
        · simp only [wpOp, List.getElem?_toArray, List.getElem?_cons_succ, List.getElem?_cons_zero, Region.wanted, if_true]
          refine Or.inl ?_
          have e0 : a.eval (.tmp 7) = .pointer (some ⟨wr.heap.size, 0, none⟩) := hF.2.2 7 (by decide)
          clear hw hF
          simp only [Oper.wp, execOp]
          rw [e0]
          go_simp
          exact hK _ x (by first | rfl | simp) (Below.refl _ _) (fun h => by simp at h)
        · simp only [wpOp, List.getElem?_toArray, List.getElem?_cons_succ, List.getElem?_cons_zero, Region.wanted, if_true]
          refine Or.inl ?_
          have e0 : a.eval (.tmp 32) = .pointer (some ⟨wr.heap.size, 0, none⟩) := hw 2 (by kernel_rfl)
          have f0 := row_cell Ra_5.out hb 0
          have f1 := row_cell Ra_5.out hb 1
          have f2 := row_cell Ra_5.out hb 2
          have f3 := row_cell Ra_5.out hb 3
          have f4 := row_cell Ra_5.out hb 4
          have f5 := row_cell Ra_5.out hb 5
          simp only [List.getElem?_toArray, List.getElem?_cons_succ, List.getElem?_cons_zero] at f0 f1 f2 f3 f4 f5
          clear hw hF
          simp only [Oper.wp, execOp]
          rw [e0]
          go_simp
          exact hK _ x (by first | rfl | simp) (Below.refl _ _) (fun h => by simp at h)
        · simp only [wpOp, List.getElem?_toArray, List.getElem?_cons_succ, List.getElem?_cons_zero, Region.wanted, if_true]
          refine Or.inl ?_
          have e0 : a.eval (.tmp 33) = .agg #[.bool (decide (t.lo.1 < 0)), .slice A' (digs t.lo.1.natAbs).length c', .int .i64 t.lo.2] := hw 3 (by kernel_rfl)
          have hd := (L5.out.step hb).get (A := A') (c := c') (xs := digs t.lo.1.natAbs) (by simp)
          clear hw hF
          simp only [Oper.wp, execOp]
          simp only [List.map_toArray, List.map_cons, List.map_nil, e0]
          go_simp
          exact hK _ _ ⟨_, _, _, rfl, heap_alloc_new _ _, hb.size, hd.below (below1 _ _)⟩ (below1 _ _) (fun h => by simp at h)
        · simp only [wpOp, List.getElem?_toArray, List.getElem?_cons_succ, List.getElem?_cons_zero, Region.wanted, if_true]
          refine Or.inl ?_
          have e0 : a.tmps.getD 31 undef = .agg #[.bool (decide (s.lo.1 < 0)), .slice A (digs s.lo.1.natAbs).length c, .int .i64 s.lo.2] := hw 1 (by kernel_rfl)
          obtain ⟨gb, Ab, cb, e1, hgb, hgeb, hdb⟩ := hw 4 (by kernel_rfl)
          have e1 : a.tmps.getD 34 undef = _ := e1
          clear hw hF
          simp only [Oper.wp, execOp]
          go_simp
          refine (least1 ((L5.out.step hb).get (A := A) (c := c) (xs := digs s.lo.1.natAbs) (by simp)) OS.out.1 hgb hdb OT.out.1 HL.out).mono ?_
          rintro e y ⟨A2, c2, rfl, hd2, hbb⟩
          exact hK _ y ⟨A2, c2, rfl, hd2⟩ hbb (fun h => by simp at h)
        · simp only [wpOp, List.getElem?_toArray, List.getElem?_cons_succ, List.getElem?_cons_zero, Region.wanted, if_true]
          refine Or.inl ?_
          have e0 : a.eval (.tmp 5) = .pointer (some ⟨w3.heap.size, 0, none⟩) := hF.2.2 5 (by decide)
          clear hw hF
          simp only [Oper.wp, execOp]
          rw [e0]
          go_simp
          exact hK _ x (by first | rfl | simp) (Below.refl _ _) (fun h => by simp at h)
        · simp only [wpOp, List.getElem?_toArray, List.getElem?_cons_succ, List.getElem?_cons_zero, Region.wanted, if_true]
          refine Or.inl ?_
          have e0 : a.eval (.tmp 36) = .pointer (some ⟨w3.heap.size, 3, none⟩) := hw 6 (by kernel_rfl)
          have f0 := row_cell Ru_5.out hb 0
          have f1 := row_cell Ru_5.out hb 1
          have f2 := row_cell Ru_5.out hb 2
          have f3 := row_cell Ru_5.out hb 3
          have f4 := row_cell Ru_5.out hb 4
          have f5 := row_cell Ru_5.out hb 5
          simp only [List.getElem?_toArray, List.getElem?_cons_succ, List.getElem?_cons_zero] at f0 f1 f2 f3 f4 f5
          clear hw hF
          simp only [Oper.wp, execOp]
          rw [e0]
          go_simp
          exact hK _ x (by first | rfl | simp) (Below.refl _ _) (fun h => by simp at h)
        · simp only [wpOp, List.getElem?_toArray, List.getElem?_cons_succ, List.getElem?_cons_zero, Region.wanted, if_true]
          refine Or.inl ?_
          have e0 : a.eval (.tmp 7) = .pointer (some ⟨wr.heap.size, 0, none⟩) := hF.2.2 7 (by decide)
          clear hw hF
          simp only [Oper.wp, execOp]
          rw [e0]
          go_simp
          exact hK _ x (by first | rfl | simp) (Below.refl _ _) (fun h => by simp at h)
        · simp only [wpOp, List.getElem?_toArray, List.getElem?_cons_succ, List.getElem?_cons_zero, Region.wanted, if_true]
          refine Or.inl ?_
          have e0 : a.eval (.tmp 38) = .pointer (some ⟨wr.heap.size, 3, none⟩) := hw 8 (by kernel_rfl)
          have f0 := row_cell Ra_5.out hb 0
          have f1 := row_cell Ra_5.out hb 1
          have f2 := row_cell Ra_5.out hb 2
          have f3 := row_cell Ra_5.out hb 3
          have f4 := row_cell Ra_5.out hb 4
          have f5 := row_cell Ra_5.out hb 5
          simp only [List.getElem?_toArray, List.getElem?_cons_succ, List.getElem?_cons_zero] at f0 f1 f2 f3 f4 f5
          clear hw hF
          simp only [Oper.wp, execOp]
          rw [e0]
          go_simp
          exact hK _ x (by first | rfl | simp) (Below.refl _ _) (fun h => by simp at h)
        · simp only [wpOp, List.getElem?_toArray, List.getElem?_cons_succ, List.getElem?_cons_zero, Region.wanted, if_true]
          refine Or.inl ?_
          have e0 : a.eval (.tmp 39) = .agg #[.bool (decide (t.hi.1 < 0)), .slice B' (digs t.hi.1.natAbs).length d', .int .i64 t.hi.2] := hw 9 (by kernel_rfl)
          have hd := (L5.out.step hb).get (A := B') (c := d') (xs := digs t.hi.1.natAbs) (by simp)
          clear hw hF
          simp only [Oper.wp, execOp]
          simp only [List.map_toArray, List.map_cons, List.map_nil, e0]
          go_simp
          exact hK _ _ ⟨_, _, _, rfl, heap_alloc_new _ _, hb.size, hd.below (below1 _ _)⟩ (below1 _ _) (fun h => by simp at h)
        · simp only [wpOp, List.getElem?_toArray, List.getElem?_cons_succ, List.getElem?_cons_zero, Region.wanted, if_true]
          refine Or.inl ?_
          have e0 : a.tmps.getD 37 undef = .agg #[.bool (decide (s.hi.1 < 0)), .slice B (digs s.hi.1.natAbs).length d, .int .i64 s.hi.2] := hw 7 (by kernel_rfl)
          obtain ⟨gb, Ab, cb, e1, hgb, hgeb, hdb⟩ := hw 10 (by kernel_rfl)
          have e1 : a.tmps.getD 40 undef = _ := e1
          clear hw hF
          simp only [Oper.wp, execOp]
          go_simp
          refine (greatest1 ((L5.out.step hb).get (A := B) (c := d) (xs := digs s.hi.1.natAbs) (by simp)) OS.out.2.1 hgb hdb OT.out.2.1 HV.out).mono ?_
          rintro e y ⟨A2, c2, rfl, hd2, hbb⟩
          exact hK _ y ⟨A2, c2, rfl, hd2⟩ hbb (fun h => by simp at h)
      · intro a x hF0 hb hR _
        have hF : Fr6 [30, 31, 32, 33, 34, 35, 36, 37, 38, 39, 40, 41] _ a := hF0
        have e0 : a.tmps.getD 30 undef = .pointer (some ⟨w3.heap.size, 0, none⟩) := hR 0 (by decide)
        have e1 : a.tmps.getD 31 undef = .agg #[.bool (decide (s.lo.1 < 0)), .slice A (digs s.lo.1.natAbs).length c, .int .i64 s.lo.2] := hR 1 (by decide)
        have e2 : a.tmps.getD 32 undef = .pointer (some ⟨wr.heap.size, 0, none⟩) := hR 2 (by decide)
        have e3 : a.tmps.getD 33 undef = .agg #[.bool (decide (t.lo.1 < 0)), .slice A' (digs t.lo.1.natAbs).length c', .int .i64 t.lo.2] := hR 3 (by decide)
        obtain ⟨g4, B4, d4, h4, hg4, hge4, hd4⟩ := hR 4 (by decide)
        have e4 : a.tmps.getD 34 undef = _ := h4
        obtain ⟨B5, d5, h5, hd5⟩ := hR 5 (by decide)
        have e5 : a.tmps.getD 35 undef = _ := h5
        have e6 : a.tmps.getD 36 undef = .pointer (some ⟨w3.heap.size, 3, none⟩) := hR 6 (by decide)
        have e7 : a.tmps.getD 37 undef = .agg #[.bool (decide (s.hi.1 < 0)), .slice B (digs s.hi.1.natAbs).length d, .int .i64 s.hi.2] := hR 7 (by decide)
        have e8 : a.tmps.getD 38 undef = .pointer (some ⟨wr.heap.size, 3, none⟩) := hR 8 (by decide)
        have e9 : a.tmps.getD 39 undef = .agg #[.bool (decide (t.hi.1 < 0)), .slice B' (digs t.hi.1.natAbs).length d', .int .i64 t.hi.2] := hR 9 (by decide)
        obtain ⟨g10, B10, d10, h10, hg10, hge10, hd10⟩ := hR 10 (by decide)
        have e10 : a.tmps.getD 40 undef = _ := h10
        obtain ⟨B11, d11, h11, hd11⟩ := hR 11 (by decide)
        have e11 : a.tmps.getD 41 undef = _ := h11
        rw [hF.fold (by kernel_rfl)]
        simp only [List.foldl_cons, List.foldl_nil, e0, e1, e2, e3, e4, e5, e6, e7, e8, e9, e10, e11]
        simp only [Act.put, List.setIfInBounds_toArray, List.set_cons_zero, List.set_cons_succ]
        clear e0 e1 e2 e3 e4 e5 e6 e7 e8 e9 e10 e11 hR hF hF0 h4 h5 h10 h11
        obtain ⟨w6, hW⟩ : ∃ W : World, W = x := ⟨_, rfl⟩
        rw [← hW]
        rw [← hW] at hb hd4 hd5 hd10 hd11 hg4 hg10
        have L6 := Lib.hid (((((L5.out.step hb).add hd4).add hd5).add hd10).add hd11)
        have Rk_6 := co Rk_5 hb
        have Rsl_6 := co Rsl_5 hb
        have Rr_6 := co Rr_5 hb
        have Ru_6 := co Ru_5 hb
        have Ra_6 := co Ra_5 hb
        have Rq4_6 := Lib.hid hg4
        have Gq4 : w.heap.size ≤ g4 := Nat.le_trans L5.out.1.size hge4
        have Nkq4 : g < g4 := by have := heap_lt Rk_5.out; omega
        have Nslq4 : b < g4 := by have := heap_lt Rsl_5.out; omega
        have Nrq4 : w.heap.size < g4 := by have := heap_lt Rr_5.out; omega
        have Nuq4 : w3.heap.size < g4 := by have := heap_lt Ru_5.out; omega
        have Naq4 : wr.heap.size < g4 := by have := heap_lt Ra_5.out; omega
        have Rq10_6 := Lib.hid hg10
        have Gq10 : w.heap.size ≤ g10 := Nat.le_trans L5.out.1.size hge10
        have Nkq10 : g < g10 := by have := heap_lt Rk_5.out; omega
        have Nslq10 : b < g10 := by have := heap_lt Rsl_5.out; omega
        have Nrq10 : w.heap.size < g10 := by have := heap_lt Rr_5.out; omega
        have Nuq10 : w3.heap.size < g10 := by have := heap_lt Ru_5.out; omega
        have Naq10 : wr.heap.size < g10 := by have := heap_lt Ra_5.out; omega
        have BW := Lib.hid (BW1.out.trans (hb.mono BW1.out.size))
        clear hW hb hd4 hd5 hd10 hd11 hg4 hg10 hge4 hge10
        change wpOps _ _ _ [12, 13] _ _
        obtain ⟨fu0, zu0, fu1, zu1, fu2, zu2, fu3, zu3, fu4, zu4, fu5, zu5, xu⟩ := ly6 Ru_6.out
        simp only [wpOps_cons]
        simp only [wpOp, List.getElem?_toArray, List.getElem?_cons_succ, List.getElem?_cons_zero, Region.wanted, if_true]
        refine Or.inl ?_
        simp only [Oper.wp, execOp]
        go_simp
        simp only [wpOps_cons]
        simp only [wpOp, List.getElem?_toArray, List.getElem?_cons_succ, List.getElem?_cons_zero, Region.wanted, if_true]
        refine Or.inl ?_
        simp only [Oper.wp, execOp]
        go_simp
        try simp only [wpOps]
        clear fu0 zu0 fu1 zu1 fu2 zu2 fu3 zu3 fu4 zu4 fu5 zu5 xu
        go_wp2
        go_roundw
        case rel =>
          refine .inr ⟨rfl, B5, d5, B11, d11, (Tn.of BW.out).only (only6 w3.heap.size _ _ _ _ _ _ _), row6 Ru_6.out _ _ _ _ _ _, ?_, ?_⟩
          · exact (L6.out.get (A := B5) (c := d5) (xs := digs l.1.natAbs) (by simp)).kept ((only6 w3.heap.size _ _ _ _ _ _ _).kept Ru_6.out noint_iv)
          · exact (L6.out.get (A := B11) (c := d11) (xs := digs v.1.natAbs) (by simp)).kept ((only6 w3.heap.size _ _ _ _ _ _ _).kept Ru_6.out noint_iv)
        case measure => simp [intOf]
    · have L7 := Lib.hid (((ht.live L4.out Ru_4.out noint_iv Gu).add hd).add he)
      have Rk_7 := Lib.hid (ht.row Rk_4.out (by first | omega | (have := heap_lt Rk_4.out; have := heap_lt Ru_4.out; omega)))
      have Rsl_7 := Lib.hid (ht.row Rsl_4.out (by first | omega | (have := heap_lt Rsl_4.out; have := heap_lt Ru_4.out; omega)))
      have Rr_7 := Lib.hid (ht.row Rr_4.out (by first | omega | (have := heap_lt Rr_4.out; have := heap_lt Ru_4.out; omega)))
      have Ru_7 := Lib.hid hr
      clear ht hr hd he
      obtain ⟨fu0, zu0, fu1, zu1, fu2, zu2, fu3, zu3, fu4, zu4, fu5, zu5, xu⟩ := ly6 Ru_7.out
      go_wp2_with fail
      refine (answer_iv A2 B2 c2 d2 l.1 l.2 v.1 v.2 P g _ (L7.out.get (A := A2) (c := c2) (xs := digs l.1.natAbs) (by simp)) (L7.out.get (A := B2) (c := d2) (xs := digs v.1.natAbs) (by simp)) Rk_7.out).mono ?_
      rintro e w8 ⟨A8, c8, B8, d8, rfl, hd, he, hb⟩
      have L8 := la2 L7 hb hd he
      clear fu0 zu0 fu1 zu1 fu2 zu2 fu3 zu3 fu4 zu4 fu5 zu5 xu
      have Rk_8 := co Rk_7 hb
      have Rsl_8 := co Rsl_7 hb
      have Rr_8 := co Rr_7 hb
      have Ru_8 := co Ru_7 hb
      clear hb hd he
      obtain ⟨fr0, zr0, fr1, zr1, fr2, zr2, fr3, zr3, fr4, zr4, fr5, zr5, xr⟩ := ly6 Rr_8.out
      go_wp2
      refine bodyPost_ret (v := .agg #[.bool (decide (l.1 < 0)), .slice A8 (digs l.1.natAbs).length c8, .int .i64 l.2, .bool (decide (v.1 < 0)), .slice B8 (digs v.1.natAbs).length d8, .int .i64 v.2]) (by simp [results, Tryz.results26, go_sem, fr0, fr1, fr2, fr3, fr4, fr5]) rfl ?_
      
      refine ⟨A8, c8, B8, d8, rfl, ?_, ?_, ?_⟩
      · exact (fin6 L8.out Rr_8.out noint_iv Gr).get (A := A8) (c := c8) (xs := digs l.1.natAbs) (by simp)
      · exact (fin6 L8.out Rr_8.out noint_iv Gr).get (A := B8) (c := d8) (xs := digs v.1.natAbs) (by simp)
      · exact (fin6 L8.out Rr_8.out noint_iv Gr).1
end Go.Proofs.YtijodbjdajddoaaGreatDoor
end

section
namespace Go.Proofs.YtijodbjdajddoaaGreatDoor
open Go.RowKit
set_option linter.unusedSimpArgs false
set_option linter.unusedVariables false
end Go.Proofs.YtijodbjdajddoaaGreatDoor
end

section
namespace Go.Proofs.YtijodbjdajddoaaGreatDoor
open Go.RowKit
set_option linter.unusedSimpArgs false
set_option linter.unusedVariables false
theorem chull {A B A' B' : Option Addr} {c d c' d' g b : Nat} {s t r : St} {P : Int} {w : World} (h : Dg w A c (digs s.lo.1.natAbs)) (h' : Dg w B d (digs s.hi.1.natAbs)) (os : So s) (k : Dg w A' c' (digs t.lo.1.natAbs)) (k' : Dg w B' d' (digs t.hi.1.natAbs)) (ot : So t) (hk : w.heap[g]? = some (.cells #[.int .i64 0, .int .i64 P] 45 (0, 0))) (hr : w.heap[b]? = some (.cells #[.bool (decide (s.lo.1 < 0)), .slice A (digs s.lo.1.natAbs).length c, .int .i64 s.lo.2, .bool (decide (s.hi.1 < 0)), .slice B (digs s.hi.1.natAbs).length d, .int .i64 s.hi.2, .bool (decide (t.lo.1 < 0)), .slice A' (digs t.lo.1.natAbs).length c', .int .i64 t.lo.2, .bool (decide (t.hi.1 < 0)), .slice B' (digs t.hi.1.natAbs).length d', .int .i64 t.hi.2] 34 (0, 0))) (hs : hullS s t = r) :
    Calls Tryz.prog 26 #[.pointer (some ⟨g, 0, none⟩), .slice (some ⟨b, 0, none⟩) 2 2] w fun e w' => Ys r w e w' := by
  subst hs
  exact hull_ok A B A' B' c d c' d' s t _ _ P g b w h h' os k k' ot hk hr rfl rfl
theorem cmeet {A B A' B' : Option Addr} {c d c' d' g : Nat} {s t : St} {w : World} {r : St} {P : Int} (h : Dg w A c (digs s.lo.1.natAbs)) (h' : Dg w B d (digs s.hi.1.natAbs)) (os : So s) (k : Dg w A' c' (digs t.lo.1.natAbs)) (k' : Dg w B' d' (digs t.hi.1.natAbs)) (ot : So t) (hk : w.heap[g]? = some (.cells #[.int .i64 0, .int .i64 P] 45 (0, 0))) (hs : meetS s t = r) (hc : qr r.lo ≤ qr r.hi) :
    Calls Tryz.prog 31 #[.pointer (some ⟨g, 0, none⟩), .agg #[.bool (decide (s.lo.1 < 0)), .slice A (digs s.lo.1.natAbs).length c, .int .i64 s.lo.2, .bool (decide (s.hi.1 < 0)), .slice B (digs s.hi.1.natAbs).length d, .int .i64 s.hi.2], .agg #[.bool (decide (t.lo.1 < 0)), .slice A' (digs t.lo.1.natAbs).length c', .int .i64 t.lo.2, .bool (decide (t.hi.1 < 0)), .slice B' (digs t.hi.1.natAbs).length d', .int .i64 t.hi.2]] w fun e w' => Ys r w e w' := by
  subst hs
  exact meet_ok A B A' B' c d c' d' s t _ _ P g w h h' os k k' ot hk rfl rfl hc
theorem cmeet_none {A B A' B' : Option Addr} {c d c' d' g : Nat} {s t : St} {w : World} {r : St} {P : Int} (h : Dg w A c (digs s.lo.1.natAbs)) (h' : Dg w B d (digs s.hi.1.natAbs)) (os : So s) (k : Dg w A' c' (digs t.lo.1.natAbs)) (k' : Dg w B' d' (digs t.hi.1.natAbs)) (ot : So t) (hk : w.heap[g]? = some (.cells #[.int .i64 0, .int .i64 P] 45 (0, 0))) (hs : meetS s t = r) (hc : qr r.hi < qr r.lo) :
    Calls Tryz.prog 31 #[.pointer (some ⟨g, 0, none⟩), .agg #[.bool (decide (s.lo.1 < 0)), .slice A (digs s.lo.1.natAbs).length c, .int .i64 s.lo.2, .bool (decide (s.hi.1 < 0)), .slice B (digs s.hi.1.natAbs).length d, .int .i64 s.hi.2], .agg #[.bool (decide (t.lo.1 < 0)), .slice A' (digs t.lo.1.natAbs).length c', .int .i64 t.lo.2, .bool (decide (t.hi.1 < 0)), .slice B' (digs t.hi.1.natAbs).length d', .int .i64 t.hi.2]] w fun e w' => Sx 5 P g (.agg #[.bool false, .slice none 0 0, .int .i64 0, .bool false, .slice none 0 0, .int .i64 0]) w e w' := by
  subst hs
  exact meet_none A B A' B' c d c' d' s t _ _ P g w h h' os k k' ot hk rfl rfl hc
theorem zq_ok : Qo ((0, 0) : Qn) := ⟨.inl ⟨rfl, rfl⟩, by decide⟩
theorem qr_z : qr ((0, 0) : Qn) = 0 := dv_zero 0
theorem zs_ok : So ⟨(0, 0), (0, 0)⟩ := ⟨zq_ok, zq_ok, Rat.le_refl⟩
theorem cwide0 {A B : Option Addr} {c d g : Nat} {s : St} {w : World} {r : St} {P : Int} {p : Nat} (h : Dg w A c (digs s.lo.1.natAbs)) (h' : Dg w B d (digs s.hi.1.natAbs)) (os : So s) (hp : Pc p P) (hT : T32 w) (hk : w.heap[g]? = some (.cells #[.int .i64 0, .int .i64 P] 45 (0, 0))) (hr : WideR p s (0, 0) r) :
    Calls Tryz.prog 30 #[.pointer (some ⟨g, 0, none⟩), .agg #[.bool (decide (s.lo.1 < 0)), .slice A (digs s.lo.1.natAbs).length c, .int .i64 s.lo.2, .bool (decide (s.hi.1 < 0)), .slice B (digs s.hi.1.natAbs).length d, .int .i64 s.hi.2], .agg #[.bool false, .slice none 0 0, .int .i64 0]] w fun e w' => Ys r w e w' := by
  have e : digs ((0, 0) : Qn).1.natAbs = [] := digs_zero
  have := cwide (A' := none) (c' := 0) (a := ((0, 0) : Qn)) h h' os (by rw [e]; exact Dg.nil_ _ _) zq_ok hp hT hk hr
  rw [e] at this
  exact this
theorem cin0 {A B : Option Addr} {c d : Nat} {s : St} {q : Bool} {w : World} (h : Dg w A c (digs s.lo.1.natAbs)) (h' : Dg w B d (digs s.hi.1.natAbs)) (os : So s) (hq : decide (Ins 0 s) = q) :
    Calls Tryz.prog 27 #[.agg #[.bool false, .slice none 0 0, .int .i64 0, .bool false, .slice none 0 0, .int .i64 0], .agg #[.bool (decide (s.lo.1 < 0)), .slice A (digs s.lo.1.natAbs).length c, .int .i64 s.lo.2, .bool (decide (s.hi.1 < 0)), .slice B (digs s.hi.1.natAbs).length d, .int .i64 s.hi.2]] w fun e w' => e = .returned (.bool q) ∧ Below w.heap.size w w' := by
  have e : digs ((0, 0) : Qn).1.natAbs = [] := digs_zero
  have := cin (A := none) (B := none) (c := 0) (d := 0) (s := ⟨(0, 0), (0, 0)⟩) (q := q) (by rw [e]; exact Dg.nil_ _ _) (by rw [e]; exact Dg.nil_ _ _) zs_ok h h' os (by rw [← hq, decide_eq_decide]; show Ins (qr (0, 0)) s ∧ Ins (qr (0, 0)) s ↔ _; rw [qr_z]; exact ⟨fun x => x.1, fun x => ⟨x, x⟩⟩)
  rw [e] at this
  exact this

theorem low_mono {p : Nat} {s t s' t' r r' : St} (h1 : 1 ≤ p) (os : qr s'.lo ≤ qr s'.hi) (ot : qr t'.lo ≤ qr t'.hi) (h : MulR p s t r) (h' : MulR p s' t' r') (a1 : Ins (qr s.lo) s') (a2 : Ins (qr s.hi) s') (b1 : Ins (qr t.lo) t') (b2 : Ins (qr t.hi) t') :
    qr r'.lo ≤ qr r.lo ∧ qr r.hi ≤ qr r'.hi := by
  obtain ⟨u, hu, eu⟩ := hi_ends s'
  obtain ⟨v, hv, ev⟩ := hi_ends t'
  have low : ∀ x ∈ ends s', ∀ y ∈ ends t', qr (lowF mulF s' t') ≤ qr x * qr y := fun x hx y hy => by
    have := lowF_le mulF s' t' hx hy; rw [isq_v (mulF_is x y)] at this; exact this
  have high : ∀ x ∈ ends s', ∀ y ∈ ends t', qr x * qr y ≤ qr (highF mulF s' t') := fun x hx y hy => by
    have := le_highF mulF s' t' hx hy; rw [isq_v (mulF_is x y)] at this; exact this
  have enc : ∀ x y, Ins x s' → Ins y t' → qr (lowF mulF s' t') ≤ x * y ∧ x * y ≤ qr (highF mulF s' t') := fun x y hx hy =>
    ⟨bil_ge hx.1 hx.2 hy.1 hy.2 (low _ (lo_ends s') _ (lo_ends t')) (by rw [← ev]; exact low _ (lo_ends s') _ hv) (by rw [← eu]; exact low _ hu _ (lo_ends t')) (by rw [← eu, ← ev]; exact low _ hu _ hv),
     bil_le hx.1 hx.2 hy.1 hy.2 (high _ (lo_ends s') _ (lo_ends t')) (by rw [← ev]; exact high _ (lo_ends s') _ hv) (by rw [← eu]; exact high _ hu _ (lo_ends t')) (by rw [← eu, ← ev]; exact high _ hu _ hv)⟩
  have ie : ∀ x ∈ ends s, Ins (qr x) s' := fun x hx => by rcases mem_ends hx with rfl | rfl; exact a1; exact a2
  have je : ∀ y ∈ ends t, Ins (qr y) t' := fun y hy => by rcases mem_ends hy with rfl | rfl; exact b1; exact b2
  obtain ⟨x1, hx1, y1, hy1, e1⟩ := lowF_mem mulF s t
  obtain ⟨x2, hx2, y2, hy2, e2⟩ := highF_mem mulF s t
  constructor
  · refine rd_mono h1 h'.2.1 h.2.1 ?_
    rw [e1, isq_v (mulF_is x1 y1)]; exact (enc _ _ (ie _ hx1) (je _ hy1)).1
  · refine rd_mono h1 h.2.2.2.1 h'.2.2.2.1 ?_
    rw [e2, isq_v (mulF_is x2 y2)]; exact (enc _ _ (ie _ hx2) (je _ hy2)).2
theorem add_mono {p : Nat} {s t s' t' r r' : St} (h1 : 1 ≤ p) (h : AddR p s t r) (h' : AddR p s' t' r') (a1 : qr s'.lo ≤ qr s.lo) (a2 : qr s.hi ≤ qr s'.hi) (b1 : qr t'.lo ≤ qr t.lo) (b2 : qr t.hi ≤ qr t'.hi) :
    qr r'.lo ≤ qr r.lo ∧ qr r.hi ≤ qr r'.hi := by
  obtain ⟨a, b, ha, _, hb, _, hc, _, hd, _⟩ := h
  obtain ⟨a', b', ha', _, hb', _, hc', _, hd', _⟩ := h'
  refine ⟨rd_mono h1 hc' hc ?_, rd_mono h1 hd hd' ?_⟩
  · rw [isq_v ha, isq_v ha']; grind
  · rw [isq_v hb, isq_v hb']; grind
theorem out_mono {p : Nat} {s s' r r' : St} (h1 : 1 ≤ p) (h : OutR p s r) (h' : OutR p s' r') (a1 : qr s'.lo ≤ qr s.lo) (a2 : qr s.hi ≤ qr s'.hi) : qr r'.lo ≤ qr r.lo ∧ qr r.hi ≤ qr r'.hi :=
  ⟨rd_mono h1 h'.1 h.1 a1, rd_mono h1 h.2.2.1 h'.2.2.1 a2⟩
/-- One stretch lies in another one. -/
theorem part_of {r q : St} (ho : qr r.lo ≤ qr r.hi) (h : qr q.lo ≤ qr r.lo ∧ qr r.hi ≤ qr q.hi) : Ins (qr r.lo) q ∧ Ins (qr r.hi) q := by
  unfold Ins; exact ⟨⟨h.1, Rat.le_trans ho h.2⟩, Rat.le_trans h.1 ho, h.2⟩
theorem hull_parts (s t : St) : (qr (hullS s t).lo ≤ qr s.lo ∧ qr s.hi ≤ qr (hullS s t).hi) ∧ qr (hullS s t).lo ≤ qr t.lo ∧ qr t.hi ≤ qr (hullS s t).hi := by
  have a := lst_le s.lo [t.lo]
  have b := le_gst s.hi [t.hi]
  exact ⟨⟨a.1, b.1⟩, a.2 _ (by simp), b.2 _ (by simp)⟩
theorem hull_sb {L H : Int} {s t : St} (hs : Sb L H s) (ht : Sb L H t) : Sb L H (hullS s t) := by
  refine ⟨?_, ?_, ?_⟩
  · rcases lst_mem s.lo [t.lo] with h | h
    · show Qb L H (lst s.lo [t.lo]); rw [h]; exact hs.1
    · simp at h; show Qb L H (lst s.lo [t.lo]); rw [h]; exact ht.1
  · rcases gst_mem s.hi [t.hi] with h | h
    · show Qb L H (gst s.hi [t.hi]); rw [h]; exact hs.2.1
    · simp at h; show Qb L H (gst s.hi [t.hi]); rw [h]; exact ht.2.1
  · have := hull_parts s t
    have := hs.2.2
    grind
theorem meet_parts (s t : St) : qr s.lo ≤ qr (meetS s t).lo ∧ qr t.lo ≤ qr (meetS s t).lo ∧ qr (meetS s t).hi ≤ qr s.hi ∧ qr (meetS s t).hi ≤ qr t.hi ∧ ((meetS s t).lo = s.lo ∨ (meetS s t).lo = t.lo) ∧ ((meetS s t).hi = s.hi ∨ (meetS s t).hi = t.hi) := by
  have a := le_gst s.lo [t.lo]
  have b := lst_le s.hi [t.hi]
  refine ⟨a.1, a.2 _ (by simp), b.1, b.2 _ (by simp), ?_, ?_⟩
  · rcases gst_mem s.lo [t.lo] with h | h
    · exact .inl h
    · simp at h; exact .inr h
  · rcases lst_mem s.hi [t.hi] with h | h
    · exact .inl h
    · simp at h; exact .inr h
theorem meet_sb {L H : Int} {s t : St} (hs : Sb L H s) (ht : Sb L H t) (hc : qr (meetS s t).lo ≤ qr (meetS s t).hi) : Sb L H (meetS s t) := by
  have h := meet_parts s t
  refine ⟨?_, ?_, hc⟩
  · rcases h.2.2.2.2.1 with e | e
    · rw [e]; exact hs.1
    · rw [e]; exact ht.1
  · rcases h.2.2.2.2.2 with e | e
    · rw [e]; exact hs.2.1
    · rw [e]; exact ht.2.1
theorem meet_apart {s t : St} (os : qr s.lo ≤ qr s.hi) (ot : qr t.lo ≤ qr t.hi) : qr (meetS s t).hi < qr (meetS s t).lo ↔ qr s.hi < qr t.lo ∨ qr t.hi < qr s.lo := by
  have h := meet_parts s t
  constructor
  · intro hc
    rcases h.2.2.2.2.1 with e | e <;> rcases h.2.2.2.2.2 with e' | e' <;> rw [e, e'] at hc <;> grind
  · intro hc
    grind
theorem apart0 {s t : St} (h : qr s.hi < qr t.lo ∨ qr t.hi < qr s.lo) (h0 : Ins 0 s) : ¬ Ins 0 t := by
  unfold Ins at *; grind
end Go.Proofs.YtijodbjdajddoaaGreatDoor
end

section
namespace Go.Proofs.YtijodbjdajddoaaGreatDoor
open Go.RowKit
set_option linter.unusedSimpArgs false
set_option linter.unusedVariables false
set_option maxHeartbeats 8000000 in
set_option maxRecDepth 100000 in
theorem ivParts_any  (Ax : Option Addr) (cx : Nat) (sx : Bool) (xsx : List Nat) (ex : Int) (Ay : Option Addr) (cy : Nat) (sy : Bool) (xsy : List Nat) (ey : Int) (Az : Option Addr) (cz : Nat) (sz : Bool) (xsz : List Nat) (ez : Int) (Av : Option Addr) (cv : Nat) (sv : Bool) (xsv : List Nat) (ev : Int) (p : Int) (w : World)  (hx : Dg w Ax cx xsx) (lx : xsx.length ≤ 9223372036854775807) (ex0 : -9223372036854775808 ≤ ex) (ex1 : ex ≤ 9223372036854775807) (hy : Dg w Ay cy xsy) (ly : xsy.length ≤ 9223372036854775807) (ey0 : -9223372036854775808 ≤ ey) (ey1 : ey ≤ 9223372036854775807) (hz : Dg w Az cz xsz) (lz : xsz.length ≤ 9223372036854775807) (ez0 : -9223372036854775808 ≤ ez) (ez1 : ez ≤ 9223372036854775807) (hv : Dg w Av cv xsv) (lv : xsv.length ≤ 9223372036854775807) (ev0 : -9223372036854775808 ≤ ev) (ev1 : ev ≤ 9223372036854775807) (p0 : -9223372036854775808 ≤ p) (p1 : p ≤ 9223372036854775807) (hT : T32 w):
    Calls Tryz.prog 5 #[.agg #[.bool sx, .slice Ax xsx.length cx, .int .i64 ex], .agg #[.bool sy, .slice Ay xsy.length cy, .int .i64 ey], .agg #[.bool sz, .slice Az xsz.length cz, .int .i64 ez], .agg #[.bool sv, .slice Av xsv.length cv, .int .i64 ev], .int .i64 p] w fun e w' => e = .returned (.bool true) ∧ Below w.heap.size w w' := by
  obtain ⟨qx, hqx⟩ : ∃ q, tq sx xsx ex = q := ⟨_, rfl⟩
  have bdx : Qb (-90) 218 qx := hqx ▸ tq_bd hx.2.1
  have LXx := Lib.hid lx
  have Ex := Lib.hid (And.intro ex0 ex1)
  have HQx := Lib.hid hqx
  obtain ⟨qy, hqy⟩ : ∃ q, tq sy xsy ey = q := ⟨_, rfl⟩
  have bdy : Qb (-90) 218 qy := hqy ▸ tq_bd hy.2.1
  have LXy := Lib.hid ly
  have Ey := Lib.hid (And.intro ey0 ey1)
  have HQy := Lib.hid hqy
  obtain ⟨qz, hqz⟩ : ∃ q, tq sz xsz ez = q := ⟨_, rfl⟩
  have bdz : Qb (-90) 218 qz := hqz ▸ tq_bd hz.2.1
  have LXz := Lib.hid lz
  have Ez := Lib.hid (And.intro ez0 ez1)
  have HQz := Lib.hid hqz
  obtain ⟨qv, hqv⟩ : ∃ q, tq sv xsv ev = q := ⟨_, rfl⟩
  have bdv : Qb (-90) 218 qv := hqv ▸ tq_bd hv.2.1
  have LXv := Lib.hid lv
  have Ev := Lib.hid (And.intro ev0 ev1)
  have HQv := Lib.hid hqv
  obtain ⟨Pp, hPp⟩ : ∃ vv, precI p = vv := ⟨_, rfl⟩
  have hPbp := precI_bd p
  rw [hPp] at hPbp
  obtain ⟨kp, hkp⟩ : ∃ k : Nat, (k : Int) = Pp := ⟨Pp.toNat, by omega⟩
  have HPp := Lib.hid hPp
  have PCp := Lib.hid (show Pc kp Pp from ⟨hkp, by omega, by omega⟩)
  have Qp := Lib.hid (And.intro p0 p1)
  have hk2p : 1 ≤ kp := by omega
  have hk3p : kp ≤ 150 := by omega
  obtain ⟨a, ha⟩ : ∃ s, spanS qx qy = s := ⟨_, rfl⟩
  have sa_b : Sb (-90) 218 a := ha ▸ spanS_sb bdx bdy
  have Ha := Lib.hid ha
  have Oa := Lib.hid (sa_b.ok (by omega) (by omega))
  obtain ⟨b, hb⟩ : ∃ s, spanS qz qv = s := ⟨_, rfl⟩
  have sb_b : Sb (-90) 218 b := hb ▸ spanS_sb bdz bdv
  have Hb := Lib.hid hb
  have Ob := Lib.hid (sb_b.ok (by omega) (by omega))
  obtain ⟨u, hu⟩ : ∃ u, hullS a b = u := ⟨_, rfl⟩
  have su_b : Sb (-90) 218 u := hu ▸ hull_sb sa_b sb_b
  have hp := hull_parts a b
  rw [hu] at hp
  obtain ⟨cc1, m1, s1, _⟩ := mul_ex hk2p sa_b sa_b (by omega) (by omega)
  obtain ⟨cc2, m2, s2, _⟩ := mul_ex hk2p su_b su_b (by omega) (by omega)
  have pa := part_of sa_b.2.2 hp.1
  have pb := part_of sb_b.2.2 hp.2
  have w1 := part_of s1.2.2 (low_mono hk2p su_b.2.2 su_b.2.2 m1 m2 pa.1 pa.2 pa.1 pa.2)
  obtain ⟨cc3, m3, s3, _, _⟩ := add_ex hk2p sa_b sb_b (by omega) (by omega)
  obtain ⟨cc4, m4, s4, _, _⟩ := add_ex hk2p su_b su_b (by omega) (by omega)
  have w2 := part_of s3.2.2 (add_mono hk2p m3 m4 hp.1.1 hp.1.2 hp.2.1 hp.2.2)
  have w3 : Ins (qr (NegS a).lo) (NegS u) ∧ Ins (qr (NegS a).hi) (NegS u) := part_of sa_b.neg.2.2 (by show qr (negQ u.hi) ≤ qr (negQ a.hi) ∧ qr (negQ a.lo) ≤ qr (negQ u.lo); rw [qr_neg, qr_neg, qr_neg, qr_neg]; have := hp.1; grind)
  obtain ⟨cc5, m5, s5, o1, o2⟩ := out_ex hk2p sa_b (by omega) (by omega)
  obtain ⟨cc6, m6, s6, _, _⟩ := out_ex hk2p su_b (by omega) (by omega)
  have w4 := part_of s5.2.2 (out_mono hk2p m5 m6 hp.1.1 hp.1.2)
  have w5 := part_of sa_b.2.2 (And.intro o1 o2)
  obtain ⟨cc7, m7, s7, d1, d2⟩ := wide_ex (d := ((0, 0) : Qn)) hk2p sa_b ⟨.inl ⟨rfl, rfl⟩, .inl rfl⟩ (Int.le_refl 0) (by omega) (by omega)
  have w6 := part_of sa_b.2.2 (show qr cc7.lo ≤ qr a.lo ∧ qr a.hi ≤ qr cc7.hi by rw [qr_z] at d1 d2; grind)
  obtain ⟨n, hn⟩ : ∃ n, meetS a b = n := ⟨_, rfl⟩
  have mp := meet_parts a b
  have ma := meet_apart (s := a) (t := b) sa_b.2.2 sb_b.2.2
  have ms := fun hc => meet_sb sa_b sb_b hc
  rw [hn] at mp ma ms
  have az := fun hc => apart0 (s := a) (t := b) hc
  obtain ⟨j1, hj1⟩ : ∃ j, cmpd (qr a.hi) (qr b.lo) = j := ⟨_, rfl⟩
  obtain ⟨j2, hj2⟩ : ∃ j, cmpd (qr b.hi) (qr a.lo) = j := ⟨_, rfl⟩
  have cs : (qr n.lo ≤ qr n.hi ∧ So n ∧ (decide (Ins (qr n.lo) a ∧ Ins (qr n.hi) a) = true) ∧ (decide (Ins (qr n.lo) b ∧ Ins (qr n.hi) b) = true) ∧ decide (j1 < 0) = false ∧ decide (j2 < 0) = false) ∨ (qr n.hi < qr n.lo ∧ (decide (j1 < 0) = true ∨ decide (j1 < 0) = false ∧ decide (j2 < 0) = true)) := by
    by_cases hc : qr n.hi < qr n.lo
    · right
      refine ⟨hc, ?_⟩
      have := ma.1 hc
      by_cases h1 : qr a.hi < qr b.lo
      · left; rw [← hj1]; exact decide_eq_true (cmpd_lt'.2 h1)
      · right; exact ⟨by rw [← hj1]; exact decide_eq_false (fun h => h1 (cmpd_lt'.1 h)), by rw [← hj2]; exact decide_eq_true (cmpd_lt'.2 (this.resolve_left h1))⟩
    · left
      have hle : qr n.lo ≤ qr n.hi := by grind
      have na : ¬ (qr a.hi < qr b.lo ∨ qr b.hi < qr a.lo) := fun h => hc (ma.2 h)
      have := part_of hle (show qr a.lo ≤ qr n.lo ∧ qr n.hi ≤ qr a.hi from ⟨mp.1, mp.2.2.1⟩)
      have := part_of hle (show qr b.lo ≤ qr n.lo ∧ qr n.hi ≤ qr b.hi from ⟨mp.2.1, mp.2.2.2.1⟩)
      exact ⟨hle, (ms hle).ok (by omega) (by omega), decide_eq_true (by assumption), decide_eq_true (by assumption), by rw [← hj1]; exact decide_eq_false (fun h => na (.inl (cmpd_lt'.1 h))), by rw [← hj2]; exact decide_eq_false (fun h => na (.inr (cmpd_lt'.1 h)))⟩
  have zc : (decide (Ins 0 a) = false) ∨ (decide (Ins 0 a) = true ∧ (qr n.hi < qr n.lo → decide (Ins 0 b) = false)) := by
    by_cases h : Ins 0 a
    · right; exact ⟨decide_eq_true h, fun hc => decide_eq_false (az (ma.1 hc) h)⟩
    · left; exact decide_eq_false h
  have Ou := Lib.hid (su_b.ok (by omega) (by omega))
  have Occ1 := Lib.hid (s1.ok (by omega) (by omega))
  have Occ2 := Lib.hid (s2.ok (by omega) (by omega))
  have Occ3 := Lib.hid (s3.ok (by omega) (by omega))
  have Occ4 := Lib.hid (s4.ok (by omega) (by omega))
  have Occ5 := Lib.hid (s5.ok (by omega) (by omega))
  have Occ6 := Lib.hid (s6.ok (by omega) (by omega))
  have Occ7 := Lib.hid (s7.ok (by omega) (by omega))
  have HU := Lib.hid hu
  have H1 := Lib.hid m1
  have H2 := Lib.hid m2
  have H3 := Lib.hid m3
  have H4 := Lib.hid m4
  have H5 := Lib.hid m5
  have H6 := Lib.hid m6
  have H7 := Lib.hid m7
  have W1 := Lib.hid (decide_eq_true w1)
  have W2 := Lib.hid (decide_eq_true w2)
  have W3 := Lib.hid (decide_eq_true w3)
  have W4 := Lib.hid (decide_eq_true w4)
  have W5 := Lib.hid (decide_eq_true w5)
  have W6 := Lib.hid (decide_eq_true w6)
  have WA := Lib.hid (decide_eq_true pa)
  have WB := Lib.hid (decide_eq_true pb)
  have HN := Lib.hid hn
  have J1 := Lib.hid hj1
  have J2 := Lib.hid hj2
  have CS := Lib.hid cs
  have ZC := Lib.hid zc
  have HT := Lib.hid hT
  clear hT
  have L0 := Lib.hid (((((live_start w).add hx).add hy).add hz).add hv)
  clear hx lx ex0 ex1 hqx bdx hy ly ey0 ey1 hqy bdy hz lz ez0 ez1 hqz bdz hv lv ev0 ev1 hqv bdv p0 p1 hPp hPbp hkp ha sa_b hb sb_b hu su_b hp m1 s1 m2 s2 m3 s3 m4 s4 m5 s5 m6 s6 m7 s7 pa pb w1 w2 w3 w4 w5 w6 o1 o2 d1 d2 hn mp ma ms az hj1 hj2 cs zc hk2p hk3p
  go_enter Tryz.func5, Tryz.ntmps5
  go_wp2_with fail
  obtain ⟨v1, hW, hb, Rx_1, Ry_1, Rz_1, Rv_1⟩ := new4 w (.cells #[.bool sx, .slice Ax xsx.length cx, .int .i64 ex] 26) (.cells #[.bool sy, .slice Ay xsy.length cy, .int .i64 ey] 26) (.cells #[.bool sz, .slice Az xsz.length cz, .int .i64 ez] 26) (.cells #[.bool sv, .slice Av xsv.length cv, .int .i64 ev] 26)
  rw [← hW]
  have L1 := ls L0 hb
  have Gx := gl0 L0.out
  have Gy := gl1 L0.out
  have Nxy : w.heap.size < w.heap.size + 1 := by omega
  have Gz := gl2 L0.out
  have Nxz : w.heap.size < w.heap.size + 1 + 1 := by omega
  have Nyz : w.heap.size + 1 < w.heap.size + 1 + 1 := by omega
  have Gv := gl3 L0.out
  have Nxv : w.heap.size < w.heap.size + 1 + 1 + 1 := by omega
  have Nyv : w.heap.size + 1 < w.heap.size + 1 + 1 + 1 := by omega
  have Nzv : w.heap.size + 1 + 1 < w.heap.size + 1 + 1 + 1 := by omega
  clear hW hb
  refine (iexamples_any _ (t32_live HT.out L1.out)).mono ?_
  rintro e w2 ⟨rfl, hb⟩
  have L2 := ls L1 hb
  have Rx_2 := co Rx_1 hb
  have Ry_2 := co Ry_1 hb
  have Rz_2 := co Rz_1 hb
  have Rv_2 := co Rv_1 hb
  clear hb 
  go_wp2_with fail
  refine (precI_any (q := Pp) Qp.out.1 Qp.out.2 HPp.out).mono ?_
  rintro e w3 ⟨rfl, rfl⟩
  go_wp2_with fail
  refine (inew_ok Pp _ (by have := PCp.out; unfold Pc at this; omega) (by have := PCp.out; unfold Pc at this; omega)).mono ?_
  rintro e w4 ⟨rfl, hw0⟩
  subst hw0
  obtain ⟨w5, hW, hb, Rk_5⟩ := new1 w2 (.cells #[.int .i64 0, .int .i64 Pp] 45)
  rw [← hW]
  have L5 := ls L2 hb
  have Rx_5 := co Rx_2 hb
  have Ry_5 := co Ry_2 hb
  have Rz_5 := co Rz_2 hb
  have Rv_5 := co Rv_2 hb
  have Gk := gl0 L2.out
  have Nxk := nl0 Rx_2.out
  have Nyk := nl0 Ry_2.out
  have Nzk := nl0 Rz_2.out
  have Nvk := nl0 Rv_2.out
  clear hW hb
  obtain ⟨fx0, zx0, fx1, zx1, fx2, zx2, xx⟩ := ly3 Rx_5.out
  obtain ⟨fy0, zy0, fy1, zy1, fy2, zy2, xy⟩ := ly3 Ry_5.out
  go_wp2_with fail
  refine (span_any (L5.out.get (A := Ax) (c := cx) (xs := xsx) (by simp)) LXx.out Ex.out.1 Ex.out.2 (L5.out.get (A := Ay) (c := cy) (xs := xsy) (by simp)) LXy.out Ey.out.1 Ey.out.2 (t32_live HT.out L5.out) HQx.out HQy.out Ha.out).mono ?_
  rintro e w6 ⟨A6, c6, B6, d6, rfl, hd, he, hb⟩
  have L6 := la2 L5 hb hd he
  clear fx0 zx0 fx1 zx1 fx2 zx2 xx fy0 zy0 fy1 zy1 fy2 zy2 xy
  have Rx_6 := co Rx_5 hb
  have Ry_6 := co Ry_5 hb
  have Rz_6 := co Rz_5 hb
  have Rv_6 := co Rv_5 hb
  have Rk_6 := co Rk_5 hb
  clear hb hd he
  obtain ⟨fz0, zz0, fz1, zz1, fz2, zz2, xz⟩ := ly3 Rz_6.out
  obtain ⟨fv0, zv0, fv1, zv1, fv2, zv2, xv⟩ := ly3 Rv_6.out
  go_wp2_with fail
  obtain ⟨w7, hW, hb, Rba_7⟩ := new1 w6 (.cells #[.bool (decide (a.lo.1 < 0)), .slice A6 (digs a.lo.1.natAbs).length c6, .int .i64 a.lo.2, .bool (decide (a.hi.1 < 0)), .slice B6 (digs a.hi.1.natAbs).length d6, .int .i64 a.hi.2] 34)
  rw [← hW]
  have L7 := ls L6 hb
  have Rx_7 := co Rx_6 hb
  have Ry_7 := co Ry_6 hb
  have Rz_7 := co Rz_6 hb
  have Rv_7 := co Rv_6 hb
  have Rk_7 := co Rk_6 hb
  have Gba := gl0 L6.out
  have Nxba := nl0 Rx_6.out
  have Nyba := nl0 Ry_6.out
  have Nzba := nl0 Rz_6.out
  have Nvba := nl0 Rv_6.out
  have Nkba := nl0 Rk_6.out
  clear hW hb
  clear fz0 zz0 fz1 zz1 fz2 zz2 xz fv0 zv0 fv1 zv1 fv2 zv2 xv
  refine (span_any (L7.out.get (A := Az) (c := cz) (xs := xsz) (by simp)) LXz.out Ez.out.1 Ez.out.2 (L7.out.get (A := Av) (c := cv) (xs := xsv) (by simp)) LXv.out Ev.out.1 Ev.out.2 (t32_live HT.out L7.out) HQz.out HQv.out Hb.out).mono ?_
  rintro e w8 ⟨A8, c8, B8, d8, rfl, hd, he, hb⟩
  have L8 := la2 L7 hb hd he
  have Rx_8 := co Rx_7 hb
  have Ry_8 := co Ry_7 hb
  have Rz_8 := co Rz_7 hb
  have Rv_8 := co Rv_7 hb
  have Rk_8 := co Rk_7 hb
  have Rba_8 := co Rba_7 hb
  clear hb hd he
  go_upto_region 9 with fail
  obtain ⟨w9, hW, hb, Rbb_9⟩ := new1 w8 (.cells #[.bool (decide (b.lo.1 < 0)), .slice A8 (digs b.lo.1.natAbs).length c8, .int .i64 b.lo.2, .bool (decide (b.hi.1 < 0)), .slice B8 (digs b.hi.1.natAbs).length d8, .int .i64 b.hi.2] 34)
  rw [← hW]
  have L9 := ls L8 hb
  have Rx_9 := co Rx_8 hb
  have Ry_9 := co Ry_8 hb
  have Rz_9 := co Rz_8 hb
  have Rv_9 := co Rv_8 hb
  have Rk_9 := co Rk_8 hb
  have Rba_9 := co Rba_8 hb
  have Gbb := gl0 L8.out
  have Nxbb := nl0 Rx_8.out
  have Nybb := nl0 Ry_8.out
  have Nzbb := nl0 Rz_8.out
  have Nvbb := nl0 Rv_8.out
  have Nkbb := nl0 Rk_8.out
  have Nbabb := nl0 Rba_8.out
  clear hW hb
  obtain ⟨fba0, zba0, fba1, zba1, fba2, zba2, fba3, zba3, fba4, zba4, fba5, zba5, xba⟩ := ly6 Rba_9.out
  obtain ⟨fbb0, zbb0, fbb1, zbb1, fbb2, zbb2, fbb3, zbb3, fbb4, zbb4, fbb5, zbb5, xbb⟩ := ly6 Rbb_9.out
  go_wp2_with fail
  obtain ⟨w10, hW, hb, Rsl_10⟩ := new1 w9 (.cells #[.bool (decide (a.lo.1 < 0)), .slice A6 (digs a.lo.1.natAbs).length c6, .int .i64 a.lo.2, .bool (decide (a.hi.1 < 0)), .slice B6 (digs a.hi.1.natAbs).length d6, .int .i64 a.hi.2, .bool (decide (b.lo.1 < 0)), .slice A8 (digs b.lo.1.natAbs).length c8, .int .i64 b.lo.2, .bool (decide (b.hi.1 < 0)), .slice B8 (digs b.hi.1.natAbs).length d8, .int .i64 b.hi.2] 34)
  rw [← hW]
  have L10 := ls L9 hb
  have Rx_10 := co Rx_9 hb
  have Ry_10 := co Ry_9 hb
  have Rz_10 := co Rz_9 hb
  have Rv_10 := co Rv_9 hb
  have Rk_10 := co Rk_9 hb
  have Rba_10 := co Rba_9 hb
  have Rbb_10 := co Rbb_9 hb
  have Gsl := gl0 L9.out
  have Nxsl := nl0 Rx_9.out
  have Nysl := nl0 Ry_9.out
  have Nzsl := nl0 Rz_9.out
  have Nvsl := nl0 Rv_9.out
  have Nksl := nl0 Rk_9.out
  have Nbasl := nl0 Rba_9.out
  have Nbbsl := nl0 Rbb_9.out
  clear hW hb
  clear fba0 zba0 fba1 zba1 fba2 zba2 fba3 zba3 fba4 zba4 fba5 zba5 xba fbb0 zbb0 fbb1 zbb1 fbb2 zbb2 fbb3 zbb3 fbb4 zbb4 fbb5 zbb5 xbb
  refine (chull (L10.out.get (A := A6) (c := c6) (xs := digs a.lo.1.natAbs) (by simp)) (L10.out.get (A := B6) (c := d6) (xs := digs a.hi.1.natAbs) (by simp)) Oa.out (L10.out.get (A := A8) (c := c8) (xs := digs b.lo.1.natAbs) (by simp)) (L10.out.get (A := B8) (c := d8) (xs := digs b.hi.1.natAbs) (by simp)) Ob.out Rk_10.out Rsl_10.out HU.out).mono ?_
  rintro e w11 ⟨A11, c11, B11, d11, rfl, hd, he, hb⟩
  have L11 := la2 L10 hb hd he
  have Rx_11 := co Rx_10 hb
  have Ry_11 := co Ry_10 hb
  have Rz_11 := co Rz_10 hb
  have Rv_11 := co Rv_10 hb
  have Rk_11 := co Rk_10 hb
  have Rba_11 := co Rba_10 hb
  have Rbb_11 := co Rbb_10 hb
  have Rsl_11 := co Rsl_10 hb
  clear hb hd he
  go_upto_region 10 with fail
  obtain ⟨w12, hW, hb, Rbu_12⟩ := new1 w11 (.cells #[.bool (decide (u.lo.1 < 0)), .slice A11 (digs u.lo.1.natAbs).length c11, .int .i64 u.lo.2, .bool (decide (u.hi.1 < 0)), .slice B11 (digs u.hi.1.natAbs).length d11, .int .i64 u.hi.2] 34)
  rw [← hW]
  have L12 := ls L11 hb
  have Rx_12 := co Rx_11 hb
  have Ry_12 := co Ry_11 hb
  have Rz_12 := co Rz_11 hb
  have Rv_12 := co Rv_11 hb
  have Rk_12 := co Rk_11 hb
  have Rba_12 := co Rba_11 hb
  have Rbb_12 := co Rbb_11 hb
  have Rsl_12 := co Rsl_11 hb
  have Gbu := gl0 L11.out
  have Nxbu := nl0 Rx_11.out
  have Nybu := nl0 Ry_11.out
  have Nzbu := nl0 Rz_11.out
  have Nvbu := nl0 Rv_11.out
  have Nkbu := nl0 Rk_11.out
  have Nbabu := nl0 Rba_11.out
  have Nbbbu := nl0 Rbb_11.out
  have Nslbu := nl0 Rsl_11.out
  clear hW hb
  obtain ⟨fba0, zba0, fba1, zba1, fba2, zba2, fba3, zba3, fba4, zba4, fba5, zba5, xba⟩ := ly6 Rba_12.out
  obtain ⟨fbb0, zbb0, fbb1, zbb1, fbb2, zbb2, fbb3, zbb3, fbb4, zbb4, fbb5, zbb5, xbb⟩ := ly6 Rbb_12.out
  obtain ⟨fbu0, zbu0, fbu1, zbu1, fbu2, zbu2, fbu3, zbu3, fbu4, zbu4, fbu5, zbu5, xbu⟩ := ly6 Rbu_12.out
  have KD := Lib.hid (bd0 w12)
  have LD := ls L12 KD.out
  go_region_held3 (fun w' => ∀ b o, b < w12.heap.size → w'.cell? ⟨b, o, none⟩ = w12.cell? ⟨b, o, none⟩)
    (first | with_reducible exact (bcell KD.out).1 | with_reducible exact (bcell K14.out).1 | with_reducible exact (bcell K15.out).1 | with_reducible exact (bcell K16.out).1 | with_reducible exact (bcell K17.out).1 | with_reducible exact (bcell K18.out).1 | with_reducible exact (bcell K19.out).1 | with_reducible exact (bcell K20.out).1 | with_reducible exact (bcell K21.out).1 | with_reducible exact (bcell K22.out).1 | with_reducible exact (bcell K23.out).1 | with_reducible exact (bcell K24.out).1 | with_reducible exact (bcell K25.out).1)
    (first
      | (go_at_call 20; (with_reducible refine (cmul (LD.out.get (A := A6) (c := c6) (xs := digs a.lo.1.natAbs) (by simp)) (LD.out.get (A := B6) (c := d6) (xs := digs a.hi.1.natAbs) (by simp)) Oa.out (LD.out.get (A := A6) (c := c6) (xs := digs a.lo.1.natAbs) (by simp)) (LD.out.get (A := B6) (c := d6) (xs := digs a.hi.1.natAbs) (by simp)) Oa.out PCp.out (t32_live HT.out LD.out) (cells_of Rk_12.out KD.out) H1.out).mono ?_); rintro e w14 ⟨A14, c14, B14, d14, rfl, hd, he, hb⟩; (have K14 := bt KD hb); (have L14 := la2 LD hb hd he); clear hb hd he)
      | (go_at_call 20; (with_reducible refine (cmul (L14.out.get (A := A11) (c := c11) (xs := digs u.lo.1.natAbs) (by simp)) (L14.out.get (A := B11) (c := d11) (xs := digs u.hi.1.natAbs) (by simp)) Ou.out (L14.out.get (A := A11) (c := c11) (xs := digs u.lo.1.natAbs) (by simp)) (L14.out.get (A := B11) (c := d11) (xs := digs u.hi.1.natAbs) (by simp)) Ou.out PCp.out (t32_live HT.out L14.out) (cells_of Rk_12.out K14.out) H2.out).mono ?_); rintro e w15 ⟨A15, c15, B15, d15, rfl, hd, he, hb⟩; (have K15 := bt K14 hb); (have L15 := la2 L14 hb hd he); clear hb hd he)
      | (go_at_call 27; (with_reducible refine (cin (L15.out.get (A := A14) (c := c14) (xs := digs cc1.lo.1.natAbs) (by simp)) (L15.out.get (A := B14) (c := d14) (xs := digs cc1.hi.1.natAbs) (by simp)) Occ1.out (L15.out.get (A := A15) (c := c15) (xs := digs cc2.lo.1.natAbs) (by simp)) (L15.out.get (A := B15) (c := d15) (xs := digs cc2.hi.1.natAbs) (by simp)) Occ2.out W1.out).mono ?_); rintro e w16 ⟨rfl, hb⟩; (have K16 := bt K15 hb); (have L16 := Lib.hid (L15.out.step hb)); clear hb )
      | (go_at_call 18; (with_reducible refine (cadd (L16.out.get (A := A6) (c := c6) (xs := digs a.lo.1.natAbs) (by simp)) (L16.out.get (A := B6) (c := d6) (xs := digs a.hi.1.natAbs) (by simp)) Oa.out (L16.out.get (A := A8) (c := c8) (xs := digs b.lo.1.natAbs) (by simp)) (L16.out.get (A := B8) (c := d8) (xs := digs b.hi.1.natAbs) (by simp)) Ob.out PCp.out (t32_live HT.out L16.out) (cells_of Rk_12.out K16.out) H3.out).mono ?_); rintro e w17 ⟨A17, c17, B17, d17, rfl, hd, he, hb⟩; (have K17 := bt K16 hb); (have L17 := la2 L16 hb hd he); clear hb hd he)
      | (go_at_call 18; (with_reducible refine (cadd (L17.out.get (A := A11) (c := c11) (xs := digs u.lo.1.natAbs) (by simp)) (L17.out.get (A := B11) (c := d11) (xs := digs u.hi.1.natAbs) (by simp)) Ou.out (L17.out.get (A := A11) (c := c11) (xs := digs u.lo.1.natAbs) (by simp)) (L17.out.get (A := B11) (c := d11) (xs := digs u.hi.1.natAbs) (by simp)) Ou.out PCp.out (t32_live HT.out L17.out) (cells_of Rk_12.out K17.out) H4.out).mono ?_); rintro e w18 ⟨A18, c18, B18, d18, rfl, hd, he, hb⟩; (have K18 := bt K17 hb); (have L18 := la2 L17 hb hd he); clear hb hd he)
      | (go_at_call 27; (with_reducible refine (cin (L18.out.get (A := A17) (c := c17) (xs := digs cc3.lo.1.natAbs) (by simp)) (L18.out.get (A := B17) (c := d17) (xs := digs cc3.hi.1.natAbs) (by simp)) Occ3.out (L18.out.get (A := A18) (c := c18) (xs := digs cc4.lo.1.natAbs) (by simp)) (L18.out.get (A := B18) (c := d18) (xs := digs cc4.hi.1.natAbs) (by simp)) Occ4.out W2.out).mono ?_); rintro e w19 ⟨rfl, hb⟩; (have K19 := bt K18 hb); (have L19 := Lib.hid (L18.out.step hb)); clear hb )
      | (go_at_call 28; (with_reducible refine (cneg (L19.out.get (A := A6) (c := c6) (xs := digs a.lo.1.natAbs) (by simp)) (L19.out.get (A := B6) (c := d6) (xs := digs a.hi.1.natAbs) (by simp)) Oa.out (cells_of Rk_12.out K19.out)).mono ?_); rintro e w20 ⟨A20, c20, B20, d20, rfl, hd, he, hb⟩; (have K20 := bt K19 hb); (have L20 := la2 L19 hb hd he); clear hb hd he)
      | (go_at_call 28; (with_reducible refine (cneg (L20.out.get (A := A11) (c := c11) (xs := digs u.lo.1.natAbs) (by simp)) (L20.out.get (A := B11) (c := d11) (xs := digs u.hi.1.natAbs) (by simp)) Ou.out (cells_of Rk_12.out K20.out)).mono ?_); rintro e w21 ⟨A21, c21, B21, d21, rfl, hd, he, hb⟩; (have K21 := bt K20 hb); (have L21 := la2 L20 hb hd he); clear hb hd he)
      | (go_at_call 27; (with_reducible refine (cin (L21.out.get (A := A20) (c := c20) (xs := digs (NegS a).lo.1.natAbs) (by simp)) (L21.out.get (A := B20) (c := d20) (xs := digs (NegS a).hi.1.natAbs) (by simp)) Oa.out.neg (L21.out.get (A := A21) (c := c21) (xs := digs (NegS u).lo.1.natAbs) (by simp)) (L21.out.get (A := B21) (c := d21) (xs := digs (NegS u).hi.1.natAbs) (by simp)) Ou.out.neg W3.out).mono ?_); rintro e w22 ⟨rfl, hb⟩; (have K22 := bt K21 hb); (have L22 := Lib.hid (L21.out.step hb)); clear hb )
      | (go_at_call 29; (with_reducible refine (cout (L22.out.get (A := A6) (c := c6) (xs := digs a.lo.1.natAbs) (by simp)) (L22.out.get (A := B6) (c := d6) (xs := digs a.hi.1.natAbs) (by simp)) Oa.out PCp.out (t32_live HT.out L22.out) (cells_of Rk_12.out K22.out) H5.out).mono ?_); rintro e w23 ⟨A23, c23, B23, d23, rfl, hd, he, hb⟩; (have K23 := bt K22 hb); (have L23 := la2 L22 hb hd he); clear hb hd he)
      | (go_at_call 29; (with_reducible refine (cout (L23.out.get (A := A11) (c := c11) (xs := digs u.lo.1.natAbs) (by simp)) (L23.out.get (A := B11) (c := d11) (xs := digs u.hi.1.natAbs) (by simp)) Ou.out PCp.out (t32_live HT.out L23.out) (cells_of Rk_12.out K23.out) H6.out).mono ?_); rintro e w24 ⟨A24, c24, B24, d24, rfl, hd, he, hb⟩; (have K24 := bt K23 hb); (have L24 := la2 L23 hb hd he); clear hb hd he)
      | (go_at_call 27; (with_reducible refine (cin (L24.out.get (A := A23) (c := c23) (xs := digs cc5.lo.1.natAbs) (by simp)) (L24.out.get (A := B23) (c := d23) (xs := digs cc5.hi.1.natAbs) (by simp)) Occ5.out (L24.out.get (A := A24) (c := c24) (xs := digs cc6.lo.1.natAbs) (by simp)) (L24.out.get (A := B24) (c := d24) (xs := digs cc6.hi.1.natAbs) (by simp)) Occ6.out W4.out).mono ?_); rintro e w25 ⟨rfl, hb⟩; (have K25 := bt K24 hb); (have L25 := Lib.hid (L24.out.step hb)); clear hb ))
  rename_i hHeld
  clear hHeld
  clear fba0 zba0 fba1 zba1 fba2 zba2 fba3 zba3 fba4 zba4 fba5 zba5 xba fbb0 zbb0 fbb1 zbb1 fbb2 zbb2 fbb3 zbb3 fbb4 zbb4 fbb5 zbb5 xbb fbu0 zbu0 fbu1 zbu1 fbu2 zbu2 fbu3 zbu3 fbu4 zbu4 fbu5 zbu5 xbu
  have Rx_25 := co Rx_12 K25.out
  have Ry_25 := co Ry_12 K25.out
  have Rz_25 := co Rz_12 K25.out
  have Rv_25 := co Rv_12 K25.out
  have Rk_25 := co Rk_12 K25.out
  have Rba_25 := co Rba_12 K25.out
  have Rbb_25 := co Rbb_12 K25.out
  have Rsl_25 := co Rsl_12 K25.out
  have Rbu_25 := co Rbu_12 K25.out
  clear KD LD
  go_upto_region 11 with fail
  obtain ⟨fba0, zba0, fba1, zba1, fba2, zba2, fba3, zba3, fba4, zba4, fba5, zba5, xba⟩ := ly6 Rba_25.out
  obtain ⟨fbb0, zbb0, fbb1, zbb1, fbb2, zbb2, fbb3, zbb3, fbb4, zbb4, fbb5, zbb5, xbb⟩ := ly6 Rbb_25.out
  obtain ⟨fbu0, zbu0, fbu1, zbu1, fbu2, zbu2, fbu3, zbu3, fbu4, zbu4, fbu5, zbu5, xbu⟩ := ly6 Rbu_25.out
  have KD := Lib.hid (bd0 w25)
  have LD := ls L25 KD.out
  go_region_held3 (fun w' => ∀ b o, b < w25.heap.size → w'.cell? ⟨b, o, none⟩ = w25.cell? ⟨b, o, none⟩)
    (first | with_reducible exact (bcell KD.out).1 | with_reducible exact (bcell K27.out).1 | with_reducible exact (bcell K28.out).1 | with_reducible exact (bcell K29.out).1 | with_reducible exact (bcell K30.out).1 | with_reducible exact (bcell K31.out).1 | with_reducible exact (bcell K32.out).1)
    (first
      | (go_at_call 27; (with_reducible refine (cin (LD.out.get (A := A6) (c := c6) (xs := digs a.lo.1.natAbs) (by simp)) (LD.out.get (A := B6) (c := d6) (xs := digs a.hi.1.natAbs) (by simp)) Oa.out (LD.out.get (A := A11) (c := c11) (xs := digs u.lo.1.natAbs) (by simp)) (LD.out.get (A := B11) (c := d11) (xs := digs u.hi.1.natAbs) (by simp)) Ou.out WA.out).mono ?_); rintro e w27 ⟨rfl, hb⟩; (have K27 := bt KD hb); (have L27 := Lib.hid (LD.out.step hb)); clear hb )
      | (go_at_call 27; (with_reducible refine (cin (L27.out.get (A := A8) (c := c8) (xs := digs b.lo.1.natAbs) (by simp)) (L27.out.get (A := B8) (c := d8) (xs := digs b.hi.1.natAbs) (by simp)) Ob.out (L27.out.get (A := A11) (c := c11) (xs := digs u.lo.1.natAbs) (by simp)) (L27.out.get (A := B11) (c := d11) (xs := digs u.hi.1.natAbs) (by simp)) Ou.out WB.out).mono ?_); rintro e w28 ⟨rfl, hb⟩; (have K28 := bt K27 hb); (have L28 := Lib.hid (L27.out.step hb)); clear hb )
      | (go_at_call 29; (with_reducible refine (cout (L28.out.get (A := A6) (c := c6) (xs := digs a.lo.1.natAbs) (by simp)) (L28.out.get (A := B6) (c := d6) (xs := digs a.hi.1.natAbs) (by simp)) Oa.out PCp.out (t32_live HT.out L28.out) (cells_of Rk_25.out K28.out) H5.out).mono ?_); rintro e w29 ⟨A29, c29, B29, d29, rfl, hd, he, hb⟩; (have K29 := bt K28 hb); (have L29 := la2 L28 hb hd he); clear hb hd he)
      | (go_at_call 27; (with_reducible refine (cin (L29.out.get (A := A6) (c := c6) (xs := digs a.lo.1.natAbs) (by simp)) (L29.out.get (A := B6) (c := d6) (xs := digs a.hi.1.natAbs) (by simp)) Oa.out (L29.out.get (A := A29) (c := c29) (xs := digs cc5.lo.1.natAbs) (by simp)) (L29.out.get (A := B29) (c := d29) (xs := digs cc5.hi.1.natAbs) (by simp)) Occ5.out W5.out).mono ?_); rintro e w30 ⟨rfl, hb⟩; (have K30 := bt K29 hb); (have L30 := Lib.hid (L29.out.step hb)); clear hb )
      | (go_at_call 30; (with_reducible refine (cwide0 (L30.out.get (A := A6) (c := c6) (xs := digs a.lo.1.natAbs) (by simp)) (L30.out.get (A := B6) (c := d6) (xs := digs a.hi.1.natAbs) (by simp)) Oa.out PCp.out (t32_live HT.out L30.out) (cells_of Rk_25.out K30.out) H7.out).mono ?_); rintro e w31 ⟨A31, c31, B31, d31, rfl, hd, he, hb⟩; (have K31 := bt K30 hb); (have L31 := la2 L30 hb hd he); clear hb hd he)
      | (go_at_call 27; (with_reducible refine (cin (L31.out.get (A := A6) (c := c6) (xs := digs a.lo.1.natAbs) (by simp)) (L31.out.get (A := B6) (c := d6) (xs := digs a.hi.1.natAbs) (by simp)) Oa.out (L31.out.get (A := A31) (c := c31) (xs := digs cc7.lo.1.natAbs) (by simp)) (L31.out.get (A := B31) (c := d31) (xs := digs cc7.hi.1.natAbs) (by simp)) Occ7.out W6.out).mono ?_); rintro e w32 ⟨rfl, hb⟩; (have K32 := bt K31 hb); (have L32 := Lib.hid (L31.out.step hb)); clear hb ))
  rename_i hHeld
  clear hHeld
  clear fba0 zba0 fba1 zba1 fba2 zba2 fba3 zba3 fba4 zba4 fba5 zba5 xba fbb0 zbb0 fbb1 zbb1 fbb2 zbb2 fbb3 zbb3 fbb4 zbb4 fbb5 zbb5 xbb fbu0 zbu0 fbu1 zbu1 fbu2 zbu2 fbu3 zbu3 fbu4 zbu4 fbu5 zbu5 xbu
  have Rx_32 := co Rx_25 K32.out
  have Ry_32 := co Ry_25 K32.out
  have Rz_32 := co Rz_25 K32.out
  have Rv_32 := co Rv_25 K32.out
  have Rk_32 := co Rk_25 K32.out
  have Rba_32 := co Rba_25 K32.out
  have Rbb_32 := co Rbb_25 K32.out
  have Rsl_32 := co Rsl_25 K32.out
  have Rbu_32 := co Rbu_25 K32.out
  clear KD LD
  obtain ⟨fk0, zk0, fk1, zk1, xk⟩ := ly2 Rk_32.out
  go_wp2_with fail
  refine (ierr_any w2.heap.size 0 _ (row_c Rk_32.out (i := 0) rfl)).mono ?_
  rintro e w33 ⟨rfl, rfl⟩
  rcases CS.out with ⟨nc, on, i1, i2, e1, e2⟩ | ⟨nc, ej⟩
  · have NC := Lib.hid nc
    have ON := Lib.hid on
    have I1 := Lib.hid i1
    have I2 := Lib.hid i2
    have F1 := Lib.hid e1
    have F2 := Lib.hid e2
    clear nc on i1 i2 e1 e2
    obtain ⟨fba0, zba0, fba1, zba1, fba2, zba2, fba3, zba3, fba4, zba4, fba5, zba5, xba⟩ := ly6 Rba_32.out
    obtain ⟨fbb0, zbb0, fbb1, zbb1, fbb2, zbb2, fbb3, zbb3, fbb4, zbb4, fbb5, zbb5, xbb⟩ := ly6 Rbb_32.out
    go_wp2_with fail
    refine (cmeet (L32.out.get (A := A6) (c := c6) (xs := digs a.lo.1.natAbs) (by simp)) (L32.out.get (A := B6) (c := d6) (xs := digs a.hi.1.natAbs) (by simp)) Oa.out (L32.out.get (A := A8) (c := c8) (xs := digs b.lo.1.natAbs) (by simp)) (L32.out.get (A := B8) (c := d8) (xs := digs b.hi.1.natAbs) (by simp)) Ob.out Rk_32.out HN.out NC.out).mono ?_
    rintro e w34 ⟨A34, c34, B34, d34, rfl, hd, he, hb⟩
    have L34 := la2 L32 hb hd he
    clear fba0 zba0 fba1 zba1 fba2 zba2 fba3 zba3 fba4 zba4 fba5 zba5 xba fbb0 zbb0 fbb1 zbb1 fbb2 zbb2 fbb3 zbb3 fbb4 zbb4 fbb5 zbb5 xbb
    have Rx_34 := co Rx_32 hb
    have Ry_34 := co Ry_32 hb
    have Rz_34 := co Rz_32 hb
    have Rv_34 := co Rv_32 hb
    have Rk_34 := co Rk_32 hb
    have Rba_34 := co Rba_32 hb
    have Rbb_34 := co Rbb_32 hb
    have Rsl_34 := co Rsl_32 hb
    have Rbu_34 := co Rbu_32 hb
    clear hb hd he
    obtain ⟨fba0, zba0, fba1, zba1, fba2, zba2, fba3, zba3, fba4, zba4, fba5, zba5, xba⟩ := ly6 Rba_34.out
    go_wp2_with fail
    obtain ⟨w35, hW, hb, Rbn_35⟩ := new1 w34 (.cells #[.bool (decide (n.lo.1 < 0)), .slice A34 (digs n.lo.1.natAbs).length c34, .int .i64 n.lo.2, .bool (decide (n.hi.1 < 0)), .slice B34 (digs n.hi.1.natAbs).length d34, .int .i64 n.hi.2] 34)
    rw [← hW]
    have L35 := ls L34 hb
    have Rx_35 := co Rx_34 hb
    have Ry_35 := co Ry_34 hb
    have Rz_35 := co Rz_34 hb
    have Rv_35 := co Rv_34 hb
    have Rk_35 := co Rk_34 hb
    have Rba_35 := co Rba_34 hb
    have Rbb_35 := co Rbb_34 hb
    have Rsl_35 := co Rsl_34 hb
    have Rbu_35 := co Rbu_34 hb
    have Gbn := gl0 L34.out
    have Nxbn := nl0 Rx_34.out
    have Nybn := nl0 Ry_34.out
    have Nzbn := nl0 Rz_34.out
    have Nvbn := nl0 Rv_34.out
    have Nkbn := nl0 Rk_34.out
    have Nbabn := nl0 Rba_34.out
    have Nbbbn := nl0 Rbb_34.out
    have Nslbn := nl0 Rsl_34.out
    have Nbubn := nl0 Rbu_34.out
    clear hW hb
    clear fba0 zba0 fba1 zba1 fba2 zba2 fba3 zba3 fba4 zba4 fba5 zba5 xba
    refine (cin (L35.out.get (A := A34) (c := c34) (xs := digs n.lo.1.natAbs) (by simp)) (L35.out.get (A := B34) (c := d34) (xs := digs n.hi.1.natAbs) (by simp)) ON.out (L35.out.get (A := A6) (c := c6) (xs := digs a.lo.1.natAbs) (by simp)) (L35.out.get (A := B6) (c := d6) (xs := digs a.hi.1.natAbs) (by simp)) Oa.out I1.out).mono ?_
    rintro e w36 ⟨rfl, hb⟩
    have L36 := ls L35 hb
    have Rx_36 := co Rx_35 hb
    have Ry_36 := co Ry_35 hb
    have Rz_36 := co Rz_35 hb
    have Rv_36 := co Rv_35 hb
    have Rk_36 := co Rk_35 hb
    have Rba_36 := co Rba_35 hb
    have Rbb_36 := co Rbb_35 hb
    have Rsl_36 := co Rsl_35 hb
    have Rbu_36 := co Rbu_35 hb
    have Rbn_36 := co Rbn_35 hb
    clear hb 
    obtain ⟨fbn0, zbn0, fbn1, zbn1, fbn2, zbn2, fbn3, zbn3, fbn4, zbn4, fbn5, zbn5, xbn⟩ := ly6 Rbn_36.out
    obtain ⟨fbb0, zbb0, fbb1, zbb1, fbb2, zbb2, fbb3, zbb3, fbb4, zbb4, fbb5, zbb5, xbb⟩ := ly6 Rbb_36.out
    go_wp2_with fail
    refine (cin (L36.out.get (A := A34) (c := c34) (xs := digs n.lo.1.natAbs) (by simp)) (L36.out.get (A := B34) (c := d34) (xs := digs n.hi.1.natAbs) (by simp)) ON.out (L36.out.get (A := A8) (c := c8) (xs := digs b.lo.1.natAbs) (by simp)) (L36.out.get (A := B8) (c := d8) (xs := digs b.hi.1.natAbs) (by simp)) Ob.out I2.out).mono ?_
    rintro e w37 ⟨rfl, hb⟩
    have L37 := ls L36 hb
    clear fbn0 zbn0 fbn1 zbn1 fbn2 zbn2 fbn3 zbn3 fbn4 zbn4 fbn5 zbn5 xbn fbb0 zbb0 fbb1 zbb1 fbb2 zbb2 fbb3 zbb3 fbb4 zbb4 fbb5 zbb5 xbb
    have Rx_37 := co Rx_36 hb
    have Ry_37 := co Ry_36 hb
    have Rz_37 := co Rz_36 hb
    have Rv_37 := co Rv_36 hb
    have Rk_37 := co Rk_36 hb
    have Rba_37 := co Rba_36 hb
    have Rbb_37 := co Rbb_36 hb
    have Rsl_37 := co Rsl_36 hb
    have Rbu_37 := co Rbu_36 hb
    have Rbn_37 := co Rbn_36 hb
    clear hb 
    obtain ⟨fba0, zba0, fba1, zba1, fba2, zba2, fba3, zba3, fba4, zba4, fba5, zba5, xba⟩ := ly6 Rba_37.out
    obtain ⟨fbb0, zbb0, fbb1, zbb1, fbb2, zbb2, fbb3, zbb3, fbb4, zbb4, fbb5, zbb5, xbb⟩ := ly6 Rbb_37.out
    go_wp2_with fail
    refine (qcmp (L37.out.get (A := B6) (c := d6) (xs := digs a.hi.1.natAbs) (by simp)) (L37.out.get (A := A8) (c := c8) (xs := digs b.lo.1.natAbs) (by simp)) Oa.out.2.1 Ob.out.1 J1.out).mono ?_
    rintro e w38 ⟨rfl, hb⟩
    have L38 := ls L37 hb
    clear fba0 zba0 fba1 zba1 fba2 zba2 fba3 zba3 fba4 zba4 fba5 zba5 xba fbb0 zbb0 fbb1 zbb1 fbb2 zbb2 fbb3 zbb3 fbb4 zbb4 fbb5 zbb5 xbb
    have Rx_38 := co Rx_37 hb
    have Ry_38 := co Ry_37 hb
    have Rz_38 := co Rz_37 hb
    have Rv_38 := co Rv_37 hb
    have Rk_38 := co Rk_37 hb
    have Rba_38 := co Rba_37 hb
    have Rbb_38 := co Rbb_37 hb
    have Rsl_38 := co Rsl_37 hb
    have Rbu_38 := co Rbu_37 hb
    have Rbn_38 := co Rbn_37 hb
    clear hb 
    have e1 := F1.out
    obtain ⟨fba0, zba0, fba1, zba1, fba2, zba2, fba3, zba3, fba4, zba4, fba5, zba5, xba⟩ := ly6 Rba_38.out
    obtain ⟨fbb0, zbb0, fbb1, zbb1, fbb2, zbb2, fbb3, zbb3, fbb4, zbb4, fbb5, zbb5, xbb⟩ := ly6 Rbb_38.out
    go_wp2_with fail
    refine (qcmp (L38.out.get (A := B8) (c := d8) (xs := digs b.hi.1.natAbs) (by simp)) (L38.out.get (A := A6) (c := c6) (xs := digs a.lo.1.natAbs) (by simp)) Ob.out.2.1 Oa.out.1 J2.out).mono ?_
    rintro e w39 ⟨rfl, hb⟩
    have L39 := ls L38 hb
    clear fba0 zba0 fba1 zba1 fba2 zba2 fba3 zba3 fba4 zba4 fba5 zba5 xba fbb0 zbb0 fbb1 zbb1 fbb2 zbb2 fbb3 zbb3 fbb4 zbb4 fbb5 zbb5 xbb
    have Rx_39 := co Rx_38 hb
    have Ry_39 := co Ry_38 hb
    have Rz_39 := co Rz_38 hb
    have Rv_39 := co Rv_38 hb
    have Rk_39 := co Rk_38 hb
    have Rba_39 := co Rba_38 hb
    have Rbb_39 := co Rbb_38 hb
    have Rsl_39 := co Rsl_38 hb
    have Rbu_39 := co Rbu_38 hb
    have Rbn_39 := co Rbn_38 hb
    clear hb 
    have e2 := F2.out
    obtain ⟨fk0, zk0, fk1, zk1, xk⟩ := ly2 Rk_39.out
    go_wp2_with fail
    refine (ierr_any w2.heap.size 0 _ (row_c Rk_39.out (i := 0) rfl)).mono ?_
    rintro e w40 ⟨rfl, rfl⟩
    clear fk0 zk0 fk1 zk1 xk
    go_wp2
    go_ret
    exact ⟨rfl, L39.out.1⟩
  · have NC := Lib.hid nc
    have EJ := Lib.hid ej
    clear nc ej
    obtain ⟨fba0, zba0, fba1, zba1, fba2, zba2, fba3, zba3, fba4, zba4, fba5, zba5, xba⟩ := ly6 Rba_32.out
    obtain ⟨fbb0, zbb0, fbb1, zbb1, fbb2, zbb2, fbb3, zbb3, fbb4, zbb4, fbb5, zbb5, xbb⟩ := ly6 Rbb_32.out
    go_wp2_with fail
    refine (cmeet_none (L32.out.get (A := A6) (c := c6) (xs := digs a.lo.1.natAbs) (by simp)) (L32.out.get (A := B6) (c := d6) (xs := digs a.hi.1.natAbs) (by simp)) Oa.out (L32.out.get (A := A8) (c := c8) (xs := digs b.lo.1.natAbs) (by simp)) (L32.out.get (A := B8) (c := d8) (xs := digs b.hi.1.natAbs) (by simp)) Ob.out Rk_32.out HN.out NC.out).mono ?_
    rintro e w34 ⟨rfl, ht, hr⟩
    clear fba0 zba0 fba1 zba1 fba2 zba2 fba3 zba3 fba4 zba4 fba5 zba5 xba fbb0 zbb0 fbb1 zbb1 fbb2 zbb2 fbb3 zbb3 fbb4 zbb4 fbb5 zbb5 xbb
    have L34 := Lib.hid (ht.live L32.out Rk_32.out noint_ca Gk)
    have Rx_34 := Lib.hid (ht.row Rx_32.out (by omega))
    have Ry_34 := Lib.hid (ht.row Ry_32.out (by omega))
    have Rz_34 := Lib.hid (ht.row Rz_32.out (by omega))
    have Rv_34 := Lib.hid (ht.row Rv_32.out (by omega))
    have Rk_34 := Lib.hid (show w34.heap[w2.heap.size]? = some (.cells #[.int .i64 5, .int .i64 Pp] 45 (0, 0)) from hr)
    have Rba_34 := Lib.hid (ht.row Rba_32.out (by omega))
    have Rbb_34 := Lib.hid (ht.row Rbb_32.out (by omega))
    have Rsl_34 := Lib.hid (ht.row Rsl_32.out (by omega))
    have Rbu_34 := Lib.hid (ht.row Rbu_32.out (by omega))
    clear ht hr
    go_upto_region 14 with fail
    obtain ⟨w35, hW, hb, Rn_35⟩ := new1 w34 (.cells #[.bool false, .slice none 0 0, .int .i64 0, .bool false, .slice none 0 0, .int .i64 0] 34)
    rw [← hW]
    have L35 := ls L34 hb
    have Rx_35 := co Rx_34 hb
    have Ry_35 := co Ry_34 hb
    have Rz_35 := co Rz_34 hb
    have Rv_35 := co Rv_34 hb
    have Rk_35 := co Rk_34 hb
    have Rba_35 := co Rba_34 hb
    have Rbb_35 := co Rbb_34 hb
    have Rsl_35 := co Rsl_34 hb
    have Rbu_35 := co Rbu_34 hb
    have Gn := gl0 L34.out
    have Nxn := nl0 Rx_34.out
    have Nyn := nl0 Ry_34.out
    have Nzn := nl0 Rz_34.out
    have Nvn := nl0 Rv_34.out
    have Nkn := nl0 Rk_34.out
    have Nban := nl0 Rba_34.out
    have Nbbn := nl0 Rbb_34.out
    have Nsln := nl0 Rsl_34.out
    have Nbun := nl0 Rbu_34.out
    clear hW hb
    rcases ZC.out with z1 | ⟨z1, z2⟩
    · have Z1 := Lib.hid z1
      clear z1
      obtain ⟨fn0, zn0, fn1, zn1, fn2, zn2, fn3, zn3, fn4, zn4, fn5, zn5, xn⟩ := ly6 Rn_35.out
      obtain ⟨fba0, zba0, fba1, zba1, fba2, zba2, fba3, zba3, fba4, zba4, fba5, zba5, xba⟩ := ly6 Rba_35.out
      go_wp2_with fail
      refine (cin0 (L35.out.get (A := A6) (c := c6) (xs := digs a.lo.1.natAbs) (by simp)) (L35.out.get (A := B6) (c := d6) (xs := digs a.hi.1.natAbs) (by simp)) Oa.out Z1.out).mono ?_
      rintro e w36 ⟨rfl, hb⟩
      have L36 := ls L35 hb
      clear fn0 zn0 fn1 zn1 fn2 zn2 fn3 zn3 fn4 zn4 fn5 zn5 xn fba0 zba0 fba1 zba1 fba2 zba2 fba3 zba3 fba4 zba4 fba5 zba5 xba
      have Rx_36 := co Rx_35 hb
      have Ry_36 := co Ry_35 hb
      have Rz_36 := co Rz_35 hb
      have Rv_36 := co Rv_35 hb
      have Rk_36 := co Rk_35 hb
      have Rba_36 := co Rba_35 hb
      have Rbb_36 := co Rbb_35 hb
      have Rsl_36 := co Rsl_35 hb
      have Rbu_36 := co Rbu_35 hb
      have Rn_36 := co Rn_35 hb
      clear hb 
      go_upto_region 15 with fail
      rcases EJ.out with e1 | ⟨e1, e2⟩
      · have F1 := Lib.hid e1
        clear e1
        obtain ⟨fba0, zba0, fba1, zba1, fba2, zba2, fba3, zba3, fba4, zba4, fba5, zba5, xba⟩ := ly6 Rba_36.out
        obtain ⟨fbb0, zbb0, fbb1, zbb1, fbb2, zbb2, fbb3, zbb3, fbb4, zbb4, fbb5, zbb5, xbb⟩ := ly6 Rbb_36.out
        go_wp2_with fail
        refine (qcmp (L36.out.get (A := B6) (c := d6) (xs := digs a.hi.1.natAbs) (by simp)) (L36.out.get (A := A8) (c := c8) (xs := digs b.lo.1.natAbs) (by simp)) Oa.out.2.1 Ob.out.1 J1.out).mono ?_
        rintro e w37 ⟨rfl, hb⟩
        have L37 := ls L36 hb
        clear fba0 zba0 fba1 zba1 fba2 zba2 fba3 zba3 fba4 zba4 fba5 zba5 xba fbb0 zbb0 fbb1 zbb1 fbb2 zbb2 fbb3 zbb3 fbb4 zbb4 fbb5 zbb5 xbb
        have Rx_37 := co Rx_36 hb
        have Ry_37 := co Ry_36 hb
        have Rz_37 := co Rz_36 hb
        have Rv_37 := co Rv_36 hb
        have Rk_37 := co Rk_36 hb
        have Rba_37 := co Rba_36 hb
        have Rbb_37 := co Rbb_36 hb
        have Rsl_37 := co Rsl_36 hb
        have Rbu_37 := co Rbu_36 hb
        have Rn_37 := co Rn_36 hb
        clear hb 
        have e1 := F1.out
        obtain ⟨fk0, zk0, fk1, zk1, xk⟩ := ly2 Rk_37.out
        go_wp2_with fail
        refine (ierr_any w2.heap.size 5 _ (row_c Rk_37.out (i := 0) rfl)).mono ?_
        rintro e w38 ⟨rfl, rfl⟩
        clear fk0 zk0 fk1 zk1 xk
        go_wp2
        go_ret
        exact ⟨rfl, L37.out.1⟩
      · have F1 := Lib.hid e1
        have F2 := Lib.hid e2
        clear e2
        clear e1
        obtain ⟨fba0, zba0, fba1, zba1, fba2, zba2, fba3, zba3, fba4, zba4, fba5, zba5, xba⟩ := ly6 Rba_36.out
        obtain ⟨fbb0, zbb0, fbb1, zbb1, fbb2, zbb2, fbb3, zbb3, fbb4, zbb4, fbb5, zbb5, xbb⟩ := ly6 Rbb_36.out
        go_wp2_with fail
        refine (qcmp (L36.out.get (A := B6) (c := d6) (xs := digs a.hi.1.natAbs) (by simp)) (L36.out.get (A := A8) (c := c8) (xs := digs b.lo.1.natAbs) (by simp)) Oa.out.2.1 Ob.out.1 J1.out).mono ?_
        rintro e w37 ⟨rfl, hb⟩
        have L37 := ls L36 hb
        clear fba0 zba0 fba1 zba1 fba2 zba2 fba3 zba3 fba4 zba4 fba5 zba5 xba fbb0 zbb0 fbb1 zbb1 fbb2 zbb2 fbb3 zbb3 fbb4 zbb4 fbb5 zbb5 xbb
        have Rx_37 := co Rx_36 hb
        have Ry_37 := co Ry_36 hb
        have Rz_37 := co Rz_36 hb
        have Rv_37 := co Rv_36 hb
        have Rk_37 := co Rk_36 hb
        have Rba_37 := co Rba_36 hb
        have Rbb_37 := co Rbb_36 hb
        have Rsl_37 := co Rsl_36 hb
        have Rbu_37 := co Rbu_36 hb
        have Rn_37 := co Rn_36 hb
        clear hb 
        have e1 := F1.out
        obtain ⟨fba0, zba0, fba1, zba1, fba2, zba2, fba3, zba3, fba4, zba4, fba5, zba5, xba⟩ := ly6 Rba_37.out
        obtain ⟨fbb0, zbb0, fbb1, zbb1, fbb2, zbb2, fbb3, zbb3, fbb4, zbb4, fbb5, zbb5, xbb⟩ := ly6 Rbb_37.out
        go_wp2_with fail
        refine (qcmp (L37.out.get (A := B8) (c := d8) (xs := digs b.hi.1.natAbs) (by simp)) (L37.out.get (A := A6) (c := c6) (xs := digs a.lo.1.natAbs) (by simp)) Ob.out.2.1 Oa.out.1 J2.out).mono ?_
        rintro e w38 ⟨rfl, hb⟩
        have L38 := ls L37 hb
        clear fba0 zba0 fba1 zba1 fba2 zba2 fba3 zba3 fba4 zba4 fba5 zba5 xba fbb0 zbb0 fbb1 zbb1 fbb2 zbb2 fbb3 zbb3 fbb4 zbb4 fbb5 zbb5 xbb
        have Rx_38 := co Rx_37 hb
        have Ry_38 := co Ry_37 hb
        have Rz_38 := co Rz_37 hb
        have Rv_38 := co Rv_37 hb
        have Rk_38 := co Rk_37 hb
        have Rba_38 := co Rba_37 hb
        have Rbb_38 := co Rbb_37 hb
        have Rsl_38 := co Rsl_37 hb
        have Rbu_38 := co Rbu_37 hb
        have Rn_38 := co Rn_37 hb
        clear hb 
        have e2 := F2.out
        obtain ⟨fk0, zk0, fk1, zk1, xk⟩ := ly2 Rk_38.out
        go_wp2_with fail
        refine (ierr_any w2.heap.size 5 _ (row_c Rk_38.out (i := 0) rfl)).mono ?_
        rintro e w39 ⟨rfl, rfl⟩
        clear fk0 zk0 fk1 zk1 xk
        go_wp2
        go_ret
        exact ⟨rfl, L38.out.1⟩
    · have Z1 := Lib.hid z1
      have Z2 := Lib.hid (z2 NC.out)
      clear z2
      clear z1
      obtain ⟨fn0, zn0, fn1, zn1, fn2, zn2, fn3, zn3, fn4, zn4, fn5, zn5, xn⟩ := ly6 Rn_35.out
      obtain ⟨fba0, zba0, fba1, zba1, fba2, zba2, fba3, zba3, fba4, zba4, fba5, zba5, xba⟩ := ly6 Rba_35.out
      go_wp2_with fail
      refine (cin0 (L35.out.get (A := A6) (c := c6) (xs := digs a.lo.1.natAbs) (by simp)) (L35.out.get (A := B6) (c := d6) (xs := digs a.hi.1.natAbs) (by simp)) Oa.out Z1.out).mono ?_
      rintro e w36 ⟨rfl, hb⟩
      have L36 := ls L35 hb
      clear fn0 zn0 fn1 zn1 fn2 zn2 fn3 zn3 fn4 zn4 fn5 zn5 xn fba0 zba0 fba1 zba1 fba2 zba2 fba3 zba3 fba4 zba4 fba5 zba5 xba
      have Rx_36 := co Rx_35 hb
      have Ry_36 := co Ry_35 hb
      have Rz_36 := co Rz_35 hb
      have Rv_36 := co Rv_35 hb
      have Rk_36 := co Rk_35 hb
      have Rba_36 := co Rba_35 hb
      have Rbb_36 := co Rbb_35 hb
      have Rsl_36 := co Rsl_35 hb
      have Rbu_36 := co Rbu_35 hb
      have Rn_36 := co Rn_35 hb
      clear hb 
      obtain ⟨fn0, zn0, fn1, zn1, fn2, zn2, fn3, zn3, fn4, zn4, fn5, zn5, xn⟩ := ly6 Rn_36.out
      obtain ⟨fbb0, zbb0, fbb1, zbb1, fbb2, zbb2, fbb3, zbb3, fbb4, zbb4, fbb5, zbb5, xbb⟩ := ly6 Rbb_36.out
      go_wp2_with fail
      refine (cin0 (L36.out.get (A := A8) (c := c8) (xs := digs b.lo.1.natAbs) (by simp)) (L36.out.get (A := B8) (c := d8) (xs := digs b.hi.1.natAbs) (by simp)) Ob.out Z2.out).mono ?_
      rintro e w37 ⟨rfl, hb⟩
      have L37 := ls L36 hb
      clear fn0 zn0 fn1 zn1 fn2 zn2 fn3 zn3 fn4 zn4 fn5 zn5 xn fbb0 zbb0 fbb1 zbb1 fbb2 zbb2 fbb3 zbb3 fbb4 zbb4 fbb5 zbb5 xbb
      have Rx_37 := co Rx_36 hb
      have Ry_37 := co Ry_36 hb
      have Rz_37 := co Rz_36 hb
      have Rv_37 := co Rv_36 hb
      have Rk_37 := co Rk_36 hb
      have Rba_37 := co Rba_36 hb
      have Rbb_37 := co Rbb_36 hb
      have Rsl_37 := co Rsl_36 hb
      have Rbu_37 := co Rbu_36 hb
      have Rn_37 := co Rn_36 hb
      clear hb 
      go_upto_region 15 with fail
      rcases EJ.out with e1 | ⟨e1, e2⟩
      · have F1 := Lib.hid e1
        clear e1
        obtain ⟨fba0, zba0, fba1, zba1, fba2, zba2, fba3, zba3, fba4, zba4, fba5, zba5, xba⟩ := ly6 Rba_37.out
        obtain ⟨fbb0, zbb0, fbb1, zbb1, fbb2, zbb2, fbb3, zbb3, fbb4, zbb4, fbb5, zbb5, xbb⟩ := ly6 Rbb_37.out
        go_wp2_with fail
        refine (qcmp (L37.out.get (A := B6) (c := d6) (xs := digs a.hi.1.natAbs) (by simp)) (L37.out.get (A := A8) (c := c8) (xs := digs b.lo.1.natAbs) (by simp)) Oa.out.2.1 Ob.out.1 J1.out).mono ?_
        rintro e w38 ⟨rfl, hb⟩
        have L38 := ls L37 hb
        clear fba0 zba0 fba1 zba1 fba2 zba2 fba3 zba3 fba4 zba4 fba5 zba5 xba fbb0 zbb0 fbb1 zbb1 fbb2 zbb2 fbb3 zbb3 fbb4 zbb4 fbb5 zbb5 xbb
        have Rx_38 := co Rx_37 hb
        have Ry_38 := co Ry_37 hb
        have Rz_38 := co Rz_37 hb
        have Rv_38 := co Rv_37 hb
        have Rk_38 := co Rk_37 hb
        have Rba_38 := co Rba_37 hb
        have Rbb_38 := co Rbb_37 hb
        have Rsl_38 := co Rsl_37 hb
        have Rbu_38 := co Rbu_37 hb
        have Rn_38 := co Rn_37 hb
        clear hb 
        have e1 := F1.out
        obtain ⟨fk0, zk0, fk1, zk1, xk⟩ := ly2 Rk_38.out
        go_wp2_with fail
        refine (ierr_any w2.heap.size 5 _ (row_c Rk_38.out (i := 0) rfl)).mono ?_
        rintro e w39 ⟨rfl, rfl⟩
        clear fk0 zk0 fk1 zk1 xk
        go_wp2
        go_ret
        exact ⟨rfl, L38.out.1⟩
      · have F1 := Lib.hid e1
        have F2 := Lib.hid e2
        clear e2
        clear e1
        obtain ⟨fba0, zba0, fba1, zba1, fba2, zba2, fba3, zba3, fba4, zba4, fba5, zba5, xba⟩ := ly6 Rba_37.out
        obtain ⟨fbb0, zbb0, fbb1, zbb1, fbb2, zbb2, fbb3, zbb3, fbb4, zbb4, fbb5, zbb5, xbb⟩ := ly6 Rbb_37.out
        go_wp2_with fail
        refine (qcmp (L37.out.get (A := B6) (c := d6) (xs := digs a.hi.1.natAbs) (by simp)) (L37.out.get (A := A8) (c := c8) (xs := digs b.lo.1.natAbs) (by simp)) Oa.out.2.1 Ob.out.1 J1.out).mono ?_
        rintro e w38 ⟨rfl, hb⟩
        have L38 := ls L37 hb
        clear fba0 zba0 fba1 zba1 fba2 zba2 fba3 zba3 fba4 zba4 fba5 zba5 xba fbb0 zbb0 fbb1 zbb1 fbb2 zbb2 fbb3 zbb3 fbb4 zbb4 fbb5 zbb5 xbb
        have Rx_38 := co Rx_37 hb
        have Ry_38 := co Ry_37 hb
        have Rz_38 := co Rz_37 hb
        have Rv_38 := co Rv_37 hb
        have Rk_38 := co Rk_37 hb
        have Rba_38 := co Rba_37 hb
        have Rbb_38 := co Rbb_37 hb
        have Rsl_38 := co Rsl_37 hb
        have Rbu_38 := co Rbu_37 hb
        have Rn_38 := co Rn_37 hb
        clear hb 
        have e1 := F1.out
        obtain ⟨fba0, zba0, fba1, zba1, fba2, zba2, fba3, zba3, fba4, zba4, fba5, zba5, xba⟩ := ly6 Rba_38.out
        obtain ⟨fbb0, zbb0, fbb1, zbb1, fbb2, zbb2, fbb3, zbb3, fbb4, zbb4, fbb5, zbb5, xbb⟩ := ly6 Rbb_38.out
        go_wp2_with fail
        refine (qcmp (L38.out.get (A := B8) (c := d8) (xs := digs b.hi.1.natAbs) (by simp)) (L38.out.get (A := A6) (c := c6) (xs := digs a.lo.1.natAbs) (by simp)) Ob.out.2.1 Oa.out.1 J2.out).mono ?_
        rintro e w39 ⟨rfl, hb⟩
        have L39 := ls L38 hb
        clear fba0 zba0 fba1 zba1 fba2 zba2 fba3 zba3 fba4 zba4 fba5 zba5 xba fbb0 zbb0 fbb1 zbb1 fbb2 zbb2 fbb3 zbb3 fbb4 zbb4 fbb5 zbb5 xbb
        have Rx_39 := co Rx_38 hb
        have Ry_39 := co Ry_38 hb
        have Rz_39 := co Rz_38 hb
        have Rv_39 := co Rv_38 hb
        have Rk_39 := co Rk_38 hb
        have Rba_39 := co Rba_38 hb
        have Rbb_39 := co Rbb_38 hb
        have Rsl_39 := co Rsl_38 hb
        have Rbu_39 := co Rbu_38 hb
        have Rn_39 := co Rn_38 hb
        clear hb 
        have e2 := F2.out
        obtain ⟨fk0, zk0, fk1, zk1, xk⟩ := ly2 Rk_39.out
        go_wp2_with fail
        refine (ierr_any w2.heap.size 5 _ (row_c Rk_39.out (i := 0) rfl)).mono ?_
        rintro e w40 ⟨rfl, rfl⟩
        clear fk0 zk0 fk1 zk1 xk
        go_wp2
        go_ret
        exact ⟨rfl, L39.out.1⟩
end Go.Proofs.YtijodbjdajddoaaGreatDoor
end

section
namespace Go.Proofs.YtijodbjdajddoaaGreatDoor.ivParts
open Go Go.ChangeShapes Go.WideShapes Go.ChangeAt Go.RowKit
set_option linter.unusedVariables false
/-- The door's own heap meets the condition. -/
theorem door_met (os : Os) (args : Array Value) : laidMetH Tryz.prog Rows.ivPartsRow.laid ((World.doorLaid Tryz.prog 400 os).forCall (fun _ _ => 0) ⟨#[], args, []⟩).memory :=
  laidMetH_of_parts3 (fuel := 8) (laidMet_of_run' 8 (by kernel_rfl) (by kernel_rfl)) (by kernel_rfl) (by kernel_rfl)
set_option maxRecDepth 100000 in
theorem lifted (os : Os) (started : os.Started) (H : Type) (enc : TypeId × Value → H) :
    ReturnsInHanded {} Tryz.checked os 5 .any (fun w args => (Rows.ivPartsSpec.pre enc Tryz.prog Tryz.f5 [] false w args ∧ laidMetH Tryz.prog Rows.ivPartsRow.laid w) ∧ sizedMet enc Tryz.prog Tryz.f5 (OpenSpec.ofChange Rows.ivPartsSpec) false w args)
      (Rows.ivPartsSpec.post enc Tryz.prog Tryz.f5 false true false false) := by
  refine returnsInHanded_of_change_and (C := Tryz.checked) (X := fun w _ => laidMetH Tryz.prog Rows.ivPartsRow.laid w) (fun _ _ _ hh h => h.of_heap hh) own started (by kernel_rfl) Tryz.func5
    (ChangeSpec.witness_shaped (enc := enc) (C := Tryz.checked) (os := os) (X := fun w _ => laidMetH Tryz.prog Rows.ivPartsRow.laid w) false (World.doorLaid Tryz.prog 400 os) #[.agg #[.bool false, .slice none 0 0, .int .i64 0], .agg #[.bool false, .slice none 0 0, .int .i64 0], .agg #[.bool false, .slice none 0 0, .int .i64 0], .agg #[.bool false, .slice none 0 0, .int .i64 0], .int .i64 0] 8 rfl (World.shaped_of_RefB (by kernel_rfl) (by kernel_rfl)) (by kernel_rfl) (by kernel_rfl) (by kernel_rfl) (door_met os _)) ?_
  intro W base args ds gs before hval0 hW _ _ hL _
  rw [MakeChecks.laidMetH_plain _ _ _ (by kernel_rfl)] at hL
  have htab := t32_laid hL
  clear hL
  have hval : ∀ (j : Nat) t v, Tryz.f5.params[j]? = some t → args[j]? = some v → Value.okWide Tryz.prog W .any base t v := hval0
  have hW' := hW
  obtain ⟨p, q, hA0, hV, rfl, hfz, hnd⟩ := hW
  have hA : DataW.TrodAll enc Tryz.prog W 0 (fun _ => true) true Tryz.f5.params.toList args.toList ds p := hA0
  rw [Tryz.params5] at hA hval
  obtain ⟨v0, vs0, d0, ds0, p0, q0, hargs, rfl, rfl, h0, r0⟩ := trodAll_cons hA
  obtain ⟨v1, vs1, d1, ds1, p1, q1, rfl, rfl, rfl, h1, r1⟩ := trodAll_cons r0
  obtain ⟨v2, vs2, d2, ds2, p2, q2, rfl, rfl, rfl, h2, r2⟩ := trodAll_cons r1
  obtain ⟨v3, vs3, d3, ds3, p3, q3, rfl, rfl, rfl, h3, r3⟩ := trodAll_cons r2
  obtain ⟨v4, vs4, d4, ds4, p4, q4, rfl, rfl, rfl, h4, r4⟩ := trodAll_cons r3
  obtain ⟨rfl, rfl, rfl⟩ := trodAll_nil r4
  obtain rfl : args = #[v0, v1, v2, v3, v4] := by cases args; simp_all
  obtain ⟨rfl, rfl⟩ := trodVars_none hV
  obtain ⟨s0, A0, c0, xs0, x0, rfl, g0, l0, x00, x01⟩ := open_d (hval 0 _ _ rfl rfl) h0
  obtain ⟨s1, A1, c1, xs1, x1, rfl, g1, l1, x10, x11⟩ := open_d (hval 1 _ _ rfl rfl) h1
  obtain ⟨s2, A2, c2, xs2, x2, rfl, g2, l2, x20, x21⟩ := open_d (hval 2 _ _ rfl rfl) h2
  obtain ⟨s3, A3, c3, xs3, x3, rfl, g3, l3, x30, x31⟩ := open_d (hval 3 _ _ rfl rfl) h3
  obtain ⟨a4, rfl, e4, e4', g4⟩ := open_int Tryz.underlying3 (hval 4 _ _ rfl rfl) h4
  clear hA0
  simp only [List.append_nil] at hW'
  refine (ivParts_any A0 c0 s0 xs0 x0 A1 c1 s1 xs1 x1 A2 c2 s2 xs2 x2 A3 c3 s3 xs3 x3 a4 W g0 l0 x00 x01 g1 l1 x10 x11 g2 l2 x20 x21 g3 l3 x30 x31 (i64_lo g4) (i64_hi g4) htab).mono fun e W' ⟨he, hb⟩ => ?_
  subst he
  have hlt := hW'.lt
  refine ⟨_, rfl, law_post (tb := 4) hW' hb rfl rfl Tryz.underlying4 rfl rfl fun sp hsp => ?_⟩
  have hr := trodAll_cons_mk (again (by kernel_rfl) (of_decide_eq_true (by kernel_rfl)) h0 hb (fun x hx => hlt x (by simp [hx])) sp (fun x hx => hsp x (by simp [hx]))) (trodAll_cons_mk (again (by kernel_rfl) (of_decide_eq_true (by kernel_rfl)) h1 hb (fun x hx => hlt x (by simp [hx])) sp (fun x hx => hsp x (by simp [hx]))) (trodAll_cons_mk (again (by kernel_rfl) (of_decide_eq_true (by kernel_rfl)) h2 hb (fun x hx => hlt x (by simp [hx])) sp (fun x hx => hsp x (by simp [hx]))) (trodAll_cons_mk (again (by kernel_rfl) (of_decide_eq_true (by kernel_rfl)) h3 hb (fun x hx => hlt x (by simp [hx])) sp (fun x hx => hsp x (by simp [hx]))) (trodAll_cons_mk (again (by kernel_rfl) (of_decide_eq_true (by kernel_rfl)) h4 hb (fun x hx => hlt x (by simp [hx])) sp (fun x hx => hsp x (by simp [hx]))) trodAll_mk0))))
  simp only [List.append_nil] at hr
  exact hr
theorem row_holds : Rows.IvPartsSaid :=
  OpenClaim.holds_of_wide 5 Tryz.f5 rfl rfl rfl rfl rfl rfl rfl ⟨rfl, rfl, rfl, rfl, rfl⟩ rfl rfl rfl rfl rfl (by kernel_rfl) Tryz.func5 (by kernel_rfl)
    (of_decide_eq_true (by kernel_rfl)) (by unfold Func.isWrapper; first | (rw [if_pos (by decide +kernel)]; kernel_rfl) | (rw [if_neg (by decide +kernel)]; exact ⟨rfl, rfl⟩))
    (fun os started H enc _ => lifted os started H enc)
/-- THE TIED CARD. -/
theorem proved : Rows.IvPartsCardSaid :=
  Claim7.holds_tied_plain_at .later [] [.data] true (true, "ce2d7296bee61de3211586e1632cf2a6cfe767e426ec5d84453dd9d1173b67cd") false
    row_holds (fun _ h => by cases h) (by kernel_rfl) (fun _ h => by cases h) ivParts_row_tie rfl ⟨rfl, rfl⟩ (by kernel_rfl) rfl
    (fun f fn hf hfn => by
      obtain rfl : f = 5 := Option.some.inj ((show Tryz.prog.funcNamed Rows.ivPartsRow.func = some 5 by kernel_rfl).symm.trans hf) |>.symm
      obtain rfl : fn = Tryz.f5 := (Option.some.inj (Tryz.func5.symm.trans hfn)).symm
      exact ⟨by kernel_rfl, fun j t ht => by
        have hall : (Tryz.f5.params.toList.all fun u => !Tryz.prog.wantsStandIn u) = true := by kernel_rfl
        exact (show Tryz.prog.wantsStandIn t = false by simpa using List.all_eq_true.1 hall t (Array.mem_toList_iff.2 (Array.mem_of_getElem? ht)))⟩)
    (by kernel_rfl)
end Go.Proofs.YtijodbjdajddoaaGreatDoor.ivParts
end
