import Derived.Test.YtijodbjdajddoaaGreatDoorMB5
import Derived.Test.YtijodbjdajddoaaGreatDoorMB3
import Derived.Test.YtijodbjdajddoaaGreatDoorMB4
import Derived.Test.YtijodbjdajddoaaGreatDoorMB6
import Derived.Test.YtijodbjdajddoaaGreatDoorTie
import Derived.Test.YtijodbjdajddoaaGreatDoorCards
import Derived.SevenTiedAt
import Derived.OpenShut
import Derived.ChangeMaps5
section
namespace Go.Proofs.YtijodbjdajddoaaGreatDoor
open Go.RowKit
set_option linter.unusedSimpArgs false
set_option linter.unusedVariables false
/-- All blocks that there were are as they were, but for g. -/
structure Tn (g : Nat) (w w' : World) : Prop where
  os : w'.os = w.os
  tape : w'.tape = w.tape
  output : w'.output = w.output
  size : w.heap.size ≤ w'.heap.size
  block : ∀ k, k < w.heap.size → k ≠ g → w'.heap[k]? = w.heap[k]?
theorem Tn.of {g : Nat} {w u : World} (hb : Below w.heap.size w u) : Tn g w u := ⟨hb.os, hb.tape, hb.output, hb.size, fun k hk _ => hb.block k hk⟩
theorem Tn.only {g : Nat} {w x y : World} (h : Tn g w x) (ho : Only g x y) : Tn g w y :=
  ⟨ho.os.trans h.os, ho.tape.trans h.tape, ho.output.trans h.output, by rw [ho.size]; exact h.size, fun k hk hg => (ho.block k hg).trans (h.block k hk hg)⟩
theorem Tn.far {g r : Nat} {w x y : World} (h : Tn g w x) (ho : Only r x y) (hr : w.heap.size ≤ r) : Tn g w y :=
  ⟨ho.os.trans h.os, ho.tape.trans h.tape, ho.output.trans h.output, by rw [ho.size]; exact h.size, fun k hk hg => (ho.block k (by omega)).trans (h.block k hk hg)⟩
theorem Tn.trans {g : Nat} {w x y : World} (h : Tn g w x) (k : Tn g x y) : Tn g w y :=
  ⟨k.os.trans h.os, k.tape.trans h.tape, k.output.trans h.output, Nat.le_trans h.size k.size, fun i hi hg => (k.block i (Nat.lt_of_lt_of_le hi h.size) hg).trans (h.block i hi hg)⟩
theorem Tn.row {g b : Nat} {w w' : World} {o : Obj} (h : Tn g w w') (hr : w.heap[b]? = some o) (hn : b ≠ g) : w'.heap[b]? = some o := (h.block b (heap_lt hr) hn).trans hr
theorem noint_ca {a b : Int} : ∀ (o : Nat) (n : Int), (#[Value.int .i64 a, .int .i64 b])[o]? ≠ some (.int .u32 n) := by
  intro o m; rcases o with _ | _ | o <;> simp
theorem Tn.kept {g : Nat} {w w' : World} {zs : Array Value} {T : TypeId} {fr : Nat × Nat} (h : Tn g w w') (hg : w.heap[g]? = some (.cells zs T fr)) (hz : ∀ (i : Nat) (n : Int), zs[i]? ≠ some (.int .u32 n)) : Kept w w' := by
  refine ⟨h.size, fun b o n e => ?_⟩
  by_cases hb : b = g
  · subst hb
    rw [cell_of_row _ _ _ _ _ _ hg] at e
    exact absurd e (hz _ _)
  · have hl := cell_lt e
    have := h.block b hl hb
    rw [← e]
    simp only [World.cell?, this]
theorem Tn.live {g : Nat} {w v v' : World} {L : List (Option Addr × Nat × List Nat)} {zs : Array Value} {T : TypeId} {fr : Nat × Nat} (h : Tn g v v') (hL : Live w v L) (hg : v.heap[g]? = some (.cells zs T fr)) (hz : ∀ (i : Nat) (n : Int), zs[i]? ≠ some (.int .u32 n)) (h0 : w.heap.size ≤ g) : Live w v' L :=
  ⟨⟨h.os.trans hL.1.os, h.tape.trans hL.1.tape, h.output.trans hL.1.output, Nat.le_trans hL.1.size h.size, fun k hk => (h.block k (Nat.lt_of_lt_of_le hk hL.1.size) (by omega)).trans (hL.1.block k hk)⟩, fun t ht => (hL.2 t ht).kept (h.kept hg hz)⟩
/-- A call that has set the calculator's error: what it hands back. -/
def Sx (z P : Int) (g : Nat) (v : Value) (w : World) (e : Ending) (w' : World) : Prop := e = .returned v ∧ Tn g w w' ∧ w'.heap[g]? = some (.cells #[.int .i64 z, .int .i64 P] 45 (0, 0))

set_option maxHeartbeats 4000000 in
set_option maxRecDepth 100000 in
theorem ans_held (A B : Option Addr) (c d : Nat) (m x n y z P : Int) (g : Nat) (w : World) (hk : w.heap[g]? = some (.cells #[.int .i64 z, .int .i64 P] 45 (0, 0))) (hz : z ≠ 0):
    Calls Tryz.prog 58 #[.pointer (some ⟨g, 0, none⟩), .agg #[.bool (decide (m < 0)), .slice A (digs m.natAbs).length c, .int .i64 x], .agg #[.bool (decide (n < 0)), .slice B (digs n.natAbs).length d, .int .i64 y]] w fun e w' => e = .returned (.agg #[.bool false, .slice none 0 0, .int .i64 0, .bool false, .slice none 0 0, .int .i64 0]) ∧ Below w.heap.size w w' := by
  have d0 : (z == 0) = false := by simpa using hz
  have d1 : (z != 0) = true := by simpa using hz
  have L0 := Lib.hid (live_start w)
  have Rk_0 := Lib.hid hk
  clear hk
  clear hz
  go_enter Tryz.func58, Tryz.ntmps58
  go_upto_region 1 with fail
  obtain ⟨v1, hW, hb, Rx_1, Ry_1, Rr_1⟩ := new3 w (.cells #[.bool (decide (m < 0)), .slice A (digs m.natAbs).length c, .int .i64 x] 26) (.cells #[.bool (decide (n < 0)), .slice B (digs n.natAbs).length d, .int .i64 y] 26) (.cells #[.bool false, .slice none 0 0, .int .i64 0, .bool false, .slice none 0 0, .int .i64 0] 34)
  rw [← hW]
  have L1 := ls L0 hb
  have Rk_1 := co Rk_0 hb
  have Gx := gl0 L0.out
  have Nkx := nl0 Rk_0.out
  have Gy := gl1 L0.out
  have Nky := nl1 Rk_0.out
  have Nxy : w.heap.size < w.heap.size + 1 := by omega
  have Gr := gl2 L0.out
  have Nkr := nl2 Rk_0.out
  have Nxr : w.heap.size < w.heap.size + 1 + 1 := by omega
  have Nyr : w.heap.size + 1 < w.heap.size + 1 + 1 := by omega
  clear hW hb
  obtain ⟨fk0, zk0, fk1, zk1, xk⟩ := ly2 Rk_1.out
  obtain ⟨fr0, zr0, fr1, zr1, fr2, zr2, fr3, zr3, fr4, zr4, fr5, zr5, xr⟩ := ly6 Rr_1.out
  go_wp2
  refine bodyPost_ret (v := .agg #[.bool false, .slice none 0 0, .int .i64 0, .bool false, .slice none 0 0, .int .i64 0]) (by simp [results, Tryz.results58, go_sem, fk0, fk1, fr0, fr1, fr2, fr3, fr4, fr5]) rfl ?_
  exact ⟨rfl, (fin6 L1.out Rr_1.out noint_iv Gr).1⟩

set_option maxHeartbeats 4000000 in
set_option maxRecDepth 100000 in
theorem neg_held (A B : Option Addr) (c d : Nat) (m x n y P : Int) (g : Nat) (z : Int) (w : World) (h : Dg w A c (digs m.natAbs)) (h' : Dg w B d (digs n.natAbs)) (hl : (digs m.natAbs).length ≤ 10000) (hl' : (digs n.natAbs).length ≤ 10000) (r1 : Rt m x) (r2 : Rt n y) (ho : dv m x ≤ dv n y) (hk : w.heap[g]? = some (.cells #[.int .i64 z, .int .i64 P] 45 (0, 0))) (hz : z ≠ 0):
    Calls Tryz.prog 28 #[.pointer (some ⟨g, 0, none⟩), .agg #[.bool (decide (m < 0)), .slice A (digs m.natAbs).length c, .int .i64 x, .bool (decide (n < 0)), .slice B (digs n.natAbs).length d, .int .i64 y]] w fun e w' => e = .returned (.agg #[.bool false, .slice none 0 0, .int .i64 0, .bool false, .slice none 0 0, .int .i64 0]) ∧ Below w.heap.size w w' := by
  have HR1 := Lib.hid r1
  have HR2 := Lib.hid r2
  have lx := Lib.hid hl
  have ly := Lib.hid hl'
  have HO := Lib.hid ho
  have HZ := Lib.hid (show (z == 0) = false by simpa using hz)
  have L0 := Lib.hid (((live_start w).add h).add h')
  have Rk_0 := Lib.hid hk
  clear hk
  clear h h' hl hl' r1 r2 ho hz
  go_enter Tryz.func28, Tryz.ntmps28
  go_upto_region 1 with fail
  obtain ⟨v1, hW, hb, Ri_1, Rr_1⟩ := new2 w (.cells #[.bool (decide (m < 0)), .slice A (digs m.natAbs).length c, .int .i64 x, .bool (decide (n < 0)), .slice B (digs n.natAbs).length d, .int .i64 y] 34) (.cells #[.bool false, .slice none 0 0, .int .i64 0, .bool false, .slice none 0 0, .int .i64 0] 34)
  rw [← hW]
  have L1 := ls L0 hb
  have Rk_1 := co Rk_0 hb
  have Gi := gl0 L0.out
  have Nki := nl0 Rk_0.out
  have Gr := gl1 L0.out
  have Nkr := nl1 Rk_0.out
  have Nir : w.heap.size < w.heap.size + 1 := by omega
  clear hW hb
  obtain ⟨fi0, zi0, fi1, zi1, fi2, zi2, fi3, zi3, fi4, zi4, fi5, zi5, xi⟩ := ly6 Ri_1.out
  go_wp2_with fail
  obtain ⟨w2, hW, hb, Rsl_2⟩ := new1 v1 (.cells #[.bool (decide (m < 0)), .slice A (digs m.natAbs).length c, .int .i64 x, .bool (decide (n < 0)), .slice B (digs n.natAbs).length d, .int .i64 y] 34)
  rw [← hW]
  have L2 := ls L1 hb
  have Rk_2 := co Rk_1 hb
  have Ri_2 := co Ri_1 hb
  have Rr_2 := co Rr_1 hb
  have Gsl := gl0 L1.out
  have Nksl := nl0 Rk_1.out
  have Nisl := nl0 Ri_1.out
  have Nrsl := nl0 Rr_1.out
  clear hW hb
  clear fi0 zi0 fi1 zi1 fi2 zi2 fi3 zi3 fi4 zi4 fi5 zi5 xi
  refine (takes_1 Rk_2.out Rsl_2.out (L2.out.get (A := A) (c := c) (xs := digs m.natAbs) (by simp)) (L2.out.get (A := B) (c := d) (xs := digs n.natAbs) (by simp)) lx.out ly.out HR1.out HR2.out HO.out HZ.out).mono ?_
  rintro e w3 ⟨rfl, hb⟩
  have L3 := ls L2 hb
  have Rk_3 := co Rk_2 hb
  have Ri_3 := co Ri_2 hb
  have Rr_3 := co Rr_2 hb
  have Rsl_3 := co Rsl_2 hb
  clear hb 
  obtain ⟨fr0, zr0, fr1, zr1, fr2, zr2, fr3, zr3, fr4, zr4, fr5, zr5, xr⟩ := ly6 Rr_3.out
  go_wp2
  refine bodyPost_ret (v := .agg #[.bool false, .slice none 0 0, .int .i64 0, .bool false, .slice none 0 0, .int .i64 0]) (by simp [results, Tryz.results28, go_sem, fr0, fr1, fr2, fr3, fr4, fr5]) rfl ?_
  exact ⟨rfl, (fin6 L3.out Rr_3.out noint_iv Gr).1⟩

set_option maxHeartbeats 4000000 in
set_option maxRecDepth 100000 in
theorem sqrt_held (A B : Option Addr) (c d : Nat) (m x n y P : Int) (g : Nat) (z : Int) (w : World) (h : Dg w A c (digs m.natAbs)) (h' : Dg w B d (digs n.natAbs)) (hl : (digs m.natAbs).length ≤ 10000) (hl' : (digs n.natAbs).length ≤ 10000) (r1 : Rt m x) (r2 : Rt n y) (ho : dv m x ≤ dv n y) (hk : w.heap[g]? = some (.cells #[.int .i64 z, .int .i64 P] 45 (0, 0))) (hz : z ≠ 0):
    Calls Tryz.prog 22 #[.pointer (some ⟨g, 0, none⟩), .agg #[.bool (decide (m < 0)), .slice A (digs m.natAbs).length c, .int .i64 x, .bool (decide (n < 0)), .slice B (digs n.natAbs).length d, .int .i64 y]] w fun e w' => e = .returned (.agg #[.bool false, .slice none 0 0, .int .i64 0, .bool false, .slice none 0 0, .int .i64 0]) ∧ Below w.heap.size w w' := by
  have HR1 := Lib.hid r1
  have HR2 := Lib.hid r2
  have lx := Lib.hid hl
  have ly := Lib.hid hl'
  have HO := Lib.hid ho
  have HZ := Lib.hid (show (z == 0) = false by simpa using hz)
  have L0 := Lib.hid (((live_start w).add h).add h')
  have Rk_0 := Lib.hid hk
  clear hk
  clear h h' hl hl' r1 r2 ho hz
  go_enter Tryz.func22, Tryz.ntmps22
  go_upto_region 1 with fail
  obtain ⟨v1, hW, hb, Ri_1, Rr_1⟩ := new2 w (.cells #[.bool (decide (m < 0)), .slice A (digs m.natAbs).length c, .int .i64 x, .bool (decide (n < 0)), .slice B (digs n.natAbs).length d, .int .i64 y] 34) (.cells #[.bool false, .slice none 0 0, .int .i64 0, .bool false, .slice none 0 0, .int .i64 0] 34)
  rw [← hW]
  have L1 := ls L0 hb
  have Rk_1 := co Rk_0 hb
  have Gi := gl0 L0.out
  have Nki := nl0 Rk_0.out
  have Gr := gl1 L0.out
  have Nkr := nl1 Rk_0.out
  have Nir : w.heap.size < w.heap.size + 1 := by omega
  clear hW hb
  obtain ⟨fi0, zi0, fi1, zi1, fi2, zi2, fi3, zi3, fi4, zi4, fi5, zi5, xi⟩ := ly6 Ri_1.out
  go_wp2_with fail
  obtain ⟨w2, hW, hb, Rsl_2⟩ := new1 v1 (.cells #[.bool (decide (m < 0)), .slice A (digs m.natAbs).length c, .int .i64 x, .bool (decide (n < 0)), .slice B (digs n.natAbs).length d, .int .i64 y] 34)
  rw [← hW]
  have L2 := ls L1 hb
  have Rk_2 := co Rk_1 hb
  have Ri_2 := co Ri_1 hb
  have Rr_2 := co Rr_1 hb
  have Gsl := gl0 L1.out
  have Nksl := nl0 Rk_1.out
  have Nisl := nl0 Ri_1.out
  have Nrsl := nl0 Rr_1.out
  clear hW hb
  clear fi0 zi0 fi1 zi1 fi2 zi2 fi3 zi3 fi4 zi4 fi5 zi5 xi
  refine (takes_1 Rk_2.out Rsl_2.out (L2.out.get (A := A) (c := c) (xs := digs m.natAbs) (by simp)) (L2.out.get (A := B) (c := d) (xs := digs n.natAbs) (by simp)) lx.out ly.out HR1.out HR2.out HO.out HZ.out).mono ?_
  rintro e w3 ⟨rfl, hb⟩
  have L3 := ls L2 hb
  have Rk_3 := co Rk_2 hb
  have Ri_3 := co Ri_2 hb
  have Rr_3 := co Rr_2 hb
  have Rsl_3 := co Rsl_2 hb
  clear hb 
  obtain ⟨fr0, zr0, fr1, zr1, fr2, zr2, fr3, zr3, fr4, zr4, fr5, zr5, xr⟩ := ly6 Rr_3.out
  go_wp2
  refine bodyPost_ret (v := .agg #[.bool false, .slice none 0 0, .int .i64 0, .bool false, .slice none 0 0, .int .i64 0]) (by simp [results, Tryz.results22, go_sem, fr0, fr1, fr2, fr3, fr4, fr5]) rfl ?_
  exact ⟨rfl, (fin6 L3.out Rr_3.out noint_iv Gr).1⟩

set_option maxHeartbeats 4000000 in
set_option maxRecDepth 100000 in
theorem mid_held (A B : Option Addr) (c d : Nat) (m x n y P : Int) (g : Nat) (z : Int) (w : World) (h : Dg w A c (digs m.natAbs)) (h' : Dg w B d (digs n.natAbs)) (hl : (digs m.natAbs).length ≤ 10000) (hl' : (digs n.natAbs).length ≤ 10000) (r1 : Rt m x) (r2 : Rt n y) (ho : dv m x ≤ dv n y) (hk : w.heap[g]? = some (.cells #[.int .i64 z, .int .i64 P] 45 (0, 0))) (hz : z ≠ 0):
    Calls Tryz.prog 34 #[.pointer (some ⟨g, 0, none⟩), .agg #[.bool (decide (m < 0)), .slice A (digs m.natAbs).length c, .int .i64 x, .bool (decide (n < 0)), .slice B (digs n.natAbs).length d, .int .i64 y]] w fun e w' => e = .returned (.agg #[.bool false, .slice none 0 0, .int .i64 0]) ∧ Below w.heap.size w w' := by
  have HR1 := Lib.hid r1
  have HR2 := Lib.hid r2
  have lx := Lib.hid hl
  have ly := Lib.hid hl'
  have HO := Lib.hid ho
  have HZ := Lib.hid (show (z == 0) = false by simpa using hz)
  have L0 := Lib.hid (((live_start w).add h).add h')
  have Rk_0 := Lib.hid hk
  clear hk
  clear h h' hl hl' r1 r2 ho hz
  go_enter Tryz.func34, Tryz.ntmps34
  go_upto_region 1 with fail
  obtain ⟨v1, hW, hb, Ri_1, Rr_1⟩ := new2 w (.cells #[.bool (decide (m < 0)), .slice A (digs m.natAbs).length c, .int .i64 x, .bool (decide (n < 0)), .slice B (digs n.natAbs).length d, .int .i64 y] 34) (.cells #[.bool false, .slice none 0 0, .int .i64 0] 26)
  rw [← hW]
  have L1 := ls L0 hb
  have Rk_1 := co Rk_0 hb
  have Gi := gl0 L0.out
  have Nki := nl0 Rk_0.out
  have Gr := gl1 L0.out
  have Nkr := nl1 Rk_0.out
  have Nir : w.heap.size < w.heap.size + 1 := by omega
  clear hW hb
  obtain ⟨fi0, zi0, fi1, zi1, fi2, zi2, fi3, zi3, fi4, zi4, fi5, zi5, xi⟩ := ly6 Ri_1.out
  go_wp2_with fail
  obtain ⟨w2, hW, hb, Rsl_2⟩ := new1 v1 (.cells #[.bool (decide (m < 0)), .slice A (digs m.natAbs).length c, .int .i64 x, .bool (decide (n < 0)), .slice B (digs n.natAbs).length d, .int .i64 y] 34)
  rw [← hW]
  have L2 := ls L1 hb
  have Rk_2 := co Rk_1 hb
  have Ri_2 := co Ri_1 hb
  have Rr_2 := co Rr_1 hb
  have Gsl := gl0 L1.out
  have Nksl := nl0 Rk_1.out
  have Nisl := nl0 Ri_1.out
  have Nrsl := nl0 Rr_1.out
  clear hW hb
  clear fi0 zi0 fi1 zi1 fi2 zi2 fi3 zi3 fi4 zi4 fi5 zi5 xi
  refine (takes_1 Rk_2.out Rsl_2.out (L2.out.get (A := A) (c := c) (xs := digs m.natAbs) (by simp)) (L2.out.get (A := B) (c := d) (xs := digs n.natAbs) (by simp)) lx.out ly.out HR1.out HR2.out HO.out HZ.out).mono ?_
  rintro e w3 ⟨rfl, hb⟩
  have L3 := ls L2 hb
  have Rk_3 := co Rk_2 hb
  have Ri_3 := co Ri_2 hb
  have Rr_3 := co Rr_2 hb
  have Rsl_3 := co Rsl_2 hb
  clear hb 
  obtain ⟨fr0, zr0, fr1, zr1, fr2, zr2, xr⟩ := ly3 Rr_3.out
  go_wp2
  refine bodyPost_ret (v := .agg #[.bool false, .slice none 0 0, .int .i64 0]) (by simp [results, Tryz.results34, go_sem, fr0, fr1, fr2]) rfl ?_
  exact ⟨rfl, (fin3 L3.out Rr_3.out noint3 Gr).1⟩

set_option maxHeartbeats 4000000 in
set_option maxRecDepth 100000 in
theorem add_held (A B A' B' : Option Addr) (c d c' d' : Nat) (m x n y m' x' n' y' P : Int) (g : Nat) (z : Int) (w : World) (h : Dg w A c (digs m.natAbs)) (h' : Dg w B d (digs n.natAbs)) (hl : (digs m.natAbs).length ≤ 10000) (hl' : (digs n.natAbs).length ≤ 10000) (r1 : Rt m x) (r2 : Rt n y) (ho : dv m x ≤ dv n y) (k : Dg w A' c' (digs m'.natAbs)) (k' : Dg w B' d' (digs n'.natAbs)) (kl : (digs m'.natAbs).length ≤ 10000) (kl' : (digs n'.natAbs).length ≤ 10000) (s1 : Rt m' x') (s2 : Rt n' y') (ko : dv m' x' ≤ dv n' y') (hk : w.heap[g]? = some (.cells #[.int .i64 z, .int .i64 P] 45 (0, 0))) (hz : z ≠ 0):
    Calls Tryz.prog 18 #[.pointer (some ⟨g, 0, none⟩), .agg #[.bool (decide (m < 0)), .slice A (digs m.natAbs).length c, .int .i64 x, .bool (decide (n < 0)), .slice B (digs n.natAbs).length d, .int .i64 y], .agg #[.bool (decide (m' < 0)), .slice A' (digs m'.natAbs).length c', .int .i64 x', .bool (decide (n' < 0)), .slice B' (digs n'.natAbs).length d', .int .i64 y']] w fun e w' => e = .returned (.agg #[.bool false, .slice none 0 0, .int .i64 0, .bool false, .slice none 0 0, .int .i64 0]) ∧ Below w.heap.size w w' := by
  have HR1 := Lib.hid r1
  have HR2 := Lib.hid r2
  have lx := Lib.hid hl
  have ly := Lib.hid hl'
  have HO := Lib.hid ho
  have HS1 := Lib.hid s1
  have HS2 := Lib.hid s2
  have kx := Lib.hid kl
  have ky := Lib.hid kl'
  have KO := Lib.hid ko
  have HZ := Lib.hid (show (z == 0) = false by simpa using hz)
  have L0 := Lib.hid (((((live_start w).add h).add h').add k).add k')
  have Rk_0 := Lib.hid hk
  clear hk
  clear h h' hl hl' r1 r2 ho k k' kl kl' s1 s2 ko hz
  go_enter Tryz.func18, Tryz.ntmps18
  go_upto_region 1 with fail
  obtain ⟨v1, hW, hb, Ri_1, Rj_1, Rr_1⟩ := new3 w (.cells #[.bool (decide (m < 0)), .slice A (digs m.natAbs).length c, .int .i64 x, .bool (decide (n < 0)), .slice B (digs n.natAbs).length d, .int .i64 y] 34) (.cells #[.bool (decide (m' < 0)), .slice A' (digs m'.natAbs).length c', .int .i64 x', .bool (decide (n' < 0)), .slice B' (digs n'.natAbs).length d', .int .i64 y'] 34) (.cells #[.bool false, .slice none 0 0, .int .i64 0, .bool false, .slice none 0 0, .int .i64 0] 34)
  rw [← hW]
  have L1 := ls L0 hb
  have Rk_1 := co Rk_0 hb
  have Gi := gl0 L0.out
  have Nki := nl0 Rk_0.out
  have Gj := gl1 L0.out
  have Nkj := nl1 Rk_0.out
  have Nij : w.heap.size < w.heap.size + 1 := by omega
  have Gr := gl2 L0.out
  have Nkr := nl2 Rk_0.out
  have Nir : w.heap.size < w.heap.size + 1 + 1 := by omega
  have Njr : w.heap.size + 1 < w.heap.size + 1 + 1 := by omega
  clear hW hb
  obtain ⟨fi0, zi0, fi1, zi1, fi2, zi2, fi3, zi3, fi4, zi4, fi5, zi5, xi⟩ := ly6 Ri_1.out
  obtain ⟨fj0, zj0, fj1, zj1, fj2, zj2, fj3, zj3, fj4, zj4, fj5, zj5, xj⟩ := ly6 Rj_1.out
  go_wp2_with fail
  obtain ⟨w2, hW, hb, Rsl_2⟩ := new1 v1 (.cells #[.bool (decide (m < 0)), .slice A (digs m.natAbs).length c, .int .i64 x, .bool (decide (n < 0)), .slice B (digs n.natAbs).length d, .int .i64 y, .bool (decide (m' < 0)), .slice A' (digs m'.natAbs).length c', .int .i64 x', .bool (decide (n' < 0)), .slice B' (digs n'.natAbs).length d', .int .i64 y'] 34)
  rw [← hW]
  have L2 := ls L1 hb
  have Rk_2 := co Rk_1 hb
  have Ri_2 := co Ri_1 hb
  have Rj_2 := co Rj_1 hb
  have Rr_2 := co Rr_1 hb
  have Gsl := gl0 L1.out
  have Nksl := nl0 Rk_1.out
  have Nisl := nl0 Ri_1.out
  have Njsl := nl0 Rj_1.out
  have Nrsl := nl0 Rr_1.out
  clear hW hb
  clear fi0 zi0 fi1 zi1 fi2 zi2 fi3 zi3 fi4 zi4 fi5 zi5 xi fj0 zj0 fj1 zj1 fj2 zj2 fj3 zj3 fj4 zj4 fj5 zj5 xj
  refine (takes_2 Rk_2.out Rsl_2.out (L2.out.get (A := A) (c := c) (xs := digs m.natAbs) (by simp)) (L2.out.get (A := B) (c := d) (xs := digs n.natAbs) (by simp)) lx.out ly.out HR1.out HR2.out HO.out (L2.out.get (A := A') (c := c') (xs := digs m'.natAbs) (by simp)) (L2.out.get (A := B') (c := d') (xs := digs n'.natAbs) (by simp)) kx.out ky.out HS1.out HS2.out KO.out HZ.out).mono ?_
  rintro e w3 ⟨rfl, hb⟩
  have L3 := ls L2 hb
  have Rk_3 := co Rk_2 hb
  have Ri_3 := co Ri_2 hb
  have Rj_3 := co Rj_2 hb
  have Rr_3 := co Rr_2 hb
  have Rsl_3 := co Rsl_2 hb
  clear hb 
  obtain ⟨fr0, zr0, fr1, zr1, fr2, zr2, fr3, zr3, fr4, zr4, fr5, zr5, xr⟩ := ly6 Rr_3.out
  go_wp2
  refine bodyPost_ret (v := .agg #[.bool false, .slice none 0 0, .int .i64 0, .bool false, .slice none 0 0, .int .i64 0]) (by simp [results, Tryz.results18, go_sem, fr0, fr1, fr2, fr3, fr4, fr5]) rfl ?_
  exact ⟨rfl, (fin6 L3.out Rr_3.out noint_iv Gr).1⟩

set_option maxHeartbeats 4000000 in
set_option maxRecDepth 100000 in
theorem int_held (n z P : Int) (g : Nat) (w : World) (hT : T32 w) (hk : w.heap[g]? = some (.cells #[.int .i64 z, .int .i64 P] 45 (0, 0))) (h0 : -9223372036854775808 ≤ n) (h1 : n ≤ 9223372036854775807) (hz : z ≠ 0):
    Calls Tryz.prog 33 #[.pointer (some ⟨g, 0, none⟩), .int .i64 n] w fun e w' => e = .returned (.agg #[.bool false, .slice none 0 0, .int .i64 0, .bool false, .slice none 0 0, .int .i64 0]) ∧ Below w.heap.size w w' := by
  obtain ⟨M, hM⟩ : ∃ M, nm n = M := ⟨_, rfl⟩
  obtain ⟨E, hE⟩ : ∃ E, nx n 0 = E := ⟨_, rfl⟩
  have HZ := Lib.hid hz
  have HM := Lib.hid hM
  have HE := Lib.hid hE
  have HT := Lib.hid hT
  clear hT
  have L0 := Lib.hid (live_start w)
  have Rk_0 := Lib.hid hk
  clear hk
  clear hz hM hE
  go_enter Tryz.func33, Tryz.ntmps33
  go_upto_region 1 with fail
  obtain ⟨v1, hW, hb, Rr_1⟩ := new1 w (.cells #[.bool false, .slice none 0 0, .int .i64 0, .bool false, .slice none 0 0, .int .i64 0] 34)
  rw [← hW]
  have L1 := ls L0 hb
  have Rk_1 := co Rk_0 hb
  have Gr := gl0 L0.out
  have Nkr := nl0 Rk_0.out
  clear hW hb
  go_wp2_with fail
  refine (from_yes n M E _ (t32_live HT.out L1.out) h0 h1 HM.out HE.out).mono ?_
  rintro e w2 ⟨A2, c2, rfl, hd, hb⟩
  have L2 := la L1 hb hd
  have Rk_2 := co Rk_1 hb
  have Rr_2 := co Rr_1 hb
  clear hb hd
  go_wp2_with fail
  refine (from_yes n M E _ (t32_live HT.out L2.out) h0 h1 HM.out HE.out).mono ?_
  rintro e w3 ⟨A3, c3, rfl, hd, hb⟩
  have L3 := la L2 hb hd
  have Rk_3 := co Rk_2 hb
  have Rr_3 := co Rr_2 hb
  clear hb hd
  go_wp2_with fail
  refine (ans_held A2 A3 c2 c3 M E M E z P g _ Rk_3.out HZ.out).mono ?_
  rintro e w4 ⟨rfl, hb⟩
  have L4 := ls L3 hb
  have Rk_4 := co Rk_3 hb
  have Rr_4 := co Rr_3 hb
  clear hb 
  obtain ⟨fr0, zr0, fr1, zr1, fr2, zr2, fr3, zr3, fr4, zr4, fr5, zr5, xr⟩ := ly6 Rr_4.out
  go_wp2
  refine bodyPost_ret (v := .agg #[.bool false, .slice none 0 0, .int .i64 0, .bool false, .slice none 0 0, .int .i64 0]) (by simp [results, Tryz.results33, go_sem, fr0, fr1, fr2, fr3, fr4, fr5]) rfl ?_
  exact ⟨rfl, (fin6 L4.out Rr_4.out noint_iv Gr).1⟩

set_option maxHeartbeats 1000000 in
set_option maxRecDepth 100000 in
theorem takes_nil (g : Nat) (z : Int) (q : Bool) (w : World) (hc : w.cell? ⟨g, 0, none⟩ = some (.int .i64 z)) (hq : (z == 0) = q) :
    Calls Tryz.prog 52 #[.pointer (some ⟨g, 0, none⟩), .slice none 0 0] w fun e w' => e = .returned (.bool q) ∧ w' = w := by
  have HQ := Lib.hid hq
  clear hq
  go_enter Tryz.func52, Tryz.ntmps52
  go_wp2
  go_loopw [9] (fun iv wr => iv = .int .i64 0 ∧ wr = w) (fun _ _ => 0)
  case atStart => exact ⟨rfl, rfl⟩
  case round =>
    obtain ⟨rfl, rfl⟩ := hrel
    go_wp2
    go_ret
    exact ⟨ret_b HQ.out, rfl⟩

set_option maxHeartbeats 4000000 in
set_option maxRecDepth 100000 in
theorem hull0_held (z P : Int) (g : Nat) (w : World) (hk : w.heap[g]? = some (.cells #[.int .i64 z, .int .i64 P] 45 (0, 0))) (hz : z ≠ 0):
    Calls Tryz.prog 26 #[.pointer (some ⟨g, 0, none⟩), .slice none 0 0] w fun e w' => e = .returned (.agg #[.bool false, .slice none 0 0, .int .i64 0, .bool false, .slice none 0 0, .int .i64 0]) ∧ Below w.heap.size w w' := by
  have HZ := Lib.hid hz
  have HQ := Lib.hid (show (z == 0) = false by simpa using hz)
  have L0 := Lib.hid (live_start w)
  have Rk_0 := Lib.hid hk
  clear hk
  clear hz
  go_enter Tryz.func26, Tryz.ntmps26
  go_upto_region 1 with fail
  obtain ⟨v1, hW, hb, Rr_1⟩ := new1 w (.cells #[.bool false, .slice none 0 0, .int .i64 0, .bool false, .slice none 0 0, .int .i64 0] 34)
  rw [← hW]
  have L1 := ls L0 hb
  have Rk_1 := co Rk_0 hb
  have Gr := gl0 L0.out
  have Nkr := nl0 Rk_0.out
  clear hW hb
  obtain ⟨fk0, zk0, fk1, zk1, xk⟩ := ly2 Rk_1.out
  go_wp2_with fail
  refine (note_held g _ 1 z _ (row_c Rk_1.out (i := 0) rfl) HZ.out).mono ?_
  rintro e w2 ⟨rfl, rfl⟩
  clear fk0 zk0 fk1 zk1 xk
  obtain ⟨fk0, zk0, fk1, zk1, xk⟩ := ly2 Rk_1.out
  go_wp2_with fail
  refine (takes_nil g z false _ (row_c Rk_1.out (i := 0) rfl) HQ.out).mono ?_
  rintro e w3 ⟨rfl, rfl⟩
  clear fk0 zk0 fk1 zk1 xk
  obtain ⟨fr0, zr0, fr1, zr1, fr2, zr2, fr3, zr3, fr4, zr4, fr5, zr5, xr⟩ := ly6 Rr_1.out
  go_wp2
  refine bodyPost_ret (v := .agg #[.bool false, .slice none 0 0, .int .i64 0, .bool false, .slice none 0 0, .int .i64 0]) (by simp [results, Tryz.results26, go_sem, fr0, fr1, fr2, fr3, fr4, fr5]) rfl ?_
  exact ⟨rfl, (fin6 L1.out Rr_1.out noint_iv Gr).1⟩

end Go.Proofs.YtijodbjdajddoaaGreatDoor
end

section
namespace Go.Proofs.YtijodbjdajddoaaGreatDoor
open Go.RowKit
set_option linter.unusedSimpArgs false
set_option linter.unusedVariables false
theorem Tn.cells {g b : Nat} {w w' : World} (h : Tn g w w') (hb : b < w.heap.size) (hn : b ≠ g) : ∀ o, w'.cell? ⟨b, o, none⟩ = w.cell? ⟨b, o, none⟩ := fun o => by
  simp only [World.cell?, h.block b hb hn]
theorem only6 (r : Nat) (t : World) (a b c d e f : Value) : Only r t ((((((t.setCell ⟨r, 0, none⟩ a).setCell ⟨r, 1, none⟩ b).setCell ⟨r, 2, none⟩ c).setCell ⟨r, 3, none⟩ d).setCell ⟨r, 4, none⟩ e).setCell ⟨r, 5, none⟩ f) :=
  ((((((Only.refl r t).setCell 0 _).setCell 1 _).setCell 2 _).setCell 3 _).setCell 4 _).setCell 5 _
theorem far6 {g r : Nat} {w t : World} {o : Obj} (h : Tn g w t) (hg : t.heap[g]? = some o) (hr : w.heap.size ≤ r) (hn : g < r) (a b c d e f : Value) :
    Tn g w ((((((t.setCell ⟨r, 0, none⟩ a).setCell ⟨r, 1, none⟩ b).setCell ⟨r, 2, none⟩ c).setCell ⟨r, 3, none⟩ d).setCell ⟨r, 4, none⟩ e).setCell ⟨r, 5, none⟩ f) ∧
    ((((((t.setCell ⟨r, 0, none⟩ a).setCell ⟨r, 1, none⟩ b).setCell ⟨r, 2, none⟩ c).setCell ⟨r, 3, none⟩ d).setCell ⟨r, 4, none⟩ e).setCell ⟨r, 5, none⟩ f).heap[g]? = some o :=
  ⟨h.far (only6 _ _ _ _ _ _ _ _) hr, ((only6 _ _ _ _ _ _ _ _).block g (by omega)).trans hg⟩
set_option maxHeartbeats 4000000 in
set_option maxRecDepth 100000 in
theorem div_zero (A B A' B' : Option Addr) (c d c' d' : Nat) (m x n y m' x' n' y' P : Int) (g : Nat) (w : World) (h : Dg w A c (digs m.natAbs)) (h' : Dg w B d (digs n.natAbs)) (hl : (digs m.natAbs).length ≤ 10000) (hl' : (digs n.natAbs).length ≤ 10000) (r1 : Rt m x) (r2 : Rt n y) (ho : dv m x ≤ dv n y) (k : Dg w A' c' (digs m'.natAbs)) (k' : Dg w B' d' (digs n'.natAbs)) (kl : (digs m'.natAbs).length ≤ 10000) (kl' : (digs n'.natAbs).length ≤ 10000) (s1 : Rt m' x') (s2 : Rt n' y') (ko : dv m' x' ≤ dv n' y') (hk : w.heap[g]? = some (.cells #[.int .i64 0, .int .i64 P] 45 (0, 0))) (h0 : decide (dv m' x' ≤ 0 ∧ 0 ≤ dv n' y') = true):
    Calls Tryz.prog 24 #[.pointer (some ⟨g, 0, none⟩), .agg #[.bool (decide (m < 0)), .slice A (digs m.natAbs).length c, .int .i64 x, .bool (decide (n < 0)), .slice B (digs n.natAbs).length d, .int .i64 y], .agg #[.bool (decide (m' < 0)), .slice A' (digs m'.natAbs).length c', .int .i64 x', .bool (decide (n' < 0)), .slice B' (digs n'.natAbs).length d', .int .i64 y']] w fun e w' => Sx 3 P g (.agg #[.bool false, .slice none 0 0, .int .i64 0, .bool false, .slice none 0 0, .int .i64 0]) w e w' := by
  have HR1 := Lib.hid r1
  have HR2 := Lib.hid r2
  have lx := Lib.hid hl
  have ly := Lib.hid hl'
  have HO := Lib.hid ho
  have HS1 := Lib.hid s1
  have HS2 := Lib.hid s2
  have kx := Lib.hid kl
  have ky := Lib.hid kl'
  have KO := Lib.hid ko
  have H0 := Lib.hid h0
  have L0 := Lib.hid (((((live_start w).add h).add h').add k).add k')
  have Rk_0 := Lib.hid hk
  have HLk := Lib.hid (heap_lt hk)
  clear hk
  clear h h' hl hl' r1 r2 ho k k' kl kl' s1 s2 ko h0
  go_enter Tryz.func24, Tryz.ntmps24
  go_upto_region 1 with fail
  obtain ⟨v1, hW, hb, Ri_1, Rj_1, Rr_1⟩ := new3 w (.cells #[.bool (decide (m < 0)), .slice A (digs m.natAbs).length c, .int .i64 x, .bool (decide (n < 0)), .slice B (digs n.natAbs).length d, .int .i64 y] 34) (.cells #[.bool (decide (m' < 0)), .slice A' (digs m'.natAbs).length c', .int .i64 x', .bool (decide (n' < 0)), .slice B' (digs n'.natAbs).length d', .int .i64 y'] 34) (.cells #[.bool false, .slice none 0 0, .int .i64 0, .bool false, .slice none 0 0, .int .i64 0] 34)
  rw [← hW]
  have L1 := ls L0 hb
  have Rk_1 := co Rk_0 hb
  have Gi := gl0 L0.out
  have Nki := nl0 Rk_0.out
  have Gj := gl1 L0.out
  have Nkj := nl1 Rk_0.out
  have Nij : w.heap.size < w.heap.size + 1 := by omega
  have Gr := gl2 L0.out
  have Nkr := nl2 Rk_0.out
  have Nir : w.heap.size < w.heap.size + 1 + 1 := by omega
  have Njr : w.heap.size + 1 < w.heap.size + 1 + 1 := by omega
  clear hW hb
  obtain ⟨fi0, zi0, fi1, zi1, fi2, zi2, fi3, zi3, fi4, zi4, fi5, zi5, xi⟩ := ly6 Ri_1.out
  obtain ⟨fj0, zj0, fj1, zj1, fj2, zj2, fj3, zj3, fj4, zj4, fj5, zj5, xj⟩ := ly6 Rj_1.out
  go_wp2_with fail
  obtain ⟨w2, hW, hb, Rsl_2⟩ := new1 v1 (.cells #[.bool (decide (m < 0)), .slice A (digs m.natAbs).length c, .int .i64 x, .bool (decide (n < 0)), .slice B (digs n.natAbs).length d, .int .i64 y, .bool (decide (m' < 0)), .slice A' (digs m'.natAbs).length c', .int .i64 x', .bool (decide (n' < 0)), .slice B' (digs n'.natAbs).length d', .int .i64 y'] 34)
  rw [← hW]
  have L2 := ls L1 hb
  have Rk_2 := co Rk_1 hb
  have Ri_2 := co Ri_1 hb
  have Rj_2 := co Rj_1 hb
  have Rr_2 := co Rr_1 hb
  have Gsl := gl0 L1.out
  have Nksl := nl0 Rk_1.out
  have Nisl := nl0 Ri_1.out
  have Njsl := nl0 Rj_1.out
  have Nrsl := nl0 Rr_1.out
  clear hW hb
  clear fi0 zi0 fi1 zi1 fi2 zi2 fi3 zi3 fi4 zi4 fi5 zi5 xi fj0 zj0 fj1 zj1 fj2 zj2 fj3 zj3 fj4 zj4 fj5 zj5 xj
  refine (takes_2 Rk_2.out Rsl_2.out (L2.out.get (A := A) (c := c) (xs := digs m.natAbs) (by simp)) (L2.out.get (A := B) (c := d) (xs := digs n.natAbs) (by simp)) lx.out ly.out HR1.out HR2.out HO.out (L2.out.get (A := A') (c := c') (xs := digs m'.natAbs) (by simp)) (L2.out.get (A := B') (c := d') (xs := digs n'.natAbs) (by simp)) kx.out ky.out HS1.out HS2.out KO.out rfl).mono ?_
  rintro e w3 ⟨rfl, hb⟩
  have L3 := ls L2 hb
  have Rk_3 := co Rk_2 hb
  have Ri_3 := co Ri_2 hb
  have Rj_3 := co Rj_2 hb
  have Rr_3 := co Rr_2 hb
  have Rsl_3 := co Rsl_2 hb
  clear hb 
  go_upto_region 3 with fail
  have Mgj : g < w.heap.size + 1 := by have := HLk.out; omega
  obtain ⟨fj0, zj0, fj1, zj1, fj2, zj2, fj3, zj3, fj4, zj4, fj5, zj5, xj⟩ := ly6 Rj_3.out
  have KD := Lib.hid (bd0 w3)
  have LD := ls L3 KD.out
  have HLk := Lib.hid (heap_lt Rk_3.out)
  have Mj : w.heap.size + 1 ≠ g := by omega
  go_region_held3 (fun w' => (∀ o, w'.cell? ⟨w.heap.size + 1, o, none⟩ = w3.cell? ⟨w.heap.size + 1, o, none⟩))
    (first | with_reducible exact keep_b KD.out xj | with_reducible exact keep_b K5.out xj | exact keep_set (keep_b K5.out xj) Mj)
    (first
      | (go_at_call 17; (with_reducible refine (has_zero (LD.out.get (A := A') (c := c') (xs := digs m'.natAbs) (by simp)) (LD.out.get (A := B') (c := d') (xs := digs n'.natAbs) (by simp)) kx.out ky.out HS1.out HS2.out KO.out H0.out).mono ?_); rintro e w5 ⟨rfl, hb⟩; (have K5 := bt KD hb); (have L5 := Lib.hid (LD.out.step hb)); clear hb )
      | (go_at_call 61; (with_reducible refine (note_sets g 3 _ (row_c (i := 0) (cells_of Rk_3.out K5.out) rfl) (frozen_of_row _ _ 0 _ _ (cells_of Rk_3.out K5.out))).mono ?_); rintro e w6 ⟨rfl, rfl⟩))
  rename_i hHeld
  clear hHeld
  clear fj0 zj0 fj1 zj1 fj2 zj2 fj3 zj3 fj4 zj4 fj5 zj5 xj
  have Rk_6 := co Rk_3 K5.out
  have Ri_6 := co Ri_3 K5.out
  have Rj_6 := co Rj_3 K5.out
  have Rr_6 := co Rr_3 K5.out
  have Rsl_6 := co Rsl_3 K5.out
  obtain ⟨t6, hW⟩ : ∃ x : World, x = w5.setCell ⟨g, 0, none⟩ (.int .i64 3) := ⟨_, rfl⟩
  rw [← hW]
  have hO : Only g w5 t6 := by rw [hW]; exact (Only.refl g w5).setCell 0 _
  have TN := Lib.hid ((Tn.of L5.out.1).only hO)
  have Rk_t6 := Lib.hid (show t6.heap[g]? = some (.cells #[.int .i64 3, .int .i64 P] 45 (0, 0)) from (by rw [hW]; exact heap_setCell_same _ _ 0 _ _ _ Rk_6.out))
  have Ri_t6 := Lib.hid ((hO.block _ (by have := HLk.out; omega)).trans Ri_6.out)
  have Rj_t6 := Lib.hid ((hO.block _ (by have := HLk.out; omega)).trans Rj_6.out)
  have Rr_t6 := Lib.hid ((hO.block _ (by have := HLk.out; omega)).trans Rr_6.out)
  have Rsl_t6 := Lib.hid ((hO.block _ (by have := HLk.out; omega)).trans Rsl_6.out)
  have Lt := Lib.hid (live_start t6)
  clear hW hO
  obtain ⟨fk0, zk0, fk1, zk1, xk⟩ := ly2 Rk_t6.out
  obtain ⟨fr0, zr0, fr1, zr1, fr2, zr2, fr3, zr3, fr4, zr4, fr5, zr5, xr⟩ := ly6 Rr_t6.out
  go_wp2
  refine bodyPost_ret (v := .agg #[.bool false, .slice none 0 0, .int .i64 0, .bool false, .slice none 0 0, .int .i64 0]) (by simp [results, Tryz.results24, go_sem, fk0, fk1, fr0, fr1, fr2, fr3, fr4, fr5]) rfl ?_
  have hf := far6 TN.out Rk_t6.out Gr (by have := HLk.out; omega)
  exact ⟨rfl, (hf _ _ _ _ _ _).1, (hf _ _ _ _ _ _).2⟩

end Go.Proofs.YtijodbjdajddoaaGreatDoor
end

section
namespace Go.Proofs.YtijodbjdajddoaaGreatDoor
open Go.RowKit
set_option linter.unusedSimpArgs false
set_option linter.unusedVariables false
theorem cadd_held {A B A' B' : Option Addr} {c d c' d' g : Nat} {s t : St} {w : World} {z P : Int} (h : Dg w A c (digs s.lo.1.natAbs)) (h' : Dg w B d (digs s.hi.1.natAbs)) (os : So s) (k : Dg w A' c' (digs t.lo.1.natAbs)) (k' : Dg w B' d' (digs t.hi.1.natAbs)) (ot : So t) (hk : w.heap[g]? = some (.cells #[.int .i64 z, .int .i64 P] 45 (0, 0))) (hz : z ≠ 0) :
    Calls Tryz.prog 18 #[.pointer (some ⟨g, 0, none⟩), .agg #[.bool (decide (s.lo.1 < 0)), .slice A (digs s.lo.1.natAbs).length c, .int .i64 s.lo.2, .bool (decide (s.hi.1 < 0)), .slice B (digs s.hi.1.natAbs).length d, .int .i64 s.hi.2], .agg #[.bool (decide (t.lo.1 < 0)), .slice A' (digs t.lo.1.natAbs).length c', .int .i64 t.lo.2, .bool (decide (t.hi.1 < 0)), .slice B' (digs t.hi.1.natAbs).length d', .int .i64 t.hi.2]] w fun e w' => e = .returned (.agg #[.bool false, .slice none 0 0, .int .i64 0, .bool false, .slice none 0 0, .int .i64 0]) ∧ Below w.heap.size w w' :=
  add_held A B A' B' c d c' d' s.lo.1 s.lo.2 s.hi.1 s.hi.2 t.lo.1 t.lo.2 t.hi.1 t.hi.2 P g z w h h' (inr_len os.1.2) (inr_len os.2.1.2) os.1.rt os.2.1.rt os.2.2 k k' (inr_len ot.1.2) (inr_len ot.2.1.2) ot.1.rt ot.2.1.rt ot.2.2 hk hz
theorem cneg_held {A B : Option Addr} {c d g : Nat} {s : St} {w : World} {z P : Int} (h : Dg w A c (digs s.lo.1.natAbs)) (h' : Dg w B d (digs s.hi.1.natAbs)) (os : So s) (hk : w.heap[g]? = some (.cells #[.int .i64 z, .int .i64 P] 45 (0, 0))) (hz : z ≠ 0) :
    Calls Tryz.prog 28 #[.pointer (some ⟨g, 0, none⟩), .agg #[.bool (decide (s.lo.1 < 0)), .slice A (digs s.lo.1.natAbs).length c, .int .i64 s.lo.2, .bool (decide (s.hi.1 < 0)), .slice B (digs s.hi.1.natAbs).length d, .int .i64 s.hi.2]] w fun e w' => e = .returned (.agg #[.bool false, .slice none 0 0, .int .i64 0, .bool false, .slice none 0 0, .int .i64 0]) ∧ Below w.heap.size w w' :=
  neg_held A B c d s.lo.1 s.lo.2 s.hi.1 s.hi.2 P g z w h h' (inr_len os.1.2) (inr_len os.2.1.2) os.1.rt os.2.1.rt os.2.2 hk hz
theorem cmid_held {A B : Option Addr} {c d g : Nat} {s : St} {w : World} {z P : Int} (h : Dg w A c (digs s.lo.1.natAbs)) (h' : Dg w B d (digs s.hi.1.natAbs)) (os : So s) (hk : w.heap[g]? = some (.cells #[.int .i64 z, .int .i64 P] 45 (0, 0))) (hz : z ≠ 0) :
    Calls Tryz.prog 34 #[.pointer (some ⟨g, 0, none⟩), .agg #[.bool (decide (s.lo.1 < 0)), .slice A (digs s.lo.1.natAbs).length c, .int .i64 s.lo.2, .bool (decide (s.hi.1 < 0)), .slice B (digs s.hi.1.natAbs).length d, .int .i64 s.hi.2]] w fun e w' => e = .returned (.agg #[.bool false, .slice none 0 0, .int .i64 0]) ∧ Below w.heap.size w w' :=
  mid_held A B c d s.lo.1 s.lo.2 s.hi.1 s.hi.2 P g z w h h' (inr_len os.1.2) (inr_len os.2.1.2) os.1.rt os.2.1.rt os.2.2 hk hz
theorem cdiv_zero {A B A' B' : Option Addr} {c d c' d' g : Nat} {s t : St} {w : World} {P : Int} (h : Dg w A c (digs s.lo.1.natAbs)) (h' : Dg w B d (digs s.hi.1.natAbs)) (os : So s) (k : Dg w A' c' (digs t.lo.1.natAbs)) (k' : Dg w B' d' (digs t.hi.1.natAbs)) (ot : So t) (hk : w.heap[g]? = some (.cells #[.int .i64 0, .int .i64 P] 45 (0, 0))) (h0 : decide (Ins 0 t) = true) :
    Calls Tryz.prog 24 #[.pointer (some ⟨g, 0, none⟩), .agg #[.bool (decide (s.lo.1 < 0)), .slice A (digs s.lo.1.natAbs).length c, .int .i64 s.lo.2, .bool (decide (s.hi.1 < 0)), .slice B (digs s.hi.1.natAbs).length d, .int .i64 s.hi.2], .agg #[.bool (decide (t.lo.1 < 0)), .slice A' (digs t.lo.1.natAbs).length c', .int .i64 t.lo.2, .bool (decide (t.hi.1 < 0)), .slice B' (digs t.hi.1.natAbs).length d', .int .i64 t.hi.2]] w fun e w' => Sx 3 P g (.agg #[.bool false, .slice none 0 0, .int .i64 0, .bool false, .slice none 0 0, .int .i64 0]) w e w' :=
  div_zero A B A' B' c d c' d' s.lo.1 s.lo.2 s.hi.1 s.hi.2 t.lo.1 t.lo.2 t.hi.1 t.hi.2 P g w h h' (inr_len os.1.2) (inr_len os.2.1.2) os.1.rt os.2.1.rt os.2.2 k k' (inr_len ot.1.2) (inr_len ot.2.1.2) ot.1.rt ot.2.1.rt ot.2.2 hk h0
theorem same_zz (w : World) :
    Calls Tryz.prog 23 #[.agg #[.bool false, .slice none 0 0, .int .i64 0, .bool false, .slice none 0 0, .int .i64 0], .agg #[.bool false, .slice none 0 0, .int .i64 0, .bool false, .slice none 0 0, .int .i64 0]] w fun e w' => e = .returned (.bool true) ∧ Below w.heap.size w w' := by
  have e : digs (0 : Int).natAbs = [] := digs_zero
  have := lsame_q (m := 0) (x := 0) (n := 0) (y := 0) (m' := 0) (x' := 0) (n' := 0) (y' := 0) (A := none) (B := none) (A' := none) (B' := none) (c := 0) (d := 0) (c' := 0) (d' := 0) (w := w) (q := true) (by rw [e]; exact Dg.nil_ _ _) (by rw [e]; exact Dg.nil_ _ _) (by rw [e]; exact Dg.nil_ _ _) (by rw [e]; exact Dg.nil_ _ _) (by rw [e]; simp) (by rw [e]; simp) (by simp)
  rw [e] at this
  exact this
theorem cmp_zz (w : World) :
    Calls Tryz.prog 32 #[.agg #[.bool false, .slice none 0 0, .int .i64 0], .agg #[.bool false, .slice none 0 0, .int .i64 0]] w fun e w' => e = .returned (.int .i64 0) ∧ Below w.heap.size w w' := by
  have e : digs (0 : Int).natAbs = [] := digs_zero
  have := dcmp0 (A := none) (c := 0) (m := 0) (x := 0) (q := 0) (w := w) (by rw [e]; exact Dg.nil_ _ _) (by rw [e]; simp) ⟨.inl ⟨rfl, rfl⟩, by omega, by omega⟩ (by rw [dv_zero]; exact cmpd_eq rfl)
  rw [e] at this
  exact this

theorem csqrt_zero_held {g : Nat} {z P : Int} {w : World} (hk : w.heap[g]? = some (.cells #[.int .i64 z, .int .i64 P] 45 (0, 0))) (hz : z ≠ 0) :
    Calls Tryz.prog 22 #[.pointer (some ⟨g, 0, none⟩), .agg #[.bool false, .slice none 0 0, .int .i64 0, .bool false, .slice none 0 0, .int .i64 0]] w fun e w' => e = .returned (.agg #[.bool false, .slice none 0 0, .int .i64 0, .bool false, .slice none 0 0, .int .i64 0]) ∧ Below w.heap.size w w' := by
  have e : digs (0 : Int).natAbs = [] := digs_zero
  have := sqrt_held none none 0 0 0 0 0 0 P g z w (by rw [e]; exact Dg.nil_ _ _) (by rw [e]; exact Dg.nil_ _ _) (by rw [e]; simp) (by rw [e]; simp) ⟨.inl ⟨rfl, rfl⟩, by omega, by omega⟩ ⟨.inl ⟨rfl, rfl⟩, by omega, by omega⟩ Rat.le_refl hk hz
  rw [e] at this
  exact this
end Go.Proofs.YtijodbjdajddoaaGreatDoor
end

section
namespace Go.Proofs.YtijodbjdajddoaaGreatDoor
open Go.RowKit
set_option linter.unusedSimpArgs false
set_option linter.unusedVariables false
set_option maxHeartbeats 8000000 in
set_option maxRecDepth 100000 in
theorem ivStays_any  (Ax : Option Addr) (cx : Nat) (sx : Bool) (xsx : List Nat) (ex : Int) (Ay : Option Addr) (cy : Nat) (sy : Bool) (xsy : List Nat) (ey : Int) (n : Int) (w : World)  (hx : Dg w Ax cx xsx) (lx : xsx.length ≤ 9223372036854775807) (ex0 : -9223372036854775808 ≤ ex) (ex1 : ex ≤ 9223372036854775807) (hy : Dg w Ay cy xsy) (ly : xsy.length ≤ 9223372036854775807) (ey0 : -9223372036854775808 ≤ ey) (ey1 : ey ≤ 9223372036854775807) (n0 : -9223372036854775808 ≤ n) (n1 : n ≤ 9223372036854775807) (hT : T32 w):
    Calls Tryz.prog 6 #[.agg #[.bool sx, .slice Ax xsx.length cx, .int .i64 ex], .agg #[.bool sy, .slice Ay xsy.length cy, .int .i64 ey], .int .i64 n] w fun e w' => e = .returned (.bool true) ∧ Below w.heap.size w w' := by
  obtain ⟨qx, hqx⟩ : ∃ q, tq sx xsx ex = q := ⟨_, rfl⟩
  have bdx : Qb (-90) 218 qx := hqx ▸ tq_bd hx.2.1
  have LXx := Lib.hid lx
  have Ex := Lib.hid (And.intro ex0 ex1)
  have HQx := Lib.hid hqx
  obtain ⟨qy, hqy⟩ : ∃ q, tq sy xsy ey = q := ⟨_, rfl⟩
  have bdy : Qb (-90) 218 qy := hqy ▸ tq_bd hy.2.1
  have LXy := Lib.hid ly
  have Ey := Lib.hid (And.intro ey0 ey1)
  have HQy := Lib.hid hqy
  obtain ⟨a, ha⟩ : ∃ s, spanS qx qy = s := ⟨_, rfl⟩
  have sa_b : Sb (-90) 218 a := ha ▸ spanS_sb bdx bdy
  have Ha := Lib.hid ha
  have Oa := Lib.hid (sa_b.ok (by omega) (by omega))
  obtain ⟨o, ho⟩ : ∃ o, intQ 0 = o := ⟨_, rfl⟩
  have o0 : o = (0, 0) := by rw [← ho]; rfl
  have oo : So ⟨o, o⟩ := by rw [o0]; exact ⟨⟨.inl ⟨rfl, rfl⟩, by decide⟩, ⟨.inl ⟨rfl, rfl⟩, by decide⟩, Rat.le_refl⟩
  have zi : decide (Ins 0 ⟨o, o⟩) = true := by rw [o0]; exact decide_eq_true ⟨by show dv 0 0 ≤ 0; rw [dv_zero]; exact Rat.le_refl, by show 0 ≤ dv 0 0; rw [dv_zero]; exact Rat.le_refl⟩
  have HO := Lib.hid ho
  have OO := Lib.hid oo
  have ZZ := Lib.hid zi
  have NN := Lib.hid (And.intro n0 n1)
  have HT := Lib.hid hT
  clear hT
  have L0 := Lib.hid (((live_start w).add hx).add hy)
  clear hx lx ex0 ex1 hqx bdx hy ly ey0 ey1 hqy bdy ha sa_b ho o0 oo zi n0 n1
  go_enter Tryz.func6, Tryz.ntmps6
  go_wp2_with fail
  obtain ⟨v1, hW, hb, Rx_1, Ry_1⟩ := new2 w (.cells #[.bool sx, .slice Ax xsx.length cx, .int .i64 ex] 26) (.cells #[.bool sy, .slice Ay xsy.length cy, .int .i64 ey] 26)
  rw [← hW]
  have L1 := ls L0 hb
  have Gx := gl0 L0.out
  have Gy := gl1 L0.out
  have Nxy : w.heap.size < w.heap.size + 1 := by omega
  clear hW hb
  refine (iexamples_any _ (t32_live HT.out L1.out)).mono ?_
  rintro e w2 ⟨rfl, hb⟩
  have L2 := ls L1 hb
  have Rx_2 := co Rx_1 hb
  have Ry_2 := co Ry_1 hb
  clear hb 
  go_wp2_with fail
  refine (inew_ok 50 _ (by omega) (by omega)).mono ?_
  rintro e w3 ⟨rfl, hw0⟩
  subst hw0
  obtain ⟨w4, hW, hb, Rk_4⟩ := new1 w2 (.cells #[.int .i64 0, .int .i64 50] 45)
  rw [← hW]
  have L4 := ls L2 hb
  have Rx_4 := co Rx_2 hb
  have Ry_4 := co Ry_2 hb
  have Gk := gl0 L2.out
  have Nxk := nl0 Rx_2.out
  have Nyk := nl0 Ry_2.out
  clear hW hb
  obtain ⟨fx0, zx0, fx1, zx1, fx2, zx2, xx⟩ := ly3 Rx_4.out
  obtain ⟨fy0, zy0, fy1, zy1, fy2, zy2, xy⟩ := ly3 Ry_4.out
  go_wp2_with fail
  refine (span_any (L4.out.get (A := Ax) (c := cx) (xs := xsx) (by simp)) LXx.out Ex.out.1 Ex.out.2 (L4.out.get (A := Ay) (c := cy) (xs := xsy) (by simp)) LXy.out Ey.out.1 Ey.out.2 (t32_live HT.out L4.out) HQx.out HQy.out Ha.out).mono ?_
  rintro e w5 ⟨A5, c5, B5, d5, rfl, hd, he, hb⟩
  have L5 := la2 L4 hb hd he
  clear fx0 zx0 fx1 zx1 fx2 zx2 xx fy0 zy0 fy1 zy1 fy2 zy2 xy
  have Rx_5 := co Rx_4 hb
  have Ry_5 := co Ry_4 hb
  have Rk_5 := co Rk_4 hb
  clear hb hd he
  go_upto_region 8 with fail
  obtain ⟨w6, hW, hb, Rba_6⟩ := new1 w5 (.cells #[.bool (decide (a.lo.1 < 0)), .slice A5 (digs a.lo.1.natAbs).length c5, .int .i64 a.lo.2, .bool (decide (a.hi.1 < 0)), .slice B5 (digs a.hi.1.natAbs).length d5, .int .i64 a.hi.2] 34)
  rw [← hW]
  have L6 := ls L5 hb
  have Rx_6 := co Rx_5 hb
  have Ry_6 := co Ry_5 hb
  have Rk_6 := co Rk_5 hb
  have Gba := gl0 L5.out
  have Nxba := nl0 Rx_5.out
  have Nyba := nl0 Ry_5.out
  have Nkba := nl0 Rk_5.out
  clear hW hb
  obtain ⟨fba0, zba0, fba1, zba1, fba2, zba2, fba3, zba3, fba4, zba4, fba5, zba5, xba⟩ := ly6 Rba_6.out
  have KD := Lib.hid (bd0 w6)
  have LD := ls L6 KD.out
  have Mba : w5.heap.size ≠ w2.heap.size := by omega
  go_region_held3 (fun w' => (∀ o, w'.cell? ⟨w5.heap.size, o, none⟩ = w6.cell? ⟨w5.heap.size, o, none⟩))
    (first | with_reducible exact keep_b KD.out xba | with_reducible exact keep_b K8.out xba | with_reducible exact SX.out)
    (first
      | (go_at_call 33; (with_reducible refine (cint (a := o) (t32_live HT.out LD.out) (cells_of Rk_6.out KD.out) (by omega) (by omega) HO.out).mono ?_); rintro e w8 ⟨A8, c8, B8, d8, rfl, hd, he, hb⟩; (have K8 := bt KD hb); (have L8 := la2 LD hb hd he); clear hb hd he)
      | (go_at_call 24; (with_reducible refine (cdiv_zero (t := ⟨o, o⟩) (L8.out.get (A := A5) (c := c5) (xs := digs a.lo.1.natAbs) (by simp)) (L8.out.get (A := B5) (c := d5) (xs := digs a.hi.1.natAbs) (by simp)) Oa.out (L8.out.get (A := A8) (c := c8) (xs := digs o.1.natAbs) (by simp)) (L8.out.get (A := B8) (c := d8) (xs := digs o.1.natAbs) (by simp)) OO.out (cells_of Rk_6.out K8.out) ZZ.out).mono ?_); rintro e w9 ⟨rfl, ht, hr⟩; (have HTn := Lib.hid ht); (have HR := Lib.hid hr); (have SX := Lib.hid (show (∀ o, w9.cell? ⟨w5.heap.size, o, none⟩ = w6.cell? ⟨w5.heap.size, o, none⟩) from (fun o => (HTn.out.cells (Nat.lt_of_lt_of_le xba K8.out.size) Mba o).trans (keep_b K8.out xba o)))); clear ht hr))
  rename_i hHeld
  clear hHeld
  clear fba0 zba0 fba1 zba1 fba2 zba2 fba3 zba3 fba4 zba4 fba5 zba5 xba
  have Rx_9z := co Rx_6 K8.out
  have Ry_9z := co Ry_6 K8.out
  have Rk_9z := co Rk_6 K8.out
  have Rba_9z := co Rba_6 K8.out
  have L9 := Lib.hid (HTn.out.live L8.out Rk_9z.out noint_ca Gk)
  have Rx_9 := Lib.hid (HTn.out.row Rx_9z.out (by omega))
  have Ry_9 := Lib.hid (HTn.out.row Ry_9z.out (by omega))
  have Rk_9 := Lib.hid (show w9.heap[w2.heap.size]? = some (.cells #[.int .i64 3, .int .i64 50] 45 (0, 0)) from HR.out)
  have Rba_9 := Lib.hid (HTn.out.row Rba_9z.out (by omega))
  obtain ⟨fk0, zk0, fk1, zk1, xk⟩ := ly2 Rk_9.out
  go_wp2_with fail
  refine (ierr_any w2.heap.size 3 _ (row_c Rk_9.out (i := 0) rfl)).mono ?_
  rintro e w10 ⟨rfl, rfl⟩
  clear fk0 zk0 fk1 zk1 xk
  obtain ⟨fba0, zba0, fba1, zba1, fba2, zba2, fba3, zba3, fba4, zba4, fba5, zba5, xba⟩ := ly6 Rba_9.out
  go_wp2_with fail
  refine (cadd_held (L9.out.get (A := A5) (c := c5) (xs := digs a.lo.1.natAbs) (by simp)) (L9.out.get (A := B5) (c := d5) (xs := digs a.hi.1.natAbs) (by simp)) Oa.out (L9.out.get (A := A5) (c := c5) (xs := digs a.lo.1.natAbs) (by simp)) (L9.out.get (A := B5) (c := d5) (xs := digs a.hi.1.natAbs) (by simp)) Oa.out Rk_9.out (by omega)).mono ?_
  rintro e w11 ⟨rfl, hb⟩
  have L11 := ls L9 hb
  clear fba0 zba0 fba1 zba1 fba2 zba2 fba3 zba3 fba4 zba4 fba5 zba5 xba
  have Rx_11 := co Rx_9 hb
  have Ry_11 := co Ry_9 hb
  have Rk_11 := co Rk_9 hb
  have Rba_11 := co Rba_9 hb
  clear hb 
  go_wp2_with fail
  obtain ⟨w12, hW, hb, Rb1_12⟩ := new1 w11 (.cells #[.bool false, .slice none 0 0, .int .i64 0, .bool false, .slice none 0 0, .int .i64 0] 34)
  rw [← hW]
  have L12 := ls L11 hb
  have Rx_12 := co Rx_11 hb
  have Ry_12 := co Ry_11 hb
  have Rk_12 := co Rk_11 hb
  have Rba_12 := co Rba_11 hb
  have Gb1 := gl0 L11.out
  have Nxb1 := nl0 Rx_11.out
  have Nyb1 := nl0 Ry_11.out
  have Nkb1 := nl0 Rk_11.out
  have Nbab1 := nl0 Rba_11.out
  clear hW hb
  refine (int_held n 3 50 w2.heap.size _ (t32_live HT.out L12.out) Rk_12.out NN.out.1 NN.out.2 (by omega)).mono ?_
  rintro e w13 ⟨rfl, hb⟩
  have L13 := ls L12 hb
  have Rx_13 := co Rx_12 hb
  have Ry_13 := co Ry_12 hb
  have Rk_13 := co Rk_12 hb
  have Rba_13 := co Rba_12 hb
  have Rb1_13 := co Rb1_12 hb
  clear hb 
  obtain ⟨fba0, zba0, fba1, zba1, fba2, zba2, fba3, zba3, fba4, zba4, fba5, zba5, xba⟩ := ly6 Rba_13.out
  go_wp2_with fail
  obtain ⟨w14, hW, hb, Rb2_14⟩ := new1 w13 (.cells #[.bool false, .slice none 0 0, .int .i64 0, .bool false, .slice none 0 0, .int .i64 0] 34)
  rw [← hW]
  have L14 := ls L13 hb
  have Rx_14 := co Rx_13 hb
  have Ry_14 := co Ry_13 hb
  have Rk_14 := co Rk_13 hb
  have Rba_14 := co Rba_13 hb
  have Rb1_14 := co Rb1_13 hb
  have Gb2 := gl0 L13.out
  have Nxb2 := nl0 Rx_13.out
  have Nyb2 := nl0 Ry_13.out
  have Nkb2 := nl0 Rk_13.out
  have Nbab2 := nl0 Rba_13.out
  have Nb1b2 := nl0 Rb1_13.out
  clear hW hb
  clear fba0 zba0 fba1 zba1 fba2 zba2 fba3 zba3 fba4 zba4 fba5 zba5 xba
  refine (cneg_held (L14.out.get (A := A5) (c := c5) (xs := digs a.lo.1.natAbs) (by simp)) (L14.out.get (A := B5) (c := d5) (xs := digs a.hi.1.natAbs) (by simp)) Oa.out Rk_14.out (by omega)).mono ?_
  rintro e w15 ⟨rfl, hb⟩
  have L15 := ls L14 hb
  have Rx_15 := co Rx_14 hb
  have Ry_15 := co Ry_14 hb
  have Rk_15 := co Rk_14 hb
  have Rba_15 := co Rba_14 hb
  have Rb1_15 := co Rb1_14 hb
  have Rb2_15 := co Rb2_14 hb
  clear hb 
  go_wp2_with fail
  refine (csqrt_zero_held Rk_15.out (by omega)).mono ?_
  rintro e w16 ⟨rfl, hb⟩
  have L16 := ls L15 hb
  have Rx_16 := co Rx_15 hb
  have Ry_16 := co Ry_15 hb
  have Rk_16 := co Rk_15 hb
  have Rba_16 := co Rba_15 hb
  have Rb1_16 := co Rb1_15 hb
  have Rb2_16 := co Rb2_15 hb
  clear hb 
  go_wp2_with fail
  obtain ⟨w17, hW, hb, Rb3_17⟩ := new1 w16 (.cells #[.bool false, .slice none 0 0, .int .i64 0, .bool false, .slice none 0 0, .int .i64 0] 34)
  rw [← hW]
  have L17 := ls L16 hb
  have Rx_17 := co Rx_16 hb
  have Ry_17 := co Ry_16 hb
  have Rk_17 := co Rk_16 hb
  have Rba_17 := co Rba_16 hb
  have Rb1_17 := co Rb1_16 hb
  have Rb2_17 := co Rb2_16 hb
  have Gb3 := gl0 L16.out
  have Nxb3 := nl0 Rx_16.out
  have Nyb3 := nl0 Ry_16.out
  have Nkb3 := nl0 Rk_16.out
  have Nbab3 := nl0 Rba_16.out
  have Nb1b3 := nl0 Rb1_16.out
  have Nb2b3 := nl0 Rb2_16.out
  clear hW hb
  refine (hull0_held 3 50 w2.heap.size _ Rk_17.out (by omega)).mono ?_
  rintro e w18 ⟨rfl, hb⟩
  have L18 := ls L17 hb
  have Rx_18 := co Rx_17 hb
  have Ry_18 := co Ry_17 hb
  have Rk_18 := co Rk_17 hb
  have Rba_18 := co Rba_17 hb
  have Rb1_18 := co Rb1_17 hb
  have Rb2_18 := co Rb2_17 hb
  have Rb3_18 := co Rb3_17 hb
  clear hb 
  obtain ⟨fba0, zba0, fba1, zba1, fba2, zba2, fba3, zba3, fba4, zba4, fba5, zba5, xba⟩ := ly6 Rba_18.out
  go_wp2_with fail
  refine (cmid_held (L18.out.get (A := A5) (c := c5) (xs := digs a.lo.1.natAbs) (by simp)) (L18.out.get (A := B5) (c := d5) (xs := digs a.hi.1.natAbs) (by simp)) Oa.out Rk_18.out (by omega)).mono ?_
  rintro e w19 ⟨rfl, hb⟩
  have L19 := ls L18 hb
  clear fba0 zba0 fba1 zba1 fba2 zba2 fba3 zba3 fba4 zba4 fba5 zba5 xba
  have Rx_19 := co Rx_18 hb
  have Ry_19 := co Ry_18 hb
  have Rk_19 := co Rk_18 hb
  have Rba_19 := co Rba_18 hb
  have Rb1_19 := co Rb1_18 hb
  have Rb2_19 := co Rb2_18 hb
  have Rb3_19 := co Rb3_18 hb
  clear hb 
  obtain ⟨fb10, zb10, fb11, zb11, fb12, zb12, fb13, zb13, fb14, zb14, fb15, zb15, xb1⟩ := ly6 Rb1_19.out
  go_wp2_with fail
  obtain ⟨w20, hW, hb, Rm_20, Rz_20⟩ := new2 w19 (.cells #[.bool false, .slice none 0 0, .int .i64 0] 26) (.cells #[.bool false, .slice none 0 0, .int .i64 0, .bool false, .slice none 0 0, .int .i64 0] 34)
  rw [← hW]
  have L20 := ls L19 hb
  have Rx_20 := co Rx_19 hb
  have Ry_20 := co Ry_19 hb
  have Rk_20 := co Rk_19 hb
  have Rba_20 := co Rba_19 hb
  have Rb1_20 := co Rb1_19 hb
  have Rb2_20 := co Rb2_19 hb
  have Rb3_20 := co Rb3_19 hb
  have Gm := gl0 L19.out
  have Nxm := nl0 Rx_19.out
  have Nym := nl0 Ry_19.out
  have Nkm := nl0 Rk_19.out
  have Nbam := nl0 Rba_19.out
  have Nb1m := nl0 Rb1_19.out
  have Nb2m := nl0 Rb2_19.out
  have Nb3m := nl0 Rb3_19.out
  have Gz := gl1 L19.out
  have Nxz := nl1 Rx_19.out
  have Nyz := nl1 Ry_19.out
  have Nkz := nl1 Rk_19.out
  have Nbaz := nl1 Rba_19.out
  have Nb1z := nl1 Rb1_19.out
  have Nb2z := nl1 Rb2_19.out
  have Nb3z := nl1 Rb3_19.out
  have Nmz : w19.heap.size < w19.heap.size + 1 := by omega
  clear hW hb
  clear fb10 zb10 fb11 zb11 fb12 zb12 fb13 zb13 fb14 zb14 fb15 zb15 xb1
  refine (same_zz _).mono ?_
  rintro e w21 ⟨rfl, hb⟩
  have L21 := ls L20 hb
  have Rx_21 := co Rx_20 hb
  have Ry_21 := co Ry_20 hb
  have Rk_21 := co Rk_20 hb
  have Rba_21 := co Rba_20 hb
  have Rb1_21 := co Rb1_20 hb
  have Rb2_21 := co Rb2_20 hb
  have Rb3_21 := co Rb3_20 hb
  have Rm_21 := co Rm_20 hb
  have Rz_21 := co Rz_20 hb
  clear hb 
  obtain ⟨fb20, zb20, fb21, zb21, fb22, zb22, fb23, zb23, fb24, zb24, fb25, zb25, xb2⟩ := ly6 Rb2_21.out
  obtain ⟨fz0, zz0, fz1, zz1, fz2, zz2, fz3, zz3, fz4, zz4, fz5, zz5, xz⟩ := ly6 Rz_21.out
  go_wp2_with fail
  refine (same_zz _).mono ?_
  rintro e w22 ⟨rfl, hb⟩
  have L22 := ls L21 hb
  clear fb20 zb20 fb21 zb21 fb22 zb22 fb23 zb23 fb24 zb24 fb25 zb25 xb2 fz0 zz0 fz1 zz1 fz2 zz2 fz3 zz3 fz4 zz4 fz5 zz5 xz
  have Rx_22 := co Rx_21 hb
  have Ry_22 := co Ry_21 hb
  have Rk_22 := co Rk_21 hb
  have Rba_22 := co Rba_21 hb
  have Rb1_22 := co Rb1_21 hb
  have Rb2_22 := co Rb2_21 hb
  have Rb3_22 := co Rb3_21 hb
  have Rm_22 := co Rm_21 hb
  have Rz_22 := co Rz_21 hb
  clear hb 
  obtain ⟨fb30, zb30, fb31, zb31, fb32, zb32, fb33, zb33, fb34, zb34, fb35, zb35, xb3⟩ := ly6 Rb3_22.out
  obtain ⟨fz0, zz0, fz1, zz1, fz2, zz2, fz3, zz3, fz4, zz4, fz5, zz5, xz⟩ := ly6 Rz_22.out
  go_wp2_with fail
  refine (same_zz _).mono ?_
  rintro e w23 ⟨rfl, hb⟩
  have L23 := ls L22 hb
  clear fb30 zb30 fb31 zb31 fb32 zb32 fb33 zb33 fb34 zb34 fb35 zb35 xb3 fz0 zz0 fz1 zz1 fz2 zz2 fz3 zz3 fz4 zz4 fz5 zz5 xz
  have Rx_23 := co Rx_22 hb
  have Ry_23 := co Ry_22 hb
  have Rk_23 := co Rk_22 hb
  have Rba_23 := co Rba_22 hb
  have Rb1_23 := co Rb1_22 hb
  have Rb2_23 := co Rb2_22 hb
  have Rb3_23 := co Rb3_22 hb
  have Rm_23 := co Rm_22 hb
  have Rz_23 := co Rz_22 hb
  clear hb 
  obtain ⟨fk0, zk0, fk1, zk1, xk⟩ := ly2 Rk_23.out
  obtain ⟨fm0, zm0, fm1, zm1, fm2, zm2, xm⟩ := ly3 Rm_23.out
  go_wp2_with fail
  refine (ierr_any w2.heap.size 3 _ (row_c Rk_23.out (i := 0) rfl)).mono ?_
  rintro e w24 ⟨rfl, rfl⟩
  clear fk0 zk0 fk1 zk1 xk fm0 zm0 fm1 zm1 fm2 zm2 xm
  obtain ⟨fm0, zm0, fm1, zm1, fm2, zm2, xm⟩ := ly3 Rm_23.out
  obtain ⟨fk0, zk0, fk1, zk1, xk⟩ := ly2 Rk_23.out
  go_wp2_with fail
  refine (cmp_zz _).mono ?_
  rintro e w25 ⟨rfl, hb⟩
  have L25 := ls L23 hb
  clear fm0 zm0 fm1 zm1 fm2 zm2 xm fk0 zk0 fk1 zk1 xk
  have Rx_25 := co Rx_23 hb
  have Ry_25 := co Ry_23 hb
  have Rk_25 := co Rk_23 hb
  have Rba_25 := co Rba_23 hb
  have Rb1_25 := co Rb1_23 hb
  have Rb2_25 := co Rb2_23 hb
  have Rb3_25 := co Rb3_23 hb
  have Rm_25 := co Rm_23 hb
  have Rz_25 := co Rz_23 hb
  clear hb 
  go_wp2
  go_ret
  exact ⟨rfl, L25.out.1⟩
end Go.Proofs.YtijodbjdajddoaaGreatDoor
end

section
namespace Go.Proofs.YtijodbjdajddoaaGreatDoor.ivStays
open Go Go.ChangeShapes Go.WideShapes Go.ChangeAt Go.RowKit
set_option linter.unusedVariables false
/-- The door's own heap meets the condition. -/
theorem door_met (os : Os) (args : Array Value) : laidMetH Tryz.prog Rows.ivStaysRow.laid ((World.doorLaid Tryz.prog 400 os).forCall (fun _ _ => 0) ⟨#[], args, []⟩).memory :=
  laidMetH_of_parts3 (fuel := 8) (laidMet_of_run' 8 (by kernel_rfl) (by kernel_rfl)) (by kernel_rfl) (by kernel_rfl)
set_option maxRecDepth 100000 in
theorem lifted (os : Os) (started : os.Started) (H : Type) (enc : TypeId × Value → H) :
    ReturnsInHanded {} Tryz.checked os 6 .any (fun w args => (Rows.ivStaysSpec.pre enc Tryz.prog Tryz.f6 [] false w args ∧ laidMetH Tryz.prog Rows.ivStaysRow.laid w) ∧ sizedMet enc Tryz.prog Tryz.f6 (OpenSpec.ofChange Rows.ivStaysSpec) false w args)
      (Rows.ivStaysSpec.post enc Tryz.prog Tryz.f6 false true false false) := by
  refine returnsInHanded_of_change_and (C := Tryz.checked) (X := fun w _ => laidMetH Tryz.prog Rows.ivStaysRow.laid w) (fun _ _ _ hh h => h.of_heap hh) own started (by kernel_rfl) Tryz.func6
    (ChangeSpec.witness_shaped (enc := enc) (C := Tryz.checked) (os := os) (X := fun w _ => laidMetH Tryz.prog Rows.ivStaysRow.laid w) false (World.doorLaid Tryz.prog 400 os) #[.agg #[.bool false, .slice none 0 0, .int .i64 0], .agg #[.bool false, .slice none 0 0, .int .i64 0], .int .i64 0] 8 rfl (World.shaped_of_RefB (by kernel_rfl) (by kernel_rfl)) (by kernel_rfl) (by kernel_rfl) (by kernel_rfl) (door_met os _)) ?_
  intro W base args ds gs before hval0 hW _ _ hL _
  rw [MakeChecks.laidMetH_plain _ _ _ (by kernel_rfl)] at hL
  have htab := t32_laid hL
  clear hL
  have hval : ∀ (j : Nat) t v, Tryz.f6.params[j]? = some t → args[j]? = some v → Value.okWide Tryz.prog W .any base t v := hval0
  have hW' := hW
  obtain ⟨p, q, hA0, hV, rfl, hfz, hnd⟩ := hW
  have hA : DataW.TrodAll enc Tryz.prog W 0 (fun _ => true) true Tryz.f6.params.toList args.toList ds p := hA0
  rw [Tryz.params6] at hA hval
  obtain ⟨v0, vs0, d0, ds0, p0, q0, hargs, rfl, rfl, h0, r0⟩ := trodAll_cons hA
  obtain ⟨v1, vs1, d1, ds1, p1, q1, rfl, rfl, rfl, h1, r1⟩ := trodAll_cons r0
  obtain ⟨v2, vs2, d2, ds2, p2, q2, rfl, rfl, rfl, h2, r2⟩ := trodAll_cons r1
  obtain ⟨rfl, rfl, rfl⟩ := trodAll_nil r2
  obtain rfl : args = #[v0, v1, v2] := by cases args; simp_all
  obtain ⟨rfl, rfl⟩ := trodVars_none hV
  obtain ⟨s0, A0, c0, xs0, x0, rfl, g0, l0, x00, x01⟩ := open_d (hval 0 _ _ rfl rfl) h0
  obtain ⟨s1, A1, c1, xs1, x1, rfl, g1, l1, x10, x11⟩ := open_d (hval 1 _ _ rfl rfl) h1
  obtain ⟨a2, rfl, e2, e2', g2⟩ := open_int Tryz.underlying3 (hval 2 _ _ rfl rfl) h2
  clear hA0
  simp only [List.append_nil] at hW'
  refine (ivStays_any A0 c0 s0 xs0 x0 A1 c1 s1 xs1 x1 a2 W g0 l0 x00 x01 g1 l1 x10 x11 (i64_lo g2) (i64_hi g2) htab).mono fun e W' ⟨he, hb⟩ => ?_
  subst he
  have hlt := hW'.lt
  refine ⟨_, rfl, law_post (tb := 4) hW' hb rfl rfl Tryz.underlying4 rfl rfl fun sp hsp => ?_⟩
  have hr := trodAll_cons_mk (again (by kernel_rfl) (of_decide_eq_true (by kernel_rfl)) h0 hb (fun x hx => hlt x (by simp [hx])) sp (fun x hx => hsp x (by simp [hx]))) (trodAll_cons_mk (again (by kernel_rfl) (of_decide_eq_true (by kernel_rfl)) h1 hb (fun x hx => hlt x (by simp [hx])) sp (fun x hx => hsp x (by simp [hx]))) (trodAll_cons_mk (again (by kernel_rfl) (of_decide_eq_true (by kernel_rfl)) h2 hb (fun x hx => hlt x (by simp [hx])) sp (fun x hx => hsp x (by simp [hx]))) trodAll_mk0))
  simp only [List.append_nil] at hr
  exact hr
theorem row_holds : Rows.IvStaysSaid :=
  OpenClaim.holds_of_wide 6 Tryz.f6 rfl rfl rfl rfl rfl rfl rfl ⟨rfl, rfl, rfl, rfl, rfl⟩ rfl rfl rfl rfl rfl (by kernel_rfl) Tryz.func6 (by kernel_rfl)
    (of_decide_eq_true (by kernel_rfl)) (by unfold Func.isWrapper; first | (rw [if_pos (by decide +kernel)]; kernel_rfl) | (rw [if_neg (by decide +kernel)]; exact ⟨rfl, rfl⟩))
    (fun os started H enc _ => lifted os started H enc)
/-- THE TIED CARD. -/
theorem proved : Rows.IvStaysCardSaid :=
  Claim7.holds_tied_plain_at .later [] [.data] true (true, "ce2d7296bee61de3211586e1632cf2a6cfe767e426ec5d84453dd9d1173b67cd") false
    row_holds (fun _ h => by cases h) (by kernel_rfl) (fun _ h => by cases h) ivStays_row_tie rfl ⟨rfl, rfl⟩ (by kernel_rfl) rfl
    (fun f fn hf hfn => by
      obtain rfl : f = 6 := Option.some.inj ((show Tryz.prog.funcNamed Rows.ivStaysRow.func = some 6 by kernel_rfl).symm.trans hf) |>.symm
      obtain rfl : fn = Tryz.f6 := (Option.some.inj (Tryz.func6.symm.trans hfn)).symm
      exact ⟨by kernel_rfl, fun j t ht => by
        have hall : (Tryz.f6.params.toList.all fun u => !Tryz.prog.wantsStandIn u) = true := by kernel_rfl
        exact (show Tryz.prog.wantsStandIn t = false by simpa using List.all_eq_true.1 hall t (Array.mem_toList_iff.2 (Array.mem_of_getElem? ht)))⟩)
    (by kernel_rfl)
end Go.Proofs.YtijodbjdajddoaaGreatDoor.ivStays
end
