import Derived.Test.YtijodbjdajddoaaGreatDoorMB5
import Derived.Test.YtijodbjdajddoaaGreatDoorMB3
import Derived.Test.YtijodbjdajddoaaGreatDoorMB4
import Derived.Test.YtijodbjdajddoaaGreatDoorMB6
import Derived.Test.YtijodbjdajddoaaGreatDoorTie
import Derived.Test.YtijodbjdajddoaaGreatDoorCards
import Derived.SevenTiedAt
import Derived.OpenShut
import Derived.ChangeMaps5
section
namespace Go.Proofs.YtijodbjdajddoaaGreatDoor
open Go.RowKit
set_option linter.unusedSimpArgs false
set_option linter.unusedVariables false
/-- All blocks that there were are as they were, but for g. -/
structure Tn (g : Nat) (w w' : World) : Prop where
  os : w'.os = w.os
  tape : w'.tape = w.tape
  output : w'.output = w.output
  size : w.heap.size ≤ w'.heap.size
  block : ∀ k, k < w.heap.size → k ≠ g → w'.heap[k]? = w.heap[k]?
theorem Tn.below {g : Nat} {w x y : World} (h : Tn g w x) (hb : Below x.heap.size x y) : Tn g w y :=
  ⟨hb.os.trans h.os, hb.tape.trans h.tape, hb.output.trans h.output, Nat.le_trans h.size hb.size, fun k hk hg => (hb.block k (Nat.lt_of_lt_of_le hk h.size)).trans (h.block k hk hg)⟩
theorem Tn.of {g : Nat} {w u : World} (hb : Below w.heap.size w u) : Tn g w u := ⟨hb.os, hb.tape, hb.output, hb.size, fun k hk _ => hb.block k hk⟩
theorem Tn.only {g : Nat} {w x y : World} (h : Tn g w x) (ho : Only g x y) : Tn g w y :=
  ⟨ho.os.trans h.os, ho.tape.trans h.tape, ho.output.trans h.output, by rw [ho.size]; exact h.size, fun k hk hg => (ho.block k hg).trans (h.block k hk hg)⟩
theorem Tn.far {g r : Nat} {w x y : World} (h : Tn g w x) (ho : Only r x y) (hr : w.heap.size ≤ r) : Tn g w y :=
  ⟨ho.os.trans h.os, ho.tape.trans h.tape, ho.output.trans h.output, by rw [ho.size]; exact h.size, fun k hk hg => (ho.block k (by omega)).trans (h.block k hk hg)⟩
theorem Tn.trans {g : Nat} {w x y : World} (h : Tn g w x) (k : Tn g x y) : Tn g w y :=
  ⟨k.os.trans h.os, k.tape.trans h.tape, k.output.trans h.output, Nat.le_trans h.size k.size, fun i hi hg => (k.block i (Nat.lt_of_lt_of_le hi h.size) hg).trans (h.block i hi hg)⟩
theorem Tn.row {g b : Nat} {w w' : World} {o : Obj} (h : Tn g w w') (hr : w.heap[b]? = some o) (hn : b ≠ g) : w'.heap[b]? = some o := (h.block b (heap_lt hr) hn).trans hr
theorem noint_ca {a b : Int} : ∀ (o : Nat) (n : Int), (#[Value.int .i64 a, .int .i64 b])[o]? ≠ some (.int .u32 n) := by
  intro o m; rcases o with _ | _ | o <;> simp
theorem Tn.kept {g : Nat} {w w' : World} {zs : Array Value} {T : TypeId} {fr : Nat × Nat} (h : Tn g w w') (hg : w.heap[g]? = some (.cells zs T fr)) (hz : ∀ (i : Nat) (n : Int), zs[i]? ≠ some (.int .u32 n)) : Kept w w' := by
  refine ⟨h.size, fun b o n e => ?_⟩
  by_cases hb : b = g
  · subst hb
    rw [cell_of_row _ _ _ _ _ _ hg] at e
    exact absurd e (hz _ _)
  · have hl := cell_lt e
    have := h.block b hl hb
    rw [← e]
    simp only [World.cell?, this]
theorem Tn.live {g : Nat} {w v v' : World} {L : List (Option Addr × Nat × List Nat)} {zs : Array Value} {T : TypeId} {fr : Nat × Nat} (h : Tn g v v') (hL : Live w v L) (hg : v.heap[g]? = some (.cells zs T fr)) (hz : ∀ (i : Nat) (n : Int), zs[i]? ≠ some (.int .u32 n)) (h0 : w.heap.size ≤ g) : Live w v' L :=
  ⟨⟨h.os.trans hL.1.os, h.tape.trans hL.1.tape, h.output.trans hL.1.output, Nat.le_trans hL.1.size h.size, fun k hk => (h.block k (Nat.lt_of_lt_of_le hk hL.1.size) (by omega)).trans (hL.1.block k hk)⟩, fun t ht => (hL.2 t ht).kept (h.kept hg hz)⟩
theorem t32_tn {g : Nat} {w w' : World} {z P : Int} {T : TypeId} (h : T32 w) (ht : Tn g w w') (hg : w.heap[g]? = some (.cells #[.int .i64 z, .int .i64 P] T (0, 0))) : T32 w' := by
  have h0 := t32_cell h 0 (by omega)
  have hn : (0 : Nat) ≠ g := by
    intro e
    subst e
    rw [cell_of_row _ _ _ _ _ _ hg] at h0
    simp at h0
  unfold T32 Lib.TabIs World.var? at *
  rw [g32] at *
  simp only [Option.bind_some] at h ⊢
  rw [ht.block 0 (cell_lt h0) hn]
  exact h
/-- A call that has set the calculator's error: what it hands back. -/
def Sx (z P : Int) (g : Nat) (v : Value) (w : World) (e : Ending) (w' : World) : Prop := e = .returned v ∧ Tn g w w' ∧ w'.heap[g]? = some (.cells #[.int .i64 z, .int .i64 P] 45 (0, 0))

set_option maxHeartbeats 4000000 in
set_option maxRecDepth 100000 in
theorem ans_held (A B : Option Addr) (c d : Nat) (m x n y z P : Int) (g : Nat) (w : World) (hk : w.heap[g]? = some (.cells #[.int .i64 z, .int .i64 P] 45 (0, 0))) (hz : z ≠ 0):
    Calls Tryz.prog 58 #[.pointer (some ⟨g, 0, none⟩), .agg #[.bool (decide (m < 0)), .slice A (digs m.natAbs).length c, .int .i64 x], .agg #[.bool (decide (n < 0)), .slice B (digs n.natAbs).length d, .int .i64 y]] w fun e w' => e = .returned (.agg #[.bool false, .slice none 0 0, .int .i64 0, .bool false, .slice none 0 0, .int .i64 0]) ∧ Below w.heap.size w w' := by
  have d0 : (z == 0) = false := by simpa using hz
  have d1 : (z != 0) = true := by simpa using hz
  have L0 := Lib.hid (live_start w)
  have Rk_0 := Lib.hid hk
  clear hk
  clear hz
  go_enter Tryz.func58, Tryz.ntmps58
  go_upto_region 1 with fail
  obtain ⟨v1, hW, hb, Rx_1, Ry_1, Rr_1⟩ := new3 w (.cells #[.bool (decide (m < 0)), .slice A (digs m.natAbs).length c, .int .i64 x] 26) (.cells #[.bool (decide (n < 0)), .slice B (digs n.natAbs).length d, .int .i64 y] 26) (.cells #[.bool false, .slice none 0 0, .int .i64 0, .bool false, .slice none 0 0, .int .i64 0] 34)
  rw [← hW]
  have L1 := ls L0 hb
  have Rk_1 := co Rk_0 hb
  have Gx := gl0 L0.out
  have Nkx := nl0 Rk_0.out
  have Gy := gl1 L0.out
  have Nky := nl1 Rk_0.out
  have Nxy : w.heap.size < w.heap.size + 1 := by omega
  have Gr := gl2 L0.out
  have Nkr := nl2 Rk_0.out
  have Nxr : w.heap.size < w.heap.size + 1 + 1 := by omega
  have Nyr : w.heap.size + 1 < w.heap.size + 1 + 1 := by omega
  clear hW hb
  obtain ⟨fk0, zk0, fk1, zk1, xk⟩ := ly2 Rk_1.out
  obtain ⟨fr0, zr0, fr1, zr1, fr2, zr2, fr3, zr3, fr4, zr4, fr5, zr5, xr⟩ := ly6 Rr_1.out
  go_wp2
  refine bodyPost_ret (v := .agg #[.bool false, .slice none 0 0, .int .i64 0, .bool false, .slice none 0 0, .int .i64 0]) (by simp [results, Tryz.results58, go_sem, fk0, fk1, fr0, fr1, fr2, fr3, fr4, fr5]) rfl ?_
  exact ⟨rfl, (fin6 L1.out Rr_1.out noint_iv Gr).1⟩

set_option maxHeartbeats 4000000 in
set_option maxRecDepth 100000 in
theorem got_held (A : Option Addr) (c : Nat) (m x t z P : Int) (g : Nat) (w : World) (h : Dg w A c (digs m.natAbs)) (hk : w.heap[g]? = some (.cells #[.int .i64 z, .int .i64 P] 45 (0, 0))) (hz : z ≠ 0):
    Calls Tryz.prog 54 #[.pointer (some ⟨g, 0, none⟩), .agg #[.bool (decide (m < 0)), .slice A (digs m.natAbs).length c, .int .i64 x], .int .i64 t] w fun e w' => Yr m x w e w' := by
  have HZ := Lib.hid hz
  have L0 := Lib.hid ((live_start w).add h)
  have Rk_0 := Lib.hid hk
  clear hk
  clear h hz
  go_enter Tryz.func54, Tryz.ntmps54
  go_wp2_with fail
  obtain ⟨v1, hW, hb, Rx_1, Rr_1⟩ := new2 w (.cells #[.bool (decide (m < 0)), .slice A (digs m.natAbs).length c, .int .i64 x] 26) (.cells #[.bool false, .slice none 0 0, .int .i64 0] 26)
  rw [← hW]
  have L1 := ls L0 hb
  have Rk_1 := co Rk_0 hb
  have Gx := gl0 L0.out
  have Nkx := nl0 Rk_0.out
  have Gr := gl1 L0.out
  have Nkr := nl1 Rk_0.out
  have Nxr : w.heap.size < w.heap.size + 1 := by omega
  clear hW hb
  refine (note_held g _ t z _ (row_c Rk_1.out (i := 0) rfl) HZ.out).mono ?_
  rintro e w2 ⟨rfl, rfl⟩
  obtain ⟨fx0, zx0, fx1, zx1, fx2, zx2, xx⟩ := ly3 Rx_1.out
  obtain ⟨fr0, zr0, fr1, zr1, fr2, zr2, xr⟩ := ly3 Rr_1.out
  go_wp2
  refine bodyPost_ret (v := .agg #[.bool (decide (m < 0)), .slice A (digs m.natAbs).length c, .int .i64 x]) (by simp [results, Tryz.results54, go_sem, fx0, fx1, fx2, fr0, fr1, fr2]) rfl ?_
  
  refine ⟨A, c, rfl, ?_, ?_⟩
  · exact (fin3 L1.out Rr_1.out noint3 Gr).get (A := A) (c := c) (xs := digs m.natAbs) (by simp)
  · exact (fin3 L1.out Rr_1.out noint3 Gr).1
end Go.Proofs.YtijodbjdajddoaaGreatDoor
end

section
namespace Go.Proofs.YtijodbjdajddoaaGreatDoor
open Go.RowKit
set_option linter.unusedSimpArgs false
set_option linter.unusedVariables false
theorem keep_set1 {W w' : World} {g r i : Nat} {q v : Value} (h : w'.cell? ⟨g, 1, none⟩ = some q) (hne : g ≠ r) : (w'.setCell ⟨r, i, none⟩ v).cell? ⟨g, 1, none⟩ = some q := by
  rw [World.cell?_setCell_other _ _ _ _ (by intro e; simp only [Addr.mk.injEq] at e; omega)]; exact h
theorem Tn.cells {g b : Nat} {w w' : World} (h : Tn g w w') (hb : b < w.heap.size) (hn : b ≠ g) : ∀ o, w'.cell? ⟨b, o, none⟩ = w.cell? ⟨b, o, none⟩ := fun o => by
  simp only [World.cell?, h.block b hb hn]
theorem only6 (r : Nat) (t : World) (a b c d e f : Value) : Only r t ((((((t.setCell ⟨r, 0, none⟩ a).setCell ⟨r, 1, none⟩ b).setCell ⟨r, 2, none⟩ c).setCell ⟨r, 3, none⟩ d).setCell ⟨r, 4, none⟩ e).setCell ⟨r, 5, none⟩ f) :=
  ((((((Only.refl r t).setCell 0 _).setCell 1 _).setCell 2 _).setCell 3 _).setCell 4 _).setCell 5 _
theorem only3 (r : Nat) (t : World) (a b c : Value) : Only r t (((t.setCell ⟨r, 0, none⟩ a).setCell ⟨r, 1, none⟩ b).setCell ⟨r, 2, none⟩ c) := (((Only.refl r t).setCell 0 _).setCell 1 _).setCell 2 _
theorem far6 {g r : Nat} {w t : World} {o : Obj} (h : Tn g w t) (hg : t.heap[g]? = some o) (hr : w.heap.size ≤ r) (hn : g < r) (a b c d e f : Value) :
    Tn g w ((((((t.setCell ⟨r, 0, none⟩ a).setCell ⟨r, 1, none⟩ b).setCell ⟨r, 2, none⟩ c).setCell ⟨r, 3, none⟩ d).setCell ⟨r, 4, none⟩ e).setCell ⟨r, 5, none⟩ f) ∧
    ((((((t.setCell ⟨r, 0, none⟩ a).setCell ⟨r, 1, none⟩ b).setCell ⟨r, 2, none⟩ c).setCell ⟨r, 3, none⟩ d).setCell ⟨r, 4, none⟩ e).setCell ⟨r, 5, none⟩ f).heap[g]? = some o :=
  ⟨h.far (only6 _ _ _ _ _ _ _ _) hr, ((only6 _ _ _ _ _ _ _ _).block g (by omega)).trans hg⟩
theorem far3 {g r : Nat} {w t : World} {o : Obj} (h : Tn g w t) (hg : t.heap[g]? = some o) (hr : w.heap.size ≤ r) (hn : g < r) (a b c : Value) :
    Tn g w (((t.setCell ⟨r, 0, none⟩ a).setCell ⟨r, 1, none⟩ b).setCell ⟨r, 2, none⟩ c) ∧ (((t.setCell ⟨r, 0, none⟩ a).setCell ⟨r, 1, none⟩ b).setCell ⟨r, 2, none⟩ c).heap[g]? = some o :=
  ⟨h.far (only3 _ _ _ _ _) hr, ((only3 _ _ _ _ _).block g (by omega)).trans hg⟩

set_option maxHeartbeats 4000000 in
set_option maxRecDepth 100000 in
theorem div_zero (A B A' B' : Option Addr) (c d c' d' : Nat) (m x n y m' x' n' y' P : Int) (g : Nat) (w : World) (h : Dg w A c (digs m.natAbs)) (h' : Dg w B d (digs n.natAbs)) (hl : (digs m.natAbs).length ≤ 10000) (hl' : (digs n.natAbs).length ≤ 10000) (r1 : Rt m x) (r2 : Rt n y) (ho : dv m x ≤ dv n y) (k : Dg w A' c' (digs m'.natAbs)) (k' : Dg w B' d' (digs n'.natAbs)) (kl : (digs m'.natAbs).length ≤ 10000) (kl' : (digs n'.natAbs).length ≤ 10000) (s1 : Rt m' x') (s2 : Rt n' y') (ko : dv m' x' ≤ dv n' y') (hk : w.heap[g]? = some (.cells #[.int .i64 0, .int .i64 P] 45 (0, 0))) (h0 : decide (dv m' x' ≤ 0 ∧ 0 ≤ dv n' y') = true):
    Calls Tryz.prog 24 #[.pointer (some ⟨g, 0, none⟩), .agg #[.bool (decide (m < 0)), .slice A (digs m.natAbs).length c, .int .i64 x, .bool (decide (n < 0)), .slice B (digs n.natAbs).length d, .int .i64 y], .agg #[.bool (decide (m' < 0)), .slice A' (digs m'.natAbs).length c', .int .i64 x', .bool (decide (n' < 0)), .slice B' (digs n'.natAbs).length d', .int .i64 y']] w fun e w' => Sx 3 P g (.agg #[.bool false, .slice none 0 0, .int .i64 0, .bool false, .slice none 0 0, .int .i64 0]) w e w' := by
  have HR1 := Lib.hid r1
  have HR2 := Lib.hid r2
  have lx := Lib.hid hl
  have ly := Lib.hid hl'
  have HO := Lib.hid ho
  have HS1 := Lib.hid s1
  have HS2 := Lib.hid s2
  have kx := Lib.hid kl
  have ky := Lib.hid kl'
  have KO := Lib.hid ko
  have H0 := Lib.hid h0
  have L0 := Lib.hid (((((live_start w).add h).add h').add k).add k')
  have Rk_0 := Lib.hid hk
  have HLk := Lib.hid (heap_lt hk)
  clear hk
  clear h h' hl hl' r1 r2 ho k k' kl kl' s1 s2 ko h0
  go_enter Tryz.func24, Tryz.ntmps24
  go_upto_region 1 with fail
  obtain ⟨v1, hW, hb, Ri_1, Rj_1, Rr_1⟩ := new3 w (.cells #[.bool (decide (m < 0)), .slice A (digs m.natAbs).length c, .int .i64 x, .bool (decide (n < 0)), .slice B (digs n.natAbs).length d, .int .i64 y] 34) (.cells #[.bool (decide (m' < 0)), .slice A' (digs m'.natAbs).length c', .int .i64 x', .bool (decide (n' < 0)), .slice B' (digs n'.natAbs).length d', .int .i64 y'] 34) (.cells #[.bool false, .slice none 0 0, .int .i64 0, .bool false, .slice none 0 0, .int .i64 0] 34)
  rw [← hW]
  have L1 := ls L0 hb
  have Rk_1 := co Rk_0 hb
  have Gi := gl0 L0.out
  have Nki := nl0 Rk_0.out
  have Gj := gl1 L0.out
  have Nkj := nl1 Rk_0.out
  have Nij : w.heap.size < w.heap.size + 1 := by omega
  have Gr := gl2 L0.out
  have Nkr := nl2 Rk_0.out
  have Nir : w.heap.size < w.heap.size + 1 + 1 := by omega
  have Njr : w.heap.size + 1 < w.heap.size + 1 + 1 := by omega
  clear hW hb
  obtain ⟨fi0, zi0, fi1, zi1, fi2, zi2, fi3, zi3, fi4, zi4, fi5, zi5, xi⟩ := ly6 Ri_1.out
  obtain ⟨fj0, zj0, fj1, zj1, fj2, zj2, fj3, zj3, fj4, zj4, fj5, zj5, xj⟩ := ly6 Rj_1.out
  go_wp2_with fail
  obtain ⟨w2, hW, hb, Rsl_2⟩ := new1 v1 (.cells #[.bool (decide (m < 0)), .slice A (digs m.natAbs).length c, .int .i64 x, .bool (decide (n < 0)), .slice B (digs n.natAbs).length d, .int .i64 y, .bool (decide (m' < 0)), .slice A' (digs m'.natAbs).length c', .int .i64 x', .bool (decide (n' < 0)), .slice B' (digs n'.natAbs).length d', .int .i64 y'] 34)
  rw [← hW]
  have L2 := ls L1 hb
  have Rk_2 := co Rk_1 hb
  have Ri_2 := co Ri_1 hb
  have Rj_2 := co Rj_1 hb
  have Rr_2 := co Rr_1 hb
  have Gsl := gl0 L1.out
  have Nksl := nl0 Rk_1.out
  have Nisl := nl0 Ri_1.out
  have Njsl := nl0 Rj_1.out
  have Nrsl := nl0 Rr_1.out
  clear hW hb
  clear fi0 zi0 fi1 zi1 fi2 zi2 fi3 zi3 fi4 zi4 fi5 zi5 xi fj0 zj0 fj1 zj1 fj2 zj2 fj3 zj3 fj4 zj4 fj5 zj5 xj
  refine (takes_2 Rk_2.out Rsl_2.out (L2.out.get (A := A) (c := c) (xs := digs m.natAbs) (by simp)) (L2.out.get (A := B) (c := d) (xs := digs n.natAbs) (by simp)) lx.out ly.out HR1.out HR2.out HO.out (L2.out.get (A := A') (c := c') (xs := digs m'.natAbs) (by simp)) (L2.out.get (A := B') (c := d') (xs := digs n'.natAbs) (by simp)) kx.out ky.out HS1.out HS2.out KO.out rfl).mono ?_
  rintro e w3 ⟨rfl, hb⟩
  have L3 := ls L2 hb
  have Rk_3 := co Rk_2 hb
  have Ri_3 := co Ri_2 hb
  have Rj_3 := co Rj_2 hb
  have Rr_3 := co Rr_2 hb
  have Rsl_3 := co Rsl_2 hb
  clear hb 
  go_upto_region 3 with fail
  have Mgj : g < w.heap.size + 1 := by have := HLk.out; omega
  obtain ⟨fj0, zj0, fj1, zj1, fj2, zj2, fj3, zj3, fj4, zj4, fj5, zj5, xj⟩ := ly6 Rj_3.out
  have KD := Lib.hid (bd0 w3)
  have LD := ls L3 KD.out
  have HLk := Lib.hid (heap_lt Rk_3.out)
  have Mj : w.heap.size + 1 ≠ g := by omega
  go_region_held3 (fun w' => (∀ o, w'.cell? ⟨w.heap.size + 1, o, none⟩ = w3.cell? ⟨w.heap.size + 1, o, none⟩))
    (first | with_reducible exact keep_b KD.out xj | with_reducible exact keep_b K5.out xj | exact keep_set (keep_b K5.out xj) Mj)
    (first
      | (go_at_call 17; (with_reducible refine (has_zero (LD.out.get (A := A') (c := c') (xs := digs m'.natAbs) (by simp)) (LD.out.get (A := B') (c := d') (xs := digs n'.natAbs) (by simp)) kx.out ky.out HS1.out HS2.out KO.out H0.out).mono ?_); rintro e w5 ⟨rfl, hb⟩; (have K5 := bt KD hb); (have L5 := Lib.hid (LD.out.step hb)); clear hb )
      | (go_at_call 61; (with_reducible refine (note_sets g 3 _ (row_c (i := 0) (cells_of Rk_3.out K5.out) rfl) (frozen_of_row _ _ 0 _ _ (cells_of Rk_3.out K5.out))).mono ?_); rintro e w6 ⟨rfl, rfl⟩))
  rename_i hHeld
  clear hHeld
  clear fj0 zj0 fj1 zj1 fj2 zj2 fj3 zj3 fj4 zj4 fj5 zj5 xj
  have Rk_6 := co Rk_3 K5.out
  have Ri_6 := co Ri_3 K5.out
  have Rj_6 := co Rj_3 K5.out
  have Rr_6 := co Rr_3 K5.out
  have Rsl_6 := co Rsl_3 K5.out
  obtain ⟨t6, hW⟩ : ∃ x : World, x = w5.setCell ⟨g, 0, none⟩ (.int .i64 3) := ⟨_, rfl⟩
  rw [← hW]
  have hO : Only g w5 t6 := by rw [hW]; exact (Only.refl g w5).setCell 0 _
  have TN := Lib.hid ((Tn.of L5.out.1).only hO)
  have Rk_t6 := Lib.hid (show t6.heap[g]? = some (.cells #[.int .i64 3, .int .i64 P] 45 (0, 0)) from (by rw [hW]; exact heap_setCell_same _ _ 0 _ _ _ Rk_6.out))
  have Ri_t6 := Lib.hid ((hO.block _ (by have := HLk.out; omega)).trans Ri_6.out)
  have Rj_t6 := Lib.hid ((hO.block _ (by have := HLk.out; omega)).trans Rj_6.out)
  have Rr_t6 := Lib.hid ((hO.block _ (by have := HLk.out; omega)).trans Rr_6.out)
  have Rsl_t6 := Lib.hid ((hO.block _ (by have := HLk.out; omega)).trans Rsl_6.out)
  have Lt := Lib.hid (live_start t6)
  clear hW hO
  obtain ⟨fk0, zk0, fk1, zk1, xk⟩ := ly2 Rk_t6.out
  obtain ⟨fr0, zr0, fr1, zr1, fr2, zr2, fr3, zr3, fr4, zr4, fr5, zr5, xr⟩ := ly6 Rr_t6.out
  go_wp2
  refine bodyPost_ret (v := .agg #[.bool false, .slice none 0 0, .int .i64 0, .bool false, .slice none 0 0, .int .i64 0]) (by simp [results, Tryz.results24, go_sem, fk0, fk1, fr0, fr1, fr2, fr3, fr4, fr5]) rfl ?_
  have hf := far6 TN.out Rk_t6.out Gr (by have := HLk.out; omega)
  exact ⟨rfl, (hf _ _ _ _ _ _).1, (hf _ _ _ _ _ _).2⟩

set_option maxHeartbeats 4000000 in
set_option maxRecDepth 100000 in
theorem got_sets (A : Option Addr) (c : Nat) (m x P : Int) (g : Nat) (w : World) (h : Dg w A c (digs m.natAbs)) (hk : w.heap[g]? = some (.cells #[.int .i64 0, .int .i64 P] 45 (0, 0))):
    Calls Tryz.prog 54 #[.pointer (some ⟨g, 0, none⟩), .agg #[.bool (decide (m < 0)), .slice A (digs m.natAbs).length c, .int .i64 x], .int .i64 3] w fun e w' => ∃ A' c', e = .returned (.agg #[.bool (decide (m < 0)), .slice A' (digs m.natAbs).length c', .int .i64 x]) ∧ Dg w' A' c' (digs m.natAbs) ∧ Tn g w w' ∧ w'.heap[g]? = some (.cells #[.int .i64 3, .int .i64 P] 45 (0, 0)) := by
  have L0 := Lib.hid ((live_start w).add h)
  have H := Lib.hid h
  have Rk_0 := Lib.hid hk
  have RK := Lib.hid hk
  have HLk := Lib.hid (heap_lt hk)
  clear hk
  clear h
  go_enter Tryz.func54, Tryz.ntmps54
  go_wp2_with fail
  obtain ⟨v1, hW, hb, Rx_1, Rr_1⟩ := new2 w (.cells #[.bool (decide (m < 0)), .slice A (digs m.natAbs).length c, .int .i64 x] 26) (.cells #[.bool false, .slice none 0 0, .int .i64 0] 26)
  rw [← hW]
  have L1 := ls L0 hb
  have Rk_1 := co Rk_0 hb
  have Gx := gl0 L0.out
  have Nkx := nl0 Rk_0.out
  have Gr := gl1 L0.out
  have Nkr := nl1 Rk_0.out
  have Nxr : w.heap.size < w.heap.size + 1 := by omega
  clear hW hb
  refine (note_sets g 3 _ (row_c (i := 0) Rk_1.out rfl) (frozen_of_row _ _ 0 _ _ Rk_1.out)).mono ?_
  rintro e w2 ⟨rfl, rfl⟩
  obtain ⟨t2, hW⟩ : ∃ x : World, x = v1.setCell ⟨g, 0, none⟩ (.int .i64 3) := ⟨_, rfl⟩
  rw [← hW]
  have hO : Only g v1 t2 := by rw [hW]; exact (Only.refl g v1).setCell 0 _
  have TN := Lib.hid ((Tn.of L1.out.1).only hO)
  have Rk_t2 := Lib.hid (show t2.heap[g]? = some (.cells #[.int .i64 3, .int .i64 P] 45 (0, 0)) from (by rw [hW]; exact heap_setCell_same _ _ 0 _ _ _ Rk_1.out))
  have Rx_t2 := Lib.hid ((hO.block _ (by have := HLk.out; omega)).trans Rx_1.out)
  have Rr_t2 := Lib.hid ((hO.block _ (by have := HLk.out; omega)).trans Rr_1.out)
  have Lt := Lib.hid (live_start t2)
  clear hW hO
  obtain ⟨fx0, zx0, fx1, zx1, fx2, zx2, xx⟩ := ly3 Rx_t2.out
  obtain ⟨fr0, zr0, fr1, zr1, fr2, zr2, xr⟩ := ly3 Rr_t2.out
  go_wp2
  refine bodyPost_ret (v := .agg #[.bool (decide (m < 0)), .slice A (digs m.natAbs).length c, .int .i64 x]) (by simp [results, Tryz.results54, go_sem, fx0, fx1, fx2, fr0, fr1, fr2]) rfl ?_
  have hf := far3 TN.out Rk_t2.out Gr (by have := HLk.out; omega)
  exact ⟨A, c, rfl, H.out.kept ((hf _ _ _).1.kept RK.out noint_ca), (hf _ _ _).1, (hf _ _ _).2⟩

set_option maxHeartbeats 4000000 in
set_option maxRecDepth 100000 in
theorem sqrt_neg_n (A B : Option Addr) (c d : Nat) (m x n y P : Int) (g : Nat) (w : World) (h : Dg w A c (digs m.natAbs)) (h' : Dg w B d (digs n.natAbs)) (hl : (digs m.natAbs).length ≤ 10000) (hl' : (digs n.natAbs).length ≤ 10000) (r1 : Rt m x) (r2 : Rt n y) (ho : dv m x ≤ dv n y) {p : Nat} (hP : (p : Int) = P) (p2 : 2 ≤ p) (p4 : p ≤ 400) (hT : T32 w) (m0 : m < 0) (hk : w.heap[g]? = some (.cells #[.int .i64 0, .int .i64 P] 45 (0, 0))) {Z : Int} (hZ : Z = 0) (n0 : n < 0):
    Calls Tryz.prog 22 #[.pointer (some ⟨g, 0, none⟩), .agg #[.bool (decide (m < 0)), .slice A (digs m.natAbs).length c, .int .i64 x, .bool (decide (n < 0)), .slice B (digs n.natAbs).length d, .int .i64 y]] w fun e w' => Sx 3 P g (.agg #[.bool false, .slice none 0 0, .int .i64 0, .bool false, .slice none 0 0, .int .i64 0]) w e w' := by
  have HR1 := Lib.hid r1
  have HR2 := Lib.hid r2
  have lx := Lib.hid hl
  have ly := Lib.hid hl'
  have HO := Lib.hid ho
  have M0 := Lib.hid m0
  have N0 := Lib.hid n0
  have HZ := Lib.hid hZ
  have PB := Lib.hid (show 2 ≤ P ∧ P ≤ 400 by omega)
  have HP := Lib.hid hP
  have HT := Lib.hid hT
  clear hT
  have L0 := Lib.hid (((live_start w).add h).add h')
  have Rk_0 := Lib.hid hk
  have HLk := Lib.hid (heap_lt hk)
  clear hk
  clear h h' hl hl' r1 r2 ho hP m0 n0 hZ
  go_enter Tryz.func22, Tryz.ntmps22
  go_upto_region 1 with fail
  obtain ⟨v1, hW, hb, Ri_1, Rr_1⟩ := new2 w (.cells #[.bool (decide (m < 0)), .slice A (digs m.natAbs).length c, .int .i64 x, .bool (decide (n < 0)), .slice B (digs n.natAbs).length d, .int .i64 y] 34) (.cells #[.bool false, .slice none 0 0, .int .i64 0, .bool false, .slice none 0 0, .int .i64 0] 34)
  rw [← hW]
  have L1 := ls L0 hb
  have Rk_1 := co Rk_0 hb
  have Gi := gl0 L0.out
  have Nki := nl0 Rk_0.out
  have Gr := gl1 L0.out
  have Nkr := nl1 Rk_0.out
  have Nir : w.heap.size < w.heap.size + 1 := by omega
  clear hW hb
  obtain ⟨fi0, zi0, fi1, zi1, fi2, zi2, fi3, zi3, fi4, zi4, fi5, zi5, xi⟩ := ly6 Ri_1.out
  go_wp2_with fail
  obtain ⟨w2, hW, hb, Rsl_2⟩ := new1 v1 (.cells #[.bool (decide (m < 0)), .slice A (digs m.natAbs).length c, .int .i64 x, .bool (decide (n < 0)), .slice B (digs n.natAbs).length d, .int .i64 y] 34)
  rw [← hW]
  have L2 := ls L1 hb
  have Rk_2 := co Rk_1 hb
  have Ri_2 := co Ri_1 hb
  have Rr_2 := co Rr_1 hb
  have Gsl := gl0 L1.out
  have Nksl := nl0 Rk_1.out
  have Nisl := nl0 Ri_1.out
  have Nrsl := nl0 Rr_1.out
  clear hW hb
  clear fi0 zi0 fi1 zi1 fi2 zi2 fi3 zi3 fi4 zi4 fi5 zi5 xi
  refine (takes_1 Rk_2.out Rsl_2.out (L2.out.get (A := A) (c := c) (xs := digs m.natAbs) (by simp)) (L2.out.get (A := B) (c := d) (xs := digs n.natAbs) (by simp)) lx.out ly.out HR1.out HR2.out HO.out rfl).mono ?_
  rintro e w3 ⟨rfl, hb⟩
  have L3 := ls L2 hb
  have Rk_3 := co Rk_2 hb
  have Ri_3 := co Ri_2 hb
  have Rr_3 := co Rr_2 hb
  have Rsl_3 := co Rsl_2 hb
  clear hb 
  go_upto_region 3 with fail
  obtain ⟨fi0, zi0, fi1, zi1, fi2, zi2, fi3, zi3, fi4, zi4, fi5, zi5, xi⟩ := ly6 Ri_3.out
  obtain ⟨fk0, zk0, fk1, zk1, xk⟩ := ly2 Rk_3.out
  have KD := Lib.hid (bd0 w3)
  have LD := ls L3 KD.out
  have Mig : w.heap.size ≠ g := by have := HLk.out; omega
  have Mrg : w.heap.size + 1 ≠ g := by have := HLk.out; omega
  have Mir : w.heap.size ≠ w.heap.size + 1 := by omega
  have Mgr : g ≠ w.heap.size + 1 := by have := HLk.out; omega
  have S0 := Lib.hid (show (∀ o, w3.drew.cell? ⟨w.heap.size, o, none⟩ = w3.cell? ⟨w.heap.size, o, none⟩) ∧ w3.drew.cell? ⟨g, 1, none⟩ = some (.int .i64 P) from ⟨keep_b KD.out xi, row_c (i := 1) (cells_of Rk_3.out KD.out) rfl⟩)
  go_region_held3 (fun w' => (∀ o, w'.cell? ⟨w.heap.size, o, none⟩ = w3.cell? ⟨w.heap.size, o, none⟩) ∧ w'.cell? ⟨g, 1, none⟩ = some (.int .i64 P))
    (first | with_reducible exact S0.out | with_reducible exact S1.out | with_reducible exact S2.out | with_reducible exact S3.out | with_reducible exact S4.out | with_reducible exact S5.out | with_reducible exact ⟨(keep_set S5.out.1 Mir), (keep_set1 (W := w) S5.out.2 Mgr)⟩ | with_reducible exact ⟨(keep_set (keep_set S5.out.1 Mir) Mir), (keep_set1 (W := w) (keep_set1 (W := w) S5.out.2 Mgr) Mgr)⟩ | with_reducible exact ⟨(keep_set (keep_set (keep_set S5.out.1 Mir) Mir) Mir), (keep_set1 (W := w) (keep_set1 (W := w) (keep_set1 (W := w) S5.out.2 Mgr) Mgr) Mgr)⟩ | with_reducible exact ⟨(keep_set (keep_set (keep_set (keep_set S5.out.1 Mir) Mir) Mir) Mir), (keep_set1 (W := w) (keep_set1 (W := w) (keep_set1 (W := w) (keep_set1 (W := w) S5.out.2 Mgr) Mgr) Mgr) Mgr)⟩ | with_reducible exact ⟨(keep_set (keep_set (keep_set (keep_set (keep_set S5.out.1 Mir) Mir) Mir) Mir) Mir), (keep_set1 (W := w) (keep_set1 (W := w) (keep_set1 (W := w) (keep_set1 (W := w) (keep_set1 (W := w) S5.out.2 Mgr) Mgr) Mgr) Mgr) Mgr)⟩ | with_reducible exact ⟨(keep_set (keep_set (keep_set (keep_set (keep_set (keep_set S5.out.1 Mir) Mir) Mir) Mir) Mir) Mir), (keep_set1 (W := w) (keep_set1 (W := w) (keep_set1 (W := w) (keep_set1 (W := w) (keep_set1 (W := w) (keep_set1 (W := w) S5.out.2 Mgr) Mgr) Mgr) Mgr) Mgr) Mgr)⟩)
    (first
      | (go_at_call 59; (with_reducible refine (sqrt_no A c m x P Z false _ (LD.out.get (A := A) (c := c) (xs := digs m.natAbs) (by simp)) lx.out HR1.out PB.out.1 PB.out.2 M0.out HZ.out).mono ?_); rintro e q1 ⟨A1, c1, rfl, hd, hb⟩; (have K1 := bt KD hb); (have S1 := Lib.hid (show (∀ o, q1.cell? ⟨w.heap.size, o, none⟩ = w3.cell? ⟨w.heap.size, o, none⟩) ∧ q1.cell? ⟨g, 1, none⟩ = some (.int .i64 P) from ⟨keep_b K1.out xi, row_c (i := 1) (cells_of Rk_3.out K1.out) rfl⟩)); (have D1 := Lib.hid hd); clear hb hd)
      | (go_at_call 54; (with_reducible refine (got_sets A1 c1 Z Z P g _ D1.out (cells_of Rk_3.out K1.out)).mono ?_); rintro e q2 ⟨A2, c2, rfl, hd, ht, hr⟩; (have T2 := Lib.hid ((Tn.of K1.out).trans ht)); (have E2 := Lib.hid hd); (have G2 := Lib.hid hr); (have S2 := Lib.hid (show (∀ o, q2.cell? ⟨w.heap.size, o, none⟩ = w3.cell? ⟨w.heap.size, o, none⟩) ∧ q2.cell? ⟨g, 1, none⟩ = some (.int .i64 P) from ⟨T2.out.cells xi Mig, row_c (i := 1) G2.out rfl⟩)); (have DH := Lib.hid ((L3.out.get (A := B) (c := d) (xs := digs n.natAbs) (by simp)).kept (T2.out.kept Rk_3.out noint_ca))); (have TT := Lib.hid (t32_tn (t32_live HT.out L3.out) T2.out Rk_3.out)); clear hd ht hr)
      | (go_at_call 59; (with_reducible refine (sqrt_no B d n y P Z true _ DH.out ly.out HR2.out PB.out.1 PB.out.2 N0.out HZ.out).mono ?_); rintro e q3 ⟨A3, c3, rfl, hd, hb⟩; (have T3 := Lib.hid (T2.out.below hb)); (have G3 := Lib.hid (cells_of G2.out hb)); (have S3 := Lib.hid (show (∀ o, q3.cell? ⟨w.heap.size, o, none⟩ = w3.cell? ⟨w.heap.size, o, none⟩) ∧ q3.cell? ⟨g, 1, none⟩ = some (.int .i64 P) from ⟨T3.out.cells xi Mig, row_c (i := 1) G3.out rfl⟩)); (have D3 := Lib.hid hd); (have E3 := Lib.hid (E2.out.below hb)); clear hb hd)
      | (go_at_call 54; (with_reducible refine (got_held A3 c3 Z Z 3 3 P g _ D3.out G3.out (by omega)).mono ?_); rintro e q4 ⟨A4, c4, rfl, hd, hb⟩; (have T4 := Lib.hid (T3.out.below hb)); (have G4 := Lib.hid (cells_of G3.out hb)); (have S4 := Lib.hid (show (∀ o, q4.cell? ⟨w.heap.size, o, none⟩ = w3.cell? ⟨w.heap.size, o, none⟩) ∧ q4.cell? ⟨g, 1, none⟩ = some (.int .i64 P) from ⟨T4.out.cells xi Mig, row_c (i := 1) G4.out rfl⟩)); (have D4 := Lib.hid hd); clear hb hd)
      | (go_at_call 58; (with_reducible refine (ans_held A2 A4 c2 c4 Z Z Z Z 3 P g _ G4.out (by omega)).mono ?_); rintro e q5 ⟨rfl, hb⟩; (have T5 := Lib.hid (T4.out.below hb)); (have G5 := Lib.hid (cells_of G4.out hb)); (have S5 := Lib.hid (show (∀ o, q5.cell? ⟨w.heap.size, o, none⟩ = w3.cell? ⟨w.heap.size, o, none⟩) ∧ q5.cell? ⟨g, 1, none⟩ = some (.int .i64 P) from ⟨T5.out.cells xi Mig, row_c (i := 1) G5.out rfl⟩)); (have q0 := row_c (i := 0) (T5.out.row Rr_3.out Mrg) rfl); (have p0 := frozen_of_row _ _ 0 _ _ (T5.out.row Rr_3.out Mrg)); (have q1 := row_c (i := 1) (T5.out.row Rr_3.out Mrg) rfl); (have p1 := frozen_of_row _ _ 1 _ _ (T5.out.row Rr_3.out Mrg)); (have q2 := row_c (i := 2) (T5.out.row Rr_3.out Mrg) rfl); (have p2 := frozen_of_row _ _ 2 _ _ (T5.out.row Rr_3.out Mrg)); (have q3 := row_c (i := 3) (T5.out.row Rr_3.out Mrg) rfl); (have p3 := frozen_of_row _ _ 3 _ _ (T5.out.row Rr_3.out Mrg)); (have q4 := row_c (i := 4) (T5.out.row Rr_3.out Mrg) rfl); (have p4 := frozen_of_row _ _ 4 _ _ (T5.out.row Rr_3.out Mrg)); (have q5 := row_c (i := 5) (T5.out.row Rr_3.out Mrg) rfl); (have p5 := frozen_of_row _ _ 5 _ _ (T5.out.row Rr_3.out Mrg)); clear hb))
  rename_i hHeld
  clear hHeld
  clear fi0 zi0 fi1 zi1 fi2 zi2 fi3 zi3 fi4 zi4 fi5 zi5 xi fk0 zk0 fk1 zk1 xk
  have Rr9 := Lib.hid (T5.out.row Rr_3.out Mrg)
  have TN := Lib.hid ((Tn.of L3.out.1).trans T5.out)
  clear T5
  obtain ⟨fr0, zr0, fr1, zr1, fr2, zr2, fr3, zr3, fr4, zr4, fr5, zr5, xr⟩ := ly6 Rr9.out
  go_wp2
  refine bodyPost_ret (v := .agg #[.bool false, .slice none 0 0, .int .i64 0, .bool false, .slice none 0 0, .int .i64 0]) (by simp [results, Tryz.results22, go_sem, fr0, fr1, fr2, fr3, fr4, fr5]) rfl ?_
  have hf := far6 TN.out G5.out Gr (by have := HLk.out; omega)
  exact ⟨rfl, (hf _ _ _ _ _ _).1, (hf _ _ _ _ _ _).2⟩

set_option maxHeartbeats 4000000 in
set_option maxRecDepth 100000 in
theorem sqrt_neg_p (A B : Option Addr) (c d : Nat) (m x n y P : Int) (g : Nat) (w : World) (h : Dg w A c (digs m.natAbs)) (h' : Dg w B d (digs n.natAbs)) (hl : (digs m.natAbs).length ≤ 10000) (hl' : (digs n.natAbs).length ≤ 10000) (r1 : Rt m x) (r2 : Rt n y) (ho : dv m x ≤ dv n y) {p : Nat} (hP : (p : Int) = P) (p2 : 2 ≤ p) (p4 : p ≤ 400) (hT : T32 w) (m0 : m < 0) (hk : w.heap[g]? = some (.cells #[.int .i64 0, .int .i64 P] 45 (0, 0))) {Z : Int} (hZ : Z = 0) (n0 : 0 ≤ n) {N F : Int} (hs2 : RsOf (dv n y) p true N F) (hq2 : inR N F = true):
    Calls Tryz.prog 22 #[.pointer (some ⟨g, 0, none⟩), .agg #[.bool (decide (m < 0)), .slice A (digs m.natAbs).length c, .int .i64 x, .bool (decide (n < 0)), .slice B (digs n.natAbs).length d, .int .i64 y]] w fun e w' => Sx 3 P g (.agg #[.bool false, .slice none 0 0, .int .i64 0, .bool false, .slice none 0 0, .int .i64 0]) w e w' := by
  have HR1 := Lib.hid r1
  have HR2 := Lib.hid r2
  have lx := Lib.hid hl
  have ly := Lib.hid hl'
  have HO := Lib.hid ho
  have M0 := Lib.hid m0
  have N0 := Lib.hid n0
  have HZ := Lib.hid hZ
  have PB := Lib.hid (show 2 ≤ P ∧ P ≤ 400 by omega)
  have HP := Lib.hid hP
  have D2 := Lib.hid hs2
  have J2 := Lib.hid hq2
  have HT := Lib.hid hT
  clear hT
  have L0 := Lib.hid (((live_start w).add h).add h')
  have Rk_0 := Lib.hid hk
  have HLk := Lib.hid (heap_lt hk)
  clear hk
  clear h h' hl hl' r1 r2 ho hP m0 n0 hZ hs2 hq2
  go_enter Tryz.func22, Tryz.ntmps22
  go_upto_region 1 with fail
  obtain ⟨v1, hW, hb, Ri_1, Rr_1⟩ := new2 w (.cells #[.bool (decide (m < 0)), .slice A (digs m.natAbs).length c, .int .i64 x, .bool (decide (n < 0)), .slice B (digs n.natAbs).length d, .int .i64 y] 34) (.cells #[.bool false, .slice none 0 0, .int .i64 0, .bool false, .slice none 0 0, .int .i64 0] 34)
  rw [← hW]
  have L1 := ls L0 hb
  have Rk_1 := co Rk_0 hb
  have Gi := gl0 L0.out
  have Nki := nl0 Rk_0.out
  have Gr := gl1 L0.out
  have Nkr := nl1 Rk_0.out
  have Nir : w.heap.size < w.heap.size + 1 := by omega
  clear hW hb
  obtain ⟨fi0, zi0, fi1, zi1, fi2, zi2, fi3, zi3, fi4, zi4, fi5, zi5, xi⟩ := ly6 Ri_1.out
  go_wp2_with fail
  obtain ⟨w2, hW, hb, Rsl_2⟩ := new1 v1 (.cells #[.bool (decide (m < 0)), .slice A (digs m.natAbs).length c, .int .i64 x, .bool (decide (n < 0)), .slice B (digs n.natAbs).length d, .int .i64 y] 34)
  rw [← hW]
  have L2 := ls L1 hb
  have Rk_2 := co Rk_1 hb
  have Ri_2 := co Ri_1 hb
  have Rr_2 := co Rr_1 hb
  have Gsl := gl0 L1.out
  have Nksl := nl0 Rk_1.out
  have Nisl := nl0 Ri_1.out
  have Nrsl := nl0 Rr_1.out
  clear hW hb
  clear fi0 zi0 fi1 zi1 fi2 zi2 fi3 zi3 fi4 zi4 fi5 zi5 xi
  refine (takes_1 Rk_2.out Rsl_2.out (L2.out.get (A := A) (c := c) (xs := digs m.natAbs) (by simp)) (L2.out.get (A := B) (c := d) (xs := digs n.natAbs) (by simp)) lx.out ly.out HR1.out HR2.out HO.out rfl).mono ?_
  rintro e w3 ⟨rfl, hb⟩
  have L3 := ls L2 hb
  have Rk_3 := co Rk_2 hb
  have Ri_3 := co Ri_2 hb
  have Rr_3 := co Rr_2 hb
  have Rsl_3 := co Rsl_2 hb
  clear hb 
  go_upto_region 3 with fail
  obtain ⟨fi0, zi0, fi1, zi1, fi2, zi2, fi3, zi3, fi4, zi4, fi5, zi5, xi⟩ := ly6 Ri_3.out
  obtain ⟨fk0, zk0, fk1, zk1, xk⟩ := ly2 Rk_3.out
  have KD := Lib.hid (bd0 w3)
  have LD := ls L3 KD.out
  have Mig : w.heap.size ≠ g := by have := HLk.out; omega
  have Mrg : w.heap.size + 1 ≠ g := by have := HLk.out; omega
  have Mir : w.heap.size ≠ w.heap.size + 1 := by omega
  have Mgr : g ≠ w.heap.size + 1 := by have := HLk.out; omega
  have S0 := Lib.hid (show (∀ o, w3.drew.cell? ⟨w.heap.size, o, none⟩ = w3.cell? ⟨w.heap.size, o, none⟩) ∧ w3.drew.cell? ⟨g, 1, none⟩ = some (.int .i64 P) from ⟨keep_b KD.out xi, row_c (i := 1) (cells_of Rk_3.out KD.out) rfl⟩)
  go_region_held3 (fun w' => (∀ o, w'.cell? ⟨w.heap.size, o, none⟩ = w3.cell? ⟨w.heap.size, o, none⟩) ∧ w'.cell? ⟨g, 1, none⟩ = some (.int .i64 P))
    (first | with_reducible exact S0.out | with_reducible exact S1.out | with_reducible exact S2.out | with_reducible exact S3.out | with_reducible exact S4.out | with_reducible exact S5.out | with_reducible exact ⟨(keep_set S5.out.1 Mir), (keep_set1 (W := w) S5.out.2 Mgr)⟩ | with_reducible exact ⟨(keep_set (keep_set S5.out.1 Mir) Mir), (keep_set1 (W := w) (keep_set1 (W := w) S5.out.2 Mgr) Mgr)⟩ | with_reducible exact ⟨(keep_set (keep_set (keep_set S5.out.1 Mir) Mir) Mir), (keep_set1 (W := w) (keep_set1 (W := w) (keep_set1 (W := w) S5.out.2 Mgr) Mgr) Mgr)⟩ | with_reducible exact ⟨(keep_set (keep_set (keep_set (keep_set S5.out.1 Mir) Mir) Mir) Mir), (keep_set1 (W := w) (keep_set1 (W := w) (keep_set1 (W := w) (keep_set1 (W := w) S5.out.2 Mgr) Mgr) Mgr) Mgr)⟩ | with_reducible exact ⟨(keep_set (keep_set (keep_set (keep_set (keep_set S5.out.1 Mir) Mir) Mir) Mir) Mir), (keep_set1 (W := w) (keep_set1 (W := w) (keep_set1 (W := w) (keep_set1 (W := w) (keep_set1 (W := w) S5.out.2 Mgr) Mgr) Mgr) Mgr) Mgr)⟩ | with_reducible exact ⟨(keep_set (keep_set (keep_set (keep_set (keep_set (keep_set S5.out.1 Mir) Mir) Mir) Mir) Mir) Mir), (keep_set1 (W := w) (keep_set1 (W := w) (keep_set1 (W := w) (keep_set1 (W := w) (keep_set1 (W := w) (keep_set1 (W := w) S5.out.2 Mgr) Mgr) Mgr) Mgr) Mgr) Mgr)⟩)
    (first
      | (go_at_call 59; (with_reducible refine (sqrt_no A c m x P Z false _ (LD.out.get (A := A) (c := c) (xs := digs m.natAbs) (by simp)) lx.out HR1.out PB.out.1 PB.out.2 M0.out HZ.out).mono ?_); rintro e q1 ⟨A1, c1, rfl, hd, hb⟩; (have K1 := bt KD hb); (have S1 := Lib.hid (show (∀ o, q1.cell? ⟨w.heap.size, o, none⟩ = w3.cell? ⟨w.heap.size, o, none⟩) ∧ q1.cell? ⟨g, 1, none⟩ = some (.int .i64 P) from ⟨keep_b K1.out xi, row_c (i := 1) (cells_of Rk_3.out K1.out) rfl⟩)); (have D1 := Lib.hid hd); clear hb hd)
      | (go_at_call 54; (with_reducible refine (got_sets A1 c1 Z Z P g _ D1.out (cells_of Rk_3.out K1.out)).mono ?_); rintro e q2 ⟨A2, c2, rfl, hd, ht, hr⟩; (have T2 := Lib.hid ((Tn.of K1.out).trans ht)); (have E2 := Lib.hid hd); (have G2 := Lib.hid hr); (have S2 := Lib.hid (show (∀ o, q2.cell? ⟨w.heap.size, o, none⟩ = w3.cell? ⟨w.heap.size, o, none⟩) ∧ q2.cell? ⟨g, 1, none⟩ = some (.int .i64 P) from ⟨T2.out.cells xi Mig, row_c (i := 1) G2.out rfl⟩)); (have DH := Lib.hid ((L3.out.get (A := B) (c := d) (xs := digs n.natAbs) (by simp)).kept (T2.out.kept Rk_3.out noint_ca))); (have TT := Lib.hid (t32_tn (t32_live HT.out L3.out) T2.out Rk_3.out)); clear hd ht hr)
      | (go_at_call 59; (with_reducible refine (dsqrt_yes DH.out ly.out HR2.out TT.out HP.out p2 p4 D2.out J2.out N0.out).mono ?_); rintro e q3 ⟨A3, c3, rfl, hd, hb⟩; (have T3 := Lib.hid (T2.out.below hb)); (have G3 := Lib.hid (cells_of G2.out hb)); (have S3 := Lib.hid (show (∀ o, q3.cell? ⟨w.heap.size, o, none⟩ = w3.cell? ⟨w.heap.size, o, none⟩) ∧ q3.cell? ⟨g, 1, none⟩ = some (.int .i64 P) from ⟨T3.out.cells xi Mig, row_c (i := 1) G3.out rfl⟩)); (have D3 := Lib.hid hd); (have E3 := Lib.hid (E2.out.below hb)); clear hb hd)
      | (go_at_call 54; (with_reducible refine (got_held A3 c3 N F 0 3 P g _ D3.out G3.out (by omega)).mono ?_); rintro e q4 ⟨A4, c4, rfl, hd, hb⟩; (have T4 := Lib.hid (T3.out.below hb)); (have G4 := Lib.hid (cells_of G3.out hb)); (have S4 := Lib.hid (show (∀ o, q4.cell? ⟨w.heap.size, o, none⟩ = w3.cell? ⟨w.heap.size, o, none⟩) ∧ q4.cell? ⟨g, 1, none⟩ = some (.int .i64 P) from ⟨T4.out.cells xi Mig, row_c (i := 1) G4.out rfl⟩)); (have D4 := Lib.hid hd); clear hb hd)
      | (go_at_call 58; (with_reducible refine (ans_held A2 A4 c2 c4 Z Z N F 3 P g _ G4.out (by omega)).mono ?_); rintro e q5 ⟨rfl, hb⟩; (have T5 := Lib.hid (T4.out.below hb)); (have G5 := Lib.hid (cells_of G4.out hb)); (have S5 := Lib.hid (show (∀ o, q5.cell? ⟨w.heap.size, o, none⟩ = w3.cell? ⟨w.heap.size, o, none⟩) ∧ q5.cell? ⟨g, 1, none⟩ = some (.int .i64 P) from ⟨T5.out.cells xi Mig, row_c (i := 1) G5.out rfl⟩)); (have q0 := row_c (i := 0) (T5.out.row Rr_3.out Mrg) rfl); (have p0 := frozen_of_row _ _ 0 _ _ (T5.out.row Rr_3.out Mrg)); (have q1 := row_c (i := 1) (T5.out.row Rr_3.out Mrg) rfl); (have p1 := frozen_of_row _ _ 1 _ _ (T5.out.row Rr_3.out Mrg)); (have q2 := row_c (i := 2) (T5.out.row Rr_3.out Mrg) rfl); (have p2 := frozen_of_row _ _ 2 _ _ (T5.out.row Rr_3.out Mrg)); (have q3 := row_c (i := 3) (T5.out.row Rr_3.out Mrg) rfl); (have p3 := frozen_of_row _ _ 3 _ _ (T5.out.row Rr_3.out Mrg)); (have q4 := row_c (i := 4) (T5.out.row Rr_3.out Mrg) rfl); (have p4 := frozen_of_row _ _ 4 _ _ (T5.out.row Rr_3.out Mrg)); (have q5 := row_c (i := 5) (T5.out.row Rr_3.out Mrg) rfl); (have p5 := frozen_of_row _ _ 5 _ _ (T5.out.row Rr_3.out Mrg)); clear hb))
  rename_i hHeld
  clear hHeld
  clear fi0 zi0 fi1 zi1 fi2 zi2 fi3 zi3 fi4 zi4 fi5 zi5 xi fk0 zk0 fk1 zk1 xk
  have Rr9 := Lib.hid (T5.out.row Rr_3.out Mrg)
  have TN := Lib.hid ((Tn.of L3.out.1).trans T5.out)
  clear T5
  obtain ⟨fr0, zr0, fr1, zr1, fr2, zr2, fr3, zr3, fr4, zr4, fr5, zr5, xr⟩ := ly6 Rr9.out
  go_wp2
  refine bodyPost_ret (v := .agg #[.bool false, .slice none 0 0, .int .i64 0, .bool false, .slice none 0 0, .int .i64 0]) (by simp [results, Tryz.results22, go_sem, fr0, fr1, fr2, fr3, fr4, fr5]) rfl ?_
  have hf := far6 TN.out G5.out Gr (by have := HLk.out; omega)
  exact ⟨rfl, (hf _ _ _ _ _ _).1, (hf _ _ _ _ _ _).2⟩
end Go.Proofs.YtijodbjdajddoaaGreatDoor
end

section
namespace Go.Proofs.YtijodbjdajddoaaGreatDoor
open Go.RowKit
set_option linter.unusedSimpArgs false
set_option linter.unusedVariables false
theorem cdiv_zero {A B A' B' : Option Addr} {c d c' d' g : Nat} {s t : St} {w : World} {P : Int} (h : Dg w A c (digs s.lo.1.natAbs)) (h' : Dg w B d (digs s.hi.1.natAbs)) (os : So s) (k : Dg w A' c' (digs t.lo.1.natAbs)) (k' : Dg w B' d' (digs t.hi.1.natAbs)) (ot : So t) (hk : w.heap[g]? = some (.cells #[.int .i64 0, .int .i64 P] 45 (0, 0))) (h0 : decide (Ins 0 t) = true) :
    Calls Tryz.prog 24 #[.pointer (some ⟨g, 0, none⟩), .agg #[.bool (decide (s.lo.1 < 0)), .slice A (digs s.lo.1.natAbs).length c, .int .i64 s.lo.2, .bool (decide (s.hi.1 < 0)), .slice B (digs s.hi.1.natAbs).length d, .int .i64 s.hi.2], .agg #[.bool (decide (t.lo.1 < 0)), .slice A' (digs t.lo.1.natAbs).length c', .int .i64 t.lo.2, .bool (decide (t.hi.1 < 0)), .slice B' (digs t.hi.1.natAbs).length d', .int .i64 t.hi.2]] w fun e w' => Sx 3 P g (.agg #[.bool false, .slice none 0 0, .int .i64 0, .bool false, .slice none 0 0, .int .i64 0]) w e w' :=
  div_zero A B A' B' c d c' d' s.lo.1 s.lo.2 s.hi.1 s.hi.2 t.lo.1 t.lo.2 t.hi.1 t.hi.2 P g w h h' (inr_len os.1.2) (inr_len os.2.1.2) os.1.rt os.2.1.rt os.2.2 k k' (inr_len ot.1.2) (inr_len ot.2.1.2) ot.1.rt ot.2.1.rt ot.2.2 hk h0
theorem csqrt_neg {A B : Option Addr} {c d g : Nat} {s : St} {w : World} {P : Int} {p : Nat} (h : Dg w A c (digs s.lo.1.natAbs)) (h' : Dg w B d (digs s.hi.1.natAbs)) (os : So s) (hp : Pc p P) (hT : T32 w) (hk : w.heap[g]? = some (.cells #[.int .i64 0, .int .i64 P] 45 (0, 0))) (m0 : s.lo.1 < 0) (hx : s.hi.1 < 0 ∨ ∃ r : Qn, RsQ (qr s.hi) p true r ∧ Qo r) :
    Calls Tryz.prog 22 #[.pointer (some ⟨g, 0, none⟩), .agg #[.bool (decide (s.lo.1 < 0)), .slice A (digs s.lo.1.natAbs).length c, .int .i64 s.lo.2, .bool (decide (s.hi.1 < 0)), .slice B (digs s.hi.1.natAbs).length d, .int .i64 s.hi.2]] w fun e w' => Sx 3 P g (.agg #[.bool false, .slice none 0 0, .int .i64 0, .bool false, .slice none 0 0, .int .i64 0]) w e w' := by
  by_cases n0 : s.hi.1 < 0
  · exact sqrt_neg_n A B c d s.lo.1 s.lo.2 s.hi.1 s.hi.2 P g w h h' (inr_len os.1.2) (inr_len os.2.1.2) os.1.rt os.2.1.rt os.2.2 hp.1 hp.2.1 hp.2.2 hT m0 hk rfl n0
  · obtain ⟨r, hr, or⟩ := hx.resolve_left n0
    exact sqrt_neg_p A B c d s.lo.1 s.lo.2 s.hi.1 s.hi.2 P g w h h' (inr_len os.1.2) (inr_len os.2.1.2) os.1.rt os.2.1.rt os.2.2 hp.1 hp.2.1 hp.2.2 hT m0 hk rfl (by omega) hr or.2
theorem same_zz (w : World) :
    Calls Tryz.prog 23 #[.agg #[.bool false, .slice none 0 0, .int .i64 0, .bool false, .slice none 0 0, .int .i64 0], .agg #[.bool false, .slice none 0 0, .int .i64 0, .bool false, .slice none 0 0, .int .i64 0]] w fun e w' => e = .returned (.bool true) ∧ Below w.heap.size w w' := by
  have e : digs (0 : Int).natAbs = [] := digs_zero
  have := lsame_q (m := 0) (x := 0) (n := 0) (y := 0) (m' := 0) (x' := 0) (n' := 0) (y' := 0) (A := none) (B := none) (A' := none) (B' := none) (c := 0) (d := 0) (c' := 0) (d' := 0) (w := w) (q := true) (by rw [e]; exact Dg.nil_ _ _) (by rw [e]; exact Dg.nil_ _ _) (by rw [e]; exact Dg.nil_ _ _) (by rw [e]; exact Dg.nil_ _ _) (by rw [e]; simp) (by rw [e]; simp) (by simp)
  rw [e] at this
  exact this
end Go.Proofs.YtijodbjdajddoaaGreatDoor
end

section
namespace Go.Proofs.YtijodbjdajddoaaGreatDoor
open Go.RowKit
set_option linter.unusedSimpArgs false
set_option linter.unusedVariables false
theorem back_in {s r q : St} {x : Rat} (hx : Ins x s) (h1 : qr r.lo * qr r.lo ≤ qr s.lo) (h2 : qr s.hi ≤ qr r.hi * qr r.hi) (ho : qr r.lo ≤ qr r.hi) (h : ∀ x y, Ins x r → Ins y r → Ins (x * y) q) : Ins x q := by
  have a := h _ _ ⟨Rat.le_refl, ho⟩ ⟨Rat.le_refl, ho⟩
  have b := h _ _ ⟨ho, Rat.le_refl⟩ ⟨ho, Rat.le_refl⟩
  unfold Ins at *
  constructor <;> grind
theorem quot_in {b q r : St} {x y : Rat} (hb : NoZero b) (hy : Ins y b) (hq : Ins (x / y) q) {n : St} (hn : Ins y n) (h : ∀ x y, Ins x q → Ins y n → Ins (x * y) r) : Ins x r := by
  have h0 : y ≠ 0 := by
    intro e
    apply hb
    unfold Ins at hy
    rw [e] at hy
    exact hy
  have := h _ _ hq hn
  rw [Rat.div_mul_cancel h0] at this
  exact this

set_option maxHeartbeats 8000000 in
set_option maxRecDepth 100000 in
theorem ivDivides_A  (Ax : Option Addr) (cx : Nat) (sx : Bool) (xsx : List Nat) (ex : Int) (Ay : Option Addr) (cy : Nat) (sy : Bool) (xsy : List Nat) (ey : Int) (Az : Option Addr) (cz : Nat) (sz : Bool) (xsz : List Nat) (ez : Int) (Av : Option Addr) (cv : Nat) (sv : Bool) (xsv : List Nat) (ev : Int) (p : Int) (how : Int) (other : Int) (w : World)  (hx : Dg w Ax cx xsx) (lx : xsx.length ≤ 9223372036854775807) (ex0 : -9223372036854775808 ≤ ex) (ex1 : ex ≤ 9223372036854775807) (hy : Dg w Ay cy xsy) (ly : xsy.length ≤ 9223372036854775807) (ey0 : -9223372036854775808 ≤ ey) (ey1 : ey ≤ 9223372036854775807) (hz : Dg w Az cz xsz) (lz : xsz.length ≤ 9223372036854775807) (ez0 : -9223372036854775808 ≤ ez) (ez1 : ez ≤ 9223372036854775807) (hv : Dg w Av cv xsv) (lv : xsv.length ≤ 9223372036854775807) (ev0 : -9223372036854775808 ≤ ev) (ev1 : ev ≤ 9223372036854775807) (p0 : -9223372036854775808 ≤ p) (p1 : p ≤ 9223372036854775807) (how0 : -9223372036854775808 ≤ how) (how1 : how ≤ 9223372036854775807) (other0 : -9223372036854775808 ≤ other) (other1 : other ≤ 9223372036854775807) (hT : T32 w) (hc : (spanS (tq sx xsx ex) (tq sy xsy ey)).lo.1 < 0):
    Calls Tryz.prog 4 #[.agg #[.bool sx, .slice Ax xsx.length cx, .int .i64 ex], .agg #[.bool sy, .slice Ay xsy.length cy, .int .i64 ey], .agg #[.bool sz, .slice Az xsz.length cz, .int .i64 ez], .agg #[.bool sv, .slice Av xsv.length cv, .int .i64 ev], .int .i64 p, .int .i64 how, .int .i64 other] w fun e w' => e = .returned (.bool true) ∧ Below w.heap.size w w' := by
  obtain ⟨qx, hqx⟩ : ∃ q, tq sx xsx ex = q := ⟨_, rfl⟩
  have bdx : Qb (-90) 218 qx := hqx ▸ tq_bd hx.2.1
  have LXx := Lib.hid lx
  have Ex := Lib.hid (And.intro ex0 ex1)
  have HQx := Lib.hid hqx
  obtain ⟨qy, hqy⟩ : ∃ q, tq sy xsy ey = q := ⟨_, rfl⟩
  have bdy : Qb (-90) 218 qy := hqy ▸ tq_bd hy.2.1
  have LXy := Lib.hid ly
  have Ey := Lib.hid (And.intro ey0 ey1)
  have HQy := Lib.hid hqy
  obtain ⟨qz, hqz⟩ : ∃ q, tq sz xsz ez = q := ⟨_, rfl⟩
  have bdz : Qb (-90) 218 qz := hqz ▸ tq_bd hz.2.1
  have LXz := Lib.hid lz
  have Ez := Lib.hid (And.intro ez0 ez1)
  have HQz := Lib.hid hqz
  obtain ⟨qv, hqv⟩ : ∃ q, tq sv xsv ev = q := ⟨_, rfl⟩
  have bdv : Qb (-90) 218 qv := hqv ▸ tq_bd hv.2.1
  have LXv := Lib.hid lv
  have Ev := Lib.hid (And.intro ev0 ev1)
  have HQv := Lib.hid hqv
  obtain ⟨Pp, hPp⟩ : ∃ vv, precI p = vv := ⟨_, rfl⟩
  have hPbp := precI_bd p
  rw [hPp] at hPbp
  obtain ⟨kp, hkp⟩ : ∃ k : Nat, (k : Int) = Pp := ⟨Pp.toNat, by omega⟩
  have HPp := Lib.hid hPp
  have PCp := Lib.hid (show Pc kp Pp from ⟨hkp, by omega, by omega⟩)
  have Qp := Lib.hid (And.intro p0 p1)
  have hk2p : 1 ≤ kp := by omega
  have hk3p : kp ≤ 150 := by omega
  have Qhow := Lib.hid (And.intro how0 how1)
  have Qother := Lib.hid (And.intro other0 other1)
  obtain ⟨a, ha⟩ : ∃ s, spanS qx qy = s := ⟨_, rfl⟩
  have sa_b : Sb (-90) 218 a := ha ▸ spanS_sb bdx bdy
  have Ha := Lib.hid ha
  have Oa := Lib.hid (sa_b.ok (by omega) (by omega))
  obtain ⟨b, hb⟩ : ∃ s, spanS qz qv = s := ⟨_, rfl⟩
  have sb_b : Sb (-90) 218 b := hb ▸ spanS_sb bdz bdv
  have Hb := Lib.hid hb
  have Ob := Lib.hid (sb_b.ok (by omega) (by omega))
  obtain ⟨m, im, bm, em⟩ := inside_ex sa_b how (by omega) (by omega)
  obtain ⟨n, in_, bn, en⟩ := inside_ex sb_b other (by omega) (by omega)
  have Om := Lib.hid (bm.ok (by omega) (by omega))
  have On := Lib.hid (bn.ok (by omega) (by omega))
  have Hm := Lib.hid im
  have Hn := Lib.hid in_
  rw [hqx, hqy, ha] at hc
  have hxx : a.hi.1 < 0 ∨ ∃ r : Qn, RsQ (qr a.hi) kp true r ∧ Qo r := by
    by_cases h0 : a.hi.1 < 0
    · exact .inl h0
    · obtain ⟨N, F, hr⟩ := sqrt_exists (x := a.hi.2) (show 0 ≤ a.hi.1 by omega) hk2p true
      exact .inr ⟨(N, F), hr, Qb.ok (Bd.root hk2p sa_b.2.1 hr (by omega) (by omega)) (by omega) (by omega)⟩
  have HX := Lib.hid hxx
  have M0 := Lib.hid hc
  have DN := Lib.hid (decide_eq_true hc)
  have HT := Lib.hid hT
  clear hT
  have L0 := Lib.hid (((((live_start w).add hx).add hy).add hz).add hv)
  clear hx lx ex0 ex1 hqx bdx hy ly ey0 ey1 hqy bdy hz lz ez0 ez1 hqz bdz hv lv ev0 ev1 hqv bdv p0 p1 hPp hPbp hkp how0 how1 other0 other1 ha sa_b hb sb_b im bm em in_ bn en hk2p hk3p hc hxx
  go_enter Tryz.func4, Tryz.ntmps4
  go_wp2_with fail
  obtain ⟨v1, hW, hb, Rx_1, Ry_1, Rz_1, Rv_1⟩ := new4 w (.cells #[.bool sx, .slice Ax xsx.length cx, .int .i64 ex] 26) (.cells #[.bool sy, .slice Ay xsy.length cy, .int .i64 ey] 26) (.cells #[.bool sz, .slice Az xsz.length cz, .int .i64 ez] 26) (.cells #[.bool sv, .slice Av xsv.length cv, .int .i64 ev] 26)
  rw [← hW]
  have L1 := ls L0 hb
  have Gx := gl0 L0.out
  have Gy := gl1 L0.out
  have Nxy : w.heap.size < w.heap.size + 1 := by omega
  have Gz := gl2 L0.out
  have Nxz : w.heap.size < w.heap.size + 1 + 1 := by omega
  have Nyz : w.heap.size + 1 < w.heap.size + 1 + 1 := by omega
  have Gv := gl3 L0.out
  have Nxv : w.heap.size < w.heap.size + 1 + 1 + 1 := by omega
  have Nyv : w.heap.size + 1 < w.heap.size + 1 + 1 + 1 := by omega
  have Nzv : w.heap.size + 1 + 1 < w.heap.size + 1 + 1 + 1 := by omega
  clear hW hb
  refine (iexamples_any _ (t32_live HT.out L1.out)).mono ?_
  rintro e w2 ⟨rfl, hb⟩
  have L2 := ls L1 hb
  have Rx_2 := co Rx_1 hb
  have Ry_2 := co Ry_1 hb
  have Rz_2 := co Rz_1 hb
  have Rv_2 := co Rv_1 hb
  clear hb 
  go_wp2_with fail
  refine (precI_any (q := Pp) Qp.out.1 Qp.out.2 HPp.out).mono ?_
  rintro e w3 ⟨rfl, rfl⟩
  go_wp2_with fail
  refine (inew_ok Pp _ (by have := PCp.out; unfold Pc at this; omega) (by have := PCp.out; unfold Pc at this; omega)).mono ?_
  rintro e w4 ⟨rfl, hw0⟩
  subst hw0
  obtain ⟨w5, hW, hb, Rk_5⟩ := new1 w2 (.cells #[.int .i64 0, .int .i64 Pp] 45)
  rw [← hW]
  have L5 := ls L2 hb
  have Rx_5 := co Rx_2 hb
  have Ry_5 := co Ry_2 hb
  have Rz_5 := co Rz_2 hb
  have Rv_5 := co Rv_2 hb
  have Gk := gl0 L2.out
  have Nxk := nl0 Rx_2.out
  have Nyk := nl0 Ry_2.out
  have Nzk := nl0 Rz_2.out
  have Nvk := nl0 Rv_2.out
  clear hW hb
  obtain ⟨fx0, zx0, fx1, zx1, fx2, zx2, xx⟩ := ly3 Rx_5.out
  obtain ⟨fy0, zy0, fy1, zy1, fy2, zy2, xy⟩ := ly3 Ry_5.out
  go_wp2_with fail
  refine (span_any (L5.out.get (A := Ax) (c := cx) (xs := xsx) (by simp)) LXx.out Ex.out.1 Ex.out.2 (L5.out.get (A := Ay) (c := cy) (xs := xsy) (by simp)) LXy.out Ey.out.1 Ey.out.2 (t32_live HT.out L5.out) HQx.out HQy.out Ha.out).mono ?_
  rintro e w6 ⟨A6, c6, B6, d6, rfl, hd, he, hb⟩
  have L6 := la2 L5 hb hd he
  clear fx0 zx0 fx1 zx1 fx2 zx2 xx fy0 zy0 fy1 zy1 fy2 zy2 xy
  have Rx_6 := co Rx_5 hb
  have Ry_6 := co Ry_5 hb
  have Rz_6 := co Rz_5 hb
  have Rv_6 := co Rv_5 hb
  have Rk_6 := co Rk_5 hb
  clear hb hd he
  obtain ⟨fz0, zz0, fz1, zz1, fz2, zz2, xz⟩ := ly3 Rz_6.out
  obtain ⟨fv0, zv0, fv1, zv1, fv2, zv2, xv⟩ := ly3 Rv_6.out
  go_wp2_with fail
  obtain ⟨w7, hW, hb, Rba_7⟩ := new1 w6 (.cells #[.bool (decide (a.lo.1 < 0)), .slice A6 (digs a.lo.1.natAbs).length c6, .int .i64 a.lo.2, .bool (decide (a.hi.1 < 0)), .slice B6 (digs a.hi.1.natAbs).length d6, .int .i64 a.hi.2] 34)
  rw [← hW]
  have L7 := ls L6 hb
  have Rx_7 := co Rx_6 hb
  have Ry_7 := co Ry_6 hb
  have Rz_7 := co Rz_6 hb
  have Rv_7 := co Rv_6 hb
  have Rk_7 := co Rk_6 hb
  have Gba := gl0 L6.out
  have Nxba := nl0 Rx_6.out
  have Nyba := nl0 Ry_6.out
  have Nzba := nl0 Rz_6.out
  have Nvba := nl0 Rv_6.out
  have Nkba := nl0 Rk_6.out
  clear hW hb
  clear fz0 zz0 fz1 zz1 fz2 zz2 xz fv0 zv0 fv1 zv1 fv2 zv2 xv
  refine (span_any (L7.out.get (A := Az) (c := cz) (xs := xsz) (by simp)) LXz.out Ez.out.1 Ez.out.2 (L7.out.get (A := Av) (c := cv) (xs := xsv) (by simp)) LXv.out Ev.out.1 Ev.out.2 (t32_live HT.out L7.out) HQz.out HQv.out Hb.out).mono ?_
  rintro e w8 ⟨A8, c8, B8, d8, rfl, hd, he, hb⟩
  have L8 := la2 L7 hb hd he
  have Rx_8 := co Rx_7 hb
  have Ry_8 := co Ry_7 hb
  have Rz_8 := co Rz_7 hb
  have Rv_8 := co Rv_7 hb
  have Rk_8 := co Rk_7 hb
  have Rba_8 := co Rba_7 hb
  clear hb hd he
  obtain ⟨fba0, zba0, fba1, zba1, fba2, zba2, fba3, zba3, fba4, zba4, fba5, zba5, xba⟩ := ly6 Rba_8.out
  go_wp2_with fail
  obtain ⟨w9, hW, hb, Rbb_9⟩ := new1 w8 (.cells #[.bool (decide (b.lo.1 < 0)), .slice A8 (digs b.lo.1.natAbs).length c8, .int .i64 b.lo.2, .bool (decide (b.hi.1 < 0)), .slice B8 (digs b.hi.1.natAbs).length d8, .int .i64 b.hi.2] 34)
  rw [← hW]
  have L9 := ls L8 hb
  have Rx_9 := co Rx_8 hb
  have Ry_9 := co Ry_8 hb
  have Rz_9 := co Rz_8 hb
  have Rv_9 := co Rv_8 hb
  have Rk_9 := co Rk_8 hb
  have Rba_9 := co Rba_8 hb
  have Gbb := gl0 L8.out
  have Nxbb := nl0 Rx_8.out
  have Nybb := nl0 Ry_8.out
  have Nzbb := nl0 Rz_8.out
  have Nvbb := nl0 Rv_8.out
  have Nkbb := nl0 Rk_8.out
  have Nbabb := nl0 Rba_8.out
  clear hW hb
  clear fba0 zba0 fba1 zba1 fba2 zba2 fba3 zba3 fba4 zba4 fba5 zba5 xba
  refine (inside_any (L9.out.get (A := A6) (c := c6) (xs := digs a.lo.1.natAbs) (by simp)) (L9.out.get (A := B6) (c := d6) (xs := digs a.hi.1.natAbs) (by simp)) Oa.out (t32_live HT.out L9.out) Qhow.out.1 Qhow.out.2 Hm.out).mono ?_
  rintro e w10 ⟨A10, c10, rfl, hd, hb⟩
  have L10 := la L9 hb hd
  have Rx_10 := co Rx_9 hb
  have Ry_10 := co Ry_9 hb
  have Rz_10 := co Rz_9 hb
  have Rv_10 := co Rv_9 hb
  have Rk_10 := co Rk_9 hb
  have Rba_10 := co Rba_9 hb
  have Rbb_10 := co Rbb_9 hb
  clear hb hd
  obtain ⟨fbb0, zbb0, fbb1, zbb1, fbb2, zbb2, fbb3, zbb3, fbb4, zbb4, fbb5, zbb5, xbb⟩ := ly6 Rbb_10.out
  go_wp2_with fail
  obtain ⟨w11, hW, hb, Rbm_11⟩ := new1 w10 (.cells #[.bool (decide (m.1 < 0)), .slice A10 (digs m.1.natAbs).length c10, .int .i64 m.2] 26)
  rw [← hW]
  have L11 := ls L10 hb
  have Rx_11 := co Rx_10 hb
  have Ry_11 := co Ry_10 hb
  have Rz_11 := co Rz_10 hb
  have Rv_11 := co Rv_10 hb
  have Rk_11 := co Rk_10 hb
  have Rba_11 := co Rba_10 hb
  have Rbb_11 := co Rbb_10 hb
  have Gbm := gl0 L10.out
  have Nxbm := nl0 Rx_10.out
  have Nybm := nl0 Ry_10.out
  have Nzbm := nl0 Rz_10.out
  have Nvbm := nl0 Rv_10.out
  have Nkbm := nl0 Rk_10.out
  have Nbabm := nl0 Rba_10.out
  have Nbbbm := nl0 Rbb_10.out
  clear hW hb
  clear fbb0 zbb0 fbb1 zbb1 fbb2 zbb2 fbb3 zbb3 fbb4 zbb4 fbb5 zbb5 xbb
  refine (inside_any (L11.out.get (A := A8) (c := c8) (xs := digs b.lo.1.natAbs) (by simp)) (L11.out.get (A := B8) (c := d8) (xs := digs b.hi.1.natAbs) (by simp)) Ob.out (t32_live HT.out L11.out) Qother.out.1 Qother.out.2 Hn.out).mono ?_
  rintro e w12 ⟨A12, c12, rfl, hd, hb⟩
  have L12 := la L11 hb hd
  have Rx_12 := co Rx_11 hb
  have Ry_12 := co Ry_11 hb
  have Rz_12 := co Rz_11 hb
  have Rv_12 := co Rv_11 hb
  have Rk_12 := co Rk_11 hb
  have Rba_12 := co Rba_11 hb
  have Rbb_12 := co Rbb_11 hb
  have Rbm_12 := co Rbm_11 hb
  clear hb hd
  obtain ⟨fba0, zba0, fba1, zba1, fba2, zba2, fba3, zba3, fba4, zba4, fba5, zba5, xba⟩ := ly6 Rba_12.out
  go_wp2_with fail
  obtain ⟨w13, hW, hb, Rbn_13⟩ := new1 w12 (.cells #[.bool (decide (n.1 < 0)), .slice A12 (digs n.1.natAbs).length c12, .int .i64 n.2] 26)
  rw [← hW]
  have L13 := ls L12 hb
  have Rx_13 := co Rx_12 hb
  have Ry_13 := co Ry_12 hb
  have Rz_13 := co Rz_12 hb
  have Rv_13 := co Rv_12 hb
  have Rk_13 := co Rk_12 hb
  have Rba_13 := co Rba_12 hb
  have Rbb_13 := co Rbb_12 hb
  have Rbm_13 := co Rbm_12 hb
  have Gbn := gl0 L12.out
  have Nxbn := nl0 Rx_12.out
  have Nybn := nl0 Ry_12.out
  have Nzbn := nl0 Rz_12.out
  have Nvbn := nl0 Rv_12.out
  have Nkbn := nl0 Rk_12.out
  have Nbabn := nl0 Rba_12.out
  have Nbbbn := nl0 Rbb_12.out
  have Nbmbn := nl0 Rbm_12.out
  clear hW hb
  clear fba0 zba0 fba1 zba1 fba2 zba2 fba3 zba3 fba4 zba4 fba5 zba5 xba
  refine (csqrt_neg (L13.out.get (A := A6) (c := c6) (xs := digs a.lo.1.natAbs) (by simp)) (L13.out.get (A := B6) (c := d6) (xs := digs a.hi.1.natAbs) (by simp)) Oa.out PCp.out (t32_live HT.out L13.out) Rk_13.out M0.out HX.out).mono ?_
  rintro e w14 ⟨rfl, ht, hr⟩
  have L14 := Lib.hid (ht.live L13.out Rk_13.out noint_ca Gk)
  have Rx_14 := Lib.hid (ht.row Rx_13.out (by omega))
  have Ry_14 := Lib.hid (ht.row Ry_13.out (by omega))
  have Rz_14 := Lib.hid (ht.row Rz_13.out (by omega))
  have Rv_14 := Lib.hid (ht.row Rv_13.out (by omega))
  have Rk_14 := Lib.hid (show w14.heap[w2.heap.size]? = some (.cells #[.int .i64 3, .int .i64 Pp] 45 (0, 0)) from hr)
  have Rba_14 := Lib.hid (ht.row Rba_13.out (by omega))
  have Rbb_14 := Lib.hid (ht.row Rbb_13.out (by omega))
  have Rbm_14 := Lib.hid (ht.row Rbm_13.out (by omega))
  have Rbn_14 := Lib.hid (ht.row Rbn_13.out (by omega))
  clear ht hr
  go_upto_region 12 with fail
  obtain ⟨w15, hW, hb, Rt_15⟩ := new1 w14 (.cells #[.bool false, .slice none 0 0, .int .i64 0, .bool false, .slice none 0 0, .int .i64 0] 34)
  rw [← hW]
  have L15 := ls L14 hb
  have Rx_15 := co Rx_14 hb
  have Ry_15 := co Ry_14 hb
  have Rz_15 := co Rz_14 hb
  have Rv_15 := co Rv_14 hb
  have Rk_15 := co Rk_14 hb
  have Rba_15 := co Rba_14 hb
  have Rbb_15 := co Rbb_14 hb
  have Rbm_15 := co Rbm_14 hb
  have Rbn_15 := co Rbn_14 hb
  have Gt := gl0 L14.out
  have Nxt := nl0 Rx_14.out
  have Nyt := nl0 Ry_14.out
  have Nzt := nl0 Rz_14.out
  have Nvt := nl0 Rv_14.out
  have Nkt := nl0 Rk_14.out
  have Nbat := nl0 Rba_14.out
  have Nbbt := nl0 Rbb_14.out
  have Nbmt := nl0 Rbm_14.out
  have Nbnt := nl0 Rbn_14.out
  clear hW hb
  have dn := DN.out
  obtain ⟨fk0, zk0, fk1, zk1, xk⟩ := ly2 Rk_15.out
  obtain ⟨fba0, zba0, fba1, zba1, fba2, zba2, fba3, zba3, fba4, zba4, fba5, zba5, xba⟩ := ly6 Rba_15.out
  obtain ⟨ft0, zt0, ft1, zt1, ft2, zt2, ft3, zt3, ft4, zt4, ft5, zt5, xt⟩ := ly6 Rt_15.out
  go_wp2_with fail
  refine (ierr_any w2.heap.size 3 _ (row_c Rk_15.out (i := 0) rfl)).mono ?_
  rintro e w16 ⟨rfl, rfl⟩
  clear dn
  clear fk0 zk0 fk1 zk1 xk fba0 zba0 fba1 zba1 fba2 zba2 fba3 zba3 fba4 zba4 fba5 zba5 xba ft0 zt0 ft1 zt1 ft2 zt2 ft3 zt3 ft4 zt4 ft5 zt5 xt
  obtain ⟨ft0, zt0, ft1, zt1, ft2, zt2, ft3, zt3, ft4, zt4, ft5, zt5, xt⟩ := ly6 Rt_15.out
  go_wp2_with fail
  refine (same_zz _).mono ?_
  rintro e w17 ⟨rfl, hb⟩
  have L17 := ls L15 hb
  clear ft0 zt0 ft1 zt1 ft2 zt2 ft3 zt3 ft4 zt4 ft5 zt5 xt
  have Rx_17 := co Rx_15 hb
  have Ry_17 := co Ry_15 hb
  have Rz_17 := co Rz_15 hb
  have Rv_17 := co Rv_15 hb
  have Rk_17 := co Rk_15 hb
  have Rba_17 := co Rba_15 hb
  have Rbb_17 := co Rbb_15 hb
  have Rbm_17 := co Rbm_15 hb
  have Rbn_17 := co Rbn_15 hb
  have Rt_17 := co Rt_15 hb
  clear hb 
  go_wp2
  go_ret
  exact ⟨rfl, L17.out.1⟩

set_option maxHeartbeats 8000000 in
set_option maxRecDepth 100000 in
theorem ivDivides_B  (Ax : Option Addr) (cx : Nat) (sx : Bool) (xsx : List Nat) (ex : Int) (Ay : Option Addr) (cy : Nat) (sy : Bool) (xsy : List Nat) (ey : Int) (Az : Option Addr) (cz : Nat) (sz : Bool) (xsz : List Nat) (ez : Int) (Av : Option Addr) (cv : Nat) (sv : Bool) (xsv : List Nat) (ev : Int) (p : Int) (how : Int) (other : Int) (w : World)  (hx : Dg w Ax cx xsx) (lx : xsx.length ≤ 9223372036854775807) (ex0 : -9223372036854775808 ≤ ex) (ex1 : ex ≤ 9223372036854775807) (hy : Dg w Ay cy xsy) (ly : xsy.length ≤ 9223372036854775807) (ey0 : -9223372036854775808 ≤ ey) (ey1 : ey ≤ 9223372036854775807) (hz : Dg w Az cz xsz) (lz : xsz.length ≤ 9223372036854775807) (ez0 : -9223372036854775808 ≤ ez) (ez1 : ez ≤ 9223372036854775807) (hv : Dg w Av cv xsv) (lv : xsv.length ≤ 9223372036854775807) (ev0 : -9223372036854775808 ≤ ev) (ev1 : ev ≤ 9223372036854775807) (p0 : -9223372036854775808 ≤ p) (p1 : p ≤ 9223372036854775807) (how0 : -9223372036854775808 ≤ how) (how1 : how ≤ 9223372036854775807) (other0 : -9223372036854775808 ≤ other) (other1 : other ≤ 9223372036854775807) (hT : T32 w) (hc : 0 ≤ (spanS (tq sx xsx ex) (tq sy xsy ey)).lo.1 ∧ Ins 0 (spanS (tq sz xsz ez) (tq sv xsv ev))):
    Calls Tryz.prog 4 #[.agg #[.bool sx, .slice Ax xsx.length cx, .int .i64 ex], .agg #[.bool sy, .slice Ay xsy.length cy, .int .i64 ey], .agg #[.bool sz, .slice Az xsz.length cz, .int .i64 ez], .agg #[.bool sv, .slice Av xsv.length cv, .int .i64 ev], .int .i64 p, .int .i64 how, .int .i64 other] w fun e w' => e = .returned (.bool true) ∧ Below w.heap.size w w' := by
  obtain ⟨qx, hqx⟩ : ∃ q, tq sx xsx ex = q := ⟨_, rfl⟩
  have bdx : Qb (-90) 218 qx := hqx ▸ tq_bd hx.2.1
  have LXx := Lib.hid lx
  have Ex := Lib.hid (And.intro ex0 ex1)
  have HQx := Lib.hid hqx
  obtain ⟨qy, hqy⟩ : ∃ q, tq sy xsy ey = q := ⟨_, rfl⟩
  have bdy : Qb (-90) 218 qy := hqy ▸ tq_bd hy.2.1
  have LXy := Lib.hid ly
  have Ey := Lib.hid (And.intro ey0 ey1)
  have HQy := Lib.hid hqy
  obtain ⟨qz, hqz⟩ : ∃ q, tq sz xsz ez = q := ⟨_, rfl⟩
  have bdz : Qb (-90) 218 qz := hqz ▸ tq_bd hz.2.1
  have LXz := Lib.hid lz
  have Ez := Lib.hid (And.intro ez0 ez1)
  have HQz := Lib.hid hqz
  obtain ⟨qv, hqv⟩ : ∃ q, tq sv xsv ev = q := ⟨_, rfl⟩
  have bdv : Qb (-90) 218 qv := hqv ▸ tq_bd hv.2.1
  have LXv := Lib.hid lv
  have Ev := Lib.hid (And.intro ev0 ev1)
  have HQv := Lib.hid hqv
  obtain ⟨Pp, hPp⟩ : ∃ vv, precI p = vv := ⟨_, rfl⟩
  have hPbp := precI_bd p
  rw [hPp] at hPbp
  obtain ⟨kp, hkp⟩ : ∃ k : Nat, (k : Int) = Pp := ⟨Pp.toNat, by omega⟩
  have HPp := Lib.hid hPp
  have PCp := Lib.hid (show Pc kp Pp from ⟨hkp, by omega, by omega⟩)
  have Qp := Lib.hid (And.intro p0 p1)
  have hk2p : 1 ≤ kp := by omega
  have hk3p : kp ≤ 150 := by omega
  have Qhow := Lib.hid (And.intro how0 how1)
  have Qother := Lib.hid (And.intro other0 other1)
  obtain ⟨a, ha⟩ : ∃ s, spanS qx qy = s := ⟨_, rfl⟩
  have sa_b : Sb (-90) 218 a := ha ▸ spanS_sb bdx bdy
  have Ha := Lib.hid ha
  have Oa := Lib.hid (sa_b.ok (by omega) (by omega))
  obtain ⟨b, hb⟩ : ∃ s, spanS qz qv = s := ⟨_, rfl⟩
  have sb_b : Sb (-90) 218 b := hb ▸ spanS_sb bdz bdv
  have Hb := Lib.hid hb
  have Ob := Lib.hid (sb_b.ok (by omega) (by omega))
  obtain ⟨m, im, bm, em⟩ := inside_ex sa_b how (by omega) (by omega)
  obtain ⟨n, in_, bn, en⟩ := inside_ex sb_b other (by omega) (by omega)
  have Om := Lib.hid (bm.ok (by omega) (by omega))
  have On := Lib.hid (bn.ok (by omega) (by omega))
  have Hm := Lib.hid im
  have Hn := Lib.hid in_
  rw [hqx, hqy, ha, hqz, hqv, hb] at hc
  obtain ⟨hc0, hc1⟩ := hc
  obtain ⟨r, hr, br, r0, r1, r2⟩ := sqrt_ex hk2p sa_b hc0 (by omega) (by omega) (by omega) (by omega)
  obtain ⟨s, hs, bs, enc⟩ := mul_ex hk2p br br (by omega) (by omega)
  have w1 := back_in em r1 r2 br.2.2 enc
  have Or := Lib.hid (br.ok (by omega) (by omega))
  have Os := Lib.hid (bs.ok (by omega) (by omega))
  have Hr := Lib.hid hr
  have Hs := Lib.hid hs
  have W1 := Lib.hid (decide_eq_true w1)
  have DN := Lib.hid (show decide (a.lo.1 < 0) = false from decide_eq_false (by omega))
  have ZI := Lib.hid (decide_eq_true hc1)
  have HT := Lib.hid hT
  clear hT
  have L0 := Lib.hid (((((live_start w).add hx).add hy).add hz).add hv)
  clear hx lx ex0 ex1 hqx bdx hy ly ey0 ey1 hqy bdy hz lz ez0 ez1 hqz bdz hv lv ev0 ev1 hqv bdv p0 p1 hPp hPbp hkp how0 how1 other0 other1 ha sa_b hb sb_b im bm em in_ bn en hk2p hk3p hc0 hc1 hr br r0 r1 r2 hs bs enc w1
  go_enter Tryz.func4, Tryz.ntmps4
  go_wp2_with fail
  obtain ⟨v1, hW, hb, Rx_1, Ry_1, Rz_1, Rv_1⟩ := new4 w (.cells #[.bool sx, .slice Ax xsx.length cx, .int .i64 ex] 26) (.cells #[.bool sy, .slice Ay xsy.length cy, .int .i64 ey] 26) (.cells #[.bool sz, .slice Az xsz.length cz, .int .i64 ez] 26) (.cells #[.bool sv, .slice Av xsv.length cv, .int .i64 ev] 26)
  rw [← hW]
  have L1 := ls L0 hb
  have Gx := gl0 L0.out
  have Gy := gl1 L0.out
  have Nxy : w.heap.size < w.heap.size + 1 := by omega
  have Gz := gl2 L0.out
  have Nxz : w.heap.size < w.heap.size + 1 + 1 := by omega
  have Nyz : w.heap.size + 1 < w.heap.size + 1 + 1 := by omega
  have Gv := gl3 L0.out
  have Nxv : w.heap.size < w.heap.size + 1 + 1 + 1 := by omega
  have Nyv : w.heap.size + 1 < w.heap.size + 1 + 1 + 1 := by omega
  have Nzv : w.heap.size + 1 + 1 < w.heap.size + 1 + 1 + 1 := by omega
  clear hW hb
  refine (iexamples_any _ (t32_live HT.out L1.out)).mono ?_
  rintro e w2 ⟨rfl, hb⟩
  have L2 := ls L1 hb
  have Rx_2 := co Rx_1 hb
  have Ry_2 := co Ry_1 hb
  have Rz_2 := co Rz_1 hb
  have Rv_2 := co Rv_1 hb
  clear hb 
  go_wp2_with fail
  refine (precI_any (q := Pp) Qp.out.1 Qp.out.2 HPp.out).mono ?_
  rintro e w3 ⟨rfl, rfl⟩
  go_wp2_with fail
  refine (inew_ok Pp _ (by have := PCp.out; unfold Pc at this; omega) (by have := PCp.out; unfold Pc at this; omega)).mono ?_
  rintro e w4 ⟨rfl, hw0⟩
  subst hw0
  obtain ⟨w5, hW, hb, Rk_5⟩ := new1 w2 (.cells #[.int .i64 0, .int .i64 Pp] 45)
  rw [← hW]
  have L5 := ls L2 hb
  have Rx_5 := co Rx_2 hb
  have Ry_5 := co Ry_2 hb
  have Rz_5 := co Rz_2 hb
  have Rv_5 := co Rv_2 hb
  have Gk := gl0 L2.out
  have Nxk := nl0 Rx_2.out
  have Nyk := nl0 Ry_2.out
  have Nzk := nl0 Rz_2.out
  have Nvk := nl0 Rv_2.out
  clear hW hb
  obtain ⟨fx0, zx0, fx1, zx1, fx2, zx2, xx⟩ := ly3 Rx_5.out
  obtain ⟨fy0, zy0, fy1, zy1, fy2, zy2, xy⟩ := ly3 Ry_5.out
  go_wp2_with fail
  refine (span_any (L5.out.get (A := Ax) (c := cx) (xs := xsx) (by simp)) LXx.out Ex.out.1 Ex.out.2 (L5.out.get (A := Ay) (c := cy) (xs := xsy) (by simp)) LXy.out Ey.out.1 Ey.out.2 (t32_live HT.out L5.out) HQx.out HQy.out Ha.out).mono ?_
  rintro e w6 ⟨A6, c6, B6, d6, rfl, hd, he, hb⟩
  have L6 := la2 L5 hb hd he
  clear fx0 zx0 fx1 zx1 fx2 zx2 xx fy0 zy0 fy1 zy1 fy2 zy2 xy
  have Rx_6 := co Rx_5 hb
  have Ry_6 := co Ry_5 hb
  have Rz_6 := co Rz_5 hb
  have Rv_6 := co Rv_5 hb
  have Rk_6 := co Rk_5 hb
  clear hb hd he
  obtain ⟨fz0, zz0, fz1, zz1, fz2, zz2, xz⟩ := ly3 Rz_6.out
  obtain ⟨fv0, zv0, fv1, zv1, fv2, zv2, xv⟩ := ly3 Rv_6.out
  go_wp2_with fail
  obtain ⟨w7, hW, hb, Rba_7⟩ := new1 w6 (.cells #[.bool (decide (a.lo.1 < 0)), .slice A6 (digs a.lo.1.natAbs).length c6, .int .i64 a.lo.2, .bool (decide (a.hi.1 < 0)), .slice B6 (digs a.hi.1.natAbs).length d6, .int .i64 a.hi.2] 34)
  rw [← hW]
  have L7 := ls L6 hb
  have Rx_7 := co Rx_6 hb
  have Ry_7 := co Ry_6 hb
  have Rz_7 := co Rz_6 hb
  have Rv_7 := co Rv_6 hb
  have Rk_7 := co Rk_6 hb
  have Gba := gl0 L6.out
  have Nxba := nl0 Rx_6.out
  have Nyba := nl0 Ry_6.out
  have Nzba := nl0 Rz_6.out
  have Nvba := nl0 Rv_6.out
  have Nkba := nl0 Rk_6.out
  clear hW hb
  clear fz0 zz0 fz1 zz1 fz2 zz2 xz fv0 zv0 fv1 zv1 fv2 zv2 xv
  refine (span_any (L7.out.get (A := Az) (c := cz) (xs := xsz) (by simp)) LXz.out Ez.out.1 Ez.out.2 (L7.out.get (A := Av) (c := cv) (xs := xsv) (by simp)) LXv.out Ev.out.1 Ev.out.2 (t32_live HT.out L7.out) HQz.out HQv.out Hb.out).mono ?_
  rintro e w8 ⟨A8, c8, B8, d8, rfl, hd, he, hb⟩
  have L8 := la2 L7 hb hd he
  have Rx_8 := co Rx_7 hb
  have Ry_8 := co Ry_7 hb
  have Rz_8 := co Rz_7 hb
  have Rv_8 := co Rv_7 hb
  have Rk_8 := co Rk_7 hb
  have Rba_8 := co Rba_7 hb
  clear hb hd he
  obtain ⟨fba0, zba0, fba1, zba1, fba2, zba2, fba3, zba3, fba4, zba4, fba5, zba5, xba⟩ := ly6 Rba_8.out
  go_wp2_with fail
  obtain ⟨w9, hW, hb, Rbb_9⟩ := new1 w8 (.cells #[.bool (decide (b.lo.1 < 0)), .slice A8 (digs b.lo.1.natAbs).length c8, .int .i64 b.lo.2, .bool (decide (b.hi.1 < 0)), .slice B8 (digs b.hi.1.natAbs).length d8, .int .i64 b.hi.2] 34)
  rw [← hW]
  have L9 := ls L8 hb
  have Rx_9 := co Rx_8 hb
  have Ry_9 := co Ry_8 hb
  have Rz_9 := co Rz_8 hb
  have Rv_9 := co Rv_8 hb
  have Rk_9 := co Rk_8 hb
  have Rba_9 := co Rba_8 hb
  have Gbb := gl0 L8.out
  have Nxbb := nl0 Rx_8.out
  have Nybb := nl0 Ry_8.out
  have Nzbb := nl0 Rz_8.out
  have Nvbb := nl0 Rv_8.out
  have Nkbb := nl0 Rk_8.out
  have Nbabb := nl0 Rba_8.out
  clear hW hb
  clear fba0 zba0 fba1 zba1 fba2 zba2 fba3 zba3 fba4 zba4 fba5 zba5 xba
  refine (inside_any (L9.out.get (A := A6) (c := c6) (xs := digs a.lo.1.natAbs) (by simp)) (L9.out.get (A := B6) (c := d6) (xs := digs a.hi.1.natAbs) (by simp)) Oa.out (t32_live HT.out L9.out) Qhow.out.1 Qhow.out.2 Hm.out).mono ?_
  rintro e w10 ⟨A10, c10, rfl, hd, hb⟩
  have L10 := la L9 hb hd
  have Rx_10 := co Rx_9 hb
  have Ry_10 := co Ry_9 hb
  have Rz_10 := co Rz_9 hb
  have Rv_10 := co Rv_9 hb
  have Rk_10 := co Rk_9 hb
  have Rba_10 := co Rba_9 hb
  have Rbb_10 := co Rbb_9 hb
  clear hb hd
  obtain ⟨fbb0, zbb0, fbb1, zbb1, fbb2, zbb2, fbb3, zbb3, fbb4, zbb4, fbb5, zbb5, xbb⟩ := ly6 Rbb_10.out
  go_wp2_with fail
  obtain ⟨w11, hW, hb, Rbm_11⟩ := new1 w10 (.cells #[.bool (decide (m.1 < 0)), .slice A10 (digs m.1.natAbs).length c10, .int .i64 m.2] 26)
  rw [← hW]
  have L11 := ls L10 hb
  have Rx_11 := co Rx_10 hb
  have Ry_11 := co Ry_10 hb
  have Rz_11 := co Rz_10 hb
  have Rv_11 := co Rv_10 hb
  have Rk_11 := co Rk_10 hb
  have Rba_11 := co Rba_10 hb
  have Rbb_11 := co Rbb_10 hb
  have Gbm := gl0 L10.out
  have Nxbm := nl0 Rx_10.out
  have Nybm := nl0 Ry_10.out
  have Nzbm := nl0 Rz_10.out
  have Nvbm := nl0 Rv_10.out
  have Nkbm := nl0 Rk_10.out
  have Nbabm := nl0 Rba_10.out
  have Nbbbm := nl0 Rbb_10.out
  clear hW hb
  clear fbb0 zbb0 fbb1 zbb1 fbb2 zbb2 fbb3 zbb3 fbb4 zbb4 fbb5 zbb5 xbb
  refine (inside_any (L11.out.get (A := A8) (c := c8) (xs := digs b.lo.1.natAbs) (by simp)) (L11.out.get (A := B8) (c := d8) (xs := digs b.hi.1.natAbs) (by simp)) Ob.out (t32_live HT.out L11.out) Qother.out.1 Qother.out.2 Hn.out).mono ?_
  rintro e w12 ⟨A12, c12, rfl, hd, hb⟩
  have L12 := la L11 hb hd
  have Rx_12 := co Rx_11 hb
  have Ry_12 := co Ry_11 hb
  have Rz_12 := co Rz_11 hb
  have Rv_12 := co Rv_11 hb
  have Rk_12 := co Rk_11 hb
  have Rba_12 := co Rba_11 hb
  have Rbb_12 := co Rbb_11 hb
  have Rbm_12 := co Rbm_11 hb
  clear hb hd
  obtain ⟨fba0, zba0, fba1, zba1, fba2, zba2, fba3, zba3, fba4, zba4, fba5, zba5, xba⟩ := ly6 Rba_12.out
  go_wp2_with fail
  obtain ⟨w13, hW, hb, Rbn_13⟩ := new1 w12 (.cells #[.bool (decide (n.1 < 0)), .slice A12 (digs n.1.natAbs).length c12, .int .i64 n.2] 26)
  rw [← hW]
  have L13 := ls L12 hb
  have Rx_13 := co Rx_12 hb
  have Ry_13 := co Ry_12 hb
  have Rz_13 := co Rz_12 hb
  have Rv_13 := co Rv_12 hb
  have Rk_13 := co Rk_12 hb
  have Rba_13 := co Rba_12 hb
  have Rbb_13 := co Rbb_12 hb
  have Rbm_13 := co Rbm_12 hb
  have Gbn := gl0 L12.out
  have Nxbn := nl0 Rx_12.out
  have Nybn := nl0 Ry_12.out
  have Nzbn := nl0 Rz_12.out
  have Nvbn := nl0 Rv_12.out
  have Nkbn := nl0 Rk_12.out
  have Nbabn := nl0 Rba_12.out
  have Nbbbn := nl0 Rbb_12.out
  have Nbmbn := nl0 Rbm_12.out
  clear hW hb
  clear fba0 zba0 fba1 zba1 fba2 zba2 fba3 zba3 fba4 zba4 fba5 zba5 xba
  refine (csqrt (L13.out.get (A := A6) (c := c6) (xs := digs a.lo.1.natAbs) (by simp)) (L13.out.get (A := B6) (c := d6) (xs := digs a.hi.1.natAbs) (by simp)) Oa.out PCp.out (t32_live HT.out L13.out) Rk_13.out Hr.out).mono ?_
  rintro e w14 ⟨A14, c14, B14, d14, rfl, hd, he, hb⟩
  have L14 := la2 L13 hb hd he
  have Rx_14 := co Rx_13 hb
  have Ry_14 := co Ry_13 hb
  have Rz_14 := co Rz_13 hb
  have Rv_14 := co Rv_13 hb
  have Rk_14 := co Rk_13 hb
  have Rba_14 := co Rba_13 hb
  have Rbb_14 := co Rbb_13 hb
  have Rbm_14 := co Rbm_13 hb
  have Rbn_14 := co Rbn_13 hb
  clear hb hd he
  go_upto_region 12 with fail
  obtain ⟨w15, hW, hb, Rbr_15⟩ := new1 w14 (.cells #[.bool (decide (r.lo.1 < 0)), .slice A14 (digs r.lo.1.natAbs).length c14, .int .i64 r.lo.2, .bool (decide (r.hi.1 < 0)), .slice B14 (digs r.hi.1.natAbs).length d14, .int .i64 r.hi.2] 34)
  rw [← hW]
  have L15 := ls L14 hb
  have Rx_15 := co Rx_14 hb
  have Ry_15 := co Ry_14 hb
  have Rz_15 := co Rz_14 hb
  have Rv_15 := co Rv_14 hb
  have Rk_15 := co Rk_14 hb
  have Rba_15 := co Rba_14 hb
  have Rbb_15 := co Rbb_14 hb
  have Rbm_15 := co Rbm_14 hb
  have Rbn_15 := co Rbn_14 hb
  have Gbr := gl0 L14.out
  have Nxbr := nl0 Rx_14.out
  have Nybr := nl0 Ry_14.out
  have Nzbr := nl0 Rz_14.out
  have Nvbr := nl0 Rv_14.out
  have Nkbr := nl0 Rk_14.out
  have Nbabr := nl0 Rba_14.out
  have Nbbbr := nl0 Rbb_14.out
  have Nbmbr := nl0 Rbm_14.out
  have Nbnbr := nl0 Rbn_14.out
  clear hW hb
  have dn := DN.out
  obtain ⟨fba0, zba0, fba1, zba1, fba2, zba2, fba3, zba3, fba4, zba4, fba5, zba5, xba⟩ := ly6 Rba_15.out
  go_upto_region 14 with fail
  clear dn
  clear fba0 zba0 fba1 zba1 fba2 zba2 fba3 zba3 fba4 zba4 fba5 zba5 xba
  obtain ⟨fbr0, zbr0, fbr1, zbr1, fbr2, zbr2, fbr3, zbr3, fbr4, zbr4, fbr5, zbr5, xbr⟩ := ly6 Rbr_15.out
  obtain ⟨fbm0, zbm0, fbm1, zbm1, fbm2, zbm2, xbm⟩ := ly3 Rbm_15.out
  have KD := Lib.hid (bd0 w15)
  have LD := ls L15 KD.out
  go_region_held3 (fun w' => ∀ b o, b < w15.heap.size → w'.cell? ⟨b, o, none⟩ = w15.cell? ⟨b, o, none⟩)
    (first | with_reducible exact (bcell KD.out).1 | with_reducible exact (bcell K17.out).1 | with_reducible exact (bcell K18.out).1)
    (first
      | (go_at_call 20; (with_reducible refine (cmul (LD.out.get (A := A14) (c := c14) (xs := digs r.lo.1.natAbs) (by simp)) (LD.out.get (A := B14) (c := d14) (xs := digs r.hi.1.natAbs) (by simp)) Or.out (LD.out.get (A := A14) (c := c14) (xs := digs r.lo.1.natAbs) (by simp)) (LD.out.get (A := B14) (c := d14) (xs := digs r.hi.1.natAbs) (by simp)) Or.out PCp.out (t32_live HT.out LD.out) (cells_of Rk_15.out KD.out) Hs.out).mono ?_); rintro e w17 ⟨A17, c17, B17, d17, rfl, hd, he, hb⟩; (have K17 := bt KD hb); (have L17 := la2 LD hb hd he); clear hb hd he)
      | (go_at_call 17; (with_reducible refine (chas (L17.out.get (A := A17) (c := c17) (xs := digs s.lo.1.natAbs) (by simp)) (L17.out.get (A := B17) (c := d17) (xs := digs s.hi.1.natAbs) (by simp)) Os.out (L17.out.get (A := A10) (c := c10) (xs := digs m.1.natAbs) (by simp)) Om.out W1.out).mono ?_); rintro e w18 ⟨rfl, hb⟩; (have K18 := bt K17 hb); (have L18 := Lib.hid (L17.out.step hb)); clear hb ))
  rename_i hHeld
  clear hHeld
  clear fbr0 zbr0 fbr1 zbr1 fbr2 zbr2 fbr3 zbr3 fbr4 zbr4 fbr5 zbr5 xbr fbm0 zbm0 fbm1 zbm1 fbm2 zbm2 xbm
  have Rx_18 := co Rx_15 K18.out
  have Ry_18 := co Ry_15 K18.out
  have Rz_18 := co Rz_15 K18.out
  have Rv_18 := co Rv_15 K18.out
  have Rk_18 := co Rk_15 K18.out
  have Rba_18 := co Rba_15 K18.out
  have Rbb_18 := co Rbb_15 K18.out
  have Rbm_18 := co Rbm_15 K18.out
  have Rbn_18 := co Rbn_15 K18.out
  have Rbr_18 := co Rbr_15 K18.out
  clear KD LD
  obtain ⟨fba0, zba0, fba1, zba1, fba2, zba2, fba3, zba3, fba4, zba4, fba5, zba5, xba⟩ := ly6 Rba_18.out
  obtain ⟨fbb0, zbb0, fbb1, zbb1, fbb2, zbb2, fbb3, zbb3, fbb4, zbb4, fbb5, zbb5, xbb⟩ := ly6 Rbb_18.out
  go_wp2_with fail
  refine (cdiv_zero (L18.out.get (A := A6) (c := c6) (xs := digs a.lo.1.natAbs) (by simp)) (L18.out.get (A := B6) (c := d6) (xs := digs a.hi.1.natAbs) (by simp)) Oa.out (L18.out.get (A := A8) (c := c8) (xs := digs b.lo.1.natAbs) (by simp)) (L18.out.get (A := B8) (c := d8) (xs := digs b.hi.1.natAbs) (by simp)) Ob.out Rk_18.out ZI.out).mono ?_
  rintro e w19 ⟨rfl, ht, hr⟩
  clear fba0 zba0 fba1 zba1 fba2 zba2 fba3 zba3 fba4 zba4 fba5 zba5 xba fbb0 zbb0 fbb1 zbb1 fbb2 zbb2 fbb3 zbb3 fbb4 zbb4 fbb5 zbb5 xbb
  have L19 := Lib.hid (ht.live L18.out Rk_18.out noint_ca Gk)
  have Rx_19 := Lib.hid (ht.row Rx_18.out (by omega))
  have Ry_19 := Lib.hid (ht.row Ry_18.out (by omega))
  have Rz_19 := Lib.hid (ht.row Rz_18.out (by omega))
  have Rv_19 := Lib.hid (ht.row Rv_18.out (by omega))
  have Rk_19 := Lib.hid (show w19.heap[w2.heap.size]? = some (.cells #[.int .i64 3, .int .i64 Pp] 45 (0, 0)) from hr)
  have Rba_19 := Lib.hid (ht.row Rba_18.out (by omega))
  have Rbb_19 := Lib.hid (ht.row Rbb_18.out (by omega))
  have Rbm_19 := Lib.hid (ht.row Rbm_18.out (by omega))
  have Rbn_19 := Lib.hid (ht.row Rbn_18.out (by omega))
  have Rbr_19 := Lib.hid (ht.row Rbr_18.out (by omega))
  clear ht hr
  obtain ⟨fbb0, zbb0, fbb1, zbb1, fbb2, zbb2, fbb3, zbb3, fbb4, zbb4, fbb5, zbb5, xbb⟩ := ly6 Rbb_19.out
  go_wp2_with fail
  obtain ⟨w20, hW, hb, Rt_20⟩ := new1 w19 (.cells #[.bool false, .slice none 0 0, .int .i64 0, .bool false, .slice none 0 0, .int .i64 0] 34)
  rw [← hW]
  have L20 := ls L19 hb
  have Rx_20 := co Rx_19 hb
  have Ry_20 := co Ry_19 hb
  have Rz_20 := co Rz_19 hb
  have Rv_20 := co Rv_19 hb
  have Rk_20 := co Rk_19 hb
  have Rba_20 := co Rba_19 hb
  have Rbb_20 := co Rbb_19 hb
  have Rbm_20 := co Rbm_19 hb
  have Rbn_20 := co Rbn_19 hb
  have Rbr_20 := co Rbr_19 hb
  have Gt := gl0 L19.out
  have Nxt := nl0 Rx_19.out
  have Nyt := nl0 Ry_19.out
  have Nzt := nl0 Rz_19.out
  have Nvt := nl0 Rv_19.out
  have Nkt := nl0 Rk_19.out
  have Nbat := nl0 Rba_19.out
  have Nbbt := nl0 Rbb_19.out
  have Nbmt := nl0 Rbm_19.out
  have Nbnt := nl0 Rbn_19.out
  have Nbrt := nl0 Rbr_19.out
  clear hW hb
  clear fbb0 zbb0 fbb1 zbb1 fbb2 zbb2 fbb3 zbb3 fbb4 zbb4 fbb5 zbb5 xbb
  refine (chas0 (L20.out.get (A := A8) (c := c8) (xs := digs b.lo.1.natAbs) (by simp)) (L20.out.get (A := B8) (c := d8) (xs := digs b.hi.1.natAbs) (by simp)) Ob.out ZI.out).mono ?_
  rintro e w21 ⟨rfl, hb⟩
  have L21 := ls L20 hb
  have Rx_21 := co Rx_20 hb
  have Ry_21 := co Ry_20 hb
  have Rz_21 := co Rz_20 hb
  have Rv_21 := co Rv_20 hb
  have Rk_21 := co Rk_20 hb
  have Rba_21 := co Rba_20 hb
  have Rbb_21 := co Rbb_20 hb
  have Rbm_21 := co Rbm_20 hb
  have Rbn_21 := co Rbn_20 hb
  have Rbr_21 := co Rbr_20 hb
  have Rt_21 := co Rt_20 hb
  clear hb 
  obtain ⟨fk0, zk0, fk1, zk1, xk⟩ := ly2 Rk_21.out
  go_wp2_with fail
  refine (ierr_any w2.heap.size 3 _ (row_c Rk_21.out (i := 0) rfl)).mono ?_
  rintro e w22 ⟨rfl, rfl⟩
  clear fk0 zk0 fk1 zk1 xk
  go_wp2
  go_ret
  exact ⟨rfl, L21.out.1⟩

set_option maxHeartbeats 8000000 in
set_option maxRecDepth 100000 in
theorem ivDivides_C  (Ax : Option Addr) (cx : Nat) (sx : Bool) (xsx : List Nat) (ex : Int) (Ay : Option Addr) (cy : Nat) (sy : Bool) (xsy : List Nat) (ey : Int) (Az : Option Addr) (cz : Nat) (sz : Bool) (xsz : List Nat) (ez : Int) (Av : Option Addr) (cv : Nat) (sv : Bool) (xsv : List Nat) (ev : Int) (p : Int) (how : Int) (other : Int) (w : World)  (hx : Dg w Ax cx xsx) (lx : xsx.length ≤ 9223372036854775807) (ex0 : -9223372036854775808 ≤ ex) (ex1 : ex ≤ 9223372036854775807) (hy : Dg w Ay cy xsy) (ly : xsy.length ≤ 9223372036854775807) (ey0 : -9223372036854775808 ≤ ey) (ey1 : ey ≤ 9223372036854775807) (hz : Dg w Az cz xsz) (lz : xsz.length ≤ 9223372036854775807) (ez0 : -9223372036854775808 ≤ ez) (ez1 : ez ≤ 9223372036854775807) (hv : Dg w Av cv xsv) (lv : xsv.length ≤ 9223372036854775807) (ev0 : -9223372036854775808 ≤ ev) (ev1 : ev ≤ 9223372036854775807) (p0 : -9223372036854775808 ≤ p) (p1 : p ≤ 9223372036854775807) (how0 : -9223372036854775808 ≤ how) (how1 : how ≤ 9223372036854775807) (other0 : -9223372036854775808 ≤ other) (other1 : other ≤ 9223372036854775807) (hT : T32 w) (hc : 0 ≤ (spanS (tq sx xsx ex) (tq sy xsy ey)).lo.1 ∧ ¬ Ins 0 (spanS (tq sz xsz ez) (tq sv xsv ev))):
    Calls Tryz.prog 4 #[.agg #[.bool sx, .slice Ax xsx.length cx, .int .i64 ex], .agg #[.bool sy, .slice Ay xsy.length cy, .int .i64 ey], .agg #[.bool sz, .slice Az xsz.length cz, .int .i64 ez], .agg #[.bool sv, .slice Av xsv.length cv, .int .i64 ev], .int .i64 p, .int .i64 how, .int .i64 other] w fun e w' => e = .returned (.bool true) ∧ Below w.heap.size w w' := by
  obtain ⟨qx, hqx⟩ : ∃ q, tq sx xsx ex = q := ⟨_, rfl⟩
  have bdx : Qb (-90) 218 qx := hqx ▸ tq_bd hx.2.1
  have LXx := Lib.hid lx
  have Ex := Lib.hid (And.intro ex0 ex1)
  have HQx := Lib.hid hqx
  obtain ⟨qy, hqy⟩ : ∃ q, tq sy xsy ey = q := ⟨_, rfl⟩
  have bdy : Qb (-90) 218 qy := hqy ▸ tq_bd hy.2.1
  have LXy := Lib.hid ly
  have Ey := Lib.hid (And.intro ey0 ey1)
  have HQy := Lib.hid hqy
  obtain ⟨qz, hqz⟩ : ∃ q, tq sz xsz ez = q := ⟨_, rfl⟩
  have bdz : Qb (-90) 218 qz := hqz ▸ tq_bd hz.2.1
  have LXz := Lib.hid lz
  have Ez := Lib.hid (And.intro ez0 ez1)
  have HQz := Lib.hid hqz
  obtain ⟨qv, hqv⟩ : ∃ q, tq sv xsv ev = q := ⟨_, rfl⟩
  have bdv : Qb (-90) 218 qv := hqv ▸ tq_bd hv.2.1
  have LXv := Lib.hid lv
  have Ev := Lib.hid (And.intro ev0 ev1)
  have HQv := Lib.hid hqv
  obtain ⟨Pp, hPp⟩ : ∃ vv, precI p = vv := ⟨_, rfl⟩
  have hPbp := precI_bd p
  rw [hPp] at hPbp
  obtain ⟨kp, hkp⟩ : ∃ k : Nat, (k : Int) = Pp := ⟨Pp.toNat, by omega⟩
  have HPp := Lib.hid hPp
  have PCp := Lib.hid (show Pc kp Pp from ⟨hkp, by omega, by omega⟩)
  have Qp := Lib.hid (And.intro p0 p1)
  have hk2p : 1 ≤ kp := by omega
  have hk3p : kp ≤ 150 := by omega
  have Qhow := Lib.hid (And.intro how0 how1)
  have Qother := Lib.hid (And.intro other0 other1)
  obtain ⟨a, ha⟩ : ∃ s, spanS qx qy = s := ⟨_, rfl⟩
  have sa_b : Sb (-90) 218 a := ha ▸ spanS_sb bdx bdy
  have Ha := Lib.hid ha
  have Oa := Lib.hid (sa_b.ok (by omega) (by omega))
  obtain ⟨b, hb⟩ : ∃ s, spanS qz qv = s := ⟨_, rfl⟩
  have sb_b : Sb (-90) 218 b := hb ▸ spanS_sb bdz bdv
  have Hb := Lib.hid hb
  have Ob := Lib.hid (sb_b.ok (by omega) (by omega))
  obtain ⟨m, im, bm, em⟩ := inside_ex sa_b how (by omega) (by omega)
  obtain ⟨n, in_, bn, en⟩ := inside_ex sb_b other (by omega) (by omega)
  have Om := Lib.hid (bm.ok (by omega) (by omega))
  have On := Lib.hid (bn.ok (by omega) (by omega))
  have Hm := Lib.hid im
  have Hn := Lib.hid in_
  rw [hqx, hqy, ha, hqz, hqv, hb] at hc
  obtain ⟨hc0, hc1⟩ := hc
  obtain ⟨r, hr, br, r0, r1, r2⟩ := sqrt_ex hk2p sa_b hc0 (by omega) (by omega) (by omega) (by omega)
  obtain ⟨s, hs, bs, enc⟩ := mul_ex hk2p br br (by omega) (by omega)
  have w1 := back_in em r1 r2 br.2.2 enc
  have Or := Lib.hid (br.ok (by omega) (by omega))
  have Os := Lib.hid (bs.ok (by omega) (by omega))
  have Hr := Lib.hid hr
  have Hs := Lib.hid hs
  have W1 := Lib.hid (decide_eq_true w1)
  have DN := Lib.hid (show decide (a.lo.1 < 0) = false from decide_eq_false (by omega))
  have nz : NoZero b := hc1
  obtain ⟨q, hq, bq, enq⟩ := div_ex hk2p sa_b sb_b nz (by omega) (by omega)
  have bN : Sb (-91) 219 ⟨n, n⟩ := ⟨bn.mono (by omega) (by omega), bn.mono (by omega) (by omega), Rat.le_refl⟩
  obtain ⟨u, hu, bu, enu⟩ := mul_ex hk2p bq bN (by omega) (by omega)
  have w2 := quot_in nz en (enq _ _ em en) (n := ⟨n, n⟩) ⟨Rat.le_refl, Rat.le_refl⟩ enu
  have Oq := Lib.hid (bq.ok (by omega) (by omega))
  have Ou := Lib.hid (bu.ok (by omega) (by omega))
  have Hq := Lib.hid hq
  have Hu := Lib.hid hu
  have W2 := Lib.hid (decide_eq_true w2)
  have ZI := Lib.hid (decide_eq_false hc1)
  have ON := Lib.hid (bN.ok (by omega) (by omega))
  have HT := Lib.hid hT
  clear hT
  have L0 := Lib.hid (((((live_start w).add hx).add hy).add hz).add hv)
  clear hx lx ex0 ex1 hqx bdx hy ly ey0 ey1 hqy bdy hz lz ez0 ez1 hqz bdz hv lv ev0 ev1 hqv bdv p0 p1 hPp hPbp hkp how0 how1 other0 other1 ha sa_b hb sb_b im bm em in_ bn en hk2p hk3p hc0 hc1 hr br r0 r1 r2 hs bs enc w1 nz hq bq enq bN hu bu enu w2
  go_enter Tryz.func4, Tryz.ntmps4
  go_wp2_with fail
  obtain ⟨v1, hW, hb, Rx_1, Ry_1, Rz_1, Rv_1⟩ := new4 w (.cells #[.bool sx, .slice Ax xsx.length cx, .int .i64 ex] 26) (.cells #[.bool sy, .slice Ay xsy.length cy, .int .i64 ey] 26) (.cells #[.bool sz, .slice Az xsz.length cz, .int .i64 ez] 26) (.cells #[.bool sv, .slice Av xsv.length cv, .int .i64 ev] 26)
  rw [← hW]
  have L1 := ls L0 hb
  have Gx := gl0 L0.out
  have Gy := gl1 L0.out
  have Nxy : w.heap.size < w.heap.size + 1 := by omega
  have Gz := gl2 L0.out
  have Nxz : w.heap.size < w.heap.size + 1 + 1 := by omega
  have Nyz : w.heap.size + 1 < w.heap.size + 1 + 1 := by omega
  have Gv := gl3 L0.out
  have Nxv : w.heap.size < w.heap.size + 1 + 1 + 1 := by omega
  have Nyv : w.heap.size + 1 < w.heap.size + 1 + 1 + 1 := by omega
  have Nzv : w.heap.size + 1 + 1 < w.heap.size + 1 + 1 + 1 := by omega
  clear hW hb
  refine (iexamples_any _ (t32_live HT.out L1.out)).mono ?_
  rintro e w2 ⟨rfl, hb⟩
  have L2 := ls L1 hb
  have Rx_2 := co Rx_1 hb
  have Ry_2 := co Ry_1 hb
  have Rz_2 := co Rz_1 hb
  have Rv_2 := co Rv_1 hb
  clear hb 
  go_wp2_with fail
  refine (precI_any (q := Pp) Qp.out.1 Qp.out.2 HPp.out).mono ?_
  rintro e w3 ⟨rfl, rfl⟩
  go_wp2_with fail
  refine (inew_ok Pp _ (by have := PCp.out; unfold Pc at this; omega) (by have := PCp.out; unfold Pc at this; omega)).mono ?_
  rintro e w4 ⟨rfl, hw0⟩
  subst hw0
  obtain ⟨w5, hW, hb, Rk_5⟩ := new1 w2 (.cells #[.int .i64 0, .int .i64 Pp] 45)
  rw [← hW]
  have L5 := ls L2 hb
  have Rx_5 := co Rx_2 hb
  have Ry_5 := co Ry_2 hb
  have Rz_5 := co Rz_2 hb
  have Rv_5 := co Rv_2 hb
  have Gk := gl0 L2.out
  have Nxk := nl0 Rx_2.out
  have Nyk := nl0 Ry_2.out
  have Nzk := nl0 Rz_2.out
  have Nvk := nl0 Rv_2.out
  clear hW hb
  obtain ⟨fx0, zx0, fx1, zx1, fx2, zx2, xx⟩ := ly3 Rx_5.out
  obtain ⟨fy0, zy0, fy1, zy1, fy2, zy2, xy⟩ := ly3 Ry_5.out
  go_wp2_with fail
  refine (span_any (L5.out.get (A := Ax) (c := cx) (xs := xsx) (by simp)) LXx.out Ex.out.1 Ex.out.2 (L5.out.get (A := Ay) (c := cy) (xs := xsy) (by simp)) LXy.out Ey.out.1 Ey.out.2 (t32_live HT.out L5.out) HQx.out HQy.out Ha.out).mono ?_
  rintro e w6 ⟨A6, c6, B6, d6, rfl, hd, he, hb⟩
  have L6 := la2 L5 hb hd he
  clear fx0 zx0 fx1 zx1 fx2 zx2 xx fy0 zy0 fy1 zy1 fy2 zy2 xy
  have Rx_6 := co Rx_5 hb
  have Ry_6 := co Ry_5 hb
  have Rz_6 := co Rz_5 hb
  have Rv_6 := co Rv_5 hb
  have Rk_6 := co Rk_5 hb
  clear hb hd he
  obtain ⟨fz0, zz0, fz1, zz1, fz2, zz2, xz⟩ := ly3 Rz_6.out
  obtain ⟨fv0, zv0, fv1, zv1, fv2, zv2, xv⟩ := ly3 Rv_6.out
  go_wp2_with fail
  obtain ⟨w7, hW, hb, Rba_7⟩ := new1 w6 (.cells #[.bool (decide (a.lo.1 < 0)), .slice A6 (digs a.lo.1.natAbs).length c6, .int .i64 a.lo.2, .bool (decide (a.hi.1 < 0)), .slice B6 (digs a.hi.1.natAbs).length d6, .int .i64 a.hi.2] 34)
  rw [← hW]
  have L7 := ls L6 hb
  have Rx_7 := co Rx_6 hb
  have Ry_7 := co Ry_6 hb
  have Rz_7 := co Rz_6 hb
  have Rv_7 := co Rv_6 hb
  have Rk_7 := co Rk_6 hb
  have Gba := gl0 L6.out
  have Nxba := nl0 Rx_6.out
  have Nyba := nl0 Ry_6.out
  have Nzba := nl0 Rz_6.out
  have Nvba := nl0 Rv_6.out
  have Nkba := nl0 Rk_6.out
  clear hW hb
  clear fz0 zz0 fz1 zz1 fz2 zz2 xz fv0 zv0 fv1 zv1 fv2 zv2 xv
  refine (span_any (L7.out.get (A := Az) (c := cz) (xs := xsz) (by simp)) LXz.out Ez.out.1 Ez.out.2 (L7.out.get (A := Av) (c := cv) (xs := xsv) (by simp)) LXv.out Ev.out.1 Ev.out.2 (t32_live HT.out L7.out) HQz.out HQv.out Hb.out).mono ?_
  rintro e w8 ⟨A8, c8, B8, d8, rfl, hd, he, hb⟩
  have L8 := la2 L7 hb hd he
  have Rx_8 := co Rx_7 hb
  have Ry_8 := co Ry_7 hb
  have Rz_8 := co Rz_7 hb
  have Rv_8 := co Rv_7 hb
  have Rk_8 := co Rk_7 hb
  have Rba_8 := co Rba_7 hb
  clear hb hd he
  obtain ⟨fba0, zba0, fba1, zba1, fba2, zba2, fba3, zba3, fba4, zba4, fba5, zba5, xba⟩ := ly6 Rba_8.out
  go_wp2_with fail
  obtain ⟨w9, hW, hb, Rbb_9⟩ := new1 w8 (.cells #[.bool (decide (b.lo.1 < 0)), .slice A8 (digs b.lo.1.natAbs).length c8, .int .i64 b.lo.2, .bool (decide (b.hi.1 < 0)), .slice B8 (digs b.hi.1.natAbs).length d8, .int .i64 b.hi.2] 34)
  rw [← hW]
  have L9 := ls L8 hb
  have Rx_9 := co Rx_8 hb
  have Ry_9 := co Ry_8 hb
  have Rz_9 := co Rz_8 hb
  have Rv_9 := co Rv_8 hb
  have Rk_9 := co Rk_8 hb
  have Rba_9 := co Rba_8 hb
  have Gbb := gl0 L8.out
  have Nxbb := nl0 Rx_8.out
  have Nybb := nl0 Ry_8.out
  have Nzbb := nl0 Rz_8.out
  have Nvbb := nl0 Rv_8.out
  have Nkbb := nl0 Rk_8.out
  have Nbabb := nl0 Rba_8.out
  clear hW hb
  clear fba0 zba0 fba1 zba1 fba2 zba2 fba3 zba3 fba4 zba4 fba5 zba5 xba
  refine (inside_any (L9.out.get (A := A6) (c := c6) (xs := digs a.lo.1.natAbs) (by simp)) (L9.out.get (A := B6) (c := d6) (xs := digs a.hi.1.natAbs) (by simp)) Oa.out (t32_live HT.out L9.out) Qhow.out.1 Qhow.out.2 Hm.out).mono ?_
  rintro e w10 ⟨A10, c10, rfl, hd, hb⟩
  have L10 := la L9 hb hd
  have Rx_10 := co Rx_9 hb
  have Ry_10 := co Ry_9 hb
  have Rz_10 := co Rz_9 hb
  have Rv_10 := co Rv_9 hb
  have Rk_10 := co Rk_9 hb
  have Rba_10 := co Rba_9 hb
  have Rbb_10 := co Rbb_9 hb
  clear hb hd
  obtain ⟨fbb0, zbb0, fbb1, zbb1, fbb2, zbb2, fbb3, zbb3, fbb4, zbb4, fbb5, zbb5, xbb⟩ := ly6 Rbb_10.out
  go_wp2_with fail
  obtain ⟨w11, hW, hb, Rbm_11⟩ := new1 w10 (.cells #[.bool (decide (m.1 < 0)), .slice A10 (digs m.1.natAbs).length c10, .int .i64 m.2] 26)
  rw [← hW]
  have L11 := ls L10 hb
  have Rx_11 := co Rx_10 hb
  have Ry_11 := co Ry_10 hb
  have Rz_11 := co Rz_10 hb
  have Rv_11 := co Rv_10 hb
  have Rk_11 := co Rk_10 hb
  have Rba_11 := co Rba_10 hb
  have Rbb_11 := co Rbb_10 hb
  have Gbm := gl0 L10.out
  have Nxbm := nl0 Rx_10.out
  have Nybm := nl0 Ry_10.out
  have Nzbm := nl0 Rz_10.out
  have Nvbm := nl0 Rv_10.out
  have Nkbm := nl0 Rk_10.out
  have Nbabm := nl0 Rba_10.out
  have Nbbbm := nl0 Rbb_10.out
  clear hW hb
  clear fbb0 zbb0 fbb1 zbb1 fbb2 zbb2 fbb3 zbb3 fbb4 zbb4 fbb5 zbb5 xbb
  refine (inside_any (L11.out.get (A := A8) (c := c8) (xs := digs b.lo.1.natAbs) (by simp)) (L11.out.get (A := B8) (c := d8) (xs := digs b.hi.1.natAbs) (by simp)) Ob.out (t32_live HT.out L11.out) Qother.out.1 Qother.out.2 Hn.out).mono ?_
  rintro e w12 ⟨A12, c12, rfl, hd, hb⟩
  have L12 := la L11 hb hd
  have Rx_12 := co Rx_11 hb
  have Ry_12 := co Ry_11 hb
  have Rz_12 := co Rz_11 hb
  have Rv_12 := co Rv_11 hb
  have Rk_12 := co Rk_11 hb
  have Rba_12 := co Rba_11 hb
  have Rbb_12 := co Rbb_11 hb
  have Rbm_12 := co Rbm_11 hb
  clear hb hd
  obtain ⟨fba0, zba0, fba1, zba1, fba2, zba2, fba3, zba3, fba4, zba4, fba5, zba5, xba⟩ := ly6 Rba_12.out
  go_wp2_with fail
  obtain ⟨w13, hW, hb, Rbn_13⟩ := new1 w12 (.cells #[.bool (decide (n.1 < 0)), .slice A12 (digs n.1.natAbs).length c12, .int .i64 n.2] 26)
  rw [← hW]
  have L13 := ls L12 hb
  have Rx_13 := co Rx_12 hb
  have Ry_13 := co Ry_12 hb
  have Rz_13 := co Rz_12 hb
  have Rv_13 := co Rv_12 hb
  have Rk_13 := co Rk_12 hb
  have Rba_13 := co Rba_12 hb
  have Rbb_13 := co Rbb_12 hb
  have Rbm_13 := co Rbm_12 hb
  have Gbn := gl0 L12.out
  have Nxbn := nl0 Rx_12.out
  have Nybn := nl0 Ry_12.out
  have Nzbn := nl0 Rz_12.out
  have Nvbn := nl0 Rv_12.out
  have Nkbn := nl0 Rk_12.out
  have Nbabn := nl0 Rba_12.out
  have Nbbbn := nl0 Rbb_12.out
  have Nbmbn := nl0 Rbm_12.out
  clear hW hb
  clear fba0 zba0 fba1 zba1 fba2 zba2 fba3 zba3 fba4 zba4 fba5 zba5 xba
  refine (csqrt (L13.out.get (A := A6) (c := c6) (xs := digs a.lo.1.natAbs) (by simp)) (L13.out.get (A := B6) (c := d6) (xs := digs a.hi.1.natAbs) (by simp)) Oa.out PCp.out (t32_live HT.out L13.out) Rk_13.out Hr.out).mono ?_
  rintro e w14 ⟨A14, c14, B14, d14, rfl, hd, he, hb⟩
  have L14 := la2 L13 hb hd he
  have Rx_14 := co Rx_13 hb
  have Ry_14 := co Ry_13 hb
  have Rz_14 := co Rz_13 hb
  have Rv_14 := co Rv_13 hb
  have Rk_14 := co Rk_13 hb
  have Rba_14 := co Rba_13 hb
  have Rbb_14 := co Rbb_13 hb
  have Rbm_14 := co Rbm_13 hb
  have Rbn_14 := co Rbn_13 hb
  clear hb hd he
  go_upto_region 12 with fail
  obtain ⟨w15, hW, hb, Rbr_15⟩ := new1 w14 (.cells #[.bool (decide (r.lo.1 < 0)), .slice A14 (digs r.lo.1.natAbs).length c14, .int .i64 r.lo.2, .bool (decide (r.hi.1 < 0)), .slice B14 (digs r.hi.1.natAbs).length d14, .int .i64 r.hi.2] 34)
  rw [← hW]
  have L15 := ls L14 hb
  have Rx_15 := co Rx_14 hb
  have Ry_15 := co Ry_14 hb
  have Rz_15 := co Rz_14 hb
  have Rv_15 := co Rv_14 hb
  have Rk_15 := co Rk_14 hb
  have Rba_15 := co Rba_14 hb
  have Rbb_15 := co Rbb_14 hb
  have Rbm_15 := co Rbm_14 hb
  have Rbn_15 := co Rbn_14 hb
  have Gbr := gl0 L14.out
  have Nxbr := nl0 Rx_14.out
  have Nybr := nl0 Ry_14.out
  have Nzbr := nl0 Rz_14.out
  have Nvbr := nl0 Rv_14.out
  have Nkbr := nl0 Rk_14.out
  have Nbabr := nl0 Rba_14.out
  have Nbbbr := nl0 Rbb_14.out
  have Nbmbr := nl0 Rbm_14.out
  have Nbnbr := nl0 Rbn_14.out
  clear hW hb
  have dn := DN.out
  obtain ⟨fba0, zba0, fba1, zba1, fba2, zba2, fba3, zba3, fba4, zba4, fba5, zba5, xba⟩ := ly6 Rba_15.out
  go_upto_region 14 with fail
  clear dn
  clear fba0 zba0 fba1 zba1 fba2 zba2 fba3 zba3 fba4 zba4 fba5 zba5 xba
  obtain ⟨fbr0, zbr0, fbr1, zbr1, fbr2, zbr2, fbr3, zbr3, fbr4, zbr4, fbr5, zbr5, xbr⟩ := ly6 Rbr_15.out
  obtain ⟨fbm0, zbm0, fbm1, zbm1, fbm2, zbm2, xbm⟩ := ly3 Rbm_15.out
  have KD := Lib.hid (bd0 w15)
  have LD := ls L15 KD.out
  go_region_held3 (fun w' => ∀ b o, b < w15.heap.size → w'.cell? ⟨b, o, none⟩ = w15.cell? ⟨b, o, none⟩)
    (first | with_reducible exact (bcell KD.out).1 | with_reducible exact (bcell K17.out).1 | with_reducible exact (bcell K18.out).1)
    (first
      | (go_at_call 20; (with_reducible refine (cmul (LD.out.get (A := A14) (c := c14) (xs := digs r.lo.1.natAbs) (by simp)) (LD.out.get (A := B14) (c := d14) (xs := digs r.hi.1.natAbs) (by simp)) Or.out (LD.out.get (A := A14) (c := c14) (xs := digs r.lo.1.natAbs) (by simp)) (LD.out.get (A := B14) (c := d14) (xs := digs r.hi.1.natAbs) (by simp)) Or.out PCp.out (t32_live HT.out LD.out) (cells_of Rk_15.out KD.out) Hs.out).mono ?_); rintro e w17 ⟨A17, c17, B17, d17, rfl, hd, he, hb⟩; (have K17 := bt KD hb); (have L17 := la2 LD hb hd he); clear hb hd he)
      | (go_at_call 17; (with_reducible refine (chas (L17.out.get (A := A17) (c := c17) (xs := digs s.lo.1.natAbs) (by simp)) (L17.out.get (A := B17) (c := d17) (xs := digs s.hi.1.natAbs) (by simp)) Os.out (L17.out.get (A := A10) (c := c10) (xs := digs m.1.natAbs) (by simp)) Om.out W1.out).mono ?_); rintro e w18 ⟨rfl, hb⟩; (have K18 := bt K17 hb); (have L18 := Lib.hid (L17.out.step hb)); clear hb ))
  rename_i hHeld
  clear hHeld
  clear fbr0 zbr0 fbr1 zbr1 fbr2 zbr2 fbr3 zbr3 fbr4 zbr4 fbr5 zbr5 xbr fbm0 zbm0 fbm1 zbm1 fbm2 zbm2 xbm
  have Rx_18 := co Rx_15 K18.out
  have Ry_18 := co Ry_15 K18.out
  have Rz_18 := co Rz_15 K18.out
  have Rv_18 := co Rv_15 K18.out
  have Rk_18 := co Rk_15 K18.out
  have Rba_18 := co Rba_15 K18.out
  have Rbb_18 := co Rbb_15 K18.out
  have Rbm_18 := co Rbm_15 K18.out
  have Rbn_18 := co Rbn_15 K18.out
  have Rbr_18 := co Rbr_15 K18.out
  clear KD LD
  obtain ⟨fba0, zba0, fba1, zba1, fba2, zba2, fba3, zba3, fba4, zba4, fba5, zba5, xba⟩ := ly6 Rba_18.out
  obtain ⟨fbb0, zbb0, fbb1, zbb1, fbb2, zbb2, fbb3, zbb3, fbb4, zbb4, fbb5, zbb5, xbb⟩ := ly6 Rbb_18.out
  go_wp2_with fail
  refine (cdiv (L18.out.get (A := A6) (c := c6) (xs := digs a.lo.1.natAbs) (by simp)) (L18.out.get (A := B6) (c := d6) (xs := digs a.hi.1.natAbs) (by simp)) Oa.out (L18.out.get (A := A8) (c := c8) (xs := digs b.lo.1.natAbs) (by simp)) (L18.out.get (A := B8) (c := d8) (xs := digs b.hi.1.natAbs) (by simp)) Ob.out PCp.out (t32_live HT.out L18.out) Rk_18.out Hq.out).mono ?_
  rintro e w19 ⟨A19, c19, B19, d19, rfl, hd, he, hb⟩
  have L19 := la2 L18 hb hd he
  clear fba0 zba0 fba1 zba1 fba2 zba2 fba3 zba3 fba4 zba4 fba5 zba5 xba fbb0 zbb0 fbb1 zbb1 fbb2 zbb2 fbb3 zbb3 fbb4 zbb4 fbb5 zbb5 xbb
  have Rx_19 := co Rx_18 hb
  have Ry_19 := co Ry_18 hb
  have Rz_19 := co Rz_18 hb
  have Rv_19 := co Rv_18 hb
  have Rk_19 := co Rk_18 hb
  have Rba_19 := co Rba_18 hb
  have Rbb_19 := co Rbb_18 hb
  have Rbm_19 := co Rbm_18 hb
  have Rbn_19 := co Rbn_18 hb
  have Rbr_19 := co Rbr_18 hb
  clear hb hd he
  obtain ⟨fbb0, zbb0, fbb1, zbb1, fbb2, zbb2, fbb3, zbb3, fbb4, zbb4, fbb5, zbb5, xbb⟩ := ly6 Rbb_19.out
  go_wp2_with fail
  obtain ⟨w20, hW, hb, Rbq_20⟩ := new1 w19 (.cells #[.bool (decide (q.lo.1 < 0)), .slice A19 (digs q.lo.1.natAbs).length c19, .int .i64 q.lo.2, .bool (decide (q.hi.1 < 0)), .slice B19 (digs q.hi.1.natAbs).length d19, .int .i64 q.hi.2] 34)
  rw [← hW]
  have L20 := ls L19 hb
  have Rx_20 := co Rx_19 hb
  have Ry_20 := co Ry_19 hb
  have Rz_20 := co Rz_19 hb
  have Rv_20 := co Rv_19 hb
  have Rk_20 := co Rk_19 hb
  have Rba_20 := co Rba_19 hb
  have Rbb_20 := co Rbb_19 hb
  have Rbm_20 := co Rbm_19 hb
  have Rbn_20 := co Rbn_19 hb
  have Rbr_20 := co Rbr_19 hb
  have Gbq := gl0 L19.out
  have Nxbq := nl0 Rx_19.out
  have Nybq := nl0 Ry_19.out
  have Nzbq := nl0 Rz_19.out
  have Nvbq := nl0 Rv_19.out
  have Nkbq := nl0 Rk_19.out
  have Nbabq := nl0 Rba_19.out
  have Nbbbq := nl0 Rbb_19.out
  have Nbmbq := nl0 Rbm_19.out
  have Nbnbq := nl0 Rbn_19.out
  have Nbrbq := nl0 Rbr_19.out
  clear hW hb
  clear fbb0 zbb0 fbb1 zbb1 fbb2 zbb2 fbb3 zbb3 fbb4 zbb4 fbb5 zbb5 xbb
  refine (chas0 (L20.out.get (A := A8) (c := c8) (xs := digs b.lo.1.natAbs) (by simp)) (L20.out.get (A := B8) (c := d8) (xs := digs b.hi.1.natAbs) (by simp)) Ob.out ZI.out).mono ?_
  rintro e w21 ⟨rfl, hb⟩
  have L21 := ls L20 hb
  have Rx_21 := co Rx_20 hb
  have Ry_21 := co Ry_20 hb
  have Rz_21 := co Rz_20 hb
  have Rv_21 := co Rv_20 hb
  have Rk_21 := co Rk_20 hb
  have Rba_21 := co Rba_20 hb
  have Rbb_21 := co Rbb_20 hb
  have Rbm_21 := co Rbm_20 hb
  have Rbn_21 := co Rbn_20 hb
  have Rbr_21 := co Rbr_20 hb
  have Rbq_21 := co Rbq_20 hb
  clear hb 
  go_upto_region 18 with fail
  obtain ⟨fbq0, zbq0, fbq1, zbq1, fbq2, zbq2, fbq3, zbq3, fbq4, zbq4, fbq5, zbq5, xbq⟩ := ly6 Rbq_21.out
  obtain ⟨fbn0, zbn0, fbn1, zbn1, fbn2, zbn2, xbn⟩ := ly3 Rbn_21.out
  obtain ⟨fbm0, zbm0, fbm1, zbm1, fbm2, zbm2, xbm⟩ := ly3 Rbm_21.out
  obtain ⟨fk0, zk0, fk1, zk1, xk⟩ := ly2 Rk_21.out
  have KD := Lib.hid (bd0 w21)
  have LD := ls L21 KD.out
  go_region_held3 (fun w' => ∀ b o, b < w21.heap.size → w'.cell? ⟨b, o, none⟩ = w21.cell? ⟨b, o, none⟩)
    (first | with_reducible exact (bcell KD.out).1 | with_reducible exact (bcell K23.out).1 | with_reducible exact (bcell K24.out).1 | with_reducible exact (bcell K25.out).1)
    (first
      | (go_at_call 25; (with_reducible refine (cpoint (LD.out.get (A := A12) (c := c12) (xs := digs n.1.natAbs) (by simp)) On.out (cells_of Rk_21.out KD.out)).mono ?_); rintro e w23 ⟨A23, c23, B23, d23, rfl, hd, he, hb⟩; (have K23 := bt KD hb); (have L23 := la2 LD hb hd he); clear hb hd he)
      | (go_at_call 20; (with_reducible refine (cmul (t := ⟨n, n⟩) (L23.out.get (A := A19) (c := c19) (xs := digs q.lo.1.natAbs) (by simp)) (L23.out.get (A := B19) (c := d19) (xs := digs q.hi.1.natAbs) (by simp)) Oq.out (L23.out.get (A := A23) (c := c23) (xs := digs n.1.natAbs) (by simp)) (L23.out.get (A := B23) (c := d23) (xs := digs n.1.natAbs) (by simp)) ON.out PCp.out (t32_live HT.out L23.out) (cells_of Rk_21.out K23.out) Hu.out).mono ?_); rintro e w24 ⟨A24, c24, B24, d24, rfl, hd, he, hb⟩; (have K24 := bt K23 hb); (have L24 := la2 L23 hb hd he); clear hb hd he)
      | (go_at_call 17; (with_reducible refine (chas (L24.out.get (A := A24) (c := c24) (xs := digs u.lo.1.natAbs) (by simp)) (L24.out.get (A := B24) (c := d24) (xs := digs u.hi.1.natAbs) (by simp)) Ou.out (L24.out.get (A := A10) (c := c10) (xs := digs m.1.natAbs) (by simp)) Om.out W2.out).mono ?_); rintro e w25 ⟨rfl, hb⟩; (have K25 := bt K24 hb); (have L25 := Lib.hid (L24.out.step hb)); clear hb )
      | (go_at_call 21; (with_reducible refine (ierr_any w2.heap.size 0 _ (row_c (cells_of Rk_21.out K25.out) (i := 0) rfl)).mono ?_); rintro e w26 ⟨rfl, rfl⟩))
  rename_i hHeld
  clear hHeld
  clear fbq0 zbq0 fbq1 zbq1 fbq2 zbq2 fbq3 zbq3 fbq4 zbq4 fbq5 zbq5 xbq fbn0 zbn0 fbn1 zbn1 fbn2 zbn2 xbn fbm0 zbm0 fbm1 zbm1 fbm2 zbm2 xbm fk0 zk0 fk1 zk1 xk
  have Rx_26 := co Rx_21 K25.out
  have Ry_26 := co Ry_21 K25.out
  have Rz_26 := co Rz_21 K25.out
  have Rv_26 := co Rv_21 K25.out
  have Rk_26 := co Rk_21 K25.out
  have Rba_26 := co Rba_21 K25.out
  have Rbb_26 := co Rbb_21 K25.out
  have Rbm_26 := co Rbm_21 K25.out
  have Rbn_26 := co Rbn_21 K25.out
  have Rbr_26 := co Rbr_21 K25.out
  have Rbq_26 := co Rbq_21 K25.out
  clear KD LD
  go_wp2
  go_ret
  exact ⟨rfl, L25.out.1⟩

theorem ivDivides_any (Ax : Option Addr) (cx : Nat) (sx : Bool) (xsx : List Nat) (ex : Int) (Ay : Option Addr) (cy : Nat) (sy : Bool) (xsy : List Nat) (ey : Int) (Az : Option Addr) (cz : Nat) (sz : Bool) (xsz : List Nat) (ez : Int) (Av : Option Addr) (cv : Nat) (sv : Bool) (xsv : List Nat) (ev : Int) (p how other : Int) (w : World) (hx : Dg w Ax cx xsx) (lx : xsx.length ≤ 9223372036854775807) (ex0 : -9223372036854775808 ≤ ex) (ex1 : ex ≤ 9223372036854775807) (hy : Dg w Ay cy xsy) (ly : xsy.length ≤ 9223372036854775807) (ey0 : -9223372036854775808 ≤ ey) (ey1 : ey ≤ 9223372036854775807) (hz : Dg w Az cz xsz) (lz : xsz.length ≤ 9223372036854775807) (ez0 : -9223372036854775808 ≤ ez) (ez1 : ez ≤ 9223372036854775807) (hv : Dg w Av cv xsv) (lv : xsv.length ≤ 9223372036854775807) (ev0 : -9223372036854775808 ≤ ev) (ev1 : ev ≤ 9223372036854775807) (p0 : -9223372036854775808 ≤ p) (p1 : p ≤ 9223372036854775807) (how0 : -9223372036854775808 ≤ how) (how1 : how ≤ 9223372036854775807) (other0 : -9223372036854775808 ≤ other) (other1 : other ≤ 9223372036854775807) (hT : T32 w) :
    Calls Tryz.prog 4 #[.agg #[.bool sx, .slice Ax xsx.length cx, .int .i64 ex], .agg #[.bool sy, .slice Ay xsy.length cy, .int .i64 ey], .agg #[.bool sz, .slice Az xsz.length cz, .int .i64 ez], .agg #[.bool sv, .slice Av xsv.length cv, .int .i64 ev], .int .i64 p, .int .i64 how, .int .i64 other] w fun e w' => e = .returned (.bool true) ∧ Below w.heap.size w w' := by
  by_cases hc : (spanS (tq sx xsx ex) (tq sy xsy ey)).lo.1 < 0
  · exact ivDivides_A Ax cx sx xsx ex Ay cy sy xsy ey Az cz sz xsz ez Av cv sv xsv ev p how other w hx lx ex0 ex1 hy ly ey0 ey1 hz lz ez0 ez1 hv lv ev0 ev1 p0 p1 how0 how1 other0 other1 hT hc
  · by_cases hd : Ins 0 (spanS (tq sz xsz ez) (tq sv xsv ev))
    · exact ivDivides_B Ax cx sx xsx ex Ay cy sy xsy ey Az cz sz xsz ez Av cv sv xsv ev p how other w hx lx ex0 ex1 hy ly ey0 ey1 hz lz ez0 ez1 hv lv ev0 ev1 p0 p1 how0 how1 other0 other1 hT ⟨by omega, hd⟩
    · exact ivDivides_C Ax cx sx xsx ex Ay cy sy xsy ey Az cz sz xsz ez Av cv sv xsv ev p how other w hx lx ex0 ex1 hy ly ey0 ey1 hz lz ez0 ez1 hv lv ev0 ev1 p0 p1 how0 how1 other0 other1 hT ⟨by omega, hd⟩
end Go.Proofs.YtijodbjdajddoaaGreatDoor
end

section
namespace Go.Proofs.YtijodbjdajddoaaGreatDoor.ivDivides
open Go Go.ChangeShapes Go.WideShapes Go.ChangeAt Go.RowKit
set_option linter.unusedVariables false
/-- The door's own heap meets the condition. -/
theorem door_met (os : Os) (args : Array Value) : laidMetH Tryz.prog Rows.ivDividesRow.laid ((World.doorLaid Tryz.prog 400 os).forCall (fun _ _ => 0) ⟨#[], args, []⟩).memory :=
  laidMetH_of_parts3 (fuel := 8) (laidMet_of_run' 8 (by kernel_rfl) (by kernel_rfl)) (by kernel_rfl) (by kernel_rfl)
set_option maxRecDepth 100000 in
theorem lifted (os : Os) (started : os.Started) (H : Type) (enc : TypeId × Value → H) :
    ReturnsInHanded {} Tryz.checked os 4 .any (fun w args => (Rows.ivDividesSpec.pre enc Tryz.prog Tryz.f4 [] false w args ∧ laidMetH Tryz.prog Rows.ivDividesRow.laid w) ∧ sizedMet enc Tryz.prog Tryz.f4 (OpenSpec.ofChange Rows.ivDividesSpec) false w args)
      (Rows.ivDividesSpec.post enc Tryz.prog Tryz.f4 false true false false) := by
  refine returnsInHanded_of_change_and (C := Tryz.checked) (X := fun w _ => laidMetH Tryz.prog Rows.ivDividesRow.laid w) (fun _ _ _ hh h => h.of_heap hh) own started (by kernel_rfl) Tryz.func4
    (ChangeSpec.witness_shaped (enc := enc) (C := Tryz.checked) (os := os) (X := fun w _ => laidMetH Tryz.prog Rows.ivDividesRow.laid w) false (World.doorLaid Tryz.prog 400 os) #[.agg #[.bool false, .slice none 0 0, .int .i64 0], .agg #[.bool false, .slice none 0 0, .int .i64 0], .agg #[.bool false, .slice none 0 0, .int .i64 0], .agg #[.bool false, .slice none 0 0, .int .i64 0], .int .i64 0, .int .i64 0, .int .i64 0] 8 rfl (World.shaped_of_RefB (by kernel_rfl) (by kernel_rfl)) (by kernel_rfl) (by kernel_rfl) (by kernel_rfl) (door_met os _)) ?_
  intro W base args ds gs before hval0 hW _ _ hL _
  rw [MakeChecks.laidMetH_plain _ _ _ (by kernel_rfl)] at hL
  have htab := t32_laid hL
  clear hL
  have hval : ∀ (j : Nat) t v, Tryz.f4.params[j]? = some t → args[j]? = some v → Value.okWide Tryz.prog W .any base t v := hval0
  have hW' := hW
  obtain ⟨p, q, hA0, hV, rfl, hfz, hnd⟩ := hW
  have hA : DataW.TrodAll enc Tryz.prog W 0 (fun _ => true) true Tryz.f4.params.toList args.toList ds p := hA0
  rw [Tryz.params4] at hA hval
  obtain ⟨v0, vs0, d0, ds0, p0, q0, hargs, rfl, rfl, h0, r0⟩ := trodAll_cons hA
  obtain ⟨v1, vs1, d1, ds1, p1, q1, rfl, rfl, rfl, h1, r1⟩ := trodAll_cons r0
  obtain ⟨v2, vs2, d2, ds2, p2, q2, rfl, rfl, rfl, h2, r2⟩ := trodAll_cons r1
  obtain ⟨v3, vs3, d3, ds3, p3, q3, rfl, rfl, rfl, h3, r3⟩ := trodAll_cons r2
  obtain ⟨v4, vs4, d4, ds4, p4, q4, rfl, rfl, rfl, h4, r4⟩ := trodAll_cons r3
  obtain ⟨v5, vs5, d5, ds5, p5, q5, rfl, rfl, rfl, h5, r5⟩ := trodAll_cons r4
  obtain ⟨v6, vs6, d6, ds6, p6, q6, rfl, rfl, rfl, h6, r6⟩ := trodAll_cons r5
  obtain ⟨rfl, rfl, rfl⟩ := trodAll_nil r6
  obtain rfl : args = #[v0, v1, v2, v3, v4, v5, v6] := by cases args; simp_all
  obtain ⟨rfl, rfl⟩ := trodVars_none hV
  obtain ⟨s0, A0, c0, xs0, x0, rfl, g0, l0, x00, x01⟩ := open_d (hval 0 _ _ rfl rfl) h0
  obtain ⟨s1, A1, c1, xs1, x1, rfl, g1, l1, x10, x11⟩ := open_d (hval 1 _ _ rfl rfl) h1
  obtain ⟨s2, A2, c2, xs2, x2, rfl, g2, l2, x20, x21⟩ := open_d (hval 2 _ _ rfl rfl) h2
  obtain ⟨s3, A3, c3, xs3, x3, rfl, g3, l3, x30, x31⟩ := open_d (hval 3 _ _ rfl rfl) h3
  obtain ⟨a4, rfl, e4, e4', g4⟩ := open_int Tryz.underlying3 (hval 4 _ _ rfl rfl) h4
  obtain ⟨a5, rfl, e5, e5', g5⟩ := open_int Tryz.underlying3 (hval 5 _ _ rfl rfl) h5
  obtain ⟨a6, rfl, e6, e6', g6⟩ := open_int Tryz.underlying3 (hval 6 _ _ rfl rfl) h6
  clear hA0
  simp only [List.append_nil] at hW'
  refine (ivDivides_any A0 c0 s0 xs0 x0 A1 c1 s1 xs1 x1 A2 c2 s2 xs2 x2 A3 c3 s3 xs3 x3 a4 a5 a6 W g0 l0 x00 x01 g1 l1 x10 x11 g2 l2 x20 x21 g3 l3 x30 x31 (i64_lo g4) (i64_hi g4) (i64_lo g5) (i64_hi g5) (i64_lo g6) (i64_hi g6) htab).mono fun e W' ⟨he, hb⟩ => ?_
  subst he
  have hlt := hW'.lt
  refine ⟨_, rfl, law_post (tb := 4) hW' hb rfl rfl Tryz.underlying4 rfl rfl fun sp hsp => ?_⟩
  have hr := trodAll_cons_mk (again (by kernel_rfl) (of_decide_eq_true (by kernel_rfl)) h0 hb (fun x hx => hlt x (by simp [hx])) sp (fun x hx => hsp x (by simp [hx]))) (trodAll_cons_mk (again (by kernel_rfl) (of_decide_eq_true (by kernel_rfl)) h1 hb (fun x hx => hlt x (by simp [hx])) sp (fun x hx => hsp x (by simp [hx]))) (trodAll_cons_mk (again (by kernel_rfl) (of_decide_eq_true (by kernel_rfl)) h2 hb (fun x hx => hlt x (by simp [hx])) sp (fun x hx => hsp x (by simp [hx]))) (trodAll_cons_mk (again (by kernel_rfl) (of_decide_eq_true (by kernel_rfl)) h3 hb (fun x hx => hlt x (by simp [hx])) sp (fun x hx => hsp x (by simp [hx]))) (trodAll_cons_mk (again (by kernel_rfl) (of_decide_eq_true (by kernel_rfl)) h4 hb (fun x hx => hlt x (by simp [hx])) sp (fun x hx => hsp x (by simp [hx]))) (trodAll_cons_mk (again (by kernel_rfl) (of_decide_eq_true (by kernel_rfl)) h5 hb (fun x hx => hlt x (by simp [hx])) sp (fun x hx => hsp x (by simp [hx]))) (trodAll_cons_mk (again (by kernel_rfl) (of_decide_eq_true (by kernel_rfl)) h6 hb (fun x hx => hlt x (by simp [hx])) sp (fun x hx => hsp x (by simp [hx]))) trodAll_mk0))))))
  simp only [List.append_nil] at hr
  exact hr
theorem row_holds : Rows.IvDividesSaid :=
  OpenClaim.holds_of_wide 4 Tryz.f4 rfl rfl rfl rfl rfl rfl rfl ⟨rfl, rfl, rfl, rfl, rfl⟩ rfl rfl rfl rfl rfl (by kernel_rfl) Tryz.func4 (by kernel_rfl)
    (of_decide_eq_true (by kernel_rfl)) (by unfold Func.isWrapper; first | (rw [if_pos (by decide +kernel)]; kernel_rfl) | (rw [if_neg (by decide +kernel)]; exact ⟨rfl, rfl⟩))
    (fun os started H enc _ => lifted os started H enc)
/-- THE TIED CARD. -/
theorem proved : Rows.IvDividesCardSaid :=
  Claim7.holds_tied_plain_at .later [] [.data] true (true, "ce2d7296bee61de3211586e1632cf2a6cfe767e426ec5d84453dd9d1173b67cd") false
    row_holds (fun _ h => by cases h) (by kernel_rfl) (fun _ h => by cases h) ivDivides_row_tie rfl ⟨rfl, rfl⟩ (by kernel_rfl) rfl
    (fun f fn hf hfn => by
      obtain rfl : f = 4 := Option.some.inj ((show Tryz.prog.funcNamed Rows.ivDividesRow.func = some 4 by kernel_rfl).symm.trans hf) |>.symm
      obtain rfl : fn = Tryz.f4 := (Option.some.inj (Tryz.func4.symm.trans hfn)).symm
      exact ⟨by kernel_rfl, fun j t ht => by
        have hall : (Tryz.f4.params.toList.all fun u => !Tryz.prog.wantsStandIn u) = true := by kernel_rfl
        exact (show Tryz.prog.wantsStandIn t = false by simpa using List.all_eq_true.1 hall t (Array.mem_toList_iff.2 (Array.mem_of_getElem? ht)))⟩)
    (by kernel_rfl)
end Go.Proofs.YtijodbjdajddoaaGreatDoor.ivDivides
end
