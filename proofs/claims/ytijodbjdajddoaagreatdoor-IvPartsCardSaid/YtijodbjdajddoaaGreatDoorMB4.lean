import Derived.Test.YtijodbjdajddoaaGreatDoorMB3
import Derived.Test.YtijodbjdajddoaaGreatDoorMB0
import Derived.Test.YtijodbjdajddoaaGreatDoorMB2
import Derived.Test.YtijodbjdajddoaaGreatDoorMB1
section
/-
  iv: takes of one, of two.
-/
namespace Go.Proofs.YtijodbjdajddoaaGreatDoor
open Go.RowKit
set_option linter.unusedSimpArgs false
set_option linter.unusedVariables false
theorem takes_1 {A B : Option Addr} {c d g b : Nat} {m x n y z P : Int} {w : World} {T : TypeId} (hk : w.heap[g]? = some (.cells #[.int .i64 z, .int .i64 P] 45 (0, 0))) (hr : w.heap[b]? = some (.cells #[.bool (decide (m < 0)), .slice A (digs m.natAbs).length c, .int .i64 x, .bool (decide (n < 0)), .slice B (digs n.natAbs).length d, .int .i64 y] T (0, 0))) (h : Dg w A c (digs m.natAbs)) (h' : Dg w B d (digs n.natAbs)) (hl : (digs m.natAbs).length ≤ 10000) (hl' : (digs n.natAbs).length ≤ 10000) (r1 : Rt m x) (r2 : Rt n y) (ho : dv m x ≤ dv n y) {q : Bool} (hq : (z == 0) = q) :
    Calls Tryz.prog 52 #[.pointer (some ⟨g, 0, none⟩), .slice (some ⟨b, 0, none⟩) 1 1] w fun e w' => e = .returned (.bool q) ∧ Below w.heap.size w w' := by
  subst hq
  refine takes_any g b 1 1 z (fun _ => A) (fun _ => B) (fun _ => c) (fun _ => d) (fun _ => m) (fun _ => x) (fun _ => n) (fun _ => y) w (row_c (i := 0) hk rfl) (heap_lt hr) (fun i hi => ?_) (fun i hi => ⟨r1, r2, hl, hl', ho⟩) (by omega) (Nat.le_refl _)
  obtain rfl : i = 0 := by omega
  exact ⟨⟨row_c (i := 0) hr rfl, row_c (i := 1) hr rfl, row_c (i := 2) hr rfl, row_c (i := 3) hr rfl, row_c (i := 4) hr rfl, row_c (i := 5) hr rfl⟩, h, h'⟩
theorem takes_2 {A B A' B' : Option Addr} {c d c' d' g b : Nat} {m x n y m' x' n' y' z P : Int} {w : World} {T : TypeId} (hk : w.heap[g]? = some (.cells #[.int .i64 z, .int .i64 P] 45 (0, 0))) (hr : w.heap[b]? = some (.cells #[.bool (decide (m < 0)), .slice A (digs m.natAbs).length c, .int .i64 x, .bool (decide (n < 0)), .slice B (digs n.natAbs).length d, .int .i64 y, .bool (decide (m' < 0)), .slice A' (digs m'.natAbs).length c', .int .i64 x', .bool (decide (n' < 0)), .slice B' (digs n'.natAbs).length d', .int .i64 y'] T (0, 0))) (h : Dg w A c (digs m.natAbs)) (h' : Dg w B d (digs n.natAbs)) (hl : (digs m.natAbs).length ≤ 10000) (hl' : (digs n.natAbs).length ≤ 10000) (r1 : Rt m x) (r2 : Rt n y) (ho : dv m x ≤ dv n y) (k : Dg w A' c' (digs m'.natAbs)) (k' : Dg w B' d' (digs n'.natAbs)) (kl : (digs m'.natAbs).length ≤ 10000) (kl' : (digs n'.natAbs).length ≤ 10000) (s1 : Rt m' x') (s2 : Rt n' y') (ko : dv m' x' ≤ dv n' y') {q : Bool} (hq : (z == 0) = q) :
    Calls Tryz.prog 52 #[.pointer (some ⟨g, 0, none⟩), .slice (some ⟨b, 0, none⟩) 2 2] w fun e w' => e = .returned (.bool q) ∧ Below w.heap.size w w' := by
  subst hq
  refine takes_any g b 2 2 z (pk A A') (pk B B') (pk c c') (pk d d') (pk m m') (pk x x') (pk n n') (pk y y') w (row_c (i := 0) hk rfl) (heap_lt hr) (fun i hi => ?_) (fun i hi => ?_) (by omega) (Nat.le_refl _)
  · rcases i with _ | _ | i
    · exact ⟨⟨row_c (i := 0) hr rfl, row_c (i := 1) hr rfl, row_c (i := 2) hr rfl, row_c (i := 3) hr rfl, row_c (i := 4) hr rfl, row_c (i := 5) hr rfl⟩, h, h'⟩
    · exact ⟨⟨row_c (i := 6) hr rfl, row_c (i := 7) hr rfl, row_c (i := 8) hr rfl, row_c (i := 9) hr rfl, row_c (i := 10) hr rfl, row_c (i := 11) hr rfl⟩, k, k'⟩
    · omega
  · rcases i with _ | _ | i
    · exact ⟨r1, r2, hl, hl', ho⟩
    · exact ⟨s1, s2, kl, kl', ko⟩
    · omega
end Go.Proofs.YtijodbjdajddoaaGreatDoor
end

section
/-
  iv: In, New, Err, Prec, ends.
-/
namespace Go.Proofs.YtijodbjdajddoaaGreatDoor
open Go.RowKit
set_option linter.unusedSimpArgs false
set_option linter.unusedVariables false
set_option maxHeartbeats 4000000 in
set_option maxRecDepth 100000 in
theorem in_t (A B A' B' : Option Addr) (c d c' d' : Nat) (m x n y m' x' n' y' : Int) (q : Bool) (w : World) (h : Dg w A c (digs m.natAbs)) (h' : Dg w B d (digs n.natAbs)) (hl : (digs m.natAbs).length ≤ 10000) (hl' : (digs n.natAbs).length ≤ 10000) (r1 : Rt m x) (r2 : Rt n y) (ho : dv m x ≤ dv n y) (k : Dg w A' c' (digs m'.natAbs)) (k' : Dg w B' d' (digs n'.natAbs)) (kl : (digs m'.natAbs).length ≤ 10000) (kl' : (digs n'.natAbs).length ≤ 10000) (s1 : Rt m' x') (s2 : Rt n' y') (ko : dv m' x' ≤ dv n' y') (h1 : decide (dv m' x' ≤ dv m x ∧ dv m x ≤ dv n' y') = true) (hq : decide (dv m' x' ≤ dv n y ∧ dv n y ≤ dv n' y') = q):
    Calls Tryz.prog 27 #[.agg #[.bool (decide (m < 0)), .slice A (digs m.natAbs).length c, .int .i64 x, .bool (decide (n < 0)), .slice B (digs n.natAbs).length d, .int .i64 y], .agg #[.bool (decide (m' < 0)), .slice A' (digs m'.natAbs).length c', .int .i64 x', .bool (decide (n' < 0)), .slice B' (digs n'.natAbs).length d', .int .i64 y']] w fun e w' => e = .returned (.bool q) ∧ Below w.heap.size w w' := by
  have HR1 := Lib.hid r1
  have HR2 := Lib.hid r2
  have lx := Lib.hid hl
  have ly := Lib.hid hl'
  have HO := Lib.hid ho
  have HS1 := Lib.hid s1
  have HS2 := Lib.hid s2
  have kx := Lib.hid kl
  have ky := Lib.hid kl'
  have KO := Lib.hid ko
  have H1 := Lib.hid h1
  have H2 := Lib.hid hq
  have L0 := Lib.hid (((((live_start w).add h).add h').add k).add k')
  clear h h' hl hl' r1 r2 ho k k' kl kl' s1 s2 ko h1 hq
  go_enter Tryz.func27, Tryz.ntmps27
  go_wp2_with fail
  obtain ⟨v1, hW, hb, Ri_1, Rj_1⟩ := new2 w (.cells #[.bool (decide (m < 0)), .slice A (digs m.natAbs).length c, .int .i64 x, .bool (decide (n < 0)), .slice B (digs n.natAbs).length d, .int .i64 y] 34) (.cells #[.bool (decide (m' < 0)), .slice A' (digs m'.natAbs).length c', .int .i64 x', .bool (decide (n' < 0)), .slice B' (digs n'.natAbs).length d', .int .i64 y'] 34)
  rw [← hW]
  have L1 := ls L0 hb
  have Gi := gl0 L0.out
  have Gj := gl1 L0.out
  have Nij : w.heap.size < w.heap.size + 1 := by omega
  clear hW hb
  obtain ⟨fi0, zi0, fi1, zi1, fi2, zi2, fi3, zi3, fi4, zi4, fi5, zi5, xi⟩ := ly6 Ri_1.out
  obtain ⟨fj0, zj0, fj1, zj1, fj2, zj2, fj3, zj3, fj4, zj4, fj5, zj5, xj⟩ := ly6 Rj_1.out
  go_wp2_with fail
  refine (iright_q A B c d m x n y true _ (L1.out.get (A := A) (c := c) (xs := digs m.natAbs) (by simp)) (L1.out.get (A := B) (c := d) (xs := digs n.natAbs) (by simp)) lx.out ly.out HR1.out HR2.out (decide_eq_true HO.out)).mono ?_
  rintro e w2 ⟨rfl, hb⟩
  have L2 := ls L1 hb
  clear fi0 zi0 fi1 zi1 fi2 zi2 fi3 zi3 fi4 zi4 fi5 zi5 xi fj0 zj0 fj1 zj1 fj2 zj2 fj3 zj3 fj4 zj4 fj5 zj5 xj
  have Ri_2 := co Ri_1 hb
  have Rj_2 := co Rj_1 hb
  clear hb 
  obtain ⟨fi0, zi0, fi1, zi1, fi2, zi2, fi3, zi3, fi4, zi4, fi5, zi5, xi⟩ := ly6 Ri_2.out
  obtain ⟨fj0, zj0, fj1, zj1, fj2, zj2, fj3, zj3, fj4, zj4, fj5, zj5, xj⟩ := ly6 Rj_2.out
  go_wp2_with fail
  refine (ihas_any (L2.out.get (A := A') (c := c') (xs := digs m'.natAbs) (by simp)) (L2.out.get (A := B') (c := d') (xs := digs n'.natAbs) (by simp)) kx.out ky.out HS1.out HS2.out (L2.out.get (A := A) (c := c) (xs := digs m.natAbs) (by simp)) lx.out HR1.out KO.out H1.out).mono ?_
  rintro e w3 ⟨rfl, hb⟩
  have L3 := ls L2 hb
  clear fi0 zi0 fi1 zi1 fi2 zi2 fi3 zi3 fi4 zi4 fi5 zi5 xi fj0 zj0 fj1 zj1 fj2 zj2 fj3 zj3 fj4 zj4 fj5 zj5 xj
  have Ri_3 := co Ri_2 hb
  have Rj_3 := co Rj_2 hb
  clear hb 
  obtain ⟨fi0, zi0, fi1, zi1, fi2, zi2, fi3, zi3, fi4, zi4, fi5, zi5, xi⟩ := ly6 Ri_3.out
  obtain ⟨fj0, zj0, fj1, zj1, fj2, zj2, fj3, zj3, fj4, zj4, fj5, zj5, xj⟩ := ly6 Rj_3.out
  go_wp2_with fail
  refine (ihas_any (L3.out.get (A := A') (c := c') (xs := digs m'.natAbs) (by simp)) (L3.out.get (A := B') (c := d') (xs := digs n'.natAbs) (by simp)) kx.out ky.out HS1.out HS2.out (L3.out.get (A := B) (c := d) (xs := digs n.natAbs) (by simp)) ly.out HR2.out KO.out H2.out).mono ?_
  rintro e w4 ⟨rfl, hb⟩
  have L4 := ls L3 hb
  clear fi0 zi0 fi1 zi1 fi2 zi2 fi3 zi3 fi4 zi4 fi5 zi5 xi fj0 zj0 fj1 zj1 fj2 zj2 fj3 zj3 fj4 zj4 fj5 zj5 xj
  have Ri_4 := co Ri_3 hb
  have Rj_4 := co Rj_3 hb
  clear hb 
  go_wp2
  go_ret
  exact ⟨rfl, L4.out.1⟩

set_option maxHeartbeats 4000000 in
set_option maxRecDepth 100000 in
theorem in_f (A B A' B' : Option Addr) (c d c' d' : Nat) (m x n y m' x' n' y' : Int) (q : Bool) (w : World) (h : Dg w A c (digs m.natAbs)) (h' : Dg w B d (digs n.natAbs)) (hl : (digs m.natAbs).length ≤ 10000) (hl' : (digs n.natAbs).length ≤ 10000) (r1 : Rt m x) (r2 : Rt n y) (ho : dv m x ≤ dv n y) (k : Dg w A' c' (digs m'.natAbs)) (k' : Dg w B' d' (digs n'.natAbs)) (kl : (digs m'.natAbs).length ≤ 10000) (kl' : (digs n'.natAbs).length ≤ 10000) (s1 : Rt m' x') (s2 : Rt n' y') (ko : dv m' x' ≤ dv n' y') (h1 : decide (dv m' x' ≤ dv m x ∧ dv m x ≤ dv n' y') = false) (hq : q = false):
    Calls Tryz.prog 27 #[.agg #[.bool (decide (m < 0)), .slice A (digs m.natAbs).length c, .int .i64 x, .bool (decide (n < 0)), .slice B (digs n.natAbs).length d, .int .i64 y], .agg #[.bool (decide (m' < 0)), .slice A' (digs m'.natAbs).length c', .int .i64 x', .bool (decide (n' < 0)), .slice B' (digs n'.natAbs).length d', .int .i64 y']] w fun e w' => e = .returned (.bool q) ∧ Below w.heap.size w w' := by
  have HR1 := Lib.hid r1
  have HR2 := Lib.hid r2
  have lx := Lib.hid hl
  have ly := Lib.hid hl'
  have HO := Lib.hid ho
  have HS1 := Lib.hid s1
  have HS2 := Lib.hid s2
  have kx := Lib.hid kl
  have ky := Lib.hid kl'
  have KO := Lib.hid ko
  have H1 := Lib.hid h1
  subst hq
  have L0 := Lib.hid (((((live_start w).add h).add h').add k).add k')
  clear h h' hl hl' r1 r2 ho k k' kl kl' s1 s2 ko h1
  go_enter Tryz.func27, Tryz.ntmps27
  go_wp2_with fail
  obtain ⟨v1, hW, hb, Ri_1, Rj_1⟩ := new2 w (.cells #[.bool (decide (m < 0)), .slice A (digs m.natAbs).length c, .int .i64 x, .bool (decide (n < 0)), .slice B (digs n.natAbs).length d, .int .i64 y] 34) (.cells #[.bool (decide (m' < 0)), .slice A' (digs m'.natAbs).length c', .int .i64 x', .bool (decide (n' < 0)), .slice B' (digs n'.natAbs).length d', .int .i64 y'] 34)
  rw [← hW]
  have L1 := ls L0 hb
  have Gi := gl0 L0.out
  have Gj := gl1 L0.out
  have Nij : w.heap.size < w.heap.size + 1 := by omega
  clear hW hb
  obtain ⟨fi0, zi0, fi1, zi1, fi2, zi2, fi3, zi3, fi4, zi4, fi5, zi5, xi⟩ := ly6 Ri_1.out
  obtain ⟨fj0, zj0, fj1, zj1, fj2, zj2, fj3, zj3, fj4, zj4, fj5, zj5, xj⟩ := ly6 Rj_1.out
  go_wp2_with fail
  refine (iright_q A B c d m x n y true _ (L1.out.get (A := A) (c := c) (xs := digs m.natAbs) (by simp)) (L1.out.get (A := B) (c := d) (xs := digs n.natAbs) (by simp)) lx.out ly.out HR1.out HR2.out (decide_eq_true HO.out)).mono ?_
  rintro e w2 ⟨rfl, hb⟩
  have L2 := ls L1 hb
  clear fi0 zi0 fi1 zi1 fi2 zi2 fi3 zi3 fi4 zi4 fi5 zi5 xi fj0 zj0 fj1 zj1 fj2 zj2 fj3 zj3 fj4 zj4 fj5 zj5 xj
  have Ri_2 := co Ri_1 hb
  have Rj_2 := co Rj_1 hb
  clear hb 
  obtain ⟨fi0, zi0, fi1, zi1, fi2, zi2, fi3, zi3, fi4, zi4, fi5, zi5, xi⟩ := ly6 Ri_2.out
  obtain ⟨fj0, zj0, fj1, zj1, fj2, zj2, fj3, zj3, fj4, zj4, fj5, zj5, xj⟩ := ly6 Rj_2.out
  go_wp2_with fail
  refine (ihas_any (L2.out.get (A := A') (c := c') (xs := digs m'.natAbs) (by simp)) (L2.out.get (A := B') (c := d') (xs := digs n'.natAbs) (by simp)) kx.out ky.out HS1.out HS2.out (L2.out.get (A := A) (c := c) (xs := digs m.natAbs) (by simp)) lx.out HR1.out KO.out H1.out).mono ?_
  rintro e w3 ⟨rfl, hb⟩
  have L3 := ls L2 hb
  clear fi0 zi0 fi1 zi1 fi2 zi2 fi3 zi3 fi4 zi4 fi5 zi5 xi fj0 zj0 fj1 zj1 fj2 zj2 fj3 zj3 fj4 zj4 fj5 zj5 xj
  have Ri_3 := co Ri_2 hb
  have Rj_3 := co Rj_2 hb
  clear hb 
  go_wp2
  go_ret
  exact ⟨rfl, L3.out.1⟩

theorem iin_any {A B A' B' : Option Addr} {c d c' d' : Nat} {m x n y m' x' n' y' : Int} {q : Bool} {w : World} (h : Dg w A c (digs m.natAbs)) (h' : Dg w B d (digs n.natAbs)) (hl : (digs m.natAbs).length ≤ 10000) (hl' : (digs n.natAbs).length ≤ 10000) (r1 : Rt m x) (r2 : Rt n y) (ho : dv m x ≤ dv n y) (k : Dg w A' c' (digs m'.natAbs)) (k' : Dg w B' d' (digs n'.natAbs)) (kl : (digs m'.natAbs).length ≤ 10000) (kl' : (digs n'.natAbs).length ≤ 10000) (s1 : Rt m' x') (s2 : Rt n' y') (ko : dv m' x' ≤ dv n' y') (hq : decide ((dv m' x' ≤ dv m x ∧ dv m x ≤ dv n' y') ∧ dv m' x' ≤ dv n y ∧ dv n y ≤ dv n' y') = q) :
    Calls Tryz.prog 27 #[.agg #[.bool (decide (m < 0)), .slice A (digs m.natAbs).length c, .int .i64 x, .bool (decide (n < 0)), .slice B (digs n.natAbs).length d, .int .i64 y], .agg #[.bool (decide (m' < 0)), .slice A' (digs m'.natAbs).length c', .int .i64 x', .bool (decide (n' < 0)), .slice B' (digs n'.natAbs).length d', .int .i64 y']] w fun e w' => e = .returned (.bool q) ∧ Below w.heap.size w w' := by
  by_cases h1 : dv m' x' ≤ dv m x ∧ dv m x ≤ dv n' y'
  · exact in_t A B A' B' c d c' d' m x n y m' x' n' y' q w h h' hl hl' r1 r2 ho k k' kl kl' s1 s2 ko (decide_eq_true h1) (by rw [← hq, decide_eq_decide]; exact ⟨fun h => ⟨h1, h⟩, fun h => h.2⟩)
  · exact in_f A B A' B' c d c' d' m x n y m' x' n' y' q w h h' hl hl' r1 r2 ho k k' kl kl' s1 s2 ko (decide_eq_false h1) (by rw [← hq]; exact decide_eq_false (fun h => h1 h.1))

set_option maxRecDepth 100000 in
theorem inew_ok (P : Int) (w : World) (h2 : 2 ≤ P) (h4 : P ≤ 400) :
    Calls Tryz.prog 10 #[.int .i64 P] w fun e w' => e = .returned (.tuple #[.pointer (some ⟨w.heap.size, 0, none⟩), .int .i64 0]) ∧ w' = w.alloc (.cells #[.int .i64 0, .int .i64 P] 45) := by
  have d1 : decide (P < 2) = false := by simp; omega
  have d2 : decide (400 < P) = false := by simp; omega
  go_enter Tryz.func10, Tryz.ntmps10
  go_wp2
  go_ret2
  exact ⟨rfl, rfl⟩
set_option maxRecDepth 100000 in
theorem inew_no (P : Int) (w : World) (h : P < 2 ∨ 400 < P) :
    Calls Tryz.prog 10 #[.int .i64 P] w fun e w' => e = .returned (.tuple #[.pointer none, .int .i64 1]) ∧ w' = w := by
  go_enter Tryz.func10, Tryz.ntmps10
  by_cases h1 : P < 2
  · have d1 : decide (P < 2) = true := decide_eq_true h1
    go_wp2
    go_ret2
    exact ⟨rfl, rfl⟩
  · have d1 : decide (P < 2) = false := decide_eq_false h1
    have d2 : decide (400 < P) = true := by simp; omega
    go_wp2
    go_ret2
    exact ⟨rfl, rfl⟩
set_option maxRecDepth 100000 in
theorem ierr_any (g : Nat) (z : Int) (w : World) (hc : w.cell? ⟨g, 0, none⟩ = some (.int .i64 z)) :
    Calls Tryz.prog 21 #[.pointer (some ⟨g, 0, none⟩)] w fun e w' => e = .returned (.int .i64 z) ∧ w' = w := by
  go_enter Tryz.func21, Tryz.ntmps21
  go_wp2
  go_ret
  exact ⟨rfl, rfl⟩
set_option maxRecDepth 100000 in
theorem iprec_any (g : Nat) (z : Int) (w : World) (hc : w.cell? ⟨g, 1, none⟩ = some (.int .i64 z)) :
    Calls Tryz.prog 36 #[.pointer (some ⟨g, 0, none⟩)] w fun e w' => e = .returned (.int .i64 z) ∧ w' = w := by
  go_enter Tryz.func36, Tryz.ntmps36
  go_wp2
  go_ret
  exact ⟨rfl, rfl⟩

/-- The ends of a stretch: one, if they are the same. -/
def endsL (m x n y : Int) : List (Int × Int) := if dv m x = dv n y then [(m, x)] else [(m, x), (n, y)]
/-- A new row of numbers. -/
def Nr (L : List (Int × Int)) (w : World) (e : Ending) (w' : World) : Prop := ∃ b, e = .returned (.slice (some ⟨b, 0, none⟩) L.length L.length) ∧ w.heap.size ≤ b ∧ b < w'.heap.size ∧ DqRow w' b L ∧ Below w.heap.size w w'
theorem dqrow_1 {w : World} {b : Nat} {A : Option Addr} {c : Nat} {m x : Int} {T : TypeId} (hr : w.heap[b]? = some (.cells #[.bool (decide (m < 0)), .slice A (digs m.natAbs).length c, .int .i64 x] T (0, 0))) (h : Dg w A c (digs m.natAbs)) : DqRow w b [(m, x)] := by
  intro i z hz
  rcases i with _ | i
  · obtain rfl : (m, x) = z := by simpa using hz
    exact ⟨A, c, row_c (i := 0) hr rfl, row_c (i := 1) hr rfl, row_c (i := 2) hr rfl, h⟩
  · simp at hz
theorem dqrow_2 {w : World} {b : Nat} {A B : Option Addr} {c d : Nat} {m x n y : Int} {T : TypeId} (hr : w.heap[b]? = some (.cells #[.bool (decide (m < 0)), .slice A (digs m.natAbs).length c, .int .i64 x, .bool (decide (n < 0)), .slice B (digs n.natAbs).length d, .int .i64 y] T (0, 0))) (h : Dg w A c (digs m.natAbs)) (h' : Dg w B d (digs n.natAbs)) : DqRow w b [(m, x), (n, y)] := by
  intro i z hz
  rcases i with _ | _ | i
  · obtain rfl : (m, x) = z := by simpa using hz
    exact ⟨A, c, row_c (i := 0) hr rfl, row_c (i := 1) hr rfl, row_c (i := 2) hr rfl, h⟩
  · obtain rfl : (n, y) = z := by simpa using hz
    exact ⟨B, d, row_c (i := 3) hr rfl, row_c (i := 4) hr rfl, row_c (i := 5) hr rfl, h'⟩
  · simp at hz

set_option maxHeartbeats 4000000 in
set_option maxRecDepth 100000 in
theorem ends_eq (A B : Option Addr) (c d : Nat) (m x n y : Int) (w : World) (h : Dg w A c (digs m.natAbs)) (h' : Dg w B d (digs n.natAbs)) (hl : (digs m.natAbs).length ≤ 10000) (hl' : (digs n.natAbs).length ≤ 10000) (r1 : Rt m x) (r2 : Rt n y) (hq : dv m x = dv n y):
    Calls Tryz.prog 55 #[.agg #[.bool (decide (m < 0)), .slice A (digs m.natAbs).length c, .int .i64 x, .bool (decide (n < 0)), .slice B (digs n.natAbs).length d, .int .i64 y]] w fun e w' => Nr [(m, x)] w e w' := by
  have HR1 := Lib.hid r1
  have HR2 := Lib.hid r2
  have lx := Lib.hid hl
  have ly := Lib.hid hl'
  obtain ⟨k, hk⟩ : ∃ k, cmpd (dv m x) (dv n y) = k := ⟨_, rfl⟩
  have D1 : (k == 0) = true := by rw [← hk]; exact beq_iff_eq.2 (cmpd_zero.2 hq)
  have HK := Lib.hid hk
  have L0 := Lib.hid (((live_start w).add h).add h')
  clear h h' hl hl' r1 r2 hk hq
  go_enter Tryz.func55, Tryz.ntmps55
  go_wp2_with fail
  obtain ⟨v1, hW, hb, Ri_1⟩ := new1 w (.cells #[.bool (decide (m < 0)), .slice A (digs m.natAbs).length c, .int .i64 x, .bool (decide (n < 0)), .slice B (digs n.natAbs).length d, .int .i64 y] 34)
  rw [← hW]
  have L1 := ls L0 hb
  have Gi := gl0 L0.out
  clear hW hb
  obtain ⟨fi0, zi0, fi1, zi1, fi2, zi2, fi3, zi3, fi4, zi4, fi5, zi5, xi⟩ := ly6 Ri_1.out
  go_wp2_with fail
  refine (dcmp_any (L1.out.get (A := A) (c := c) (xs := digs m.natAbs) (by simp)) (L1.out.get (A := B) (c := d) (xs := digs n.natAbs) (by simp)) (Nat.le_trans lx.out (by omega)) (Nat.le_trans ly.out (by omega)) HR1.out HR2.out HK.out).mono ?_
  rintro e w2 ⟨rfl, hb⟩
  have L2 := ls L1 hb
  clear fi0 zi0 fi1 zi1 fi2 zi2 fi3 zi3 fi4 zi4 fi5 zi5 xi
  have Ri_2 := co Ri_1 hb
  clear hb 
  obtain ⟨fi0, zi0, fi1, zi1, fi2, zi2, fi3, zi3, fi4, zi4, fi5, zi5, xi⟩ := ly6 Ri_2.out
  go_wp2
  go_ret
  refine ⟨_, rfl, L2.out.1.size, by simp, ?_, ?_⟩
  · exact dqrow_1 (heap_alloc_new _ _) ((L2.out.get (A := A) (c := c) (xs := digs m.natAbs) (by simp)).below (below1 _ _))
  · exact L2.out.1.trans ((below1 _ _).mono L2.out.1.size)

set_option maxHeartbeats 4000000 in
set_option maxRecDepth 100000 in
theorem ends_ne (A B : Option Addr) (c d : Nat) (m x n y : Int) (w : World) (h : Dg w A c (digs m.natAbs)) (h' : Dg w B d (digs n.natAbs)) (hl : (digs m.natAbs).length ≤ 10000) (hl' : (digs n.natAbs).length ≤ 10000) (r1 : Rt m x) (r2 : Rt n y) (hq : ¬dv m x = dv n y):
    Calls Tryz.prog 55 #[.agg #[.bool (decide (m < 0)), .slice A (digs m.natAbs).length c, .int .i64 x, .bool (decide (n < 0)), .slice B (digs n.natAbs).length d, .int .i64 y]] w fun e w' => Nr [(m, x), (n, y)] w e w' := by
  have HR1 := Lib.hid r1
  have HR2 := Lib.hid r2
  have lx := Lib.hid hl
  have ly := Lib.hid hl'
  obtain ⟨k, hk⟩ : ∃ k, cmpd (dv m x) (dv n y) = k := ⟨_, rfl⟩
  have D1 : (k == 0) = false := by rw [← hk]; exact by simpa using fun h => hq (cmpd_zero.1 h)
  have HK := Lib.hid hk
  have L0 := Lib.hid (((live_start w).add h).add h')
  clear h h' hl hl' r1 r2 hk hq
  go_enter Tryz.func55, Tryz.ntmps55
  go_wp2_with fail
  obtain ⟨v1, hW, hb, Ri_1⟩ := new1 w (.cells #[.bool (decide (m < 0)), .slice A (digs m.natAbs).length c, .int .i64 x, .bool (decide (n < 0)), .slice B (digs n.natAbs).length d, .int .i64 y] 34)
  rw [← hW]
  have L1 := ls L0 hb
  have Gi := gl0 L0.out
  clear hW hb
  obtain ⟨fi0, zi0, fi1, zi1, fi2, zi2, fi3, zi3, fi4, zi4, fi5, zi5, xi⟩ := ly6 Ri_1.out
  go_wp2_with fail
  refine (dcmp_any (L1.out.get (A := A) (c := c) (xs := digs m.natAbs) (by simp)) (L1.out.get (A := B) (c := d) (xs := digs n.natAbs) (by simp)) (Nat.le_trans lx.out (by omega)) (Nat.le_trans ly.out (by omega)) HR1.out HR2.out HK.out).mono ?_
  rintro e w2 ⟨rfl, hb⟩
  have L2 := ls L1 hb
  clear fi0 zi0 fi1 zi1 fi2 zi2 fi3 zi3 fi4 zi4 fi5 zi5 xi
  have Ri_2 := co Ri_1 hb
  clear hb 
  obtain ⟨fi0, zi0, fi1, zi1, fi2, zi2, fi3, zi3, fi4, zi4, fi5, zi5, xi⟩ := ly6 Ri_2.out
  go_wp2
  go_ret
  refine ⟨_, rfl, L2.out.1.size, by simp, ?_, ?_⟩
  · exact dqrow_2 (heap_alloc_new _ _) ((L2.out.get (A := A) (c := c) (xs := digs m.natAbs) (by simp)).below (below1 _ _)) ((L2.out.get (A := B) (c := d) (xs := digs n.natAbs) (by simp)).below (below1 _ _))
  · exact L2.out.1.trans ((below1 _ _).mono L2.out.1.size)

theorem ends_any {A B : Option Addr} {c d : Nat} {m x n y : Int} {w : World} (h : Dg w A c (digs m.natAbs)) (h' : Dg w B d (digs n.natAbs)) (hl : (digs m.natAbs).length ≤ 10000) (hl' : (digs n.natAbs).length ≤ 10000) (r1 : Rt m x) (r2 : Rt n y) : Calls Tryz.prog 55 #[.agg #[.bool (decide (m < 0)), .slice A (digs m.natAbs).length c, .int .i64 x, .bool (decide (n < 0)), .slice B (digs n.natAbs).length d, .int .i64 y]] w (Nr (endsL m x n y) w) := by
  unfold endsL
  by_cases hq : dv m x = dv n y
  · rw [if_pos hq]; exact ends_eq A B c d m x n y w h h' hl hl' r1 r2 hq
  · rw [if_neg hq]; exact ends_ne A B c d m x n y w h h' hl hl' r1 r2 hq
end Go.Proofs.YtijodbjdajddoaaGreatDoor
end

section
/-
  iv: words for Mul, Div.
-/
namespace Go.Proofs.YtijodbjdajddoaaGreatDoor
open Go.RowKit
set_option linter.unusedSimpArgs false
set_option linter.unusedVariables false
/-- The products (or what else F makes) of some numbers with all of Y. -/
def pz (F : Int × Int → Int × Int → Int × Int) (Y l : List (Int × Int)) : List (Int × Int) := l.flatMap (fun r => Y.map (F r))
theorem pz_snoc (F : Int × Int → Int × Int → Int × Int) (Y l : List (Int × Int)) (z : Int × Int) : pz F Y (l ++ [z]) = pz F Y l ++ Y.map (F z) := by unfold pz; simp
theorem pz_len (F : Int × Int → Int × Int → Int × Int) (Y : List (Int × Int)) (hY : Y.length ≤ 2) : ∀ l : List (Int × Int), (pz F Y l).length ≤ l.length * 2
  | [] => by simp [pz]
  | z :: l => by
    have := pz_len F Y hY l
    have e : pz F Y (z :: l) = Y.map (F z) ++ pz F Y l := rfl
    rw [e, List.length_append, List.length_map, List.length_cons]
    omega
theorem mem_pz {F : Int × Int → Int × Int → Int × Int} {Y l : List (Int × Int)} {z : Int × Int} (h : z ∈ pz F Y l) : ∃ r ∈ l, ∃ q ∈ Y, F r q = z := by
  unfold pz at h
  obtain ⟨r, hr, h⟩ := List.mem_flatMap.1 h
  obtain ⟨q, hq, h⟩ := List.mem_map.1 h
  exact ⟨r, hr, q, hq, h⟩
theorem endsL_ok {m x n y : Int} (r1 : Rt m x) (r2 : Rt n y) (hl : (digs m.natAbs).length ≤ 10000) (hl' : (digs n.natAbs).length ≤ 10000) : DqOk (endsL m x n y) ∧ (endsL m x n y).length ≤ 2 ∧ 0 < (endsL m x n y).length := by
  unfold endsL
  split
  · exact ⟨fun z hz => by simp at hz; subst hz; exact ⟨r1, hl⟩, by simp, by simp⟩
  · exact ⟨fun z hz => by simp at hz; rcases hz with rfl | rfl; exact ⟨r1, hl⟩; exact ⟨r2, hl'⟩, by simp, by simp⟩
theorem lst_mem (z : Int × Int) : ∀ L : List (Int × Int), lst z L = z ∨ lst z L ∈ L := by
  intro L
  unfold lst
  induction L generalizing z with
  | nil => exact .inl rfl
  | cons a L ih =>
    rw [List.foldl_cons]
    split
    · rcases ih a with h | h
      · rw [h]; exact .inr (by simp)
      · exact .inr (List.mem_cons_of_mem _ h)
    · rcases ih z with h | h
      · rw [h]; exact .inl rfl
      · exact .inr (List.mem_cons_of_mem _ h)
theorem gst_mem (z : Int × Int) : ∀ L : List (Int × Int), gst z L = z ∨ gst z L ∈ L := by
  intro L
  unfold gst
  induction L generalizing z with
  | nil => exact .inl rfl
  | cons a L ih =>
    rw [List.foldl_cons]
    split
    · rcases ih a with h | h
      · rw [h]; exact .inr (by simp)
      · exact .inr (List.mem_cons_of_mem _ h)
    · rcases ih z with h | h
      · rw [h]; exact .inl rfl
      · exact .inr (List.mem_cons_of_mem _ h)
/-- A row of numbers that stands somewhere. -/
def Rw (w : World) (b : Nat) (L : List (Int × Int)) : Prop := b < w.heap.size ∧ DqRow w b L
theorem Rw.below {w w' : World} {b : Nat} {L : List (Int × Int)} (h : Rw w b L) (hb : Below w.heap.size w w') : Rw w' b L := ⟨Nat.lt_of_lt_of_le h.1 hb.size, h.2.below hb h.1⟩
/-- So much memory there is at least. -/
def Szw (w : World) (B : Nat) : Prop := B ≤ w.heap.size
theorem Szw.below {w w' : World} {B : Nat} (h : Szw w B) (hb : Below w.heap.size w w') : Szw w' B := Nat.le_trans h hb.size
def Far (v : Value) (b : Nat) : Prop := ∀ k, v.ownBlock = some k → k ≠ b
theorem Dw.lt {w : World} {B : Nat} {v : Value} {L : List (Int × Int)} (h : Dw w B v L) : ∀ k, v.ownBlock = some k → B ≤ k ∧ k < w.heap.size := by
  obtain ⟨_, cs, hown, _⟩ := h
  exact hown.lt
theorem Dw.far {w : World} {B b : Nat} {v : Value} {L : List (Int × Int)} (h : Dw w B v L) (hb : w.heap.size ≤ b) : Far v b := fun k hk => by have := (h.lt k hk).2; omega
theorem Dw.farb {w : World} {B b : Nat} {v : Value} {L : List (Int × Int)} (h : Dw w B v L) (hb : b < B) : Far v b := fun k hk => by have := (h.lt k hk).1; omega
theorem live_grown {w0 w w' : World} {L : List (Option Addr × Nat × List Nat)} {B : Nat} {v : Value} {zs : List (Int × Int)} (h : Live w0 w L) (hD : Dw w B v zs) (hB : w0.heap.size ≤ B) (hg : w.grownBy w' v.ownBlock) (hk : Kept w w') : Live w0 w' L :=
  ⟨h.1.grown hg h.1.size (fun k hk => Nat.le_trans hB (hD.lt k hk).1), fun t ht => (h.2 t ht).kept hk⟩
theorem Rw.grown {w w' : World} {b : Nat} {L : List (Int × Int)} {v : Value} (h : Rw w b L) (hf : Far v b) (hg : w.grownBy w' v.ownBlock) (hk : Kept w w') : Rw w' b L :=
  ⟨Nat.lt_of_lt_of_le h.1 hg.size, fun i z hz => by
    obtain ⟨A, c, h0, h1, h2, h3⟩ := h.2 i z hz
    have hc : ∀ o, w'.cell? ⟨b, o, none⟩ = w.cell? ⟨b, o, none⟩ := fun o => World.grownBy.cell_far hg _ h.1 (fun e => hf b e.symm rfl)
    exact ⟨A, c, (hc _).trans h0, (hc _).trans h1, (hc _).trans h2, h3.kept hk⟩⟩
theorem heap_lt' {w : World} {b : Nat} {o : Obj} (h : w.heap[b]? = some o) : b < w.heap.size := (Array.getElem?_eq_some_iff.1 h).1
theorem row_grown {w w' : World} {b : Nat} {o : Obj} {v : Value} (h : w.heap[b]? = some o) (hf : Far v b) (hg : w.grownBy w' v.ownBlock) : w'.heap[b]? = some o :=
  (hg.block b (heap_lt' h) (fun e => hf b e.symm rfl)).trans h
theorem far_next {w : World} {v : Value} {b g n cap : Nat} (hf : Far v b) (hb : b < w.heap.size) (h : v.ownBlock = some g ∨ g = w.heap.size) : Far (.slice (some ⟨g, 0, none⟩) n cap) b := fun k hk => by
  have e : g = k := by simpa [Value.ownBlock] using hk
  subst e
  rcases h with h | h
  · exact hf g h
  · omega

theorem ends_of {A B : Option Addr} {c d : Nat} {m x n y : Int} {w : World} {X : List (Int × Int)} (h : Dg w A c (digs m.natAbs)) (h' : Dg w B d (digs n.natAbs)) (hl : (digs m.natAbs).length ≤ 10000) (hl' : (digs n.natAbs).length ≤ 10000) (r1 : Rt m x) (r2 : Rt n y) (hX : endsL m x n y = X) : Calls Tryz.prog 55 #[.agg #[.bool (decide (m < 0)), .slice A (digs m.natAbs).length c, .int .i64 x, .bool (decide (n < 0)), .slice B (digs n.natAbs).length d, .int .i64 y]] w (Nr X w) := by
  subst hX; exact ends_any h h' hl hl' r1 r2

theorem least_of {A : Option Addr} {c b k : Nat} {m x M E : Int} {L : List (Int × Int)} {w : World} (h : Dg w A c (digs m.natAbs)) (hl : (digs m.natAbs).length ≤ 10000) (r1 : Rt m x) (hL : Rw w b L) (ho : DqOk L) (hn : L.length ≤ 16) (hk : L.length ≤ k) (he : lst (m, x) L = (M, E)) :
    Calls Tryz.prog 56 #[.agg #[.bool (decide (m < 0)), .slice A (digs m.natAbs).length c, .int .i64 x], .slice (some ⟨b, 0, none⟩) L.length k] w fun e w' => Yr M E w e w' := by
  have := least_any A c b k m x L w h hl r1 hL.2 ho hL.1 hn hk
  rwa [he] at this
theorem greatest_of {A : Option Addr} {c b k : Nat} {m x M E : Int} {L : List (Int × Int)} {w : World} (h : Dg w A c (digs m.natAbs)) (hl : (digs m.natAbs).length ≤ 10000) (r1 : Rt m x) (hL : Rw w b L) (ho : DqOk L) (hn : L.length ≤ 16) (hk : L.length ≤ k) (he : gst (m, x) L = (M, E)) :
    Calls Tryz.prog 57 #[.agg #[.bool (decide (m < 0)), .slice A (digs m.natAbs).length c, .int .i64 x], .slice (some ⟨b, 0, none⟩) L.length k] w fun e w' => Yr M E w e w' := by
  have := greatest_any A c b k m x L w h hl r1 hL.2 ho hL.1 hn hk
  rwa [he] at this
end Go.Proofs.YtijodbjdajddoaaGreatDoor
end

section
/-
  iv: Neg.
-/
namespace Go.Proofs.YtijodbjdajddoaaGreatDoor
open Go.RowKit
set_option linter.unusedSimpArgs false
set_option linter.unusedVariables false
theorem neg_d {A : Option Addr} {c : Nat} {m x z : Int} {w : World} (h : Dg w A c (digs m.natAbs)) (hl : (digs m.natAbs).length ≤ 500000) (hR : Rt m x) (hz : -m = z) :
    Calls Tryz.prog 48 #[.agg #[.bool (decide (m < 0)), .slice A (digs m.natAbs).length c, .int .i64 x]] w fun e w' => Yr z x w e w' := by
  subst hz
  exact neg_yes A c m x w h hl hR
theorem nf_isD {r : Rat} {M E : Int} (h : IsD r M E) : Nf M E := h.1
theorem nf_rd {r : Rat} {p : Nat} {up : Bool} {M E : Int} (h : RdOf r p up M E) : Nf M E := h.1
theorem rt_in {m e : Int} (hn : Nf m e) (h : inR m e = true) : Rt m e := by
  refine ⟨hn, ?_⟩
  unfold inR at h
  rw [decide_eq_true_eq] at h
  rcases h with h | h
  · have := nf_zero hn h; omega
  · omega

set_option maxHeartbeats 4000000 in
set_option maxRecDepth 100000 in
theorem ineg_ok (A B : Option Addr) (c d : Nat) (m x n y P : Int) (g : Nat) (a1 a2 : Int) (w : World) (h : Dg w A c (digs m.natAbs)) (h' : Dg w B d (digs n.natAbs)) (hl : (digs m.natAbs).length ≤ 10000) (hl' : (digs n.natAbs).length ≤ 10000) (r1 : Rt m x) (r2 : Rt n y) (ho : dv m x ≤ dv n y) (hk : w.heap[g]? = some (.cells #[.int .i64 0, .int .i64 P] 45 (0, 0))) (hz1 : -n = a1) (hz2 : -m = a2):
    Calls Tryz.prog 28 #[.pointer (some ⟨g, 0, none⟩), .agg #[.bool (decide (m < 0)), .slice A (digs m.natAbs).length c, .int .i64 x, .bool (decide (n < 0)), .slice B (digs n.natAbs).length d, .int .i64 y]] w fun e w' => Yi a1 y a2 x w e w' := by
  have HR1 := Lib.hid r1
  have HR2 := Lib.hid r2
  have lx := Lib.hid hl
  have ly := Lib.hid hl'
  have HO := Lib.hid ho
  have Z1 := Lib.hid hz1
  have Z2 := Lib.hid hz2
  have L0 := Lib.hid (((live_start w).add h).add h')
  have Rk_0 := Lib.hid hk
  clear hk
  clear h h' hl hl' r1 r2 ho hz1 hz2
  go_enter Tryz.func28, Tryz.ntmps28
  go_upto_region 1 with fail
  obtain ⟨v1, hW, hb, Ri_1, Rr_1⟩ := new2 w (.cells #[.bool (decide (m < 0)), .slice A (digs m.natAbs).length c, .int .i64 x, .bool (decide (n < 0)), .slice B (digs n.natAbs).length d, .int .i64 y] 34) (.cells #[.bool false, .slice none 0 0, .int .i64 0, .bool false, .slice none 0 0, .int .i64 0] 34)
  rw [← hW]
  have L1 := ls L0 hb
  have Rk_1 := co Rk_0 hb
  have Gi := gl0 L0.out
  have Nki := nl0 Rk_0.out
  have Gr := gl1 L0.out
  have Nkr := nl1 Rk_0.out
  have Nir : w.heap.size < w.heap.size + 1 := by omega
  clear hW hb
  obtain ⟨fi0, zi0, fi1, zi1, fi2, zi2, fi3, zi3, fi4, zi4, fi5, zi5, xi⟩ := ly6 Ri_1.out
  go_wp2_with fail
  obtain ⟨w2, hW, hb, Rsl_2⟩ := new1 v1 (.cells #[.bool (decide (m < 0)), .slice A (digs m.natAbs).length c, .int .i64 x, .bool (decide (n < 0)), .slice B (digs n.natAbs).length d, .int .i64 y] 34)
  rw [← hW]
  have L2 := ls L1 hb
  have Rk_2 := co Rk_1 hb
  have Ri_2 := co Ri_1 hb
  have Rr_2 := co Rr_1 hb
  have Gsl := gl0 L1.out
  have Nksl := nl0 Rk_1.out
  have Nisl := nl0 Ri_1.out
  have Nrsl := nl0 Rr_1.out
  clear hW hb
  clear fi0 zi0 fi1 zi1 fi2 zi2 fi3 zi3 fi4 zi4 fi5 zi5 xi
  refine (takes_1 Rk_2.out Rsl_2.out (L2.out.get (A := A) (c := c) (xs := digs m.natAbs) (by simp)) (L2.out.get (A := B) (c := d) (xs := digs n.natAbs) (by simp)) lx.out ly.out HR1.out HR2.out HO.out rfl).mono ?_
  rintro e w3 ⟨rfl, hb⟩
  have L3 := ls L2 hb
  have Rk_3 := co Rk_2 hb
  have Ri_3 := co Ri_2 hb
  have Rr_3 := co Rr_2 hb
  have Rsl_3 := co Rsl_2 hb
  clear hb 
  go_upto_region 3 with fail
  obtain ⟨fi0, zi0, fi1, zi1, fi2, zi2, fi3, zi3, fi4, zi4, fi5, zi5, xi⟩ := ly6 Ri_3.out
  have KD := Lib.hid (bd0 w3)
  have LD := ls L3 KD.out
  have Mi : w.heap.size ≠ w.heap.size + 1 := by omega
  go_region_held3 (fun w' => (∀ o, w'.cell? ⟨w.heap.size, o, none⟩ = w3.cell? ⟨w.heap.size, o, none⟩))
    (first | with_reducible exact keep_b KD.out xi | with_reducible exact keep_b K5.out xi | with_reducible exact keep_b K6.out xi | with_reducible exact keep_b K7.out xi | exact (keep_set (keep_b K7.out xi) Mi) | exact (keep_set (keep_set (keep_b K7.out xi) Mi) Mi) | exact (keep_set (keep_set (keep_set (keep_b K7.out xi) Mi) Mi) Mi) | exact (keep_set (keep_set (keep_set (keep_set (keep_b K7.out xi) Mi) Mi) Mi) Mi) | exact (keep_set (keep_set (keep_set (keep_set (keep_set (keep_b K7.out xi) Mi) Mi) Mi) Mi) Mi) | exact (keep_set (keep_set (keep_set (keep_set (keep_set (keep_set (keep_b K7.out xi) Mi) Mi) Mi) Mi) Mi) Mi))
    (first
      | (go_at_call 48; (with_reducible refine (neg_d (LD.out.get (A := B) (c := d) (xs := digs n.natAbs) (by simp)) (Nat.le_trans ly.out (by omega)) HR2.out Z1.out).mono ?_); rintro e w5 ⟨A5, c5, rfl, hd, hb⟩; (have K5 := bt KD hb); (have L5 := la LD hb hd); clear hb hd)
      | (go_at_call 48; (with_reducible refine (neg_d (L5.out.get (A := A) (c := c) (xs := digs m.natAbs) (by simp)) (Nat.le_trans lx.out (by omega)) HR1.out Z2.out).mono ?_); rintro e w6 ⟨A6, c6, rfl, hd, hb⟩; (have K6 := bt K5 hb); (have L6 := la L5 hb hd); clear hb hd)
      | (go_at_call 58; (with_reducible refine (answer_iv A5 A6 c5 c6 a1 y a2 x P g _ (L6.out.get (A := A5) (c := c5) (xs := digs a1.natAbs) (by simp)) (L6.out.get (A := A6) (c := c6) (xs := digs a2.natAbs) (by simp)) (cells_of Rk_3.out K6.out)).mono ?_); rintro e w7 ⟨A7, c7, B7, d7, rfl, hd, he, hb⟩; (have K7 := bt K6 hb); (have L7 := la2 L6 hb hd he); (have qr0_K7 := row_c (i := 0) (co Rr_3 K7.out).out rfl); (have pr0_K7 := frozen_of_row _ _ 0 _ _ (cells_of Rr_3.out K7.out)); (have qr1_K7 := row_c (i := 1) (co Rr_3 K7.out).out rfl); (have pr1_K7 := frozen_of_row _ _ 1 _ _ (cells_of Rr_3.out K7.out)); (have qr2_K7 := row_c (i := 2) (co Rr_3 K7.out).out rfl); (have pr2_K7 := frozen_of_row _ _ 2 _ _ (cells_of Rr_3.out K7.out)); (have qr3_K7 := row_c (i := 3) (co Rr_3 K7.out).out rfl); (have pr3_K7 := frozen_of_row _ _ 3 _ _ (cells_of Rr_3.out K7.out)); (have qr4_K7 := row_c (i := 4) (co Rr_3 K7.out).out rfl); (have pr4_K7 := frozen_of_row _ _ 4 _ _ (cells_of Rr_3.out K7.out)); (have qr5_K7 := row_c (i := 5) (co Rr_3 K7.out).out rfl); (have pr5_K7 := frozen_of_row _ _ 5 _ _ (cells_of Rr_3.out K7.out)); clear hb hd he))
  rename_i hHeld
  clear hHeld
  clear fi0 zi0 fi1 zi1 fi2 zi2 fi3 zi3 fi4 zi4 fi5 zi5 xi
  have Rk_7 := co Rk_3 K7.out
  have Ri_7 := co Ri_3 K7.out
  have Rr_7 := co Rr_3 K7.out
  have Rsl_7 := co Rsl_3 K7.out
  obtain ⟨fr0, zr0, fr1, zr1, fr2, zr2, fr3, zr3, fr4, zr4, fr5, zr5, xr⟩ := ly6 Rr_7.out
  go_wp2
  refine bodyPost_ret (v := .agg #[.bool (decide (a1 < 0)), .slice A7 (digs a1.natAbs).length c7, .int .i64 y, .bool (decide (a2 < 0)), .slice B7 (digs a2.natAbs).length d7, .int .i64 x]) (by simp [results, Tryz.results28, go_sem, fr0, fr1, fr2, fr3, fr4, fr5]) rfl ?_
  
  refine ⟨A7, c7, B7, d7, rfl, ?_, ?_, ?_⟩
  · exact (fin6 L7.out Rr_7.out noint_iv Gr).get (A := A7) (c := c7) (xs := digs a1.natAbs) (by simp)
  · exact (fin6 L7.out Rr_7.out noint_iv Gr).get (A := B7) (c := d7) (xs := digs a2.natAbs) (by simp)
  · exact (fin6 L7.out Rr_7.out noint_iv Gr).1
end Go.Proofs.YtijodbjdajddoaaGreatDoor
end

section
/-
  iv: Mul.
-/
namespace Go.Proofs.YtijodbjdajddoaaGreatDoor
open Go.RowKit
set_option linter.unusedSimpArgs false
set_option linter.unusedVariables false
set_option maxHeartbeats 4000000 in
set_option maxRecDepth 100000 in
theorem imul_ok (A B A' B' : Option Addr) (c d c' d' : Nat) (m s n t m' s' n' t' P : Int) (g : Nat) (F : Int × Int → Int × Int → Int × Int) (X Y Z : List (Int × Int)) (z0 l0 h0 : Int × Int) (M E N H : Int) (w : World) (h : Dg w A c (digs m.natAbs)) (h' : Dg w B d (digs n.natAbs)) (hl : (digs m.natAbs).length ≤ 10000) (hl' : (digs n.natAbs).length ≤ 10000) (r1 : Rt m s) (r2 : Rt n t) (ho : dv m s ≤ dv n t) (k : Dg w A' c' (digs m'.natAbs)) (k' : Dg w B' d' (digs n'.natAbs)) (kl : (digs m'.natAbs).length ≤ 10000) (kl' : (digs n'.natAbs).length ≤ 10000) (s1 : Rt m' s') (s2 : Rt n' t') (ko : dv m' s' ≤ dv n' t') {p : Nat} (hP : (p : Int) = P) (p2 : 2 ≤ p) (p4 : p ≤ 400) (hT : T32 w) (hk : w.heap[g]? = some (.cells #[.int .i64 0, .int .i64 P] 45 (0, 0))) (hX : endsL m s n t = X) (hY : endsL m' s' n' t' = Y) (hZ : pz F Y X = Z) (hz0 : Z[0]? = some z0) (hF : ∀ r ∈ X, ∀ q ∈ Y, IsD (dv r.1 r.2 * dv q.1 q.2) (F r q).1 (F r q).2 ∧ inR (F r q).1 (F r q).2 = true) (hl0 : lst z0 Z = l0) (hh0 : gst z0 Z = h0) (ht1 : RdOf (dv l0.1 l0.2) p false M E) (u1 : inR M E = true) (ht2 : RdOf (dv h0.1 h0.2) p true N H) (u2 : inR N H = true):
    Calls Tryz.prog 20 #[.pointer (some ⟨g, 0, none⟩), .agg #[.bool (decide (m < 0)), .slice A (digs m.natAbs).length c, .int .i64 s, .bool (decide (n < 0)), .slice B (digs n.natAbs).length d, .int .i64 t], .agg #[.bool (decide (m' < 0)), .slice A' (digs m'.natAbs).length c', .int .i64 s', .bool (decide (n' < 0)), .slice B' (digs n'.natAbs).length d', .int .i64 t']] w fun e w' => Yi M E N H w e w' := by
  have HR1 := Lib.hid r1
  have HR2 := Lib.hid r2
  have lx := Lib.hid hl
  have ly := Lib.hid hl'
  have HO := Lib.hid ho
  have HS1 := Lib.hid s1
  have HS2 := Lib.hid s2
  have kx := Lib.hid kl
  have ky := Lib.hid kl'
  have KO := Lib.hid ko
  have HX := Lib.hid hX
  have HY := Lib.hid hY
  have HZ := Lib.hid hZ
  have HZ0 := Lib.hid hz0
  have HF := Lib.hid hF
  have HL0 := Lib.hid hl0
  have HH0 := Lib.hid hh0
  have E1 := Lib.hid ht1
  have E2 := Lib.hid ht2
  have V1 := Lib.hid u1
  have V2 := Lib.hid u2
  have OX := Lib.hid (show DqOk X ∧ X.length ≤ 2 ∧ 0 < X.length by rw [← hX]; exact endsL_ok r1 r2 hl hl')
  have OY := Lib.hid (show DqOk Y ∧ Y.length ≤ 2 ∧ 0 < Y.length by rw [← hY]; exact endsL_ok s1 s2 kl kl')
  have OZ := Lib.hid (show ∀ z ∈ Z, Rt z.1 z.2 ∧ (digs z.1.natAbs).length ≤ 10000 by
    intro z hz
    rw [← hZ] at hz
    obtain ⟨r, hr, q, hq, e⟩ := mem_pz hz
    obtain ⟨f1, f2⟩ := hF r hr q hq
    rw [e] at f1 f2
    exact ⟨rt_in (nf_isD f1) f2, inr_len f2⟩)
  have LZ := Lib.hid (show Z.length ≤ 4 by rw [← hZ]; have := pz_len F Y OY.out.2.1 X; have := OX.out.2.1; omega)
  have HP := Lib.hid hP
  have HT := Lib.hid hT
  clear hT
  have L0 := Lib.hid (((((live_start w).add h).add h').add k).add k')
  have Rk_0 := Lib.hid hk
  clear hk
  clear h h' hl hl' r1 r2 ho k k' kl kl' s1 s2 ko hX hY hZ hz0 hF hl0 hh0 ht1 ht2 u1 u2 hP
  go_enter Tryz.func20, Tryz.ntmps20
  go_upto_region 1 with fail
  obtain ⟨v1, hW, hb, Ri_1, Rj_1, Rr_1⟩ := new3 w (.cells #[.bool (decide (m < 0)), .slice A (digs m.natAbs).length c, .int .i64 s, .bool (decide (n < 0)), .slice B (digs n.natAbs).length d, .int .i64 t] 34) (.cells #[.bool (decide (m' < 0)), .slice A' (digs m'.natAbs).length c', .int .i64 s', .bool (decide (n' < 0)), .slice B' (digs n'.natAbs).length d', .int .i64 t'] 34) (.cells #[.bool false, .slice none 0 0, .int .i64 0, .bool false, .slice none 0 0, .int .i64 0] 34)
  rw [← hW]
  have L1 := ls L0 hb
  have Rk_1 := co Rk_0 hb
  have Gi := gl0 L0.out
  have Nki := nl0 Rk_0.out
  have Gj := gl1 L0.out
  have Nkj := nl1 Rk_0.out
  have Nij : w.heap.size < w.heap.size + 1 := by omega
  have Gr := gl2 L0.out
  have Nkr := nl2 Rk_0.out
  have Nir : w.heap.size < w.heap.size + 1 + 1 := by omega
  have Njr : w.heap.size + 1 < w.heap.size + 1 + 1 := by omega
  clear hW hb
  obtain ⟨fi0, zi0, fi1, zi1, fi2, zi2, fi3, zi3, fi4, zi4, fi5, zi5, xi⟩ := ly6 Ri_1.out
  obtain ⟨fj0, zj0, fj1, zj1, fj2, zj2, fj3, zj3, fj4, zj4, fj5, zj5, xj⟩ := ly6 Rj_1.out
  go_wp2_with fail
  obtain ⟨w2, hW, hb, Rsl_2⟩ := new1 v1 (.cells #[.bool (decide (m < 0)), .slice A (digs m.natAbs).length c, .int .i64 s, .bool (decide (n < 0)), .slice B (digs n.natAbs).length d, .int .i64 t, .bool (decide (m' < 0)), .slice A' (digs m'.natAbs).length c', .int .i64 s', .bool (decide (n' < 0)), .slice B' (digs n'.natAbs).length d', .int .i64 t'] 34)
  rw [← hW]
  have L2 := ls L1 hb
  have Rk_2 := co Rk_1 hb
  have Ri_2 := co Ri_1 hb
  have Rj_2 := co Rj_1 hb
  have Rr_2 := co Rr_1 hb
  have Gsl := gl0 L1.out
  have Nksl := nl0 Rk_1.out
  have Nisl := nl0 Ri_1.out
  have Njsl := nl0 Rj_1.out
  have Nrsl := nl0 Rr_1.out
  clear hW hb
  clear fi0 zi0 fi1 zi1 fi2 zi2 fi3 zi3 fi4 zi4 fi5 zi5 xi fj0 zj0 fj1 zj1 fj2 zj2 fj3 zj3 fj4 zj4 fj5 zj5 xj
  refine (takes_2 Rk_2.out Rsl_2.out (L2.out.get (A := A) (c := c) (xs := digs m.natAbs) (by simp)) (L2.out.get (A := B) (c := d) (xs := digs n.natAbs) (by simp)) lx.out ly.out HR1.out HR2.out HO.out (L2.out.get (A := A') (c := c') (xs := digs m'.natAbs) (by simp)) (L2.out.get (A := B') (c := d') (xs := digs n'.natAbs) (by simp)) kx.out ky.out HS1.out HS2.out KO.out rfl).mono ?_
  rintro e w3 ⟨rfl, hb⟩
  have L3 := ls L2 hb
  have Rk_3 := co Rk_2 hb
  have Ri_3 := co Ri_2 hb
  have Rj_3 := co Rj_2 hb
  have Rr_3 := co Rr_2 hb
  have Rsl_3 := co Rsl_2 hb
  clear hb 
  obtain ⟨fi0, zi0, fi1, zi1, fi2, zi2, fi3, zi3, fi4, zi4, fi5, zi5, xi⟩ := ly6 Ri_3.out
  go_wp2_with fail
  refine (ends_of (L3.out.get (A := A) (c := c) (xs := digs m.natAbs) (by simp)) (L3.out.get (A := B) (c := d) (xs := digs n.natAbs) (by simp)) lx.out ly.out HR1.out HR2.out HX.out).mono ?_
  rintro e w4 ⟨b1, rfl, hb1, hl1, hd1, hb⟩
  have L4 := ls L3 hb
  clear fi0 zi0 fi1 zi1 fi2 zi2 fi3 zi3 fi4 zi4 fi5 zi5 xi
  have Rk_4 := co Rk_3 hb
  have Ri_4 := co Ri_3 hb
  have Rj_4 := co Rj_3 hb
  have Rr_4 := co Rr_3 hb
  have Rsl_4 := co Rsl_3 hb
  clear hb 
  have RX := Lib.hid (show Rw w4 b1 X from ⟨hl1, hd1⟩)
  clear hb1 hl1 hd1
  obtain ⟨BB, hBB⟩ : ∃ b, w4.heap.size = b := ⟨_, rfl⟩
  have ZB := Lib.hid (show Szw w4 BB from Nat.le_of_eq hBB.symm)
  have xL := Lib.hid (show b1 < BB by rw [← hBB]; exact RX.out.1)
  have xB := Lib.hid (show w.heap.size ≤ BB by rw [← hBB]; exact L4.out.1.size)
  have Bk := Lib.hid (show g < BB by rw [← hBB]; exact heap_lt Rk_4.out)
  have Bi := Lib.hid (show w.heap.size < BB by rw [← hBB]; exact heap_lt Ri_4.out)
  have Bj := Lib.hid (show w.heap.size + 1 < BB by rw [← hBB]; exact heap_lt Rj_4.out)
  have Br := Lib.hid (show w.heap.size + 1 + 1 < BB by rw [← hBB]; exact heap_lt Rr_4.out)
  clear hBB
  go_wp2_with fail
  go_loopw [7, 22] (fun v iv wr => ∃ k : Nat, k ≤ X.length ∧ iv = .int .i64 k ∧ Hid (Dw wr BB v (pz F Y (X.take k))) ∧ Hid (Szw wr BB) ∧ Hid (Rw wr b1 X) ∧ Hid (Live w wr [(B', d', digs n'.natAbs), (A', c', digs m'.natAbs), (B, d, digs n.natAbs), (A, c, digs m.natAbs)]) ∧ Hid (wr.heap[g]? = some (.cells #[.int .i64 0, .int .i64 P] 45 (0, 0))) ∧ Hid (wr.heap[w.heap.size]? = some (.cells #[.bool (decide (m < 0)), .slice A (digs m.natAbs).length c, .int .i64 s, .bool (decide (n < 0)), .slice B (digs n.natAbs).length d, .int .i64 t] 34 (0, 0))) ∧ Hid (wr.heap[w.heap.size + 1]? = some (.cells #[.bool (decide (m' < 0)), .slice A' (digs m'.natAbs).length c', .int .i64 s', .bool (decide (n' < 0)), .slice B' (digs n'.natAbs).length d', .int .i64 t'] 34 (0, 0))) ∧ Hid (wr.heap[w.heap.size + 1 + 1]? = some (.cells #[.bool false, .slice none 0 0, .int .i64 0, .bool false, .slice none 0 0, .int .i64 0] 34 (0, 0)))) (fun _ iv _ => X.length - (intOf iv).toNat)
  case atStart => exact ⟨0, Nat.zero_le _, rfl, Lib.hid (dw_nil _ _), ZB, RX, L4, Rk_4, Ri_4, Rj_4, Rr_4⟩
  case round =>
    obtain ⟨k, hk, rfl, HD, HS, HRX, HV, Qk, Qi, Qj, Qr⟩ := hrel
    by_cases hlt : k < X.length
    · obtain ⟨⟨zm, ze⟩, hz⟩ : ∃ z, X[k]? = some z := ⟨_, List.getElem?_eq_getElem hlt⟩
      obtain ⟨Az, cz, g0, g1, g2, hd⟩ := HRX.out.2 k _ hz
      dsimp only at g0 g1 g2 hd
      have TN := Lib.hid (take_nextI hz)
      have MZ := Lib.hid (List.mem_of_getElem? hz)
      have HV1 := Lib.hid (HV.out.add hd)
      clear hd hz
      have xs1 := HS.out
      unfold Szw at xs1
      go_upto_region 7 with fail
      have FX := Lib.hid (HD.out.far (Nat.le_refl _))
      obtain ⟨w5, hW, hb, Rx_5⟩ := new1 wr (.cells #[.bool (decide (zm < 0)), .slice Az (digs zm.natAbs).length cz, .int .i64 ze] 26)
      rw [← hW]
      have L5 := ls HV1 hb
      have Rk_5 := co Qk hb
      have Ri_5 := co Qi hb
      have Rj_5 := co Qj hb
      have Rr_5 := co Qr hb
      have Gx := gl0 HV1.out
      have Nkx := nl0 Qk.out
      have Nix := nl0 Qi.out
      have Njx := nl0 Qj.out
      have Nrx := nl0 Qr.out
      have ES_5 := Lib.hid (HS.out.below hb)
      have EX_5 := Lib.hid (HRX.out.below hb)
      have ED_5 := Lib.hid (HD.out.below hb)
      clear hW hb
      clear g0 g1 g2
      obtain ⟨fj0, zj0, fj1, zj1, fj2, zj2, fj3, zj3, fj4, zj4, fj5, zj5, xj⟩ := ly6 Rj_5.out
      go_wp2_with fail
      refine (ends_of (L5.out.get (A := A') (c := c') (xs := digs m'.natAbs) (by simp)) (L5.out.get (A := B') (c := d') (xs := digs n'.natAbs) (by simp)) kx.out ky.out HS1.out HS2.out HY.out).mono ?_
      rintro e w6 ⟨b2, rfl, hb2, hl2, hd2, hb⟩
      have L6 := ls L5 hb
      clear fj0 zj0 fj1 zj1 fj2 zj2 fj3 zj3 fj4 zj4 fj5 zj5 xj
      have Rk_6 := co Rk_5 hb
      have Ri_6 := co Ri_5 hb
      have Rj_6 := co Rj_5 hb
      have Rr_6 := co Rr_5 hb
      have Rx_6 := co Rx_5 hb
      have ES_6 := Lib.hid (ES_5.out.below hb)
      have EX_6 := Lib.hid (EX_5.out.below hb)
      have ED_6 := Lib.hid (ED_5.out.below hb)
      clear hb 
      have RY := Lib.hid (show Rw w6 b2 Y from ⟨hl2, hd2⟩)
      have FY := Lib.hid (HD.out.far (b := b2) (Nat.le_trans (by have := heap_lt Rx_5.out; omega) hb2))
      clear hb2 hl2 hd2
      clear xs1
      generalize wr.heap.size = gx at *
      go_wp2_with fail
      go_loopw [7, 29] (fun vv iw ww => ∃ l : Nat, l ≤ Y.length ∧ iw = .int .i64 l ∧ Hid (Dw ww BB vv (pz F Y (X.take k) ++ (Y.take l).map (F (zm, ze)))) ∧ Hid (Szw ww BB) ∧ Hid (Rw ww b1 X) ∧ Hid (Rw ww b2 Y) ∧ Hid (Far vv gx) ∧ Hid (Far vv b2) ∧ Hid (Live w ww ((Az, cz, digs zm.natAbs) :: [(B', d', digs n'.natAbs), (A', c', digs m'.natAbs), (B, d, digs n.natAbs), (A, c, digs m.natAbs)])) ∧ Hid (ww.heap[g]? = some (.cells #[.int .i64 0, .int .i64 P] 45 (0, 0))) ∧ Hid (ww.heap[w.heap.size]? = some (.cells #[.bool (decide (m < 0)), .slice A (digs m.natAbs).length c, .int .i64 s, .bool (decide (n < 0)), .slice B (digs n.natAbs).length d, .int .i64 t] 34 (0, 0))) ∧ Hid (ww.heap[w.heap.size + 1]? = some (.cells #[.bool (decide (m' < 0)), .slice A' (digs m'.natAbs).length c', .int .i64 s', .bool (decide (n' < 0)), .slice B' (digs n'.natAbs).length d', .int .i64 t'] 34 (0, 0))) ∧ Hid (ww.heap[w.heap.size + 1 + 1]? = some (.cells #[.bool false, .slice none 0 0, .int .i64 0, .bool false, .slice none 0 0, .int .i64 0] 34 (0, 0))) ∧ Hid (ww.heap[gx]? = some (.cells #[.bool (decide (zm < 0)), .slice Az (digs zm.natAbs).length cz, .int .i64 ze] 26 (0, 0)))) (fun _ iw _ => Y.length - (intOf iw).toNat)
      case atStart => exact ⟨0, Nat.zero_le _, rfl, Lib.hid (by simpa using ED_6.out), ES_6, EX_6, RY, FX, FY, L6, Rk_6, Ri_6, Rj_6, Rr_6, Rx_6⟩
      case round =>
        obtain ⟨l, hl, rfl, HD2, HZ2, HRX2, HRY2, HFX, HFY, HV2, Uk, Ui, Uj, Ur, Ux⟩ := hrel
        by_cases hlt2 : l < Y.length
        · obtain ⟨⟨qm, qe⟩, hq⟩ : ∃ z, Y[l]? = some z := ⟨_, List.getElem?_eq_getElem hlt2⟩
          obtain ⟨Aq, cq, g0, g1, g2, hd⟩ := HRY2.out.2 l _ hq
          dsimp only at g0 g1 g2 hd
          have TN2 := Lib.hid (take_nextI hq)
          have MQ := Lib.hid (List.mem_of_getElem? hq)
          have HV3 := Lib.hid (HV2.out.add hd)
          clear hd hq
          obtain ⟨⟨fm, fe⟩, hfz⟩ : ∃ z, F (zm, ze) (qm, qe) = z := ⟨_, rfl⟩
          have HFZ := Lib.hid hfz
          obtain ⟨ff1, ff2⟩ := HF.out _ MZ.out _ MQ.out
          rw [hfz] at ff1 ff2
          have DF := Lib.hid ff1
          have JF := Lib.hid ff2
          clear ff1 ff2 hfz
          have OR := Lib.hid (OX.out.1 _ MZ.out)
          have OQ := Lib.hid (OY.out.1 _ MQ.out)
          have lb := Lib.hid (show (pz F Y (X.take k) ++ (Y.take l).map (F (zm, ze))).length ≤ 100 by rw [List.length_append, List.length_map, List.length_take]; have := pz_len F Y OY.out.2.1 (X.take k); rw [List.length_take] at this; have := OX.out.2.1; have := OY.out.2.1; omega)
          go_upto_region 10 with fail
          obtain ⟨w7, hW, hb, Ry_7⟩ := new1 wr (.cells #[.bool (decide (qm < 0)), .slice Aq (digs qm.natAbs).length cq, .int .i64 qe] 26)
          rw [← hW]
          have L7 := ls HV3 hb
          have Rk_7 := co Uk hb
          have Ri_7 := co Ui hb
          have Rj_7 := co Uj hb
          have Rr_7 := co Ur hb
          have Rx_7 := co Ux hb
          have Gy := gl0 HV3.out
          have Nky := nl0 Uk.out
          have Niy := nl0 Ui.out
          have Njy := nl0 Uj.out
          have Nry := nl0 Ur.out
          have Nxy := nl0 Ux.out
          have GS_7 := Lib.hid (HZ2.out.below hb)
          have GX_7 := Lib.hid (HRX2.out.below hb)
          have GY_7 := Lib.hid (HRY2.out.below hb)
          have GD_7 := Lib.hid (HD2.out.below hb)
          clear hW hb
          clear g0 g1 g2
          generalize hLST : pz F Y (X.take k) ++ (Y.take l).map (F (zm, ze)) = LST at *
          have HLST := Lib.hid hLST
          clear hLST
          refine wp_operands (W := w7) rfl 11 [33, 34, 35, 36, 37, 38, 39, 40, 41, 42, 43] (fun i u ww => match i with | 0 => u = u7 | 1 => u = .pointer (some ⟨g, 0, none⟩) | 2 => u = .pointer (some ⟨g, 0, none⟩) | 3 => u = .pointer (some ⟨g, 0, none⟩) | 4 => u = .agg #[.bool (decide (zm < 0)), .slice Az (digs zm.natAbs).length cz, .int .i64 ze] | 5 => u = .agg #[.bool (decide (qm < 0)), .slice Aq (digs qm.natAbs).length cq, .int .i64 qe] | 6 => ∃ A c, u = .tuple #[.agg #[.bool (decide (fm < 0)), .slice A (digs fm.natAbs).length c, .int .i64 fe], .int .i64 0] ∧ Dg ww A c (digs fm.natAbs) | 7 => ∃ A c, u = .agg #[.bool (decide (fm < 0)), .slice A (digs fm.natAbs).length c, .int .i64 fe] ∧ Dg ww A c (digs fm.natAbs) | 8 => u = .int .i64 0 | 9 => ∃ A c, u = .agg #[.bool (decide (fm < 0)), .slice A (digs fm.natAbs).length c, .int .i64 fe] ∧ Dg ww A c (digs fm.natAbs) | 10 => ∃ g A c, u = .slice (some ⟨g, 0, none⟩) 1 1 ∧ ww.heap[g]? = some (.cells #[.bool (decide (fm < 0)), .slice A (digs fm.natAbs).length c, .int .i64 fe] 26 (0, 0)) ∧ w7.heap.size ≤ g ∧ Dg ww A c (digs fm.natAbs) | _ => True) (fun i => decide (i ∈ ([] : List Nat)))
            (by decide) rfl (by kernel_rfl) (by kernel_rfl) (by decide) (by kernel_rfl) ?_ ?_ ?_ ?_
          · intro i u x y hi h hb
            have hi' : i = 0 ∨ i = 1 ∨ i = 2 ∨ i = 3 ∨ i = 4 ∨ i = 5 ∨ i = 6 ∨ i = 7 ∨ i = 8 ∨ i = 9 ∨ i = 10 := by omega
            rcases hi' with rfl | rfl | rfl | rfl | rfl | rfl | rfl | rfl | rfl | rfl | rfl
            · exact h
            · exact h
            · exact h
            · exact h
            · exact h
            · exact h
            · obtain ⟨A, c, e, hd⟩ := h
              exact ⟨A, c, e, hd.below hb⟩
            · obtain ⟨A, c, e, hd⟩ := h
              exact ⟨A, c, e, hd.below hb⟩
            · exact h
            · obtain ⟨A, c, e, hd⟩ := h
              exact ⟨A, c, e, hd.below hb⟩
            · obtain ⟨g, A, c, e, hg, hge, hd⟩ := h
              exact ⟨g, A, c, e, cells_of hg hb, hge, hd.below hb⟩
          · intro i u x hi; simp at hi
          · intro i a x KK hi hF hb hw hK
            have hi' : i = 0 ∨ i = 1 ∨ i = 2 ∨ i = 3 ∨ i = 4 ∨ i = 5 ∨ i = 6 ∨ i = 7 ∨ i = 8 ∨ i = 9 ∨ i = 10 := by omega
            rcases hi' with rfl | rfl | rfl | rfl | rfl | rfl | rfl | rfl | rfl | rfl | rfl
            · simp only [wpOp, List.getElem?_toArray, List.getElem?_cons_zero, Region.wanted, if_true]
              refine Or.inl ?_
              have e0 : a.eval (.tmp 7) = u7 := hF.2.2 7 (by decide)
              clear hw hF
              simp only [Oper.wp, execOp]
              rw [e0]
              go_simp
              exact hK _ x (by first | rfl | simp) (Below.refl _ _) (fun h => by simp at h)
            · simp only [wpOp, List.getElem?_toArray, List.getElem?_cons_succ, List.getElem?_cons_zero, Region.wanted, if_true]
              refine Or.inl ?_
              have e0 : a.eval (.tmp 0) = .pointer (some ⟨g, 0, none⟩) := hF.2.2 0 (by decide)
              clear hw hF
              simp only [Oper.wp, execOp]
              rw [e0]
              go_simp
              exact hK _ x (by first | rfl | simp) (Below.refl _ _) (fun h => by simp at h)
            · simp only [wpOp, List.getElem?_toArray, List.getElem?_cons_succ, List.getElem?_cons_zero, Region.wanted, if_true]
              refine Or.inl ?_
              have e0 : a.eval (.tmp 34) = .pointer (some ⟨g, 0, none⟩) := hw 1 (by kernel_rfl)
              clear hw hF
              simp only [Oper.wp, execOp]
              rw [e0]
              go_simp
              exact hK _ x (by first | rfl | simp) (Below.refl _ _) (fun h => by simp at h)
            · simp only [wpOp, List.getElem?_toArray, List.getElem?_cons_succ, List.getElem?_cons_zero, Region.wanted, if_true]
              refine Or.inl ?_
              have e0 : a.eval (.tmp 35) = .pointer (some ⟨g, 0, none⟩) := hw 2 (by kernel_rfl)
              clear hw hF
              simp only [Oper.wp, execOp]
              rw [e0]
              go_simp
              exact hK _ x (by first | rfl | simp) (Below.refl _ _) (fun h => by simp at h)
            · simp only [wpOp, List.getElem?_toArray, List.getElem?_cons_succ, List.getElem?_cons_zero, Region.wanted, if_true]
              refine Or.inl ?_
              have e0 : a.eval (.tmp 9) = .pointer (some ⟨gx, 0, none⟩) := hF.2.2 9 (by decide)
              have f0 := row_cell Rx_7.out hb 0
              have f1 := row_cell Rx_7.out hb 1
              have f2 := row_cell Rx_7.out hb 2
              simp only [List.getElem?_toArray, List.getElem?_cons_succ, List.getElem?_cons_zero] at f0 f1 f2
              clear hw hF
              simp only [Oper.wp, execOp]
              rw [e0]
              go_simp
              exact hK _ x (by first | rfl | simp) (Below.refl _ _) (fun h => by simp at h)
            · simp only [wpOp, List.getElem?_toArray, List.getElem?_cons_succ, List.getElem?_cons_zero, Region.wanted, if_true]
              refine Or.inl ?_
              have e0 : a.eval (.tmp 11) = .pointer (some ⟨wr.heap.size, 0, none⟩) := hF.2.2 11 (by decide)
              have f0 := row_cell Ry_7.out hb 0
              have f1 := row_cell Ry_7.out hb 1
              have f2 := row_cell Ry_7.out hb 2
              simp only [List.getElem?_toArray, List.getElem?_cons_succ, List.getElem?_cons_zero] at f0 f1 f2
              clear hw hF
              simp only [Oper.wp, execOp]
              rw [e0]
              go_simp
              exact hK _ x (by first | rfl | simp) (Below.refl _ _) (fun h => by simp at h)
            · simp only [wpOp, List.getElem?_toArray, List.getElem?_cons_succ, List.getElem?_cons_zero, Region.wanted, if_true]
              refine Or.inl ?_
              have e0 : a.tmps.getD 37 undef = .agg #[.bool (decide (zm < 0)), .slice Az (digs zm.natAbs).length cz, .int .i64 ze] := hw 4 (by kernel_rfl)
              have e1 : a.tmps.getD 38 undef = .agg #[.bool (decide (qm < 0)), .slice Aq (digs qm.natAbs).length cq, .int .i64 qe] := hw 5 (by kernel_rfl)
              clear hw hF
              simp only [Oper.wp, execOp]
              go_simp
              refine (dmul_yes ((L7.out.step hb).get (A := Az) (c := cz) (xs := digs zm.natAbs) (by simp)) ((L7.out.step hb).get (A := Aq) (c := cq) (xs := digs qm.natAbs) (by simp)) OR.out.2 OQ.out.2 OR.out.1 OQ.out.1 (t32_live HT.out (L7.out.step hb)) DF.out JF.out).mono ?_
              rintro e y ⟨A2, c2, rfl, hd2, hbb⟩
              exact hK _ y ⟨A2, c2, rfl, hd2⟩ hbb (fun h => by simp at h)
            · simp only [wpOp, List.getElem?_toArray, List.getElem?_cons_succ, List.getElem?_cons_zero, Region.wanted, if_true]
              refine Or.inl ?_
              obtain ⟨A', c', e0, hd⟩ := hw 6 (by kernel_rfl)
              have e0 : a.eval (.tmp 39) = _ := e0
              clear hw hF
              simp only [Oper.wp, execOp]
              rw [e0]
              go_simp
              exact hK _ x ⟨A', c', rfl, hd⟩ (Below.refl _ _) (fun h => by simp at h)
            · simp only [wpOp, List.getElem?_toArray, List.getElem?_cons_succ, List.getElem?_cons_zero, Region.wanted, if_true]
              refine Or.inl ?_
              obtain ⟨A', c', e0, hd⟩ := hw 6 (by kernel_rfl)
              have e0 : a.eval (.tmp 39) = _ := e0
              clear hw hF
              simp only [Oper.wp, execOp]
              rw [e0]
              go_simp
              exact hK _ x (by first | rfl | simp) (Below.refl _ _) (fun h => by simp at h)
            · simp only [wpOp, List.getElem?_toArray, List.getElem?_cons_succ, List.getElem?_cons_zero, Region.wanted, if_true]
              refine Or.inl ?_
              have e0 : a.tmps.getD 36 undef = .pointer (some ⟨g, 0, none⟩) := hw 3 (by kernel_rfl)
              obtain ⟨A', c', e1, hd⟩ := hw 7 (by kernel_rfl)
              have e1 : a.tmps.getD 40 undef = _ := e1
              have e2 : a.tmps.getD 41 undef = .int .i64 0 := hw 8 (by kernel_rfl)
              clear hw hF
              simp only [Oper.wp, execOp]
              go_simp
              refine (got_ok A' c' fm fe g _ hd).mono ?_
              rintro e y ⟨A2, c2, rfl, hd2, hbb⟩
              exact hK _ y ⟨A2, c2, rfl, hd2⟩ hbb (fun h => by simp at h)
            · simp only [wpOp, List.getElem?_toArray, List.getElem?_cons_succ, List.getElem?_cons_zero, Region.wanted, if_true]
              refine Or.inl ?_
              obtain ⟨A', c', e0, hd⟩ := hw 9 (by kernel_rfl)
              have e0 : a.eval (.tmp 42) = _ := e0
              clear hw hF
              simp only [Oper.wp, execOp]
              simp only [List.map_toArray, List.map_cons, List.map_nil, e0]
              go_simp
              exact hK _ _ ⟨_, _, _, rfl, heap_alloc_new _ _, hb.size, hd.below (below1 _ _)⟩ (below1 _ _) (fun h => by simp at h)
          · intro a x hF0 hb hR _
            have hF : Fr6 [33, 34, 35, 36, 37, 38, 39, 40, 41, 42, 43] _ a := hF0
            have e0 : a.tmps.getD 33 undef = u7 := hR 0 (by decide)
            have e1 : a.tmps.getD 34 undef = .pointer (some ⟨g, 0, none⟩) := hR 1 (by decide)
            have e2 : a.tmps.getD 35 undef = .pointer (some ⟨g, 0, none⟩) := hR 2 (by decide)
            have e3 : a.tmps.getD 36 undef = .pointer (some ⟨g, 0, none⟩) := hR 3 (by decide)
            have e4 : a.tmps.getD 37 undef = .agg #[.bool (decide (zm < 0)), .slice Az (digs zm.natAbs).length cz, .int .i64 ze] := hR 4 (by decide)
            have e5 : a.tmps.getD 38 undef = .agg #[.bool (decide (qm < 0)), .slice Aq (digs qm.natAbs).length cq, .int .i64 qe] := hR 5 (by decide)
            obtain ⟨B6, d6, h6, hd6⟩ := hR 6 (by decide)
            have e6 : a.tmps.getD 39 undef = _ := h6
            obtain ⟨B7, d7, h7, hd7⟩ := hR 7 (by decide)
            have e7 : a.tmps.getD 40 undef = _ := h7
            have e8 : a.tmps.getD 41 undef = .int .i64 0 := hR 8 (by decide)
            obtain ⟨B9, d9, h9, hd9⟩ := hR 9 (by decide)
            have e9 : a.tmps.getD 42 undef = _ := h9
            obtain ⟨g10, B10, d10, h10, hg10, hge10, hd10⟩ := hR 10 (by decide)
            have e10 : a.tmps.getD 43 undef = _ := h10
            rw [hF.fold (by kernel_rfl)]
            simp only [List.foldl_cons, List.foldl_nil, e0, e1, e2, e3, e4, e5, e6, e7, e8, e9, e10]
            simp only [Act.put, List.setIfInBounds_toArray, List.set_cons_zero, List.set_cons_succ]
            clear e0 e1 e2 e3 e4 e5 e6 e7 e8 e9 e10 hR hF hF0 h6 h7 h9 h10
            obtain ⟨w8, hW⟩ : ∃ W : World, W = x := ⟨_, rfl⟩
            rw [← hW]
            rw [← hW] at hb hd6 hd7 hd9 hd10 hg10
            have L8 := Lib.hid (((((L7.out.step hb).add hd6).add hd7).add hd9).add hd10)
            have Rk_8 := co Rk_7 hb
            have Ri_8 := co Ri_7 hb
            have Rj_8 := co Rj_7 hb
            have Rr_8 := co Rr_7 hb
            have Rx_8 := co Rx_7 hb
            have Ry_8 := co Ry_7 hb
            have Rq10_8 := Lib.hid hg10
            have Gq10 : w.heap.size ≤ g10 := Nat.le_trans L7.out.1.size hge10
            have Nkq10 : g < g10 := by have := heap_lt Rk_7.out; omega
            have Niq10 : w.heap.size < g10 := by have := heap_lt Ri_7.out; omega
            have Njq10 : w.heap.size + 1 < g10 := by have := heap_lt Rj_7.out; omega
            have Nrq10 : w.heap.size + 1 + 1 < g10 := by have := heap_lt Rr_7.out; omega
            have Nxq10 : gx < g10 := by have := heap_lt Rx_7.out; omega
            have Nyq10 : wr.heap.size < g10 := by have := heap_lt Ry_7.out; omega
            have GS_8 := Lib.hid (GS_7.out.below hb)
            have GX_8 := Lib.hid (GX_7.out.below hb)
            have GY_8 := Lib.hid (GY_7.out.below hb)
            have GD_8 := Lib.hid (GD_7.out.below hb)
            clear hW hb hd6 hd7 hd9 hd10 hg10 hge10
            change wpOps _ _ _ [11, 12] _ _
            simp only [wpOps_cons]
            simp only [wpOp, List.getElem?_toArray, List.getElem?_cons_succ, List.getElem?_cons_zero, Region.wanted, if_true]
            refine Or.inl ?_
            refine wp_append_dy (.tmp 33) (.tmp 43) rfl BB u7 LST fm fe _ 26 1 d10 B10 rfl GD_8.out Rq10_8.out (L8.out.get (A := B10) (c := d10) (xs := digs fm.natAbs) (by simp)) rfl (by have := lb.out; omega) (by have := GS_8.out; exact this) ?_
            intro gw cap w9 hD9 hg9 hk9 hf9
            have N9 := Lib.hid hD9
            have V9 := Lib.hid (live_grown L8.out GD_8.out xB.out hg9 hk9)
            have X9 := Lib.hid (GX_8.out.grown (GD_8.out.farb xL.out) hg9 hk9)
            have Y9 := Lib.hid (GY_8.out.grown HFY.out hg9 hk9)
            have S9 := Lib.hid (show Szw w9 BB from Nat.le_trans GS_8.out hg9.size)
            have Tk := Lib.hid (row_grown Rk_8.out (GD_8.out.farb Bk.out) hg9)
            have Ti := Lib.hid (row_grown Ri_8.out (GD_8.out.farb Bi.out) hg9)
            have Tj := Lib.hid (row_grown Rj_8.out (GD_8.out.farb Bj.out) hg9)
            have Tr := Lib.hid (row_grown Rr_8.out (GD_8.out.farb Br.out) hg9)
            have Tx := Lib.hid (row_grown Rx_8.out HFX.out hg9)
            have FX9 := Lib.hid (far_next (n := LST.length + 1) (cap := cap) HFX.out (heap_lt Rx_8.out) hf9)
            have FY9 := Lib.hid (far_next (n := LST.length + 1) (cap := cap) HFY.out GY_8.out.1 hf9)
            clear hD9 hg9 hk9 hf9
            go_simp
            try rw [wpOps_cons]
            simp only [wpOp, List.getElem?_toArray, List.getElem?_cons_succ, List.getElem?_cons_zero, Region.wanted, if_true]
            refine Or.inl ?_
            simp only [Oper.wp, execOp]
            go_simp
            try simp only [wpOps]
            have nY := OY.out.2.1
            go_wp2
            go_roundw
            case rel =>
              refine ⟨l + 1, by omega, by go_num, Lib.hid ?_, S9, X9, Y9, FX9, FY9, Lib.hid ⟨V9.out.1, fun t ht => V9.out.2 t (by revert ht; simp; grind)⟩, Tk, Ti, Tj, Tr, Tx⟩
              have e : pz F Y (X.take k) ++ (Y.take (l + 1)).map (F (zm, ze)) = LST ++ [(fm, fe)] := by rw [TN2.out, List.map_append, List.map_cons, List.map_nil, HFZ.out, ← List.append_assoc, HLST.out]
              rw [e]
              exact N9.out
            case measure => simp [intOf]; omega
        · obtain rfl : l = Y.length := by omega
          have nX := OX.out.2.1
          go_wp2
          go_roundw
          case rel =>
            refine ⟨k + 1, by omega, by go_num, Lib.hid ?_, HZ2, HRX2, Lib.hid ⟨HV2.out.1, fun t ht => HV2.out.2 t (List.mem_cons_of_mem _ ht)⟩, Uk, Ui, Uj, Ur⟩
            have := HD2.out
            rw [List.take_length] at this
            rw [TN.out, pz_snoc]
            exact this
          case measure => simp [intOf]; omega
    · obtain rfl : k = X.length := by omega
      have hDZ : Dw wr BB u7 Z := by have := HD.out; rwa [List.take_length, HZ.out] at this
      have z0l : 0 < Z.length := (List.getElem?_eq_some_iff.1 HZ0.out).1
      obtain ⟨bz, kz, rfl, hbz, hbl, hkz, hrz⟩ := hDZ.row z0l
      obtain ⟨Aw, cw, c0, c1, c2, hdw⟩ := hrz 0 _ HZ0.out
      have RZ := Lib.hid (show Rw wr bz Z from ⟨hbl, hrz⟩)
      have OZ0 := Lib.hid (OZ.out z0 (List.mem_of_getElem? HZ0.out))
      have OL0 := Lib.hid (show Rt l0.1 l0.2 ∧ (digs l0.1.natAbs).length ≤ 10000 by rw [← HL0.out]; rcases lst_mem z0 Z with e | e; rw [e]; exact OZ0.out; exact OZ.out _ e)
      have OH0 := Lib.hid (show Rt h0.1 h0.2 ∧ (digs h0.1.natAbs).length ≤ 10000 by rw [← HH0.out]; rcases gst_mem z0 Z with e | e; rw [e]; exact OZ0.out; exact OZ.out _ e)
      have KZ := Lib.hid hkz
      obtain ⟨z0m, z0e⟩ := z0
      obtain ⟨l0m, l0e⟩ := l0
      obtain ⟨h0m, h0e⟩ := h0
      have F1 := Lib.hid (show RdOf (dv l0m l0e) p false M E from E1.out)
      have F2 := Lib.hid (show RdOf (dv h0m h0e) p true N H from E2.out)
      have P1 := Lib.hid (show Rt l0m l0e ∧ (digs l0m.natAbs).length ≤ 10000 from OL0.out)
      have P2 := Lib.hid (show Rt h0m h0e ∧ (digs h0m.natAbs).length ≤ 10000 from OH0.out)
      have P0 := Lib.hid (show Rt z0m z0e ∧ (digs z0m.natAbs).length ≤ 10000 from OZ0.out)
      dsimp only at c0 c1 c2 hdw
      simp only [Nat.zero_mul, Nat.zero_add] at c0 c1 c2
      have HW := Lib.hid (HV.out.add hdw)
      have DO := Lib.hid (show DqOk Z from OZ.out)
      have br := Br.out
      clear hdw hrz hkz hDZ OZ0 OL0 OH0 E1 E2
      go_upto_region 13 with fail
      have xzz := hbl
      have KD := Lib.hid (bd0 wr)
      have LD := ls HW KD.out
      have Mzz : bz ≠ w.heap.size + 1 + 1 := by omega
      go_region_held3 (fun w' => (∀ o, w'.cell? ⟨bz, o, none⟩ = wr.cell? ⟨bz, o, none⟩))
        (first | with_reducible exact keep_b KD.out xzz | with_reducible exact keep_b K10.out xzz | with_reducible exact keep_b K11.out xzz | with_reducible exact keep_b K12.out xzz | exact (keep_set (keep_b K12.out xzz) Mzz) | exact (keep_set (keep_set (keep_b K12.out xzz) Mzz) Mzz) | exact (keep_set (keep_set (keep_set (keep_b K12.out xzz) Mzz) Mzz) Mzz) | exact (keep_set (keep_set (keep_set (keep_set (keep_b K12.out xzz) Mzz) Mzz) Mzz) Mzz) | exact (keep_set (keep_set (keep_set (keep_set (keep_set (keep_b K12.out xzz) Mzz) Mzz) Mzz) Mzz) Mzz) | exact (keep_set (keep_set (keep_set (keep_set (keep_set (keep_set (keep_b K12.out xzz) Mzz) Mzz) Mzz) Mzz) Mzz) Mzz))
        (first
          | (go_at_call 56; (with_reducible refine (least_of (LD.out.get (A := Aw) (c := cw) (xs := digs z0m.natAbs) (by simp)) P0.out.2 P0.out.1 (RZ.out.below KD.out) DO.out (by have := LZ.out; omega) KZ.out HL0.out).mono ?_); rintro e w10 ⟨A10, c10, rfl, hd, hb⟩; (have K10 := bt KD hb); (have L10 := la LD hb hd); clear hb hd)
          | (go_at_call 57; (with_reducible refine (greatest_of (L10.out.get (A := Aw) (c := cw) (xs := digs z0m.natAbs) (by simp)) P0.out.2 P0.out.1 (RZ.out.below K10.out) DO.out (by have := LZ.out; omega) KZ.out HH0.out).mono ?_); rintro e w11 ⟨A11, c11, rfl, hd, hb⟩; (have K11 := bt K10 hb); (have L11 := la L10 hb hd); clear hb hd)
          | (go_at_call 53; (with_reducible refine (outward_ok A10 A11 c10 c11 l0m l0e h0m h0e P M E N H g _ (L11.out.get (A := A10) (c := c10) (xs := digs l0m.natAbs) (by simp)) (L11.out.get (A := A11) (c := c11) (xs := digs h0m.natAbs) (by simp)) P1.out.2 P2.out.2 P1.out.1 P2.out.1 HP.out p2 p4 (t32_live HT.out L11.out) (cells_of Qk.out K11.out) F1.out V1.out F2.out V2.out).mono ?_); rintro e w12 ⟨A12, c12, B12, d12, rfl, hd, he, hb⟩; (have K12 := bt K11 hb); (have L12 := la2 L11 hb hd he); (have qr0_K12 := row_c (i := 0) (co Qr K12.out).out rfl); (have pr0_K12 := frozen_of_row _ _ 0 _ _ (cells_of Qr.out K12.out)); (have qr1_K12 := row_c (i := 1) (co Qr K12.out).out rfl); (have pr1_K12 := frozen_of_row _ _ 1 _ _ (cells_of Qr.out K12.out)); (have qr2_K12 := row_c (i := 2) (co Qr K12.out).out rfl); (have pr2_K12 := frozen_of_row _ _ 2 _ _ (cells_of Qr.out K12.out)); (have qr3_K12 := row_c (i := 3) (co Qr K12.out).out rfl); (have pr3_K12 := frozen_of_row _ _ 3 _ _ (cells_of Qr.out K12.out)); (have qr4_K12 := row_c (i := 4) (co Qr K12.out).out rfl); (have pr4_K12 := frozen_of_row _ _ 4 _ _ (cells_of Qr.out K12.out)); (have qr5_K12 := row_c (i := 5) (co Qr K12.out).out rfl); (have pr5_K12 := frozen_of_row _ _ 5 _ _ (cells_of Qr.out K12.out)); clear hb hd he))
      rename_i hHeld
      clear hHeld
      have Rk_12 := co Qk K12.out
      have Ri_12 := co Qi K12.out
      have Rj_12 := co Qj K12.out
      have Rr_12 := co Qr K12.out
      have Rzz_12 := co Qr K12.out
      obtain ⟨fr0, zr0, fr1, zr1, fr2, zr2, fr3, zr3, fr4, zr4, fr5, zr5, xr⟩ := ly6 Rr_12.out
      go_wp2
      refine bodyPost_ret (v := .agg #[.bool (decide (M < 0)), .slice A12 (digs M.natAbs).length c12, .int .i64 E, .bool (decide (N < 0)), .slice B12 (digs N.natAbs).length d12, .int .i64 H]) (by simp [results, Tryz.results20, go_sem, fr0, fr1, fr2, fr3, fr4, fr5]) rfl ?_
      
      refine ⟨A12, c12, B12, d12, rfl, ?_, ?_, ?_⟩
      · exact (fin6 L12.out Rr_12.out noint_iv Gr).get (A := A12) (c := c12) (xs := digs M.natAbs) (by simp)
      · exact (fin6 L12.out Rr_12.out noint_iv Gr).get (A := B12) (c := d12) (xs := digs N.natAbs) (by simp)
      · exact (fin6 L12.out Rr_12.out noint_iv Gr).1
end Go.Proofs.YtijodbjdajddoaaGreatDoor
end

section
/-
  iv: Wide.
-/
namespace Go.Proofs.YtijodbjdajddoaaGreatDoor
open Go.RowKit
set_option linter.unusedSimpArgs false
set_option linter.unusedVariables false
theorem live_name {w v : World} {L : List (Option Addr × Nat × List Nat)} (_ : Hid (Live w v L)) : ∃ u : World, u = v := ⟨v, rfl⟩

set_option maxHeartbeats 4000000 in
set_option maxRecDepth 100000 in
theorem iwide_ok (A B A' : Option Addr) (c d c' : Nat) (m x n y m' x' P : Int) (g : Nat) (a1 e1 a2 e2 M E N F : Int) (w : World) (h : Dg w A c (digs m.natAbs)) (h' : Dg w B d (digs n.natAbs)) (hl : (digs m.natAbs).length ≤ 10000) (hl' : (digs n.natAbs).length ≤ 10000) (r1 : Rt m x) (r2 : Rt n y) (ho : dv m x ≤ dv n y) {p : Nat} (hP : (p : Int) = P) (p2 : 2 ≤ p) (p4 : p ≤ 400) (k : Dg w A' c' (digs m'.natAbs)) (kl : (digs m'.natAbs).length ≤ 10000) (s1 : Rt m' x') (k0 : 0 ≤ m') (hT : T32 w) (hk : w.heap[g]? = some (.cells #[.int .i64 0, .int .i64 P] 45 (0, 0))) (hs1 : IsD (dv m x - dv m' x') a1 e1) (q1 : inR a1 e1 = true) (hs2 : IsD (dv n y + dv m' x') a2 e2) (q2 : inR a2 e2 = true) (ht1 : RdOf (dv a1 e1) p false M E) (u1 : inR M E = true) (ht2 : RdOf (dv a2 e2) p true N F) (u2 : inR N F = true):
    Calls Tryz.prog 30 #[.pointer (some ⟨g, 0, none⟩), .agg #[.bool (decide (m < 0)), .slice A (digs m.natAbs).length c, .int .i64 x, .bool (decide (n < 0)), .slice B (digs n.natAbs).length d, .int .i64 y], .agg #[.bool (decide (m' < 0)), .slice A' (digs m'.natAbs).length c', .int .i64 x']] w fun e w' => Yi M E N F w e w' := by
  have HR1 := Lib.hid r1
  have HR2 := Lib.hid r2
  have lx := Lib.hid hl
  have ly := Lib.hid hl'
  have HO := Lib.hid ho
  have HS1 := Lib.hid s1
  have kx := Lib.hid kl
  have D1 := Lib.hid hs1
  have D2 := Lib.hid hs2
  have J1 := Lib.hid q1
  have J2 := Lib.hid q2
  have E1 := Lib.hid ht1
  have E2 := Lib.hid ht2
  have V1 := Lib.hid u1
  have V2 := Lib.hid u2
  have DN := Lib.hid (show decide (m' < 0) = false by simp; omega)
  have DY0 := Lib.hid (show dyR false (digs m'.natAbs) x' = true by have := dyR_num s1; rwa [show decide (m' < 0) = false by simp; omega] at this)
  have HP := Lib.hid hP
  have HT := Lib.hid hT
  clear hT
  have L0 := Lib.hid ((((live_start w).add h).add h').add k)
  have Rk_0 := Lib.hid hk
  clear hk
  clear h h' hl hl' r1 r2 ho k kl s1 hs1 hs2 q1 q2 ht1 ht2 u1 u2 hP k0
  go_enter Tryz.func30, Tryz.ntmps30
  go_upto_region 1 with fail
  obtain ⟨v1, hW, hb, Ri_1, Rz_1, Rr_1⟩ := new3 w (.cells #[.bool (decide (m < 0)), .slice A (digs m.natAbs).length c, .int .i64 x, .bool (decide (n < 0)), .slice B (digs n.natAbs).length d, .int .i64 y] 34) (.cells #[.bool (decide (m' < 0)), .slice A' (digs m'.natAbs).length c', .int .i64 x'] 26) (.cells #[.bool false, .slice none 0 0, .int .i64 0, .bool false, .slice none 0 0, .int .i64 0] 34)
  rw [← hW]
  have L1 := ls L0 hb
  have Rk_1 := co Rk_0 hb
  have Gi := gl0 L0.out
  have Nki := nl0 Rk_0.out
  have Gz := gl1 L0.out
  have Nkz := nl1 Rk_0.out
  have Niz : w.heap.size < w.heap.size + 1 := by omega
  have Gr := gl2 L0.out
  have Nkr := nl2 Rk_0.out
  have Nir : w.heap.size < w.heap.size + 1 + 1 := by omega
  have Nzr : w.heap.size + 1 < w.heap.size + 1 + 1 := by omega
  clear hW hb
  have dn := DN.out
  obtain ⟨fz0, zz0, fz1, zz1, fz2, zz2, xz⟩ := ly3 Rz_1.out
  have KD := Lib.hid (bd0 v1)
  have LD := ls L1 KD.out
  go_region_held3 (fun w' => ∀ b o, b < v1.heap.size → w'.cell? ⟨b, o, none⟩ = v1.cell? ⟨b, o, none⟩)
    (first | with_reducible exact (bcell KD.out).1 | with_reducible exact (bcell K3.out).1)
    (first
      | (go_at_call 51; (with_reducible refine (dright_any A' c' false (digs m'.natAbs) x' _ (LD.out.get (A := A') (c := c') (xs := digs m'.natAbs) (by simp)) true DY0.out (Nat.le_trans kx.out (by omega))).mono ?_); rintro e w3 ⟨rfl, hb⟩; (have K3 := bt KD hb); (have L3 := Lib.hid (LD.out.step hb)); clear hb )
      | (go_at_call 61; (with_reducible refine (note_no g 1 _).mono ?_); rintro e w4 ⟨rfl, rfl⟩))
  rename_i hHeld
  clear hHeld
  clear fz0 zz0 fz1 zz1 fz2 zz2 xz
  have Rk_4 := co Rk_1 K3.out
  have Ri_4 := co Ri_1 K3.out
  have Rz_4 := co Rz_1 K3.out
  have Rr_4 := co Rr_1 K3.out
  clear KD LD
  clear dn
  obtain ⟨w3, hwn⟩ := live_name L3
  subst hwn
  obtain ⟨fi0, zi0, fi1, zi1, fi2, zi2, fi3, zi3, fi4, zi4, fi5, zi5, xi⟩ := ly6 Ri_4.out
  go_wp2_with fail
  obtain ⟨w5, hW, hb, Rsl_5⟩ := new1 w3 (.cells #[.bool (decide (m < 0)), .slice A (digs m.natAbs).length c, .int .i64 x, .bool (decide (n < 0)), .slice B (digs n.natAbs).length d, .int .i64 y] 34)
  rw [← hW]
  have L5 := ls L3 hb
  have Rk_5 := co Rk_4 hb
  have Ri_5 := co Ri_4 hb
  have Rz_5 := co Rz_4 hb
  have Rr_5 := co Rr_4 hb
  have Gsl := gl0 L3.out
  have Nksl := nl0 Rk_4.out
  have Nisl := nl0 Ri_4.out
  have Nzsl := nl0 Rz_4.out
  have Nrsl := nl0 Rr_4.out
  clear hW hb
  clear fi0 zi0 fi1 zi1 fi2 zi2 fi3 zi3 fi4 zi4 fi5 zi5 xi
  refine (takes_1 Rk_5.out Rsl_5.out (L5.out.get (A := A) (c := c) (xs := digs m.natAbs) (by simp)) (L5.out.get (A := B) (c := d) (xs := digs n.natAbs) (by simp)) lx.out ly.out HR1.out HR2.out HO.out rfl).mono ?_
  rintro e w6 ⟨rfl, hb⟩
  have L6 := ls L5 hb
  have Rk_6 := co Rk_5 hb
  have Ri_6 := co Ri_5 hb
  have Rz_6 := co Rz_5 hb
  have Rr_6 := co Rr_5 hb
  have Rsl_6 := co Rsl_5 hb
  clear hb 
  go_upto_region 4 with fail
  obtain ⟨fi0, zi0, fi1, zi1, fi2, zi2, fi3, zi3, fi4, zi4, fi5, zi5, xi⟩ := ly6 Ri_6.out
  obtain ⟨fz0, zz0, fz1, zz1, fz2, zz2, xz⟩ := ly3 Rz_6.out
  have KD := Lib.hid (bd0 w6)
  have LD := ls L6 KD.out
  have Mi : w.heap.size ≠ w.heap.size + 1 + 1 := by omega
  have Mz : w.heap.size + 1 ≠ w.heap.size + 1 + 1 := by omega
  go_region_held3 (fun w' => (∀ o, w'.cell? ⟨w.heap.size, o, none⟩ = w6.cell? ⟨w.heap.size, o, none⟩) ∧ (∀ o, w'.cell? ⟨w.heap.size + 1, o, none⟩ = w6.cell? ⟨w.heap.size + 1, o, none⟩))
    (first | with_reducible exact ⟨keep_b KD.out xi, keep_b KD.out xz⟩ | with_reducible exact ⟨keep_b K8.out xi, keep_b K8.out xz⟩ | with_reducible exact ⟨keep_b K9.out xi, keep_b K9.out xz⟩ | with_reducible exact ⟨keep_b K10.out xi, keep_b K10.out xz⟩ | with_reducible exact ⟨keep_b K11.out xi, keep_b K11.out xz⟩ | with_reducible exact ⟨keep_b K12.out xi, keep_b K12.out xz⟩ | exact ⟨(keep_set (keep_b K12.out xi) Mi), (keep_set (keep_b K12.out xz) Mz)⟩ | exact ⟨(keep_set (keep_set (keep_b K12.out xi) Mi) Mi), (keep_set (keep_set (keep_b K12.out xz) Mz) Mz)⟩ | exact ⟨(keep_set (keep_set (keep_set (keep_b K12.out xi) Mi) Mi) Mi), (keep_set (keep_set (keep_set (keep_b K12.out xz) Mz) Mz) Mz)⟩ | exact ⟨(keep_set (keep_set (keep_set (keep_set (keep_b K12.out xi) Mi) Mi) Mi) Mi), (keep_set (keep_set (keep_set (keep_set (keep_b K12.out xz) Mz) Mz) Mz) Mz)⟩ | exact ⟨(keep_set (keep_set (keep_set (keep_set (keep_set (keep_b K12.out xi) Mi) Mi) Mi) Mi) Mi), (keep_set (keep_set (keep_set (keep_set (keep_set (keep_b K12.out xz) Mz) Mz) Mz) Mz) Mz)⟩ | exact ⟨(keep_set (keep_set (keep_set (keep_set (keep_set (keep_set (keep_b K12.out xi) Mi) Mi) Mi) Mi) Mi) Mi), (keep_set (keep_set (keep_set (keep_set (keep_set (keep_set (keep_b K12.out xz) Mz) Mz) Mz) Mz) Mz) Mz)⟩)
    (first
      | (go_at_call 15; (with_reducible refine (dsub_yes (LD.out.get (A := A) (c := c) (xs := digs m.natAbs) (by simp)) (LD.out.get (A := A') (c := c') (xs := digs m'.natAbs) (by simp)) lx.out kx.out HR1.out HS1.out (t32_live HT.out LD.out) D1.out J1.out).mono ?_); rintro e w8 ⟨A8, c8, rfl, hd, hb⟩; (have K8 := bt KD hb); (have L8 := la LD hb hd); clear hb hd)
      | (go_at_call 54; (with_reducible refine (got_ok A8 c8 a1 e1 g _ (L8.out.get (A := A8) (c := c8) (xs := digs a1.natAbs) (by simp))).mono ?_); rintro e w9 ⟨A9, c9, rfl, hd, hb⟩; (have K9 := bt K8 hb); (have L9 := la L8 hb hd); clear hb hd)
      | (go_at_call 14; (with_reducible refine (dadd_yes (L9.out.get (A := B) (c := d) (xs := digs n.natAbs) (by simp)) (L9.out.get (A := A') (c := c') (xs := digs m'.natAbs) (by simp)) ly.out kx.out HR2.out HS1.out (t32_live HT.out L9.out) D2.out J2.out).mono ?_); rintro e w10 ⟨A10, c10, rfl, hd, hb⟩; (have K10 := bt K9 hb); (have L10 := la L9 hb hd); clear hb hd)
      | (go_at_call 54; (with_reducible refine (got_ok A10 c10 a2 e2 g _ (L10.out.get (A := A10) (c := c10) (xs := digs a2.natAbs) (by simp))).mono ?_); rintro e w11 ⟨A11, c11, rfl, hd, hb⟩; (have K11 := bt K10 hb); (have L11 := la L10 hb hd); clear hb hd)
      | (go_at_call 53; (with_reducible refine (outward_ok A9 A11 c9 c11 a1 e1 a2 e2 P M E N F g _ (L11.out.get (A := A9) (c := c9) (xs := digs a1.natAbs) (by simp)) (L11.out.get (A := A11) (c := c11) (xs := digs a2.natAbs) (by simp)) (inr_len J1.out) (inr_len J2.out) (rt_in (nf_isD D1.out) J1.out) (rt_in (nf_isD D2.out) J2.out) HP.out p2 p4 (t32_live HT.out L11.out) (cells_of Rk_6.out K11.out) E1.out V1.out E2.out V2.out).mono ?_); rintro e w12 ⟨A12, c12, B12, d12, rfl, hd, he, hb⟩; (have K12 := bt K11 hb); (have L12 := la2 L11 hb hd he); (have qr0_K12 := row_c (i := 0) (co Rr_6 K12.out).out rfl); (have pr0_K12 := frozen_of_row _ _ 0 _ _ (cells_of Rr_6.out K12.out)); (have qr1_K12 := row_c (i := 1) (co Rr_6 K12.out).out rfl); (have pr1_K12 := frozen_of_row _ _ 1 _ _ (cells_of Rr_6.out K12.out)); (have qr2_K12 := row_c (i := 2) (co Rr_6 K12.out).out rfl); (have pr2_K12 := frozen_of_row _ _ 2 _ _ (cells_of Rr_6.out K12.out)); (have qr3_K12 := row_c (i := 3) (co Rr_6 K12.out).out rfl); (have pr3_K12 := frozen_of_row _ _ 3 _ _ (cells_of Rr_6.out K12.out)); (have qr4_K12 := row_c (i := 4) (co Rr_6 K12.out).out rfl); (have pr4_K12 := frozen_of_row _ _ 4 _ _ (cells_of Rr_6.out K12.out)); (have qr5_K12 := row_c (i := 5) (co Rr_6 K12.out).out rfl); (have pr5_K12 := frozen_of_row _ _ 5 _ _ (cells_of Rr_6.out K12.out)); clear hb hd he))
  rename_i hHeld
  clear hHeld
  clear fi0 zi0 fi1 zi1 fi2 zi2 fi3 zi3 fi4 zi4 fi5 zi5 xi fz0 zz0 fz1 zz1 fz2 zz2 xz
  have Rk_12 := co Rk_6 K12.out
  have Ri_12 := co Ri_6 K12.out
  have Rz_12 := co Rz_6 K12.out
  have Rr_12 := co Rr_6 K12.out
  have Rsl_12 := co Rsl_6 K12.out
  obtain ⟨fr0, zr0, fr1, zr1, fr2, zr2, fr3, zr3, fr4, zr4, fr5, zr5, xr⟩ := ly6 Rr_12.out
  go_wp2
  refine bodyPost_ret (v := .agg #[.bool (decide (M < 0)), .slice A12 (digs M.natAbs).length c12, .int .i64 E, .bool (decide (N < 0)), .slice B12 (digs N.natAbs).length d12, .int .i64 F]) (by simp [results, Tryz.results30, go_sem, fr0, fr1, fr2, fr3, fr4, fr5]) rfl ?_
  
  refine ⟨A12, c12, B12, d12, rfl, ?_, ?_, ?_⟩
  · exact (fin6 L12.out Rr_12.out noint_iv Gr).get (A := A12) (c := c12) (xs := digs M.natAbs) (by simp)
  · exact (fin6 L12.out Rr_12.out noint_iv Gr).get (A := B12) (c := d12) (xs := digs N.natAbs) (by simp)
  · exact (fin6 L12.out Rr_12.out noint_iv Gr).1
end Go.Proofs.YtijodbjdajddoaaGreatDoor
end

section
/-
  iv: words for Div.
-/
namespace Go.Proofs.YtijodbjdajddoaaGreatDoor
open Go.RowKit
set_option linter.unusedSimpArgs false
set_option linter.unusedVariables false
/-- Two rows of one's own that are not the same. -/
def Dj (v1 v2 : Value) : Prop := ∀ k, v1.ownBlock = some k → v2.ownBlock ≠ some k
theorem Dj.symm {v1 v2 : Value} (h : Dj v1 v2) : Dj v2 v1 := fun k h2 h1 => h k h1 h2
theorem Dj.next {w : World} {B g n cap : Nat} {v1 v2 : Value} {L : List (Int × Int)} (h : Dj v1 v2) (h2 : Dw w B v2 L) (hg : v1.ownBlock = some g ∨ g = w.heap.size) : Dj (.slice (some ⟨g, 0, none⟩) n cap) v2 := fun k hk => by
  have e : g = k := by simpa [Value.ownBlock] using hk
  subst e
  rcases hg with hg | hg
  · exact h g hg
  · intro h3
    have := (h2.lt g h3).2
    omega
theorem dj_nil (v : Value) : Dj (.slice none 0 0) v := fun k hk => by simp [Value.ownBlock] at hk
theorem Dw.grown {w w' : World} {B : Nat} {v1 v2 : Value} {L : List (Int × Int)} (h : Dw w B v2 L) (hd : Dj v1 v2) (hg : w.grownBy w' v1.ownBlock) (hk : Kept w w') : Dw w' B v2 L := by
  obtain ⟨hn, cs, hown, hcs⟩ := h
  have hne : ∀ k, v2.ownBlock = some k → some k ≠ v1.ownBlock := fun k h2 h1 => hd k h1.symm h2
  refine ⟨fun g cur T fr hg' hh => hn g cur T fr hg' ((hg.block g (hown.lt g hg').2 (hne g hg')).symm.trans hh), cs, hown.kept hg ?_, hcs.kept hk⟩
  cases hv : v2.ownBlock with
  | none => exact .inl rfl
  | some k => exact .inr (hne k hv)
set_option maxRecDepth 100000 in
theorem has_zero {A B : Option Addr} {c d : Nat} {m x n y : Int} {q : Bool} {w : World} (h : Dg w A c (digs m.natAbs)) (h' : Dg w B d (digs n.natAbs)) (hl : (digs m.natAbs).length ≤ 10000) (hl' : (digs n.natAbs).length ≤ 10000) (r1 : Rt m x) (r2 : Rt n y) (ho : dv m x ≤ dv n y) (hq : decide (dv m x ≤ 0 ∧ 0 ≤ dv n y) = q) :
    Calls Tryz.prog 17 #[.agg #[.bool (decide (m < 0)), .slice A (digs m.natAbs).length c, .int .i64 x, .bool (decide (n < 0)), .slice B (digs n.natAbs).length d, .int .i64 y], .agg #[.bool false, .slice none 0 0, .int .i64 0]] w fun e w' => e = .returned (.bool q) ∧ Below w.heap.size w w' := by
  have e0 : digs (0 : Int).natAbs = [] := by simp [digs]
  have := ihas_any (Z := none) (z := 0) (k := 0) (u := 0) (q := q) (w := w) h h' hl hl' r1 r2 (by rw [e0]; exact Dg.nil_ _ _) (by rw [e0]; simp) ⟨.inl ⟨rfl, rfl⟩, by omega, by omega⟩ ho (by rw [dv_zero]; exact hq)
  rw [e0] at this
  exact this
end Go.Proofs.YtijodbjdajddoaaGreatDoor
end

section
/-
  iv: Div.
-/
namespace Go.Proofs.YtijodbjdajddoaaGreatDoor
open Go.RowKit
set_option linter.unusedSimpArgs false
set_option linter.unusedVariables false
set_option maxHeartbeats 4000000 in
set_option maxRecDepth 100000 in
theorem idiv_ok (A B A' B' : Option Addr) (c d c' d' : Nat) (m s n t m' s' n' t' P : Int) (g : Nat) (F G : Int × Int → Int × Int → Int × Int) (X Y Z V : List (Int × Int)) (z0 v0 l0 h0 : Int × Int) (w : World) (h : Dg w A c (digs m.natAbs)) (h' : Dg w B d (digs n.natAbs)) (hl : (digs m.natAbs).length ≤ 10000) (hl' : (digs n.natAbs).length ≤ 10000) (r1 : Rt m s) (r2 : Rt n t) (ho : dv m s ≤ dv n t) (k : Dg w A' c' (digs m'.natAbs)) (k' : Dg w B' d' (digs n'.natAbs)) (kl : (digs m'.natAbs).length ≤ 10000) (kl' : (digs n'.natAbs).length ≤ 10000) (s1 : Rt m' s') (s2 : Rt n' t') (ko : dv m' s' ≤ dv n' t') {p : Nat} (hP : (p : Int) = P) (p2 : 2 ≤ p) (p4 : p ≤ 400) (hT : T32 w) (hk : w.heap[g]? = some (.cells #[.int .i64 0, .int .i64 P] 45 (0, 0))) (hno : decide (dv m' s' ≤ 0 ∧ 0 ≤ dv n' t') = false) (hX : endsL m s n t = X) (hY : endsL m' s' n' t' = Y) (hY0 : ∀ q ∈ Y, q.1 ≠ 0) (hZ : pz F Y X = Z) (hV : pz G Y X = V) (hz0 : Z[0]? = some z0) (hv0 : V[0]? = some v0) (hF : ∀ r ∈ X, ∀ q ∈ Y, RdOf (dv r.1 r.2 / dv q.1 q.2) p false (F r q).1 (F r q).2 ∧ inR (F r q).1 (F r q).2 = true) (hG : ∀ r ∈ X, ∀ q ∈ Y, RdOf (dv r.1 r.2 / dv q.1 q.2) p true (G r q).1 (G r q).2 ∧ inR (G r q).1 (G r q).2 = true) (hl0 : lst z0 Z = l0) (hh0 : gst v0 V = h0):
    Calls Tryz.prog 24 #[.pointer (some ⟨g, 0, none⟩), .agg #[.bool (decide (m < 0)), .slice A (digs m.natAbs).length c, .int .i64 s, .bool (decide (n < 0)), .slice B (digs n.natAbs).length d, .int .i64 t], .agg #[.bool (decide (m' < 0)), .slice A' (digs m'.natAbs).length c', .int .i64 s', .bool (decide (n' < 0)), .slice B' (digs n'.natAbs).length d', .int .i64 t']] w fun e w' => Yi l0.1 l0.2 h0.1 h0.2 w e w' := by
  have HR1 := Lib.hid r1
  have HR2 := Lib.hid r2
  have lx := Lib.hid hl
  have ly := Lib.hid hl'
  have HO := Lib.hid ho
  have HS1 := Lib.hid s1
  have HS2 := Lib.hid s2
  have kx := Lib.hid kl
  have ky := Lib.hid kl'
  have KO := Lib.hid ko
  have HX := Lib.hid hX
  have HY := Lib.hid hY
  have HZ := Lib.hid hZ
  have HVV := Lib.hid hV
  have HZ0 := Lib.hid hz0
  have HV0 := Lib.hid hv0
  have HF := Lib.hid hF
  have HG := Lib.hid hG
  have HL0 := Lib.hid hl0
  have HH0 := Lib.hid hh0
  have HNO := Lib.hid hno
  have HQ0 := Lib.hid hY0
  have OX := Lib.hid (show DqOk X ∧ X.length ≤ 2 ∧ 0 < X.length by rw [← hX]; exact endsL_ok r1 r2 hl hl')
  have OY := Lib.hid (show DqOk Y ∧ Y.length ≤ 2 ∧ 0 < Y.length by rw [← hY]; exact endsL_ok s1 s2 kl kl')
  have OZ := Lib.hid (show ∀ z ∈ Z, Rt z.1 z.2 ∧ (digs z.1.natAbs).length ≤ 10000 by
    intro z hz
    rw [← hZ] at hz
    obtain ⟨r, hr, q, hq, e⟩ := mem_pz hz
    obtain ⟨f1, f2⟩ := hF r hr q hq
    rw [e] at f1 f2
    exact ⟨rt_in (nf_rd f1) f2, inr_len f2⟩)
  have OV := Lib.hid (show ∀ z ∈ V, Rt z.1 z.2 ∧ (digs z.1.natAbs).length ≤ 10000 by
    intro z hz
    rw [← hV] at hz
    obtain ⟨r, hr, q, hq, e⟩ := mem_pz hz
    obtain ⟨f1, f2⟩ := hG r hr q hq
    rw [e] at f1 f2
    exact ⟨rt_in (nf_rd f1) f2, inr_len f2⟩)
  have LZZ := Lib.hid (show Z.length ≤ 4 by rw [← hZ]; have := pz_len F Y OY.out.2.1 X; have := OX.out.2.1; omega)
  have LVV := Lib.hid (show V.length ≤ 4 by rw [← hV]; have := pz_len G Y OY.out.2.1 X; have := OX.out.2.1; omega)
  have HP := Lib.hid hP
  have HT := Lib.hid hT
  clear hT
  have L0 := Lib.hid (((((live_start w).add h).add h').add k).add k')
  have Rk_0 := Lib.hid hk
  clear hk
  clear h h' hl hl' r1 r2 ho k k' kl kl' s1 s2 ko hX hY hY0 hZ hV hz0 hv0 hF hG hl0 hh0 hno hP
  go_enter Tryz.func24, Tryz.ntmps24
  go_upto_region 1 with fail
  obtain ⟨v1, hW, hb, Ri_1, Rj_1, Rr_1⟩ := new3 w (.cells #[.bool (decide (m < 0)), .slice A (digs m.natAbs).length c, .int .i64 s, .bool (decide (n < 0)), .slice B (digs n.natAbs).length d, .int .i64 t] 34) (.cells #[.bool (decide (m' < 0)), .slice A' (digs m'.natAbs).length c', .int .i64 s', .bool (decide (n' < 0)), .slice B' (digs n'.natAbs).length d', .int .i64 t'] 34) (.cells #[.bool false, .slice none 0 0, .int .i64 0, .bool false, .slice none 0 0, .int .i64 0] 34)
  rw [← hW]
  have L1 := ls L0 hb
  have Rk_1 := co Rk_0 hb
  have Gi := gl0 L0.out
  have Nki := nl0 Rk_0.out
  have Gj := gl1 L0.out
  have Nkj := nl1 Rk_0.out
  have Nij : w.heap.size < w.heap.size + 1 := by omega
  have Gr := gl2 L0.out
  have Nkr := nl2 Rk_0.out
  have Nir : w.heap.size < w.heap.size + 1 + 1 := by omega
  have Njr : w.heap.size + 1 < w.heap.size + 1 + 1 := by omega
  clear hW hb
  obtain ⟨fi0, zi0, fi1, zi1, fi2, zi2, fi3, zi3, fi4, zi4, fi5, zi5, xi⟩ := ly6 Ri_1.out
  obtain ⟨fj0, zj0, fj1, zj1, fj2, zj2, fj3, zj3, fj4, zj4, fj5, zj5, xj⟩ := ly6 Rj_1.out
  go_wp2_with fail
  obtain ⟨w2, hW, hb, Rsl_2⟩ := new1 v1 (.cells #[.bool (decide (m < 0)), .slice A (digs m.natAbs).length c, .int .i64 s, .bool (decide (n < 0)), .slice B (digs n.natAbs).length d, .int .i64 t, .bool (decide (m' < 0)), .slice A' (digs m'.natAbs).length c', .int .i64 s', .bool (decide (n' < 0)), .slice B' (digs n'.natAbs).length d', .int .i64 t'] 34)
  rw [← hW]
  have L2 := ls L1 hb
  have Rk_2 := co Rk_1 hb
  have Ri_2 := co Ri_1 hb
  have Rj_2 := co Rj_1 hb
  have Rr_2 := co Rr_1 hb
  have Gsl := gl0 L1.out
  have Nksl := nl0 Rk_1.out
  have Nisl := nl0 Ri_1.out
  have Njsl := nl0 Rj_1.out
  have Nrsl := nl0 Rr_1.out
  clear hW hb
  clear fi0 zi0 fi1 zi1 fi2 zi2 fi3 zi3 fi4 zi4 fi5 zi5 xi fj0 zj0 fj1 zj1 fj2 zj2 fj3 zj3 fj4 zj4 fj5 zj5 xj
  refine (takes_2 Rk_2.out Rsl_2.out (L2.out.get (A := A) (c := c) (xs := digs m.natAbs) (by simp)) (L2.out.get (A := B) (c := d) (xs := digs n.natAbs) (by simp)) lx.out ly.out HR1.out HR2.out HO.out (L2.out.get (A := A') (c := c') (xs := digs m'.natAbs) (by simp)) (L2.out.get (A := B') (c := d') (xs := digs n'.natAbs) (by simp)) kx.out ky.out HS1.out HS2.out KO.out rfl).mono ?_
  rintro e w3 ⟨rfl, hb⟩
  have L3 := ls L2 hb
  have Rk_3 := co Rk_2 hb
  have Ri_3 := co Ri_2 hb
  have Rj_3 := co Rj_2 hb
  have Rr_3 := co Rr_2 hb
  have Rsl_3 := co Rsl_2 hb
  clear hb 
  go_upto_region 3 with fail
  obtain ⟨fj0, zj0, fj1, zj1, fj2, zj2, fj3, zj3, fj4, zj4, fj5, zj5, xj⟩ := ly6 Rj_3.out
  obtain ⟨fk0, zk0, fk1, zk1, xk⟩ := ly2 Rk_3.out
  have KD := Lib.hid (bd0 w3)
  have LD := ls L3 KD.out
  go_region_held3 (fun w' => ∀ b o, b < w3.heap.size → w'.cell? ⟨b, o, none⟩ = w3.cell? ⟨b, o, none⟩)
    (first | with_reducible exact (bcell KD.out).1 | with_reducible exact (bcell K5.out).1)
    (first
      | (go_at_call 17; (with_reducible refine (has_zero (LD.out.get (A := A') (c := c') (xs := digs m'.natAbs) (by simp)) (LD.out.get (A := B') (c := d') (xs := digs n'.natAbs) (by simp)) kx.out ky.out HS1.out HS2.out KO.out HNO.out).mono ?_); rintro e w5 ⟨rfl, hb⟩; (have K5 := bt KD hb); (have L5 := Lib.hid (LD.out.step hb)); clear hb )
      | (go_at_call 61; (with_reducible refine (note_no g 3 _).mono ?_); rintro e w6 ⟨rfl, rfl⟩))
  rename_i hHeld
  clear hHeld
  clear fj0 zj0 fj1 zj1 fj2 zj2 fj3 zj3 fj4 zj4 fj5 zj5 xj fk0 zk0 fk1 zk1 xk
  have Rk_6 := co Rk_3 K5.out
  have Ri_6 := co Ri_3 K5.out
  have Rj_6 := co Rj_3 K5.out
  have Rr_6 := co Rr_3 K5.out
  have Rsl_6 := co Rsl_3 K5.out
  clear KD LD
  obtain ⟨w5, hwn⟩ := live_name L5
  subst hwn
  obtain ⟨fi0, zi0, fi1, zi1, fi2, zi2, fi3, zi3, fi4, zi4, fi5, zi5, xi⟩ := ly6 Ri_6.out
  obtain ⟨fk0, zk0, fk1, zk1, xk⟩ := ly2 Rk_6.out
  go_wp2_with fail
  refine (ends_of (L5.out.get (A := A) (c := c) (xs := digs m.natAbs) (by simp)) (L5.out.get (A := B) (c := d) (xs := digs n.natAbs) (by simp)) lx.out ly.out HR1.out HR2.out HX.out).mono ?_
  rintro e w7 ⟨b1, rfl, hb1, hl1, hd1, hb⟩
  have L7 := ls L5 hb
  clear fi0 zi0 fi1 zi1 fi2 zi2 fi3 zi3 fi4 zi4 fi5 zi5 xi fk0 zk0 fk1 zk1 xk
  have Rk_7 := co Rk_6 hb
  have Ri_7 := co Ri_6 hb
  have Rj_7 := co Rj_6 hb
  have Rr_7 := co Rr_6 hb
  have Rsl_7 := co Rsl_6 hb
  clear hb 
  have RX := Lib.hid (show Rw w7 b1 X from ⟨hl1, hd1⟩)
  clear hb1 hl1 hd1
  obtain ⟨BB, hBB⟩ : ∃ b, w7.heap.size = b := ⟨_, rfl⟩
  have ZB := Lib.hid (show Szw w7 BB from Nat.le_of_eq hBB.symm)
  have xL := Lib.hid (show b1 < BB by rw [← hBB]; exact RX.out.1)
  have xB := Lib.hid (show w.heap.size ≤ BB by rw [← hBB]; exact L7.out.1.size)
  have Bk := Lib.hid (show g < BB by rw [← hBB]; exact heap_lt Rk_7.out)
  have Bi := Lib.hid (show w.heap.size < BB by rw [← hBB]; exact heap_lt Ri_7.out)
  have Bj := Lib.hid (show w.heap.size + 1 < BB by rw [← hBB]; exact heap_lt Rj_7.out)
  have Br := Lib.hid (show w.heap.size + 1 + 1 < BB by rw [← hBB]; exact heap_lt Rr_7.out)
  clear hBB
  go_wp2_with fail
  go_loopw [7, 8, 37] (fun v v2 iv wr => ∃ k : Nat, k ≤ X.length ∧ iv = .int .i64 k ∧ Hid (Dw wr BB v (pz F Y (X.take k))) ∧ Hid (Dw wr BB v2 (pz G Y (X.take k))) ∧ Hid (Dj v v2) ∧ Hid (Szw wr BB) ∧ Hid (Rw wr b1 X) ∧ Hid (Live w wr [(B', d', digs n'.natAbs), (A', c', digs m'.natAbs), (B, d, digs n.natAbs), (A, c, digs m.natAbs)]) ∧ Hid (wr.heap[g]? = some (.cells #[.int .i64 0, .int .i64 P] 45 (0, 0))) ∧ Hid (wr.heap[w.heap.size]? = some (.cells #[.bool (decide (m < 0)), .slice A (digs m.natAbs).length c, .int .i64 s, .bool (decide (n < 0)), .slice B (digs n.natAbs).length d, .int .i64 t] 34 (0, 0))) ∧ Hid (wr.heap[w.heap.size + 1]? = some (.cells #[.bool (decide (m' < 0)), .slice A' (digs m'.natAbs).length c', .int .i64 s', .bool (decide (n' < 0)), .slice B' (digs n'.natAbs).length d', .int .i64 t'] 34 (0, 0))) ∧ Hid (wr.heap[w.heap.size + 1 + 1]? = some (.cells #[.bool false, .slice none 0 0, .int .i64 0, .bool false, .slice none 0 0, .int .i64 0] 34 (0, 0)))) (fun _ _ iv _ => X.length - (intOf iv).toNat)
  case atStart => exact ⟨0, Nat.zero_le _, rfl, Lib.hid (dw_nil _ _), Lib.hid (dw_nil _ _), Lib.hid (dj_nil _), ZB, RX, L7, Rk_7, Ri_7, Rj_7, Rr_7⟩
  case round =>
    obtain ⟨k, hk, rfl, HD, HE, HJ, HS, HRX, HV, Qk, Qi, Qj, Qr⟩ := hrel
    by_cases hlt : k < X.length
    · obtain ⟨⟨zm, ze⟩, hz⟩ : ∃ z, X[k]? = some z := ⟨_, List.getElem?_eq_getElem hlt⟩
      obtain ⟨Az, cz, g0, g1, g2, hd⟩ := HRX.out.2 k _ hz
      dsimp only at g0 g1 g2 hd
      have TN := Lib.hid (take_nextI hz)
      have MZ := Lib.hid (List.mem_of_getElem? hz)
      have HV1 := Lib.hid (HV.out.add hd)
      clear hd hz
      go_upto_region 10 with fail
      have FX := Lib.hid (HD.out.far (Nat.le_refl _))
      have FX2 := Lib.hid (HE.out.far (Nat.le_refl _))
      obtain ⟨w8, hW, hb, Rx_8⟩ := new1 wr (.cells #[.bool (decide (zm < 0)), .slice Az (digs zm.natAbs).length cz, .int .i64 ze] 26)
      rw [← hW]
      have L8 := ls HV1 hb
      have Rk_8 := co Qk hb
      have Ri_8 := co Qi hb
      have Rj_8 := co Qj hb
      have Rr_8 := co Qr hb
      have Gx := gl0 HV1.out
      have Nkx := nl0 Qk.out
      have Nix := nl0 Qi.out
      have Njx := nl0 Qj.out
      have Nrx := nl0 Qr.out
      have ES_8 := Lib.hid (HS.out.below hb)
      have EX_8 := Lib.hid (HRX.out.below hb)
      have ED_8 := Lib.hid (HD.out.below hb)
      have EE_8 := Lib.hid (HE.out.below hb)
      clear hW hb
      clear g0 g1 g2
      obtain ⟨fj0, zj0, fj1, zj1, fj2, zj2, fj3, zj3, fj4, zj4, fj5, zj5, xj⟩ := ly6 Rj_8.out
      go_wp2_with fail
      refine (ends_of (L8.out.get (A := A') (c := c') (xs := digs m'.natAbs) (by simp)) (L8.out.get (A := B') (c := d') (xs := digs n'.natAbs) (by simp)) kx.out ky.out HS1.out HS2.out HY.out).mono ?_
      rintro e w9 ⟨b2, rfl, hb2, hl2, hd2, hb⟩
      have L9 := ls L8 hb
      clear fj0 zj0 fj1 zj1 fj2 zj2 fj3 zj3 fj4 zj4 fj5 zj5 xj
      have Rk_9 := co Rk_8 hb
      have Ri_9 := co Ri_8 hb
      have Rj_9 := co Rj_8 hb
      have Rr_9 := co Rr_8 hb
      have Rx_9 := co Rx_8 hb
      have ES_9 := Lib.hid (ES_8.out.below hb)
      have EX_9 := Lib.hid (EX_8.out.below hb)
      have ED_9 := Lib.hid (ED_8.out.below hb)
      have EE_9 := Lib.hid (EE_8.out.below hb)
      clear hb 
      have RY := Lib.hid (show Rw w9 b2 Y from ⟨hl2, hd2⟩)
      have FY := Lib.hid (HD.out.far (b := b2) (Nat.le_trans (by have := heap_lt Rx_8.out; omega) hb2))
      have FY2 := Lib.hid (HE.out.far (b := b2) (Nat.le_trans (by have := heap_lt Rx_8.out; omega) hb2))
      clear hb2 hl2 hd2
      generalize wr.heap.size = gx at *
      go_wp2_with fail
      go_loopw [7, 8, 44] (fun vv vw iw ww => ∃ l : Nat, l ≤ Y.length ∧ iw = .int .i64 l ∧ Hid (Dw ww BB vv (pz F Y (X.take k) ++ (Y.take l).map (F (zm, ze)))) ∧ Hid (Dw ww BB vw (pz G Y (X.take k) ++ (Y.take l).map (G (zm, ze)))) ∧ Hid (Dj vv vw) ∧ Hid (Szw ww BB) ∧ Hid (Rw ww b1 X) ∧ Hid (Rw ww b2 Y) ∧ Hid (Far vv gx) ∧ Hid (Far vv b2) ∧ Hid (Far vw gx) ∧ Hid (Far vw b2) ∧ Hid (Live w ww ((Az, cz, digs zm.natAbs) :: [(B', d', digs n'.natAbs), (A', c', digs m'.natAbs), (B, d, digs n.natAbs), (A, c, digs m.natAbs)])) ∧ Hid (ww.heap[g]? = some (.cells #[.int .i64 0, .int .i64 P] 45 (0, 0))) ∧ Hid (ww.heap[w.heap.size]? = some (.cells #[.bool (decide (m < 0)), .slice A (digs m.natAbs).length c, .int .i64 s, .bool (decide (n < 0)), .slice B (digs n.natAbs).length d, .int .i64 t] 34 (0, 0))) ∧ Hid (ww.heap[w.heap.size + 1]? = some (.cells #[.bool (decide (m' < 0)), .slice A' (digs m'.natAbs).length c', .int .i64 s', .bool (decide (n' < 0)), .slice B' (digs n'.natAbs).length d', .int .i64 t'] 34 (0, 0))) ∧ Hid (ww.heap[w.heap.size + 1 + 1]? = some (.cells #[.bool false, .slice none 0 0, .int .i64 0, .bool false, .slice none 0 0, .int .i64 0] 34 (0, 0))) ∧ Hid (ww.heap[gx]? = some (.cells #[.bool (decide (zm < 0)), .slice Az (digs zm.natAbs).length cz, .int .i64 ze] 26 (0, 0)))) (fun _ _ iw _ => Y.length - (intOf iw).toNat)
      case atStart => exact ⟨0, Nat.zero_le _, rfl, Lib.hid (by simpa using ED_9.out), Lib.hid (by simpa using EE_9.out), HJ, ES_9, EX_9, RY, FX, FY, FX2, FY2, L9, Rk_9, Ri_9, Rj_9, Rr_9, Rx_9⟩
      case round =>
        obtain ⟨l, hl, rfl, HD2, HE2, HJ2, HZ2, HRX2, HRY2, HFX, HFY, HGX, HGY, HV2, Uk, Ui, Uj, Ur, Ux⟩ := hrel
        by_cases hlt2 : l < Y.length
        · obtain ⟨⟨qm, qe⟩, hq⟩ : ∃ z, Y[l]? = some z := ⟨_, List.getElem?_eq_getElem hlt2⟩
          obtain ⟨Aq, cq, g0, g1, g2, hd⟩ := HRY2.out.2 l _ hq
          dsimp only at g0 g1 g2 hd
          have TN2 := Lib.hid (take_nextI hq)
          have MQ := Lib.hid (List.mem_of_getElem? hq)
          have HV3 := Lib.hid (HV2.out.add hd)
          clear hd hq
          obtain ⟨⟨fm, fe⟩, hfz⟩ : ∃ z, F (zm, ze) (qm, qe) = z := ⟨_, rfl⟩
          have HFZ := Lib.hid hfz
          obtain ⟨ff1, ff2⟩ := HF.out _ MZ.out _ MQ.out
          rw [hfz] at ff1 ff2
          have DF := Lib.hid ff1
          have JF := Lib.hid ff2
          clear ff1 ff2 hfz
          obtain ⟨⟨jm, je⟩, hfz⟩ : ∃ z, G (zm, ze) (qm, qe) = z := ⟨_, rfl⟩
          have HGZ := Lib.hid hfz
          obtain ⟨ff1, ff2⟩ := HG.out _ MZ.out _ MQ.out
          rw [hfz] at ff1 ff2
          have DG := Lib.hid ff1
          have JG := Lib.hid ff2
          clear ff1 ff2 hfz
          have OR := Lib.hid (OX.out.1 _ MZ.out)
          have OQ := Lib.hid (OY.out.1 _ MQ.out)
          have lbF := Lib.hid (show (pz F Y (X.take k) ++ (Y.take l).map (F (zm, ze))).length ≤ 100 by rw [List.length_append, List.length_map, List.length_take]; have := pz_len F Y OY.out.2.1 (X.take k); rw [List.length_take] at this; have := OX.out.2.1; have := OY.out.2.1; omega)
          have lbG := Lib.hid (show (pz G Y (X.take k) ++ (Y.take l).map (G (zm, ze))).length ≤ 100 by rw [List.length_append, List.length_map, List.length_take]; have := pz_len G Y OY.out.2.1 (X.take k); rw [List.length_take] at this; have := OX.out.2.1; have := OY.out.2.1; omega)
          go_upto_region 13 with fail
          obtain ⟨w10, hW, hb, Ry_10⟩ := new1 wr (.cells #[.bool (decide (qm < 0)), .slice Aq (digs qm.natAbs).length cq, .int .i64 qe] 26)
          rw [← hW]
          have L10 := ls HV3 hb
          have Rk_10 := co Uk hb
          have Ri_10 := co Ui hb
          have Rj_10 := co Uj hb
          have Rr_10 := co Ur hb
          have Rx_10 := co Ux hb
          have Gy := gl0 HV3.out
          have Nky := nl0 Uk.out
          have Niy := nl0 Ui.out
          have Njy := nl0 Uj.out
          have Nry := nl0 Ur.out
          have Nxy := nl0 Ux.out
          have GS_10 := Lib.hid (HZ2.out.below hb)
          have GX_10 := Lib.hid (HRX2.out.below hb)
          have GY_10 := Lib.hid (HRY2.out.below hb)
          have GD_10 := Lib.hid (HD2.out.below hb)
          have GE_10 := Lib.hid (HE2.out.below hb)
          clear hW hb
          clear g0 g1 g2
          generalize hLST : pz F Y (X.take k) ++ (Y.take l).map (F (zm, ze)) = LSTF at *
          have HLSTF := Lib.hid hLST
          clear hLST
          generalize hLST : pz G Y (X.take k) ++ (Y.take l).map (G (zm, ze)) = LSTG at *
          have HLSTG := Lib.hid hLST
          clear hLST
          refine wp_operands (W := w10) rfl 15 [48, 49, 50, 51, 52, 53, 54, 55, 56, 57, 58, 59, 60, 61, 62] (fun i u ww => match i with | 0 => u = u7 | 1 => u = .pointer (some ⟨g, 0, none⟩) | 2 => u = .pointer (some ⟨g, 0, none⟩) | 3 => u = .pointer (some ⟨g, 0, none⟩) | 4 => u = .agg #[.bool (decide (zm < 0)), .slice Az (digs zm.natAbs).length cz, .int .i64 ze] | 5 => u = .agg #[.bool (decide (qm < 0)), .slice Aq (digs qm.natAbs).length cq, .int .i64 qe] | 6 => u = .pointer (some ⟨g, 0, none⟩) | 7 => u = .pointer (some ⟨g, 0, none⟩) | 8 => u = .pointer (some ⟨g, 1, none⟩) | 9 => u = .int .i64 P | 10 => ∃ A c, u = .tuple #[.agg #[.bool (decide (fm < 0)), .slice A (digs fm.natAbs).length c, .int .i64 fe], .int .i64 0] ∧ Dg ww A c (digs fm.natAbs) | 11 => ∃ A c, u = .agg #[.bool (decide (fm < 0)), .slice A (digs fm.natAbs).length c, .int .i64 fe] ∧ Dg ww A c (digs fm.natAbs) | 12 => u = .int .i64 0 | 13 => ∃ A c, u = .agg #[.bool (decide (fm < 0)), .slice A (digs fm.natAbs).length c, .int .i64 fe] ∧ Dg ww A c (digs fm.natAbs) | 14 => ∃ g A c, u = .slice (some ⟨g, 0, none⟩) 1 1 ∧ ww.heap[g]? = some (.cells #[.bool (decide (fm < 0)), .slice A (digs fm.natAbs).length c, .int .i64 fe] 26 (0, 0)) ∧ w10.heap.size ≤ g ∧ Dg ww A c (digs fm.natAbs) | _ => True) (fun i => decide (i ∈ ([] : List Nat)))
            (by decide) rfl (by kernel_rfl) (by kernel_rfl) (by decide) (by kernel_rfl) ?_ ?_ ?_ ?_
          · intro i u x y hi h hb
            have hi' : i = 0 ∨ i = 1 ∨ i = 2 ∨ i = 3 ∨ i = 4 ∨ i = 5 ∨ i = 6 ∨ i = 7 ∨ i = 8 ∨ i = 9 ∨ i = 10 ∨ i = 11 ∨ i = 12 ∨ i = 13 ∨ i = 14 := by omega
            rcases hi' with rfl | rfl | rfl | rfl | rfl | rfl | rfl | rfl | rfl | rfl | rfl | rfl | rfl | rfl | rfl
            · exact h
            · exact h
            · exact h
            · exact h
            · exact h
            · exact h
            · exact h
            · exact h
            · exact h
            · exact h
            · obtain ⟨A, c, e, hd⟩ := h
              exact ⟨A, c, e, hd.below hb⟩
            · obtain ⟨A, c, e, hd⟩ := h
              exact ⟨A, c, e, hd.below hb⟩
            · exact h
            · obtain ⟨A, c, e, hd⟩ := h
              exact ⟨A, c, e, hd.below hb⟩
            · obtain ⟨g, A, c, e, hg, hge, hd⟩ := h
              exact ⟨g, A, c, e, cells_of hg hb, hge, hd.below hb⟩
          · intro i u x hi; simp at hi
          · intro i a x KK hi hF hb hw hK
            have hi' : i = 0 ∨ i = 1 ∨ i = 2 ∨ i = 3 ∨ i = 4 ∨ i = 5 ∨ i = 6 ∨ i = 7 ∨ i = 8 ∨ i = 9 ∨ i = 10 ∨ i = 11 ∨ i = 12 ∨ i = 13 ∨ i = 14 := by omega
            rcases hi' with rfl | rfl | rfl | rfl | rfl | rfl | rfl | rfl | rfl | rfl | rfl | rfl | rfl | rfl | rfl
            · simp only [wpOp, List.getElem?_toArray, List.getElem?_cons_zero, Region.wanted, if_true]
              refine Or.inl ?_
              have e0 : a.eval (.tmp 7) = u7 := hF.2.2 7 (by decide)
              clear hw hF
              simp only [Oper.wp, execOp]
              rw [e0]
              go_simp
              exact hK _ x (by first | rfl | simp) (Below.refl _ _) (fun h => by simp at h)
            · simp only [wpOp, List.getElem?_toArray, List.getElem?_cons_succ, List.getElem?_cons_zero, Region.wanted, if_true]
              refine Or.inl ?_
              have e0 : a.eval (.tmp 0) = .pointer (some ⟨g, 0, none⟩) := hF.2.2 0 (by decide)
              clear hw hF
              simp only [Oper.wp, execOp]
              rw [e0]
              go_simp
              exact hK _ x (by first | rfl | simp) (Below.refl _ _) (fun h => by simp at h)
            · simp only [wpOp, List.getElem?_toArray, List.getElem?_cons_succ, List.getElem?_cons_zero, Region.wanted, if_true]
              refine Or.inl ?_
              have e0 : a.eval (.tmp 49) = .pointer (some ⟨g, 0, none⟩) := hw 1 (by kernel_rfl)
              clear hw hF
              simp only [Oper.wp, execOp]
              rw [e0]
              go_simp
              exact hK _ x (by first | rfl | simp) (Below.refl _ _) (fun h => by simp at h)
            · simp only [wpOp, List.getElem?_toArray, List.getElem?_cons_succ, List.getElem?_cons_zero, Region.wanted, if_true]
              refine Or.inl ?_
              have e0 : a.eval (.tmp 50) = .pointer (some ⟨g, 0, none⟩) := hw 2 (by kernel_rfl)
              clear hw hF
              simp only [Oper.wp, execOp]
              rw [e0]
              go_simp
              exact hK _ x (by first | rfl | simp) (Below.refl _ _) (fun h => by simp at h)
            · simp only [wpOp, List.getElem?_toArray, List.getElem?_cons_succ, List.getElem?_cons_zero, Region.wanted, if_true]
              refine Or.inl ?_
              have e0 : a.eval (.tmp 10) = .pointer (some ⟨gx, 0, none⟩) := hF.2.2 10 (by decide)
              have f0 := row_cell Rx_10.out hb 0
              have f1 := row_cell Rx_10.out hb 1
              have f2 := row_cell Rx_10.out hb 2
              simp only [List.getElem?_toArray, List.getElem?_cons_succ, List.getElem?_cons_zero] at f0 f1 f2
              clear hw hF
              simp only [Oper.wp, execOp]
              rw [e0]
              go_simp
              exact hK _ x (by first | rfl | simp) (Below.refl _ _) (fun h => by simp at h)
            · simp only [wpOp, List.getElem?_toArray, List.getElem?_cons_succ, List.getElem?_cons_zero, Region.wanted, if_true]
              refine Or.inl ?_
              have e0 : a.eval (.tmp 12) = .pointer (some ⟨wr.heap.size, 0, none⟩) := hF.2.2 12 (by decide)
              have f0 := row_cell Ry_10.out hb 0
              have f1 := row_cell Ry_10.out hb 1
              have f2 := row_cell Ry_10.out hb 2
              simp only [List.getElem?_toArray, List.getElem?_cons_succ, List.getElem?_cons_zero] at f0 f1 f2
              clear hw hF
              simp only [Oper.wp, execOp]
              rw [e0]
              go_simp
              exact hK _ x (by first | rfl | simp) (Below.refl _ _) (fun h => by simp at h)
            · simp only [wpOp, List.getElem?_toArray, List.getElem?_cons_succ, List.getElem?_cons_zero, Region.wanted, if_true]
              refine Or.inl ?_
              have e0 : a.eval (.tmp 0) = .pointer (some ⟨g, 0, none⟩) := hF.2.2 0 (by decide)
              clear hw hF
              simp only [Oper.wp, execOp]
              rw [e0]
              go_simp
              exact hK _ x (by first | rfl | simp) (Below.refl _ _) (fun h => by simp at h)
            · simp only [wpOp, List.getElem?_toArray, List.getElem?_cons_succ, List.getElem?_cons_zero, Region.wanted, if_true]
              refine Or.inl ?_
              have e0 : a.eval (.tmp 54) = .pointer (some ⟨g, 0, none⟩) := hw 6 (by kernel_rfl)
              clear hw hF
              simp only [Oper.wp, execOp]
              rw [e0]
              go_simp
              exact hK _ x (by first | rfl | simp) (Below.refl _ _) (fun h => by simp at h)
            · simp only [wpOp, List.getElem?_toArray, List.getElem?_cons_succ, List.getElem?_cons_zero, Region.wanted, if_true]
              refine Or.inl ?_
              have e0 : a.eval (.tmp 55) = .pointer (some ⟨g, 0, none⟩) := hw 7 (by kernel_rfl)
              clear hw hF
              simp only [Oper.wp, execOp]
              rw [e0]
              go_simp
              exact hK _ x (by first | rfl | simp) (Below.refl _ _) (fun h => by simp at h)
            · simp only [wpOp, List.getElem?_toArray, List.getElem?_cons_succ, List.getElem?_cons_zero, Region.wanted, if_true]
              refine Or.inl ?_
              have e0 : a.eval (.tmp 56) = .pointer (some ⟨g, 1, none⟩) := hw 8 (by kernel_rfl)
              have f0 := row_cell Rk_10.out hb 0
              have f1 := row_cell Rk_10.out hb 1
              simp only [List.getElem?_toArray, List.getElem?_cons_succ, List.getElem?_cons_zero] at f0 f1
              clear hw hF
              simp only [Oper.wp, execOp]
              rw [e0]
              go_simp
              exact hK _ x (by first | rfl | simp) (Below.refl _ _) (fun h => by simp at h)
            · simp only [wpOp, List.getElem?_toArray, List.getElem?_cons_succ, List.getElem?_cons_zero, Region.wanted, if_true]
              refine Or.inl ?_
              have e0 : a.tmps.getD 52 undef = .agg #[.bool (decide (zm < 0)), .slice Az (digs zm.natAbs).length cz, .int .i64 ze] := hw 4 (by kernel_rfl)
              have e1 : a.tmps.getD 53 undef = .agg #[.bool (decide (qm < 0)), .slice Aq (digs qm.natAbs).length cq, .int .i64 qe] := hw 5 (by kernel_rfl)
              have e2 : a.tmps.getD 57 undef = .int .i64 P := hw 9 (by kernel_rfl)
              clear hw hF
              simp only [Oper.wp, execOp]
              go_simp
              refine (div_yes ((L10.out.step hb).get (A := Az) (c := cz) (xs := digs zm.natAbs) (by simp)) ((L10.out.step hb).get (A := Aq) (c := cq) (xs := digs qm.natAbs) (by simp)) OR.out.2 OQ.out.2 OR.out.1 OQ.out.1 (t32_live HT.out (L10.out.step hb)) HP.out p2 p4 (HQ0.out _ MQ.out) DF.out JF.out).mono ?_
              rintro e y ⟨A2, c2, rfl, hd2, hbb⟩
              exact hK _ y ⟨A2, c2, rfl, hd2⟩ hbb (fun h => by simp at h)
            · simp only [wpOp, List.getElem?_toArray, List.getElem?_cons_succ, List.getElem?_cons_zero, Region.wanted, if_true]
              refine Or.inl ?_
              obtain ⟨A', c', e0, hd⟩ := hw 10 (by kernel_rfl)
              have e0 : a.eval (.tmp 58) = _ := e0
              clear hw hF
              simp only [Oper.wp, execOp]
              rw [e0]
              go_simp
              exact hK _ x ⟨A', c', rfl, hd⟩ (Below.refl _ _) (fun h => by simp at h)
            · simp only [wpOp, List.getElem?_toArray, List.getElem?_cons_succ, List.getElem?_cons_zero, Region.wanted, if_true]
              refine Or.inl ?_
              obtain ⟨A', c', e0, hd⟩ := hw 10 (by kernel_rfl)
              have e0 : a.eval (.tmp 58) = _ := e0
              clear hw hF
              simp only [Oper.wp, execOp]
              rw [e0]
              go_simp
              exact hK _ x (by first | rfl | simp) (Below.refl _ _) (fun h => by simp at h)
            · simp only [wpOp, List.getElem?_toArray, List.getElem?_cons_succ, List.getElem?_cons_zero, Region.wanted, if_true]
              refine Or.inl ?_
              have e0 : a.tmps.getD 51 undef = .pointer (some ⟨g, 0, none⟩) := hw 3 (by kernel_rfl)
              obtain ⟨A', c', e1, hd⟩ := hw 11 (by kernel_rfl)
              have e1 : a.tmps.getD 59 undef = _ := e1
              have e2 : a.tmps.getD 60 undef = .int .i64 0 := hw 12 (by kernel_rfl)
              clear hw hF
              simp only [Oper.wp, execOp]
              go_simp
              refine (got_ok A' c' fm fe g _ hd).mono ?_
              rintro e y ⟨A2, c2, rfl, hd2, hbb⟩
              exact hK _ y ⟨A2, c2, rfl, hd2⟩ hbb (fun h => by simp at h)
            · simp only [wpOp, List.getElem?_toArray, List.getElem?_cons_succ, List.getElem?_cons_zero, Region.wanted, if_true]
              refine Or.inl ?_
              obtain ⟨A', c', e0, hd⟩ := hw 13 (by kernel_rfl)
              have e0 : a.eval (.tmp 61) = _ := e0
              clear hw hF
              simp only [Oper.wp, execOp]
              simp only [List.map_toArray, List.map_cons, List.map_nil, e0]
              go_simp
              exact hK _ _ ⟨_, _, _, rfl, heap_alloc_new _ _, hb.size, hd.below (below1 _ _)⟩ (below1 _ _) (fun h => by simp at h)
          · intro a x hF0 hb hR _
            have hF : Fr6 [48, 49, 50, 51, 52, 53, 54, 55, 56, 57, 58, 59, 60, 61, 62] _ a := hF0
            have e0 : a.tmps.getD 48 undef = u7 := hR 0 (by decide)
            have e1 : a.tmps.getD 49 undef = .pointer (some ⟨g, 0, none⟩) := hR 1 (by decide)
            have e2 : a.tmps.getD 50 undef = .pointer (some ⟨g, 0, none⟩) := hR 2 (by decide)
            have e3 : a.tmps.getD 51 undef = .pointer (some ⟨g, 0, none⟩) := hR 3 (by decide)
            have e4 : a.tmps.getD 52 undef = .agg #[.bool (decide (zm < 0)), .slice Az (digs zm.natAbs).length cz, .int .i64 ze] := hR 4 (by decide)
            have e5 : a.tmps.getD 53 undef = .agg #[.bool (decide (qm < 0)), .slice Aq (digs qm.natAbs).length cq, .int .i64 qe] := hR 5 (by decide)
            have e6 : a.tmps.getD 54 undef = .pointer (some ⟨g, 0, none⟩) := hR 6 (by decide)
            have e7 : a.tmps.getD 55 undef = .pointer (some ⟨g, 0, none⟩) := hR 7 (by decide)
            have e8 : a.tmps.getD 56 undef = .pointer (some ⟨g, 1, none⟩) := hR 8 (by decide)
            have e9 : a.tmps.getD 57 undef = .int .i64 P := hR 9 (by decide)
            obtain ⟨B10, d10, h10, hd10⟩ := hR 10 (by decide)
            have e10 : a.tmps.getD 58 undef = _ := h10
            obtain ⟨B11, d11, h11, hd11⟩ := hR 11 (by decide)
            have e11 : a.tmps.getD 59 undef = _ := h11
            have e12 : a.tmps.getD 60 undef = .int .i64 0 := hR 12 (by decide)
            obtain ⟨B13, d13, h13, hd13⟩ := hR 13 (by decide)
            have e13 : a.tmps.getD 61 undef = _ := h13
            obtain ⟨g14, B14, d14, h14, hg14, hge14, hd14⟩ := hR 14 (by decide)
            have e14 : a.tmps.getD 62 undef = _ := h14
            rw [hF.fold (by kernel_rfl)]
            simp only [List.foldl_cons, List.foldl_nil, e0, e1, e2, e3, e4, e5, e6, e7, e8, e9, e10, e11, e12, e13, e14]
            simp only [Act.put, List.setIfInBounds_toArray, List.set_cons_zero, List.set_cons_succ]
            clear e0 e1 e2 e3 e4 e5 e6 e7 e8 e9 e10 e11 e12 e13 e14 hR hF hF0 h10 h11 h13 h14
            obtain ⟨w11, hW⟩ : ∃ W : World, W = x := ⟨_, rfl⟩
            rw [← hW]
            rw [← hW] at hb hd10 hd11 hd13 hd14 hg14
            have L11 := Lib.hid (((((L10.out.step hb).add hd10).add hd11).add hd13).add hd14)
            have Rk_11 := co Rk_10 hb
            have Ri_11 := co Ri_10 hb
            have Rj_11 := co Rj_10 hb
            have Rr_11 := co Rr_10 hb
            have Rx_11 := co Rx_10 hb
            have Ry_11 := co Ry_10 hb
            have Rq14_11 := Lib.hid hg14
            have Gq14 : w.heap.size ≤ g14 := Nat.le_trans L10.out.1.size hge14
            have Nkq14 : g < g14 := by have := heap_lt Rk_10.out; omega
            have Niq14 : w.heap.size < g14 := by have := heap_lt Ri_10.out; omega
            have Njq14 : w.heap.size + 1 < g14 := by have := heap_lt Rj_10.out; omega
            have Nrq14 : w.heap.size + 1 + 1 < g14 := by have := heap_lt Rr_10.out; omega
            have Nxq14 : gx < g14 := by have := heap_lt Rx_10.out; omega
            have Nyq14 : wr.heap.size < g14 := by have := heap_lt Ry_10.out; omega
            have GS_11 := Lib.hid (GS_10.out.below hb)
            have GX_11 := Lib.hid (GX_10.out.below hb)
            have GY_11 := Lib.hid (GY_10.out.below hb)
            have GD_11 := Lib.hid (GD_10.out.below hb)
            have GE_11 := Lib.hid (GE_10.out.below hb)
            clear hW hb hd10 hd11 hd13 hd14 hg14 hge14
            change wpOps _ _ _ [15, 16] _ _
            simp only [wpOps_cons]
            simp only [wpOp, List.getElem?_toArray, List.getElem?_cons_succ, List.getElem?_cons_zero, Region.wanted, if_true]
            refine Or.inl ?_
            refine wp_append_dy (.tmp 48) (.tmp 62) rfl BB u7 LSTF fm fe _ 26 1 d14 B14 rfl GD_11.out Rq14_11.out (L11.out.get (A := B14) (c := d14) (xs := digs fm.natAbs) (by simp)) rfl (by have := lbF.out; omega) (by have := GS_11.out; exact this) ?_
            intro gwa capa w9a hD9 hg9 hk9 hf9
            have N9a := Lib.hid hD9
            have O9a := Lib.hid (GE_11.out.grown HJ2.out hg9 hk9)
            have J9a := Lib.hid (HJ2.out.next (n := LSTF.length + 1) (cap := capa) GE_11.out hf9)
            have V9a := Lib.hid (live_grown L11.out GD_11.out xB.out hg9 hk9)
            have X9a := Lib.hid (GX_11.out.grown (GD_11.out.farb xL.out) hg9 hk9)
            have Y9a := Lib.hid (GY_11.out.grown HFY.out hg9 hk9)
            have S9a := Lib.hid (show Szw w9a BB from Nat.le_trans GS_11.out hg9.size)
            have FGY := Lib.hid (HD2.out.far (b := wr.heap.size) (Nat.le_refl _))
            have FGY2 := Lib.hid (HE2.out.far (b := wr.heap.size) (Nat.le_refl _))
            have Tak := Lib.hid (row_grown Rk_11.out (GD_11.out.farb Bk.out) hg9)
            have Tai := Lib.hid (row_grown Ri_11.out (GD_11.out.farb Bi.out) hg9)
            have Taj := Lib.hid (row_grown Rj_11.out (GD_11.out.farb Bj.out) hg9)
            have Tar := Lib.hid (row_grown Rr_11.out (GD_11.out.farb Br.out) hg9)
            have Tax := Lib.hid (row_grown Rx_11.out HFX.out hg9)
            have Tay := Lib.hid (row_grown Ry_11.out FGY.out hg9)
            have FX9a := Lib.hid (far_next (n := LSTF.length + 1) (cap := capa) HFX.out (heap_lt Rx_11.out) hf9)
            have FY9a := Lib.hid (far_next (n := LSTF.length + 1) (cap := capa) HFY.out GY_11.out.1 hf9)
            clear hD9 hg9 hk9 hf9
            go_simp
            try rw [wpOps_cons]
            simp only [wpOp, List.getElem?_toArray, List.getElem?_cons_succ, List.getElem?_cons_zero, Region.wanted, if_true]
            refine Or.inl ?_
            simp only [Oper.wp, execOp]
            go_simp
            try simp only [wpOps]
            have J9s := Lib.hid J9a.out.symm
            go_upto_region 14 with fail
            refine wp_operands (W := w9a) rfl 15 [64, 65, 66, 67, 68, 69, 70, 71, 72, 73, 74, 75, 76, 77, 78] (fun i u ww => match i with | 0 => u = u8 | 1 => u = .pointer (some ⟨g, 0, none⟩) | 2 => u = .pointer (some ⟨g, 0, none⟩) | 3 => u = .pointer (some ⟨g, 0, none⟩) | 4 => u = .agg #[.bool (decide (zm < 0)), .slice Az (digs zm.natAbs).length cz, .int .i64 ze] | 5 => u = .agg #[.bool (decide (qm < 0)), .slice Aq (digs qm.natAbs).length cq, .int .i64 qe] | 6 => u = .pointer (some ⟨g, 0, none⟩) | 7 => u = .pointer (some ⟨g, 0, none⟩) | 8 => u = .pointer (some ⟨g, 1, none⟩) | 9 => u = .int .i64 P | 10 => ∃ A c, u = .tuple #[.agg #[.bool (decide (jm < 0)), .slice A (digs jm.natAbs).length c, .int .i64 je], .int .i64 0] ∧ Dg ww A c (digs jm.natAbs) | 11 => ∃ A c, u = .agg #[.bool (decide (jm < 0)), .slice A (digs jm.natAbs).length c, .int .i64 je] ∧ Dg ww A c (digs jm.natAbs) | 12 => u = .int .i64 0 | 13 => ∃ A c, u = .agg #[.bool (decide (jm < 0)), .slice A (digs jm.natAbs).length c, .int .i64 je] ∧ Dg ww A c (digs jm.natAbs) | 14 => ∃ g A c, u = .slice (some ⟨g, 0, none⟩) 1 1 ∧ ww.heap[g]? = some (.cells #[.bool (decide (jm < 0)), .slice A (digs jm.natAbs).length c, .int .i64 je] 26 (0, 0)) ∧ w9a.heap.size ≤ g ∧ Dg ww A c (digs jm.natAbs) | _ => True) (fun i => decide (i ∈ ([] : List Nat)))
              (by decide) rfl (by kernel_rfl) (by kernel_rfl) (by decide) (by kernel_rfl) ?_ ?_ ?_ ?_
            · intro i u x y hi h hb
              have hi' : i = 0 ∨ i = 1 ∨ i = 2 ∨ i = 3 ∨ i = 4 ∨ i = 5 ∨ i = 6 ∨ i = 7 ∨ i = 8 ∨ i = 9 ∨ i = 10 ∨ i = 11 ∨ i = 12 ∨ i = 13 ∨ i = 14 := by omega
              rcases hi' with rfl | rfl | rfl | rfl | rfl | rfl | rfl | rfl | rfl | rfl | rfl | rfl | rfl | rfl | rfl
              · exact h
              · exact h
              · exact h
              · exact h
              · exact h
              · exact h
              · exact h
              · exact h
              · exact h
              · exact h
              · obtain ⟨A, c, e, hd⟩ := h
                exact ⟨A, c, e, hd.below hb⟩
              · obtain ⟨A, c, e, hd⟩ := h
                exact ⟨A, c, e, hd.below hb⟩
              · exact h
              · obtain ⟨A, c, e, hd⟩ := h
                exact ⟨A, c, e, hd.below hb⟩
              · obtain ⟨g, A, c, e, hg, hge, hd⟩ := h
                exact ⟨g, A, c, e, cells_of hg hb, hge, hd.below hb⟩
            · intro i u x hi; simp at hi
            · intro i a x KK hi hF hb hw hK
              have hi' : i = 0 ∨ i = 1 ∨ i = 2 ∨ i = 3 ∨ i = 4 ∨ i = 5 ∨ i = 6 ∨ i = 7 ∨ i = 8 ∨ i = 9 ∨ i = 10 ∨ i = 11 ∨ i = 12 ∨ i = 13 ∨ i = 14 := by omega
              rcases hi' with rfl | rfl | rfl | rfl | rfl | rfl | rfl | rfl | rfl | rfl | rfl | rfl | rfl | rfl | rfl
              · simp only [wpOp, List.getElem?_toArray, List.getElem?_cons_zero, Region.wanted, if_true]
                refine Or.inl ?_
                have e0 : a.eval (.tmp 8) = u8 := hF.2.2 8 (by decide)
                clear hw hF
                simp only [Oper.wp, execOp]
                rw [e0]
                go_simp
                exact hK _ x (by first | rfl | simp) (Below.refl _ _) (fun h => by simp at h)
              · simp only [wpOp, List.getElem?_toArray, List.getElem?_cons_succ, List.getElem?_cons_zero, Region.wanted, if_true]
                refine Or.inl ?_
                have e0 : a.eval (.tmp 0) = .pointer (some ⟨g, 0, none⟩) := hF.2.2 0 (by decide)
                clear hw hF
                simp only [Oper.wp, execOp]
                rw [e0]
                go_simp
                exact hK _ x (by first | rfl | simp) (Below.refl _ _) (fun h => by simp at h)
              · simp only [wpOp, List.getElem?_toArray, List.getElem?_cons_succ, List.getElem?_cons_zero, Region.wanted, if_true]
                refine Or.inl ?_
                have e0 : a.eval (.tmp 65) = .pointer (some ⟨g, 0, none⟩) := hw 1 (by kernel_rfl)
                clear hw hF
                simp only [Oper.wp, execOp]
                rw [e0]
                go_simp
                exact hK _ x (by first | rfl | simp) (Below.refl _ _) (fun h => by simp at h)
              · simp only [wpOp, List.getElem?_toArray, List.getElem?_cons_succ, List.getElem?_cons_zero, Region.wanted, if_true]
                refine Or.inl ?_
                have e0 : a.eval (.tmp 66) = .pointer (some ⟨g, 0, none⟩) := hw 2 (by kernel_rfl)
                clear hw hF
                simp only [Oper.wp, execOp]
                rw [e0]
                go_simp
                exact hK _ x (by first | rfl | simp) (Below.refl _ _) (fun h => by simp at h)
              · simp only [wpOp, List.getElem?_toArray, List.getElem?_cons_succ, List.getElem?_cons_zero, Region.wanted, if_true]
                refine Or.inl ?_
                have e0 : a.eval (.tmp 10) = .pointer (some ⟨gx, 0, none⟩) := hF.2.2 10 (by decide)
                have f0 := row_cell Tax.out hb 0
                have f1 := row_cell Tax.out hb 1
                have f2 := row_cell Tax.out hb 2
                simp only [List.getElem?_toArray, List.getElem?_cons_succ, List.getElem?_cons_zero] at f0 f1 f2
                clear hw hF
                simp only [Oper.wp, execOp]
                rw [e0]
                go_simp
                exact hK _ x (by first | rfl | simp) (Below.refl _ _) (fun h => by simp at h)
              · simp only [wpOp, List.getElem?_toArray, List.getElem?_cons_succ, List.getElem?_cons_zero, Region.wanted, if_true]
                refine Or.inl ?_
                have e0 : a.eval (.tmp 12) = .pointer (some ⟨wr.heap.size, 0, none⟩) := hF.2.2 12 (by decide)
                have f0 := row_cell Tay.out hb 0
                have f1 := row_cell Tay.out hb 1
                have f2 := row_cell Tay.out hb 2
                simp only [List.getElem?_toArray, List.getElem?_cons_succ, List.getElem?_cons_zero] at f0 f1 f2
                clear hw hF
                simp only [Oper.wp, execOp]
                rw [e0]
                go_simp
                exact hK _ x (by first | rfl | simp) (Below.refl _ _) (fun h => by simp at h)
              · simp only [wpOp, List.getElem?_toArray, List.getElem?_cons_succ, List.getElem?_cons_zero, Region.wanted, if_true]
                refine Or.inl ?_
                have e0 : a.eval (.tmp 0) = .pointer (some ⟨g, 0, none⟩) := hF.2.2 0 (by decide)
                clear hw hF
                simp only [Oper.wp, execOp]
                rw [e0]
                go_simp
                exact hK _ x (by first | rfl | simp) (Below.refl _ _) (fun h => by simp at h)
              · simp only [wpOp, List.getElem?_toArray, List.getElem?_cons_succ, List.getElem?_cons_zero, Region.wanted, if_true]
                refine Or.inl ?_
                have e0 : a.eval (.tmp 70) = .pointer (some ⟨g, 0, none⟩) := hw 6 (by kernel_rfl)
                clear hw hF
                simp only [Oper.wp, execOp]
                rw [e0]
                go_simp
                exact hK _ x (by first | rfl | simp) (Below.refl _ _) (fun h => by simp at h)
              · simp only [wpOp, List.getElem?_toArray, List.getElem?_cons_succ, List.getElem?_cons_zero, Region.wanted, if_true]
                refine Or.inl ?_
                have e0 : a.eval (.tmp 71) = .pointer (some ⟨g, 0, none⟩) := hw 7 (by kernel_rfl)
                clear hw hF
                simp only [Oper.wp, execOp]
                rw [e0]
                go_simp
                exact hK _ x (by first | rfl | simp) (Below.refl _ _) (fun h => by simp at h)
              · simp only [wpOp, List.getElem?_toArray, List.getElem?_cons_succ, List.getElem?_cons_zero, Region.wanted, if_true]
                refine Or.inl ?_
                have e0 : a.eval (.tmp 72) = .pointer (some ⟨g, 1, none⟩) := hw 8 (by kernel_rfl)
                have f0 := row_cell Tak.out hb 0
                have f1 := row_cell Tak.out hb 1
                simp only [List.getElem?_toArray, List.getElem?_cons_succ, List.getElem?_cons_zero] at f0 f1
                clear hw hF
                simp only [Oper.wp, execOp]
                rw [e0]
                go_simp
                exact hK _ x (by first | rfl | simp) (Below.refl _ _) (fun h => by simp at h)
              · simp only [wpOp, List.getElem?_toArray, List.getElem?_cons_succ, List.getElem?_cons_zero, Region.wanted, if_true]
                refine Or.inl ?_
                have e0 : a.tmps.getD 68 undef = .agg #[.bool (decide (zm < 0)), .slice Az (digs zm.natAbs).length cz, .int .i64 ze] := hw 4 (by kernel_rfl)
                have e1 : a.tmps.getD 69 undef = .agg #[.bool (decide (qm < 0)), .slice Aq (digs qm.natAbs).length cq, .int .i64 qe] := hw 5 (by kernel_rfl)
                have e2 : a.tmps.getD 73 undef = .int .i64 P := hw 9 (by kernel_rfl)
                clear hw hF
                simp only [Oper.wp, execOp]
                go_simp
                refine (div_yes ((V9a.out.step hb).get (A := Az) (c := cz) (xs := digs zm.natAbs) (by simp)) ((V9a.out.step hb).get (A := Aq) (c := cq) (xs := digs qm.natAbs) (by simp)) OR.out.2 OQ.out.2 OR.out.1 OQ.out.1 (t32_live HT.out (V9a.out.step hb)) HP.out p2 p4 (HQ0.out _ MQ.out) DG.out JG.out).mono ?_
                rintro e y ⟨A2, c2, rfl, hd2, hbb⟩
                exact hK _ y ⟨A2, c2, rfl, hd2⟩ hbb (fun h => by simp at h)
              · simp only [wpOp, List.getElem?_toArray, List.getElem?_cons_succ, List.getElem?_cons_zero, Region.wanted, if_true]
                refine Or.inl ?_
                obtain ⟨A', c', e0, hd⟩ := hw 10 (by kernel_rfl)
                have e0 : a.eval (.tmp 74) = _ := e0
                clear hw hF
                simp only [Oper.wp, execOp]
                rw [e0]
                go_simp
                exact hK _ x ⟨A', c', rfl, hd⟩ (Below.refl _ _) (fun h => by simp at h)
              · simp only [wpOp, List.getElem?_toArray, List.getElem?_cons_succ, List.getElem?_cons_zero, Region.wanted, if_true]
                refine Or.inl ?_
                obtain ⟨A', c', e0, hd⟩ := hw 10 (by kernel_rfl)
                have e0 : a.eval (.tmp 74) = _ := e0
                clear hw hF
                simp only [Oper.wp, execOp]
                rw [e0]
                go_simp
                exact hK _ x (by first | rfl | simp) (Below.refl _ _) (fun h => by simp at h)
              · simp only [wpOp, List.getElem?_toArray, List.getElem?_cons_succ, List.getElem?_cons_zero, Region.wanted, if_true]
                refine Or.inl ?_
                have e0 : a.tmps.getD 67 undef = .pointer (some ⟨g, 0, none⟩) := hw 3 (by kernel_rfl)
                obtain ⟨A', c', e1, hd⟩ := hw 11 (by kernel_rfl)
                have e1 : a.tmps.getD 75 undef = _ := e1
                have e2 : a.tmps.getD 76 undef = .int .i64 0 := hw 12 (by kernel_rfl)
                clear hw hF
                simp only [Oper.wp, execOp]
                go_simp
                refine (got_ok A' c' jm je g _ hd).mono ?_
                rintro e y ⟨A2, c2, rfl, hd2, hbb⟩
                exact hK _ y ⟨A2, c2, rfl, hd2⟩ hbb (fun h => by simp at h)
              · simp only [wpOp, List.getElem?_toArray, List.getElem?_cons_succ, List.getElem?_cons_zero, Region.wanted, if_true]
                refine Or.inl ?_
                obtain ⟨A', c', e0, hd⟩ := hw 13 (by kernel_rfl)
                have e0 : a.eval (.tmp 77) = _ := e0
                clear hw hF
                simp only [Oper.wp, execOp]
                simp only [List.map_toArray, List.map_cons, List.map_nil, e0]
                go_simp
                exact hK _ _ ⟨_, _, _, rfl, heap_alloc_new _ _, hb.size, hd.below (below1 _ _)⟩ (below1 _ _) (fun h => by simp at h)
            · intro a x hF0 hb hR _
              have hF : Fr6 [64, 65, 66, 67, 68, 69, 70, 71, 72, 73, 74, 75, 76, 77, 78] _ a := hF0
              have e0 : a.tmps.getD 64 undef = u8 := hR 0 (by decide)
              have e1 : a.tmps.getD 65 undef = .pointer (some ⟨g, 0, none⟩) := hR 1 (by decide)
              have e2 : a.tmps.getD 66 undef = .pointer (some ⟨g, 0, none⟩) := hR 2 (by decide)
              have e3 : a.tmps.getD 67 undef = .pointer (some ⟨g, 0, none⟩) := hR 3 (by decide)
              have e4 : a.tmps.getD 68 undef = .agg #[.bool (decide (zm < 0)), .slice Az (digs zm.natAbs).length cz, .int .i64 ze] := hR 4 (by decide)
              have e5 : a.tmps.getD 69 undef = .agg #[.bool (decide (qm < 0)), .slice Aq (digs qm.natAbs).length cq, .int .i64 qe] := hR 5 (by decide)
              have e6 : a.tmps.getD 70 undef = .pointer (some ⟨g, 0, none⟩) := hR 6 (by decide)
              have e7 : a.tmps.getD 71 undef = .pointer (some ⟨g, 0, none⟩) := hR 7 (by decide)
              have e8 : a.tmps.getD 72 undef = .pointer (some ⟨g, 1, none⟩) := hR 8 (by decide)
              have e9 : a.tmps.getD 73 undef = .int .i64 P := hR 9 (by decide)
              obtain ⟨B10, d10, h10, hd10⟩ := hR 10 (by decide)
              have e10 : a.tmps.getD 74 undef = _ := h10
              obtain ⟨B11, d11, h11, hd11⟩ := hR 11 (by decide)
              have e11 : a.tmps.getD 75 undef = _ := h11
              have e12 : a.tmps.getD 76 undef = .int .i64 0 := hR 12 (by decide)
              obtain ⟨B13, d13, h13, hd13⟩ := hR 13 (by decide)
              have e13 : a.tmps.getD 77 undef = _ := h13
              obtain ⟨g14, B14, d14, h14, hg14, hge14, hd14⟩ := hR 14 (by decide)
              have e14 : a.tmps.getD 78 undef = _ := h14
              rw [hF.fold (by kernel_rfl)]
              simp only [List.foldl_cons, List.foldl_nil, e0, e1, e2, e3, e4, e5, e6, e7, e8, e9, e10, e11, e12, e13, e14]
              simp only [Act.put, List.setIfInBounds_toArray, List.set_cons_zero, List.set_cons_succ]
              clear e0 e1 e2 e3 e4 e5 e6 e7 e8 e9 e10 e11 e12 e13 e14 hR hF hF0 h10 h11 h13 h14
              obtain ⟨w12, hW⟩ : ∃ W : World, W = x := ⟨_, rfl⟩
              rw [← hW]
              rw [← hW] at hb hd10 hd11 hd13 hd14 hg14
              have L12 := Lib.hid (((((V9a.out.step hb).add hd10).add hd11).add hd13).add hd14)
              have Rk_12 := co Tak hb
              have Ri_12 := co Tai hb
              have Rj_12 := co Taj hb
              have Rr_12 := co Tar hb
              have Rx_12 := co Tax hb
              have Ry_12 := co Tay hb
              have Rq14_12 := Lib.hid hg14
              have Gq14 : w.heap.size ≤ g14 := Nat.le_trans V9a.out.1.size hge14
              have Nkq14 : g < g14 := by have := heap_lt Tak.out; omega
              have Niq14 : w.heap.size < g14 := by have := heap_lt Tai.out; omega
              have Njq14 : w.heap.size + 1 < g14 := by have := heap_lt Taj.out; omega
              have Nrq14 : w.heap.size + 1 + 1 < g14 := by have := heap_lt Tar.out; omega
              have Nxq14 : gx < g14 := by have := heap_lt Tax.out; omega
              have Nyq14 : wr.heap.size < g14 := by have := heap_lt Tay.out; omega
              have GS_12 := Lib.hid (S9a.out.below hb)
              have GX_12 := Lib.hid (X9a.out.below hb)
              have GY_12 := Lib.hid (Y9a.out.below hb)
              have GD_12 := Lib.hid (N9a.out.below hb)
              have GE_12 := Lib.hid (O9a.out.below hb)
              clear hW hb hd10 hd11 hd13 hd14 hg14 hge14
              change wpOps _ _ _ [15, 16] _ _
              simp only [wpOps_cons]
              simp only [wpOp, List.getElem?_toArray, List.getElem?_cons_succ, List.getElem?_cons_zero, Region.wanted, if_true]
              refine Or.inl ?_
              refine wp_append_dy (.tmp 64) (.tmp 78) rfl BB u8 LSTG jm je _ 26 1 d14 B14 rfl GE_12.out Rq14_12.out (L12.out.get (A := B14) (c := d14) (xs := digs jm.natAbs) (by simp)) rfl (by have := lbG.out; omega) (by have := GS_12.out; exact this) ?_
              intro gwb capb w9b hD9 hg9 hk9 hf9
              have N9b := Lib.hid hD9
              have O9b := Lib.hid (GD_12.out.grown J9s.out hg9 hk9)
              have J9b := Lib.hid (J9s.out.next (n := LSTG.length + 1) (cap := capb) GD_12.out hf9)
              have V9b := Lib.hid (live_grown L12.out GE_12.out xB.out hg9 hk9)
              have X9b := Lib.hid (GX_12.out.grown (GE_12.out.farb xL.out) hg9 hk9)
              have Y9b := Lib.hid (GY_12.out.grown HGY.out hg9 hk9)
              have S9b := Lib.hid (show Szw w9b BB from Nat.le_trans GS_12.out hg9.size)
              have Tbk := Lib.hid (row_grown Rk_12.out (GE_12.out.farb Bk.out) hg9)
              have Tbi := Lib.hid (row_grown Ri_12.out (GE_12.out.farb Bi.out) hg9)
              have Tbj := Lib.hid (row_grown Rj_12.out (GE_12.out.farb Bj.out) hg9)
              have Tbr := Lib.hid (row_grown Rr_12.out (GE_12.out.farb Br.out) hg9)
              have Tbx := Lib.hid (row_grown Rx_12.out HGX.out hg9)
              have Tby := Lib.hid (row_grown Ry_12.out FGY2.out hg9)
              have FX9b := Lib.hid (far_next (n := LSTG.length + 1) (cap := capb) HGX.out (heap_lt Rx_12.out) hf9)
              have FY9b := Lib.hid (far_next (n := LSTG.length + 1) (cap := capb) HGY.out GY_12.out.1 hf9)
              clear hD9 hg9 hk9 hf9
              go_simp
              try rw [wpOps_cons]
              simp only [wpOp, List.getElem?_toArray, List.getElem?_cons_succ, List.getElem?_cons_zero, Region.wanted, if_true]
              refine Or.inl ?_
              simp only [Oper.wp, execOp]
              go_simp
              try simp only [wpOps]
              have nY := OY.out.2.1
              go_wp2
              go_roundw
              case rel =>
                have e1 : (pz F Y (X.take k) ++ (Y.take (l + 1)).map (F (zm, ze))) = LSTF ++ [(fm, fe)] := by rw [TN2.out, List.map_append, List.map_cons, List.map_nil, HFZ.out, ← List.append_assoc, HLSTF.out]
                have e2 : (pz G Y (X.take k) ++ (Y.take (l + 1)).map (G (zm, ze))) = LSTG ++ [(jm, je)] := by rw [TN2.out, List.map_append, List.map_cons, List.map_nil, HGZ.out, ← List.append_assoc, HLSTG.out]
                refine ⟨l + 1, by omega, by go_num, Lib.hid (by rw [e1]; exact O9b.out), Lib.hid (by rw [e2]; exact N9b.out), Lib.hid J9b.out.symm, S9b, X9b, Y9b, FX9a, FY9a, FX9b, FY9b, Lib.hid ⟨V9b.out.1, fun t ht => V9b.out.2 t (by revert ht; simp; grind)⟩, Tbk, Tbi, Tbj, Tbr, Tbx⟩
              case measure => simp [intOf]; omega
        · obtain rfl : l = Y.length := by omega
          have nX := OX.out.2.1
          go_wp2
          go_roundw
          case rel =>
            have h1 := HD2.out
            have h2 := HE2.out
            rw [List.take_length] at h1 h2
            refine ⟨k + 1, by omega, by go_num, Lib.hid (by rw [TN.out, pz_snoc]; exact h1), Lib.hid (by rw [TN.out, pz_snoc]; exact h2), HJ2, HZ2, HRX2, Lib.hid ⟨HV2.out.1, fun t ht => HV2.out.2 t (List.mem_cons_of_mem _ ht)⟩, Uk, Ui, Uj, Ur⟩
          case measure => simp [intOf]; omega
    · obtain rfl : k = X.length := by omega
      have hDZ : Dw wr BB u7 Z := by have := HD.out; rwa [List.take_length, HZ.out] at this
      have hDV : Dw wr BB u8 V := by have := HE.out; rwa [List.take_length, HVV.out] at this
      have z0l : 0 < Z.length := (List.getElem?_eq_some_iff.1 HZ0.out).1
      have v0l : 0 < V.length := (List.getElem?_eq_some_iff.1 HV0.out).1
      obtain ⟨bz, kz, rfl, hbz, hbl, hkz, hrz⟩ := hDZ.row z0l
      obtain ⟨Aw, cw, c0, c1, c2, hdw⟩ := hrz 0 _ HZ0.out
      obtain ⟨bv, kv, rfl, hbv, hvl, hkv, hrv⟩ := hDV.row v0l
      obtain ⟨Av, cv, e0, e1, e2, hdv⟩ := hrv 0 _ HV0.out
      have RZ := Lib.hid (show Rw wr bz Z from ⟨hbl, hrz⟩)
      have RV := Lib.hid (show Rw wr bv V from ⟨hvl, hrv⟩)
      have OZ0 := Lib.hid (OZ.out z0 (List.mem_of_getElem? HZ0.out))
      have OV0 := Lib.hid (OV.out v0 (List.mem_of_getElem? HV0.out))
      have KZ := Lib.hid hkz
      have KV := Lib.hid hkv
      obtain ⟨z0m, z0e⟩ := z0
      obtain ⟨v0m, v0e⟩ := v0
      obtain ⟨l0m, l0e⟩ := l0
      obtain ⟨h0m, h0e⟩ := h0
      have P0 := Lib.hid (show Rt z0m z0e ∧ (digs z0m.natAbs).length ≤ 10000 from OZ0.out)
      have P1 := Lib.hid (show Rt v0m v0e ∧ (digs v0m.natAbs).length ≤ 10000 from OV0.out)
      dsimp only at c0 c1 c2 e0 e1 e2 hdw hdv
      simp only [Nat.zero_mul, Nat.zero_add] at c0 c1 c2 e0 e1 e2
      have HW := Lib.hid ((HV.out.add hdw).add hdv)
      have DO := Lib.hid (show DqOk Z from OZ.out)
      have DP := Lib.hid (show DqOk V from OV.out)
      have br := Br.out
      clear hdw hdv hrz hrv hkz hkv hDZ hDV OZ0 OV0
      go_upto_region 17 with fail
      have xzz := hbl
      have xzv := hvl
      have KD := Lib.hid (bd0 wr)
      have LD := ls HW KD.out
      have Mzz : bz ≠ w.heap.size + 1 + 1 := by omega
      have Mzv : bv ≠ w.heap.size + 1 + 1 := by omega
      go_region_held3 (fun w' => (∀ o, w'.cell? ⟨bz, o, none⟩ = wr.cell? ⟨bz, o, none⟩) ∧ (∀ o, w'.cell? ⟨bv, o, none⟩ = wr.cell? ⟨bv, o, none⟩))
        (first | with_reducible exact ⟨keep_b KD.out xzz, keep_b KD.out xzv⟩ | with_reducible exact ⟨keep_b K14.out xzz, keep_b K14.out xzv⟩ | with_reducible exact ⟨keep_b K15.out xzz, keep_b K15.out xzv⟩ | with_reducible exact ⟨keep_b K16.out xzz, keep_b K16.out xzv⟩ | exact ⟨(keep_set (keep_b K16.out xzz) Mzz), (keep_set (keep_b K16.out xzv) Mzv)⟩ | exact ⟨(keep_set (keep_set (keep_b K16.out xzz) Mzz) Mzz), (keep_set (keep_set (keep_b K16.out xzv) Mzv) Mzv)⟩ | exact ⟨(keep_set (keep_set (keep_set (keep_b K16.out xzz) Mzz) Mzz) Mzz), (keep_set (keep_set (keep_set (keep_b K16.out xzv) Mzv) Mzv) Mzv)⟩ | exact ⟨(keep_set (keep_set (keep_set (keep_set (keep_b K16.out xzz) Mzz) Mzz) Mzz) Mzz), (keep_set (keep_set (keep_set (keep_set (keep_b K16.out xzv) Mzv) Mzv) Mzv) Mzv)⟩ | exact ⟨(keep_set (keep_set (keep_set (keep_set (keep_set (keep_b K16.out xzz) Mzz) Mzz) Mzz) Mzz) Mzz), (keep_set (keep_set (keep_set (keep_set (keep_set (keep_b K16.out xzv) Mzv) Mzv) Mzv) Mzv) Mzv)⟩ | exact ⟨(keep_set (keep_set (keep_set (keep_set (keep_set (keep_set (keep_b K16.out xzz) Mzz) Mzz) Mzz) Mzz) Mzz) Mzz), (keep_set (keep_set (keep_set (keep_set (keep_set (keep_set (keep_b K16.out xzv) Mzv) Mzv) Mzv) Mzv) Mzv) Mzv)⟩)
        (first
          | (go_at_call 56; (with_reducible refine (least_of (LD.out.get (A := Aw) (c := cw) (xs := digs z0m.natAbs) (by simp)) P0.out.2 P0.out.1 (RZ.out.below KD.out) DO.out (by have := LZZ.out; omega) KZ.out HL0.out).mono ?_); rintro e w14 ⟨A14, c14, rfl, hd, hb⟩; (have K14 := bt KD hb); (have L14 := la LD hb hd); clear hb hd)
          | (go_at_call 57; (with_reducible refine (greatest_of (L14.out.get (A := Av) (c := cv) (xs := digs v0m.natAbs) (by simp)) P1.out.2 P1.out.1 (RV.out.below K14.out) DP.out (by have := LVV.out; omega) KV.out HH0.out).mono ?_); rintro e w15 ⟨A15, c15, rfl, hd, hb⟩; (have K15 := bt K14 hb); (have L15 := la L14 hb hd); clear hb hd)
          | (go_at_call 58; (with_reducible refine (answer_iv A14 A15 c14 c15 l0m l0e h0m h0e P g _ (L15.out.get (A := A14) (c := c14) (xs := digs l0m.natAbs) (by simp)) (L15.out.get (A := A15) (c := c15) (xs := digs h0m.natAbs) (by simp)) (cells_of Qk.out K15.out)).mono ?_); rintro e w16 ⟨A16, c16, B16, d16, rfl, hd, he, hb⟩; (have K16 := bt K15 hb); (have L16 := la2 L15 hb hd he); (have qr0_K16 := row_c (i := 0) (co Qr K16.out).out rfl); (have pr0_K16 := frozen_of_row _ _ 0 _ _ (cells_of Qr.out K16.out)); (have qr1_K16 := row_c (i := 1) (co Qr K16.out).out rfl); (have pr1_K16 := frozen_of_row _ _ 1 _ _ (cells_of Qr.out K16.out)); (have qr2_K16 := row_c (i := 2) (co Qr K16.out).out rfl); (have pr2_K16 := frozen_of_row _ _ 2 _ _ (cells_of Qr.out K16.out)); (have qr3_K16 := row_c (i := 3) (co Qr K16.out).out rfl); (have pr3_K16 := frozen_of_row _ _ 3 _ _ (cells_of Qr.out K16.out)); (have qr4_K16 := row_c (i := 4) (co Qr K16.out).out rfl); (have pr4_K16 := frozen_of_row _ _ 4 _ _ (cells_of Qr.out K16.out)); (have qr5_K16 := row_c (i := 5) (co Qr K16.out).out rfl); (have pr5_K16 := frozen_of_row _ _ 5 _ _ (cells_of Qr.out K16.out)); clear hb hd he))
      rename_i hHeld
      clear hHeld
      have Rk_16 := co Qk K16.out
      have Ri_16 := co Qi K16.out
      have Rj_16 := co Qj K16.out
      have Rr_16 := co Qr K16.out
      have Rzz_16 := co Qr K16.out
      have Rzv_16 := co Qr K16.out
      obtain ⟨fr0, zr0, fr1, zr1, fr2, zr2, fr3, zr3, fr4, zr4, fr5, zr5, xr⟩ := ly6 Rr_16.out
      go_wp2
      refine bodyPost_ret (v := .agg #[.bool (decide (l0m < 0)), .slice A16 (digs l0m.natAbs).length c16, .int .i64 l0e, .bool (decide (h0m < 0)), .slice B16 (digs h0m.natAbs).length d16, .int .i64 h0e]) (by simp [results, Tryz.results24, go_sem, fr0, fr1, fr2, fr3, fr4, fr5]) rfl ?_
      
      refine ⟨A16, c16, B16, d16, rfl, ?_, ?_, ?_⟩
      · exact (fin6 L16.out Rr_16.out noint_iv Gr).get (A := A16) (c := c16) (xs := digs l0m.natAbs) (by simp)
      · exact (fin6 L16.out Rr_16.out noint_iv Gr).get (A := B16) (c := d16) (xs := digs h0m.natAbs) (by simp)
      · exact (fin6 L16.out Rr_16.out noint_iv Gr).1
end Go.Proofs.YtijodbjdajddoaaGreatDoor
end

section
/-
  iv: stretches, and what is reckoned of them: plain.
-/
namespace Go.Proofs.YtijodbjdajddoaaGreatDoor
open Go.RowKit
set_option linter.unusedSimpArgs false
set_option linter.unusedVariables false
/-- A number: its M, its exponent; a stretch of them. -/
abbrev Qn := Int × Int
def qr (a : Qn) : Rat := dv a.1 a.2
structure St where
  lo : Qn
  hi : Qn
/-- A number is right, and in range. -/
def Qo (a : Qn) : Prop := Nf a.1 a.2 ∧ inR a.1 a.2 = true
def So (s : St) : Prop := Qo s.lo ∧ Qo s.hi ∧ qr s.lo ≤ qr s.hi
def Qb (L H : Int) (a : Qn) : Prop := Bd L H a.1 a.2
def Sb (L H : Int) (s : St) : Prop := Qb L H s.lo ∧ Qb L H s.hi ∧ qr s.lo ≤ qr s.hi
def IsQ (r : Rat) (a : Qn) : Prop := IsD r a.1 a.2
def RdQ (r : Rat) (p : Nat) (up : Bool) (a : Qn) : Prop := RdOf r p up a.1 a.2
def RsQ (r : Rat) (p : Nat) (up : Bool) (a : Qn) : Prop := RsOf r p up a.1 a.2
def negQ (a : Qn) : Qn := (-a.1, a.2)
def NegS (s : St) : St := ⟨negQ s.hi, negQ s.lo⟩
theorem Qb.ok {L H : Int} {a : Qn} (h : Qb L H a) (hL : -65536 ≤ L) (hH : H ≤ 65536) : Qo a := ⟨h.1, Bd.inR h hL hH⟩
theorem Sb.ok {L H : Int} {s : St} (h : Sb L H s) (hL : -65536 ≤ L) (hH : H ≤ 65536) : So s := ⟨h.1.ok hL hH, h.2.1.ok hL hH, h.2.2⟩
theorem Qb.mono {L H L' H' : Int} {a : Qn} (h : Qb L H a) (hL : L' ≤ L) (hH : H ≤ H') : Qb L' H' a := Bd.mono h hL hH
theorem Sb.mono {L H L' H' : Int} {s : St} (h : Sb L H s) (hL : L' ≤ L) (hH : H ≤ H') : Sb L' H' s := ⟨h.1.mono hL hH, h.2.1.mono hL hH, h.2.2⟩
theorem qr_neg (a : Qn) : qr (negQ a) = -qr a := dv_neg _ _
theorem negQ_negQ (a : Qn) : negQ (negQ a) = a := by unfold negQ; simp
theorem NegS_NegS (s : St) : NegS (NegS s) = s := by unfold NegS; simp [negQ_negQ]
theorem nf_neg {m e : Int} (h : Nf m e) : Nf (-m) e := by
  rcases h with h | h
  · exact .inl ⟨by omega, h.2⟩
  · exact .inr (by omega)
theorem Qb.neg {L H : Int} {a : Qn} (h : Qb L H a) : Qb L H (negQ a) := bd_neg h
theorem Sb.neg {L H : Int} {s : St} (h : Sb L H s) : Sb L H (NegS s) := ⟨h.2.1.neg, h.1.neg, by unfold NegS; rw [qr_neg, qr_neg]; have := h.2.2; grind⟩
theorem inR_neg (m e : Int) : inR (-m) e = inR m e := by
  have : bl (-m) = bl m := by unfold bl; rw [Int.natAbs_neg]
  unfold inR; rw [this]; congr 1; simp
theorem Qo.neg {a : Qn} (h : Qo a) : Qo (negQ a) := ⟨nf_neg h.1, by show inR (-a.1) a.2 = true; rw [inR_neg]; exact h.2⟩
theorem So.neg {s : St} (h : So s) : So (NegS s) := ⟨h.2.1.neg, h.1.neg, by unfold NegS; rw [qr_neg, qr_neg]; have := h.2.2; grind⟩
theorem qn_inj {a b : Qn} (h : Nf a.1 a.2) (h' : Nf b.1 b.2) (hv : qr a = qr b) : a = b := by
  have := nf_inj h h' hv
  exact Prod.ext this.1 this.2
theorem rd_neg {r : Rat} {p : Nat} {up : Bool} {a : Qn} (h : RdQ r p up a) : RdQ (-r) p (!up) (negQ a) := by
  refine ⟨nf_neg h.1, ?_⟩
  rcases h.2 with h0 | ⟨s, t, h1, h2, h3⟩
  · left; exact ⟨by rw [h0.1]; grind, by show -a.1 = 0; rw [h0.2]; rfl⟩
  · right
    refine ⟨s, -t, ?_, h2.neg, ?_⟩
    · unfold Sz at *; rw [Rat.abs_neg]; exact h1
    · show dv (-a.1) a.2 = _; rw [dv_neg, dv_neg, h3]
theorem rd_nf {r : Rat} {p : Nat} {up : Bool} {a : Qn} (h : RdQ r p up a) : Nf a.1 a.2 := h.1
theorem rd_uniq {r : Rat} {p : Nat} {up : Bool} {a b : Qn} (h : RdQ r p up a) (h' : RdQ r p up b) : a = b := by
  have := RdOf.uniq h h'; exact Prod.ext this.1 this.2
theorem isq_uniq {r : Rat} {a b : Qn} (h : IsQ r a) (h' : IsQ r b) : a = b := by
  have := IsD.uniq h h'; exact Prod.ext this.1 this.2
theorem rd_le {r : Rat} {p : Nat} {a : Qn} (h : RdQ r p false a) : qr a ≤ r := RdOf.le h
theorem rd_ge {r : Rat} {p : Nat} {a : Qn} (h : RdQ r p true a) : r ≤ qr a := RdOf.ge h
theorem rle_abs (x : Rat) : x ≤ x.abs := by
  rcases Classical.em (x < 0) with h | h
  · rw [Rat.abs_of_nonpos (by grind)]; grind
  · rw [Rat.abs_of_nonneg (by grind)]; exact Rat.le_refl
/-- Nothing of so few bits lies between a number and what it is rounded down to. -/
theorem rd_greatest {r : Rat} {p : Nat} {a b : Qn} (h1 : 1 ≤ p) (h : RdQ r p false a) (hb : bl b.1 ≤ p) (hn : Nf b.1 b.2) (hle : qr b ≤ r) : qr b ≤ qr a := by
  rcases h.2 with ⟨h0, h0'⟩ | ⟨s, t, hs, hr, hv⟩
  · unfold qr at *; rw [h0', dv_zero]; rw [h0] at hle; exact hle
  · by_cases hb0 : b.1 = 0
    · have e0 : qr b = 0 := by unfold qr; rw [hb0, dv_zero]
      rw [e0] at hle ⊢
      show 0 ≤ dv a.1 a.2
      rw [hv, dv_nonneg]
      have hlt : r < dv (t + 1) s := hr.2
      have : (0 : Rat) < dv (t + 1) s := by grind
      have := dv_pos.1 this
      omega
    · apply Classical.byContradiction
      intro hlt
      have hlt : qr a < qr b := by grind
      unfold qr at hlt hle
      rw [hv] at hlt
      have h2 : r < dv (t + 1) s := hr.2
      rcases (by omega : b.2 < s ∨ s ≤ b.2) with hbs | hbs
      · -- b is a finer number: so its size is less
        have hsz := sz_dv (m := b.1) (e := b.2) hb0
        have hlt1 : (dv b.1 b.2).abs < 2 ^ (s + p - 1) := by
          have h3 : (dv b.1 b.2).abs < 2 ^ (b.2 + bl b.1) := hsz.2
          have h4 : (2 : Rat) ^ (b.2 + bl b.1) ≤ 2 ^ (s + p - 1) := zpow_le.2 (by omega)
          exact rlt_le h3 h4
        have hra : (2 : Rat) ^ (s + p - 1) ≤ r.abs := hs.1
        have hpos := zpow_pos (s + p - 1)
        rcases Classical.em (r < 0) with hneg | hpos'
        · have e1 : r.abs = -r := Rat.abs_of_nonpos (by grind)
          have e2 : (dv b.1 b.2).abs = -dv b.1 b.2 := Rat.abs_of_nonpos (by grind)
          rw [e1] at hra; rw [e2] at hlt1
          grind
        · have e1 : r.abs = r := Rat.abs_of_nonneg (by grind)
          rw [e1] at hra
          have ht : (2 : Rat) ^ (s + p - 1) ≤ dv t s := by
            have e3 : dv (2 ^ (p - 1) : Int) s = 2 ^ (s + p - 1) := by
              rw [dv_two]; congr 1; omega
            rw [← e3] at hra ⊢
            rw [dv_le]
            have := rlt_le (rle_lt hra h2) (Rat.le_refl)
            have := dv_lt.1 this
            omega
          have h5 : dv b.1 b.2 ≤ (dv b.1 b.2).abs := rle_abs _
          grind
      · rw [dv_down hbs] at hlt hle
        have := dv_lt.1 hlt
        have h6 := dv_lt.1 (rle_lt hle h2)
        omega
theorem rd_mono {r q : Rat} {p : Nat} {up : Bool} {a b : Qn} (h1 : 1 ≤ p) (h : RdQ r p up a) (h' : RdQ q p up b) (hle : r ≤ q) : qr a ≤ qr b := by
  cases up
  · exact rd_greatest h1 h' (RdOf.bits h1 h) h.1 (Rat.le_trans (rd_le h) hle)
  · have := rd_greatest h1 (rd_neg h) (b := negQ b) (by have := RdOf.bits h1 (rd_neg h'); exact this) (nf_neg h'.1) (by rw [qr_neg]; have := rd_ge h'; grind)
    rw [qr_neg, qr_neg] at this
    grind

/-- What a calculator of precision p reckons: sum, difference, and so on. -/
def AddR (p : Nat) (s t r : St) : Prop := ∃ a b : Qn, IsQ (qr s.lo + qr t.lo) a ∧ Qo a ∧ IsQ (qr s.hi + qr t.hi) b ∧ Qo b ∧ RdQ (qr a) p false r.lo ∧ Qo r.lo ∧ RdQ (qr b) p true r.hi ∧ Qo r.hi
def WideR (p : Nat) (s : St) (d : Qn) (r : St) : Prop := 0 ≤ d.1 ∧ ∃ a b : Qn, IsQ (qr s.lo - qr d) a ∧ Qo a ∧ IsQ (qr s.hi + qr d) b ∧ Qo b ∧ RdQ (qr a) p false r.lo ∧ Qo r.lo ∧ RdQ (qr b) p true r.hi ∧ Qo r.hi
def OutR (p : Nat) (s r : St) : Prop := RdQ (qr s.lo) p false r.lo ∧ Qo r.lo ∧ RdQ (qr s.hi) p true r.hi ∧ Qo r.hi
def ScaleR (n : Int) (s r : St) : Prop := IsQ (qr s.lo * 2 ^ n) r.lo ∧ Qo r.lo ∧ IsQ (qr s.hi * 2 ^ n) r.hi ∧ Qo r.hi
def SqrtR (p : Nat) (s r : St) : Prop := 0 ≤ s.lo.1 ∧ 0 ≤ s.hi.1 ∧ RsQ (qr s.lo) p false r.lo ∧ Qo r.lo ∧ RsQ (qr s.hi) p true r.hi ∧ Qo r.hi
def MidR (p : Nat) (s : St) (m : Qn) : Prop := ∃ a b : Qn, IsQ (qr s.lo + qr s.hi) a ∧ Qo a ∧ IsQ (qr a * 2 ^ (-1 : Int)) b ∧ Qo b ∧ RdQ (qr b) p false m ∧ Qo m
/-- The product of two numbers, in their form. -/
def mulF (a b : Qn) : Qn := (nm (a.1 * b.1), nx (a.1 * b.1) (a.2 + b.2))
theorem mulF_is (a b : Qn) : IsQ (qr a * qr b) (mulF a b) := by
  unfold qr; rw [dv_mul]; exact isD_n _ _
def ends (s : St) : List Qn := endsL s.lo.1 s.lo.2 s.hi.1 s.hi.2
theorem mem_ends {s : St} {x : Qn} (h : x ∈ ends s) : x = s.lo ∨ x = s.hi := by
  unfold ends endsL at h
  split at h
  · simp at h; exact .inl h
  · simp at h; exact h
theorem lo_ends (s : St) : s.lo ∈ ends s := by
  unfold ends endsL; split <;> simp
theorem hi_ends (s : St) : ∃ x ∈ ends s, qr x = qr s.hi := by
  unfold ends endsL; split
  · rename_i h; exact ⟨_, List.mem_singleton.2 rfl, h⟩
  · exact ⟨s.hi, by simp, rfl⟩
theorem snoc_ind {α : Type} {P : List α → Prop} (h0 : P []) (h1 : ∀ L x, P L → P (L ++ [x])) (L : List α) : P L := by
  have : ∀ n : Nat, ∀ L : List α, L.length = n → P L := by
    intro n
    induction n with
    | zero => intro L hL; rw [List.length_eq_zero_iff.1 hL]; exact h0
    | succ n ih =>
      intro L hL
      have hne : L ≠ [] := by intro e; rw [e] at hL; simp at hL
      rw [← List.dropLast_concat_getLast hne]
      exact h1 _ _ (ih _ (by simp [hL]))
  exact this _ L rfl
theorem lst_le (z : Int × Int) : ∀ L : List (Int × Int), qr (lst z L) ≤ qr z ∧ ∀ x ∈ L, qr (lst z L) ≤ qr x := by
  intro L
  refine snoc_ind (P := fun L => qr (lst z L) ≤ qr z ∧ ∀ x ∈ L, qr (lst z L) ≤ qr x) ⟨Rat.le_refl, fun x hx => by simp at hx⟩ (fun L x ih => ?_) L
  · show qr (lst z (L ++ [x])) ≤ qr z ∧ ∀ y ∈ L ++ [x], qr (lst z (L ++ [x])) ≤ qr y
    rw [lst_snoc]
    unfold qr at *
    split
    · rename_i h
      refine ⟨by have := ih.1; grind, fun y hy => ?_⟩
      rcases List.mem_append.1 hy with hy | hy
      · have := ih.2 y hy; grind
      · simp at hy; subst hy; exact Rat.le_refl
    · rename_i h
      refine ⟨ih.1, fun y hy => ?_⟩
      rcases List.mem_append.1 hy with hy | hy
      · exact ih.2 y hy
      · simp at hy; subst hy; grind
theorem le_gst (z : Int × Int) : ∀ L : List (Int × Int), qr z ≤ qr (gst z L) ∧ ∀ x ∈ L, qr x ≤ qr (gst z L) := by
  intro L
  refine snoc_ind (P := fun L => qr z ≤ qr (gst z L) ∧ ∀ x ∈ L, qr x ≤ qr (gst z L)) ⟨Rat.le_refl, fun x hx => by simp at hx⟩ (fun L x ih => ?_) L
  · show qr z ≤ qr (gst z (L ++ [x])) ∧ ∀ y ∈ L ++ [x], qr y ≤ qr (gst z (L ++ [x]))
    rw [gst_snoc]
    unfold qr at *
    split
    · rename_i h
      refine ⟨by have := ih.1; grind, fun y hy => ?_⟩
      rcases List.mem_append.1 hy with hy | hy
      · have := ih.2 y hy; grind
      · simp at hy; subst hy; exact Rat.le_refl
    · rename_i h
      refine ⟨ih.1, fun y hy => ?_⟩
      rcases List.mem_append.1 hy with hy | hy
      · exact ih.2 y hy
      · simp at hy; subst hy; grind
/-- The least and the greatest of what F makes of the ends. -/
def lowF (F : Qn → Qn → Qn) (s t : St) : Qn := lst (F s.lo t.lo) (pz F (ends t) (ends s))
def highF (F : Qn → Qn → Qn) (s t : St) : Qn := gst (F s.lo t.lo) (pz F (ends t) (ends s))
theorem pz_in {F : Qn → Qn → Qn} {Y l : List Qn} {r q : Qn} (hr : r ∈ l) (hq : q ∈ Y) : F r q ∈ pz F Y l := by
  unfold pz; exact List.mem_flatMap.2 ⟨r, hr, List.mem_map.2 ⟨q, hq, rfl⟩⟩
theorem pz_head (F : Qn → Qn → Qn) (s t : St) : (pz F (ends t) (ends s))[0]? = some (F s.lo t.lo) := by
  unfold ends endsL pz
  split <;> split <;> simp
theorem lowF_mem (F : Qn → Qn → Qn) (s t : St) : ∃ r ∈ ends s, ∃ q ∈ ends t, lowF F s t = F r q := by
  rcases lst_mem (F s.lo t.lo) (pz F (ends t) (ends s)) with h | h
  · exact ⟨_, lo_ends s, _, lo_ends t, h⟩
  · obtain ⟨r, hr, q, hq, e⟩ := mem_pz h
    exact ⟨r, hr, q, hq, e.symm⟩
theorem highF_mem (F : Qn → Qn → Qn) (s t : St) : ∃ r ∈ ends s, ∃ q ∈ ends t, highF F s t = F r q := by
  rcases gst_mem (F s.lo t.lo) (pz F (ends t) (ends s)) with h | h
  · exact ⟨_, lo_ends s, _, lo_ends t, h⟩
  · obtain ⟨r, hr, q, hq, e⟩ := mem_pz h
    exact ⟨r, hr, q, hq, e.symm⟩
theorem lowF_le (F : Qn → Qn → Qn) (s t : St) {r q : Qn} (hr : r ∈ ends s) (hq : q ∈ ends t) : qr (lowF F s t) ≤ qr (F r q) := (lst_le _ _).2 _ (pz_in hr hq)
theorem le_highF (F : Qn → Qn → Qn) (s t : St) {r q : Qn} (hr : r ∈ ends s) (hq : q ∈ ends t) : qr (F r q) ≤ qr (highF F s t) := (le_gst _ _).2 _ (pz_in hr hq)
def MulR (p : Nat) (s t r : St) : Prop := (∀ x ∈ ends s, ∀ y ∈ ends t, Qo (mulF x y)) ∧ RdQ (qr (lowF mulF s t)) p false r.lo ∧ Qo r.lo ∧ RdQ (qr (highF mulF s t)) p true r.hi ∧ Qo r.hi
/-- The quotient of two numbers, rounded. -/
def divF (p : Nat) (up : Bool) (a b : Qn) : Qn := if a.1 = 0 then (0, 0) else
  let k := p + blen b.1.natAbs
  let neg := decide (a.1 < 0) != decide (b.1 < 0)
  let q := a.1.natAbs * 2 ^ k / b.1.natAbs
  let z := sg neg (kept q p (decide (a.1.natAbs * 2 ^ k % b.1.natAbs ≠ 0)) (up != neg))
  (nm z, nx z (a.2 - b.2 - k + (blen q - p : Nat)))
theorem divF_rd {p : Nat} (h1 : 1 ≤ p) (up : Bool) (a b : Qn) (hb : b.1 ≠ 0) : RdQ (qr a / qr b) p up (divF p up a b) := by
  unfold divF
  split
  · rename_i h
    have e : qr a / qr b = 0 := by unfold qr; rw [h, dv_zero, Rat.div_def, Rat.zero_mul]
    rw [e]
    exact ⟨.inl ⟨rfl, rfl⟩, .inl ⟨rfl, rfl⟩⟩
  · rename_i h
    exact (div_kept (k := p + blen b.1.natAbs) (up := up) (x := a.2) (y := b.2) h hb h1 (by omega) rfl).2
def NoZero (t : St) : Prop := ¬ (qr t.lo ≤ 0 ∧ 0 ≤ qr t.hi)
def DivR (p : Nat) (s t r : St) : Prop := NoZero t ∧ (∀ x ∈ ends s, ∀ y ∈ ends t, Qo (divF p false x y) ∧ Qo (divF p true x y)) ∧ r.lo = lowF (divF p false) s t ∧ r.hi = highF (divF p true) s t

/-- A number lies in a stretch. -/
def Ins (x : Rat) (s : St) : Prop := qr s.lo ≤ x ∧ x ≤ qr s.hi
theorem lin_ge {a b x y L : Rat} (h1 : a ≤ x) (h2 : x ≤ b) (ha : L ≤ a * y) (hb : L ≤ b * y) : L ≤ x * y := by
  rcases Classical.em (0 ≤ y) with h | h
  · exact Rat.le_trans ha (Rat.mul_le_mul_of_nonneg_right h1 h)
  · have := Rat.mul_le_mul_of_nonneg_right h2 (c := -y) (by grind)
    grind
theorem lin_le {a b x y L : Rat} (h1 : a ≤ x) (h2 : x ≤ b) (ha : a * y ≤ L) (hb : b * y ≤ L) : x * y ≤ L := by
  have := lin_ge (y := -y) (L := -L) h1 h2 (by grind) (by grind)
  grind
theorem bil_ge {a b c d x y L : Rat} (h1 : a ≤ x) (h2 : x ≤ b) (h3 : c ≤ y) (h4 : y ≤ d) (k1 : L ≤ a * c) (k2 : L ≤ a * d) (k3 : L ≤ b * c) (k4 : L ≤ b * d) : L ≤ x * y := by
  refine lin_ge h1 h2 ?_ ?_
  · have := lin_ge (y := a) (L := L) h3 h4 (by grind) (by grind); grind
  · have := lin_ge (y := b) (L := L) h3 h4 (by grind) (by grind); grind
theorem bil_le {a b c d x y L : Rat} (h1 : a ≤ x) (h2 : x ≤ b) (h3 : c ≤ y) (h4 : y ≤ d) (k1 : a * c ≤ L) (k2 : a * d ≤ L) (k3 : b * c ≤ L) (k4 : b * d ≤ L) : x * y ≤ L := by
  have := bil_ge (x := -x) (a := -b) (b := -a) (L := -L) (y := y) (c := c) (d := d) (by grind) (by grind) h3 h4 (by grind) (by grind) (by grind) (by grind)
  grind
theorem isQ_add (a b : Qn) : ∃ c : Qn, IsQ (qr a + qr b) c := by
  obtain ⟨M, E, h⟩ := isD_add a.1 a.2 b.1 b.2; exact ⟨(M, E), h⟩
theorem isQ_sub (a b : Qn) : ∃ c : Qn, IsQ (qr a - qr b) c := by
  obtain ⟨M, E, h⟩ := isD_sub a.1 a.2 b.1 b.2; exact ⟨(M, E), h⟩
theorem isQ_scale (a : Qn) (n : Int) : ∃ c : Qn, IsQ (qr a * 2 ^ n) c := by
  obtain ⟨M, E, h⟩ := isD_ex a.1 (a.2 + n); exact ⟨(M, E), by unfold IsQ qr; rw [← dv_scale]; exact h⟩
theorem rd_ex {L H : Int} {a : Qn} (h : Qb L H a) {p : Nat} (h1 : 1 ≤ p) (up : Bool) : ∃ c : Qn, RdQ (qr a) p up c ∧ Qb (L - p) (H + 1) c := by
  obtain ⟨M, E, hr⟩ := rd_exists a.1 a.2 h.1 p up h1
  exact ⟨(M, E), hr, Bd.round h1 h hr⟩
theorem Qb.add {L H : Int} {a b c : Qn} (h : Qb L H a) (h' : Qb L H b) (hc : IsQ (qr a + qr b) c) : Qb L (H + 1) c := Bd.add h h' hc
theorem Qb.sub {L H : Int} {a b c : Qn} (h : Qb L H a) (h' : Qb L H b) (hc : IsQ (qr a - qr b) c) : Qb L (H + 1) c := Bd.sub h h' hc
theorem Qb.scale {L H n : Int} {a c : Qn} (h : Qb L H a) (hc : IsQ (qr a * 2 ^ n) c) : Qb (L + n) (H + n) c :=
  Bd.scale (n := n) h (by unfold IsQ qr at hc; rw [← dv_scale] at hc; exact hc)
theorem Qb.mul {L H L' H' : Int} {a b c : Qn} (h : Qb L H a) (h' : Qb L' H' b) (hc : IsQ (qr a * qr b) c) : Qb (L + L') (H + H') c := Bd.mul h h' hc
theorem isq_v {r : Rat} {a : Qn} (h : IsQ r a) : qr a = r := h.2
theorem add_ex {L H : Int} {s t : St} {p : Nat} (h1 : 1 ≤ p) (hs : Sb L H s) (ht : Sb L H t) (hL : -65536 ≤ L - p) (hH : H + 2 ≤ 65536) :
    ∃ r, AddR p s t r ∧ Sb (L - p) (H + 2) r ∧ qr r.lo ≤ qr s.lo + qr t.lo ∧ qr s.hi + qr t.hi ≤ qr r.hi := by
  obtain ⟨a, ha⟩ := isQ_add s.lo t.lo
  obtain ⟨b, hb⟩ := isQ_add s.hi t.hi
  have ba := hs.1.add ht.1 ha
  have bb := hs.2.1.add ht.2.1 hb
  obtain ⟨c, hc, bc⟩ := rd_ex ba h1 false
  obtain ⟨d, hd, bd⟩ := rd_ex bb h1 true
  have e1 := rd_le hc
  have e2 := rd_ge hd
  rw [isq_v ha] at e1
  rw [isq_v hb] at e2
  have o1 := hs.2.2
  have o2 := ht.2.2
  refine ⟨⟨c, d⟩, ⟨a, b, ha, ba.ok (by omega) (by omega), hb, bb.ok (by omega) (by omega), hc, bc.ok (by omega) (by omega), hd, bd.ok (by omega) (by omega)⟩, ⟨bc.mono (by omega) (by omega), bd.mono (by omega) (by omega), ?_⟩, e1, e2⟩
  show qr c ≤ qr d
  grind
theorem wide_ex {L H : Int} {s : St} {d : Qn} {p : Nat} (h1 : 1 ≤ p) (hs : Sb L H s) (hd : Qb L H d) (d0 : 0 ≤ d.1) (hL : -65536 ≤ L - p) (hH : H + 2 ≤ 65536) :
    ∃ r, WideR p s d r ∧ Sb (L - p) (H + 2) r ∧ qr r.lo ≤ qr s.lo - qr d ∧ qr s.hi + qr d ≤ qr r.hi := by
  obtain ⟨a, ha⟩ := isQ_sub s.lo d
  obtain ⟨b, hb⟩ := isQ_add s.hi d
  have ba := hs.1.sub hd ha
  have bb := hs.2.1.add hd hb
  obtain ⟨c, hc, bc⟩ := rd_ex ba h1 false
  obtain ⟨e, he, be⟩ := rd_ex bb h1 true
  have e1 := rd_le hc
  have e2 := rd_ge he
  rw [isq_v ha] at e1
  rw [isq_v hb] at e2
  have o1 := hs.2.2
  have o2 : 0 ≤ qr d := dv_nonneg.2 d0
  refine ⟨⟨c, e⟩, ⟨d0, a, b, ha, ba.ok (by omega) (by omega), hb, bb.ok (by omega) (by omega), hc, bc.ok (by omega) (by omega), he, be.ok (by omega) (by omega)⟩, ⟨bc.mono (by omega) (by omega), be.mono (by omega) (by omega), ?_⟩, e1, e2⟩
  show qr c ≤ qr e
  grind
theorem out_ex {L H : Int} {s : St} {p : Nat} (h1 : 1 ≤ p) (hs : Sb L H s) (hL : -65536 ≤ L - p) (hH : H + 1 ≤ 65536) :
    ∃ r, OutR p s r ∧ Sb (L - p) (H + 1) r ∧ qr r.lo ≤ qr s.lo ∧ qr s.hi ≤ qr r.hi := by
  obtain ⟨c, hc, bc⟩ := rd_ex hs.1 h1 false
  obtain ⟨e, he, be⟩ := rd_ex hs.2.1 h1 true
  have e1 := rd_le hc
  have e2 := rd_ge he
  have o1 := hs.2.2
  refine ⟨⟨c, e⟩, ⟨hc, bc.ok (by omega) (by omega), he, be.ok (by omega) (by omega)⟩, ⟨bc, be, ?_⟩, e1, e2⟩
  show qr c ≤ qr e
  grind
theorem pow_nonneg (n : Int) : (0 : Rat) ≤ 2 ^ n := by have := zpow_pos n; grind
theorem scale_ex {L H n : Int} {s : St} (hs : Sb L H s) (hL : -65536 ≤ L + n) (hH : H + n ≤ 65536) :
    ∃ r, ScaleR n s r ∧ Sb (L + n) (H + n) r := by
  obtain ⟨a, ha⟩ := isQ_scale s.lo n
  obtain ⟨b, hb⟩ := isQ_scale s.hi n
  have ba := hs.1.scale ha
  have bb := hs.2.1.scale hb
  refine ⟨⟨a, b⟩, ⟨ha, ba.ok (by omega) (by omega), hb, bb.ok (by omega) (by omega)⟩, ⟨ba, bb, ?_⟩⟩
  show qr a ≤ qr b
  rw [isq_v ha, isq_v hb]
  exact Rat.mul_le_mul_of_nonneg_right hs.2.2 (pow_nonneg n)
theorem mid_ex {L H : Int} {s : St} {p : Nat} (h1 : 1 ≤ p) (hs : Sb L H s) (hL : -65536 ≤ L - 1 - p) (hH : H + 2 ≤ 65536) :
    ∃ m, MidR p s m ∧ Qb (L - 1 - p) (H + 1) m ∧ RdQ ((qr s.lo + qr s.hi) / 2) p false m := by
  obtain ⟨a, ha⟩ := isQ_add s.lo s.hi
  have ba := hs.1.add hs.2.1 ha
  obtain ⟨b, hb⟩ := isQ_scale a (-1)
  have bb := ba.scale hb
  obtain ⟨m, hm, bm⟩ := rd_ex bb h1 false
  refine ⟨m, ⟨a, b, ha, ba.ok (by omega) (by omega), hb, bb.ok (by omega) (by omega), hm, bm.ok (by omega) (by omega)⟩, bm.mono (by omega) (by omega), ?_⟩
  rw [isq_v hb, isq_v ha] at hm
  have e : (qr s.lo + qr s.hi) * 2 ^ (-1 : Int) = (qr s.lo + qr s.hi) / 2 := by
    rw [Rat.div_def]; congr 1
  rw [← e]; exact hm
theorem mul_ex {L H L' H' : Int} {s t : St} {p : Nat} (h1 : 1 ≤ p) (hs : Sb L H s) (ht : Sb L' H' t) (hL : -65536 ≤ L + L' - p) (hH : H + H' + 1 ≤ 65536) :
    ∃ r, MulR p s t r ∧ Sb (L + L' - p) (H + H' + 1) r ∧ (∀ x y, Ins x s → Ins y t → Ins (x * y) r) := by
  have be : ∀ x ∈ ends s, Qb L H x := fun x hx => by rcases mem_ends hx with rfl | rfl; exact hs.1; exact hs.2.1
  have bf : ∀ y ∈ ends t, Qb L' H' y := fun y hy => by rcases mem_ends hy with rfl | rfl; exact ht.1; exact ht.2.1
  have bm : ∀ x ∈ ends s, ∀ y ∈ ends t, Qb (L + L') (H + H') (mulF x y) := fun x hx y hy => (be x hx).mul (bf y hy) (mulF_is x y)
  obtain ⟨x1, hx1, y1, hy1, e1⟩ := lowF_mem mulF s t
  obtain ⟨x2, hx2, y2, hy2, e2⟩ := highF_mem mulF s t
  have bl1 : Qb (L + L') (H + H') (lowF mulF s t) := by rw [e1]; exact bm _ hx1 _ hy1
  have bl2 : Qb (L + L') (H + H') (highF mulF s t) := by rw [e2]; exact bm _ hx2 _ hy2
  obtain ⟨c, hc, bc⟩ := rd_ex bl1 h1 false
  obtain ⟨d, hd, bd⟩ := rd_ex bl2 h1 true
  have g1 := rd_le hc
  have g2 := rd_ge hd
  have low : ∀ x ∈ ends s, ∀ y ∈ ends t, qr c ≤ qr x * qr y := fun x hx y hy => by
    have := lowF_le mulF s t hx hy; rw [isq_v (mulF_is x y)] at this; exact Rat.le_trans g1 this
  have high : ∀ x ∈ ends s, ∀ y ∈ ends t, qr x * qr y ≤ qr d := fun x hx y hy => by
    have := le_highF mulF s t hx hy; rw [isq_v (mulF_is x y)] at this; exact Rat.le_trans this g2
  obtain ⟨u, hu, eu⟩ := hi_ends s
  obtain ⟨v, hv, ev⟩ := hi_ends t
  have enc : ∀ x y, Ins x s → Ins y t → Ins (x * y) ⟨c, d⟩ := fun x y hx hy => by
    constructor
    · exact bil_ge hx.1 hx.2 hy.1 hy.2 (low _ (lo_ends s) _ (lo_ends t)) (by rw [← ev]; exact low _ (lo_ends s) _ hv) (by rw [← eu]; exact low _ hu _ (lo_ends t)) (by rw [← eu, ← ev]; exact low _ hu _ hv)
    · exact bil_le hx.1 hx.2 hy.1 hy.2 (high _ (lo_ends s) _ (lo_ends t)) (by rw [← ev]; exact high _ (lo_ends s) _ hv) (by rw [← eu]; exact high _ hu _ (lo_ends t)) (by rw [← eu, ← ev]; exact high _ hu _ hv)
  refine ⟨⟨c, d⟩, ⟨fun x hx y hy => (bm x hx y hy).ok (by omega) (by omega), hc, bc.ok (by omega) (by omega), hd, bd.ok (by omega) (by omega)⟩, ⟨bc, bd, ?_⟩, enc⟩
  have := enc _ _ ⟨Rat.le_refl, hs.2.2⟩ ⟨Rat.le_refl, ht.2.2⟩
  exact Rat.le_trans this.1 this.2

theorem rinv_pos {a : Rat} (h : 0 < a) : 0 < a⁻¹ := Rat.inv_pos.2 h
theorem rinv_anti {a b : Rat} (ha : 0 < a) (hab : a ≤ b) : b⁻¹ ≤ a⁻¹ := by
  have hb : 0 < b := by grind
  have h1 : a * a⁻¹ = 1 := Rat.mul_inv_cancel _ (by grind)
  have h2 : b * b⁻¹ = 1 := Rat.mul_inv_cancel _ (by grind)
  have h3 := Rat.mul_le_mul_of_nonneg_right (c := a⁻¹ * b⁻¹) hab (by have := Rat.mul_pos (rinv_pos ha) (rinv_pos hb); grind)
  have e1 : a * (a⁻¹ * b⁻¹) = b⁻¹ := by rw [← Rat.mul_assoc, h1, Rat.one_mul]
  have e2 : b * (a⁻¹ * b⁻¹) = a⁻¹ := by rw [Rat.mul_comm a⁻¹, ← Rat.mul_assoc, h2, Rat.one_mul]
  rw [e1, e2] at h3; exact h3
theorem rinv_neg (a : Rat) : (-a)⁻¹ = -a⁻¹ := by
  rcases Classical.em (a = 0) with h | h
  · subst h; decide +kernel
  · have h1 : a * a⁻¹ = 1 := Rat.mul_inv_cancel _ h
    have h2 : (-a) * (-a)⁻¹ = 1 := Rat.mul_inv_cancel _ (by grind)
    have h3 : (-a)⁻¹ = (-a)⁻¹ * (a * a⁻¹) := by rw [h1, Rat.mul_one]
    have h4 : (-a)⁻¹ * (a * a⁻¹) = -(((-a) * (-a)⁻¹) * a⁻¹) := by grind
    rw [h3, h4, h2, Rat.one_mul]
/-- Inverses of a stretch without nought stand the other way round. -/
theorem inv_between {c d y : Rat} (h : ¬ (c ≤ 0 ∧ 0 ≤ d)) (h1 : c ≤ y) (h2 : y ≤ d) : d⁻¹ ≤ y⁻¹ ∧ y⁻¹ ≤ c⁻¹ := by
  rcases Classical.em (0 < c) with hc | hc
  · exact ⟨rinv_anti (by grind) h2, rinv_anti hc h1⟩
  · have hd : d < 0 := by grind
    have k1 := rinv_anti (a := -d) (b := -y) (by grind) (by grind)
    have k2 := rinv_anti (a := -y) (b := -c) (by grind) (by grind)
    rw [rinv_neg, rinv_neg] at k1 k2
    grind
theorem nz_ends {t : St} (h : NoZero t) {y : Qn} (hy : y ∈ ends t) (ho : qr t.lo ≤ qr t.hi) : qr y ≠ 0 := by
  unfold NoZero at h
  rcases mem_ends hy with rfl | rfl <;> grind
theorem divF_bd {L H L' H' : Int} {a b : Qn} {p : Nat} (h1 : 1 ≤ p) (up : Bool) (ha : Qb L H a) (hb : Qb L' H' b) (h0 : b.1 ≠ 0) : Qb (L - H' - p) (H - L' + 1) (divF p up a b) := Bd.div h1 ha hb h0 (divF_rd h1 up a b h0)
theorem div_ex {L H L' H' : Int} {s t : St} {p : Nat} (h1 : 1 ≤ p) (hs : Sb L H s) (ht : Sb L' H' t) (h0 : NoZero t) (hL : -65536 ≤ L - H' - p) (hH : H - L' + 1 ≤ 65536) :
    ∃ r, DivR p s t r ∧ Sb (L - H' - p) (H - L' + 1) r ∧ (∀ x y, Ins x s → Ins y t → Ins (x / y) r) := by
  have be : ∀ x ∈ ends s, Qb L H x := fun x hx => by rcases mem_ends hx with rfl | rfl; exact hs.1; exact hs.2.1
  have bf : ∀ y ∈ ends t, Qb L' H' y := fun y hy => by rcases mem_ends hy with rfl | rfl; exact ht.1; exact ht.2.1
  have bn : ∀ y ∈ ends t, y.1 ≠ 0 := fun y hy e => nz_ends h0 hy ht.2.2 (by unfold qr; rw [e, dv_zero])
  have bm : ∀ up, ∀ x ∈ ends s, ∀ y ∈ ends t, Qb (L - H' - p) (H - L' + 1) (divF p up x y) := fun up x hx y hy => divF_bd h1 up (be x hx) (bf y hy) (bn y hy)
  obtain ⟨x1, hx1, y1, hy1, e1⟩ := lowF_mem (divF p false) s t
  obtain ⟨x2, hx2, y2, hy2, e2⟩ := highF_mem (divF p true) s t
  have bl1 : Qb (L - H' - p) (H - L' + 1) (lowF (divF p false) s t) := by rw [e1]; exact bm false _ hx1 _ hy1
  have bl2 : Qb (L - H' - p) (H - L' + 1) (highF (divF p true) s t) := by rw [e2]; exact bm true _ hx2 _ hy2
  have low : ∀ x ∈ ends s, ∀ y ∈ ends t, qr (lowF (divF p false) s t) ≤ qr x * (qr y)⁻¹ := fun x hx y hy => by
    have h2 := lowF_le (divF p false) s t hx hy
    have h3 := rd_le (divF_rd h1 false x y (bn y hy))
    rw [← Rat.div_def]; exact Rat.le_trans h2 h3
  have high : ∀ x ∈ ends s, ∀ y ∈ ends t, qr x * (qr y)⁻¹ ≤ qr (highF (divF p true) s t) := fun x hx y hy => by
    have h2 := le_highF (divF p true) s t hx hy
    have h3 := rd_ge (divF_rd h1 true x y (bn y hy))
    rw [← Rat.div_def]; exact Rat.le_trans h3 h2
  obtain ⟨u, hu, eu⟩ := hi_ends s
  obtain ⟨v, hv, ev⟩ := hi_ends t
  have enc : ∀ x y, Ins x s → Ins y t → Ins (x / y) ⟨lowF (divF p false) s t, highF (divF p true) s t⟩ := fun x y hx hy => by
    have hi := inv_between h0 hy.1 hy.2
    rw [Rat.div_def]
    constructor
    · exact bil_ge hx.1 hx.2 hi.1 hi.2 (by rw [← ev]; exact low _ (lo_ends s) _ hv) (low _ (lo_ends s) _ (lo_ends t)) (by rw [← eu, ← ev]; exact low _ hu _ hv) (by rw [← eu]; exact low _ hu _ (lo_ends t))
    · exact bil_le hx.1 hx.2 hi.1 hi.2 (by rw [← ev]; exact high _ (lo_ends s) _ hv) (high _ (lo_ends s) _ (lo_ends t)) (by rw [← eu, ← ev]; exact high _ hu _ hv) (by rw [← eu]; exact high _ hu _ (lo_ends t))
  refine ⟨⟨lowF (divF p false) s t, highF (divF p true) s t⟩, ⟨h0, fun x hx y hy => ⟨(bm false x hx y hy).ok (by omega) (by omega), (bm true x hx y hy).ok (by omega) (by omega)⟩, rfl, rfl⟩, ⟨bl1, bl2, ?_⟩, enc⟩
  have := enc _ _ ⟨Rat.le_refl, hs.2.2⟩ ⟨Rat.le_refl, ht.2.2⟩
  exact Rat.le_trans this.1 this.2
theorem sqrt_ex {L H : Int} {s : St} {p : Nat} (h1 : 1 ≤ p) (hs : Sb L H s) (h0 : 0 ≤ s.lo.1) (hL0 : L ≤ 0) (hH0 : 0 ≤ H) (hL : -65536 ≤ L - p) (hH : H + 3 ≤ 65536) :
    ∃ r, SqrtR p s r ∧ Sb (L - p) (H + 3) r ∧ 0 ≤ qr r.lo ∧ qr r.lo * qr r.lo ≤ qr s.lo ∧ qr s.hi ≤ qr r.hi * qr r.hi := by
  have hh : 0 ≤ s.hi.1 := by
    have h2 : 0 ≤ qr s.lo := dv_nonneg.2 h0
    exact (dv_nonneg (e := s.hi.2)).1 (Rat.le_trans h2 hs.2.2)
  obtain ⟨M, E, hr⟩ := sqrt_exists (x := s.lo.2) h0 h1 false
  obtain ⟨N, F, hr'⟩ := sqrt_exists (x := s.hi.2) hh h1 true
  have b1 := Bd.root h1 hs.1 hr hL0 hH0
  have b2 := Bd.root h1 hs.2.1 hr' hL0 hH0
  have l1 := RsOf.le hr
  have l2 := RsOf.ge hr'
  have n1 : 0 ≤ dv M E := dv_nonneg.2 hr.nonneg
  have n2 : 0 ≤ dv N F := dv_nonneg.2 hr'.nonneg
  refine ⟨⟨(M, E), (N, F)⟩, ⟨h0, hh, hr, Qb.ok b1 (by omega) (by omega), hr', Qb.ok b2 (by omega) (by omega)⟩, ⟨b1, b2, ?_⟩, n1, l1, l2⟩
  show dv M E ≤ dv N F
  apply Classical.byContradiction
  intro hlt
  have hlt : dv N F < dv M E := by grind
  have h3 : dv N F * dv N F < dv M E * dv M E := by
    have a1 := Rat.mul_le_mul_of_nonneg_right (show dv N F ≤ dv M E by grind) n2
    have a2 := Rat.mul_lt_mul_of_pos_right hlt (show 0 < dv M E by grind)
    grind
  have h4 := hs.2.2
  unfold qr at h4
  grind
/-- The root of what lies in a stretch lies in its root. -/
theorem sqrt_in {s r : St} {x : Rat} (h0 : 0 ≤ x) (h1 : qr r.lo * qr r.lo ≤ qr s.lo) (h2 : qr s.hi ≤ qr r.hi * qr r.hi) (h3 : 0 ≤ qr r.lo) (h4 : qr r.lo ≤ qr r.hi) (hx : Ins (x * x) s) : Ins x r := by
  constructor
  · apply Classical.byContradiction
    intro hlt
    have hlt : x < qr r.lo := by grind
    have := hx.1
    have a1 := Rat.mul_le_mul_of_nonneg_right (show x ≤ qr r.lo by grind) h0
    have a2 := Rat.mul_lt_mul_of_pos_right hlt (show 0 < qr r.lo by grind)
    grind
  · apply Classical.byContradiction
    intro hlt
    have hlt : qr r.hi < x := by grind
    have := hx.2
    have a1 := Rat.mul_le_mul_of_nonneg_right (show qr r.hi ≤ x by grind) (show 0 ≤ qr r.hi by grind)
    have a2 := Rat.mul_lt_mul_of_pos_right hlt (show 0 < x by grind)
    grind

instance (x : Rat) (s : St) : Decidable (Ins x s) := by unfold Ins; infer_instance
/-- A whole number. -/
def intQ (n : Int) : Qn := (nm n, nx n 0)
end Go.Proofs.YtijodbjdajddoaaGreatDoor
end

section
/-
  iv: Add.
-/
namespace Go.Proofs.YtijodbjdajddoaaGreatDoor
open Go.RowKit
set_option linter.unusedSimpArgs false
set_option linter.unusedVariables false
set_option maxHeartbeats 4000000 in
set_option maxRecDepth 100000 in
theorem iadd_ok (A B A' B' : Option Addr) (c d c' d' : Nat) (m x n y m' x' n' y' P : Int) (g : Nat) (a1 e1 a2 e2 M E N F : Int) (w : World) (h : Dg w A c (digs m.natAbs)) (h' : Dg w B d (digs n.natAbs)) (hl : (digs m.natAbs).length ≤ 10000) (hl' : (digs n.natAbs).length ≤ 10000) (r1 : Rt m x) (r2 : Rt n y) (ho : dv m x ≤ dv n y) (k : Dg w A' c' (digs m'.natAbs)) (k' : Dg w B' d' (digs n'.natAbs)) (kl : (digs m'.natAbs).length ≤ 10000) (kl' : (digs n'.natAbs).length ≤ 10000) (s1 : Rt m' x') (s2 : Rt n' y') (ko : dv m' x' ≤ dv n' y') {p : Nat} (hP : (p : Int) = P) (p2 : 2 ≤ p) (p4 : p ≤ 400) (hT : T32 w) (hk : w.heap[g]? = some (.cells #[.int .i64 0, .int .i64 P] 45 (0, 0))) (hs1 : IsD (dv m x + dv m' x') a1 e1) (q1 : inR a1 e1 = true) (hs2 : IsD (dv n y + dv n' y') a2 e2) (q2 : inR a2 e2 = true) (ht1 : RdOf (dv a1 e1) p false M E) (u1 : inR M E = true) (ht2 : RdOf (dv a2 e2) p true N F) (u2 : inR N F = true):
    Calls Tryz.prog 18 #[.pointer (some ⟨g, 0, none⟩), .agg #[.bool (decide (m < 0)), .slice A (digs m.natAbs).length c, .int .i64 x, .bool (decide (n < 0)), .slice B (digs n.natAbs).length d, .int .i64 y], .agg #[.bool (decide (m' < 0)), .slice A' (digs m'.natAbs).length c', .int .i64 x', .bool (decide (n' < 0)), .slice B' (digs n'.natAbs).length d', .int .i64 y']] w fun e w' => Yi M E N F w e w' := by
  have HR1 := Lib.hid r1
  have HR2 := Lib.hid r2
  have lx := Lib.hid hl
  have ly := Lib.hid hl'
  have HO := Lib.hid ho
  have HS1 := Lib.hid s1
  have HS2 := Lib.hid s2
  have kx := Lib.hid kl
  have ky := Lib.hid kl'
  have KO := Lib.hid ko
  have D1 := Lib.hid hs1
  have D2 := Lib.hid hs2
  have J1 := Lib.hid q1
  have J2 := Lib.hid q2
  have E1 := Lib.hid ht1
  have E2 := Lib.hid ht2
  have V1 := Lib.hid u1
  have V2 := Lib.hid u2
  have HP := Lib.hid hP
  have HT := Lib.hid hT
  clear hT
  have L0 := Lib.hid (((((live_start w).add h).add h').add k).add k')
  have Rk_0 := Lib.hid hk
  clear hk
  clear h h' hl hl' r1 r2 ho k k' kl kl' s1 s2 ko hs1 hs2 q1 q2 ht1 ht2 u1 u2 hP
  go_enter Tryz.func18, Tryz.ntmps18
  go_upto_region 1 with fail
  obtain ⟨v1, hW, hb, Ri_1, Rj_1, Rr_1⟩ := new3 w (.cells #[.bool (decide (m < 0)), .slice A (digs m.natAbs).length c, .int .i64 x, .bool (decide (n < 0)), .slice B (digs n.natAbs).length d, .int .i64 y] 34) (.cells #[.bool (decide (m' < 0)), .slice A' (digs m'.natAbs).length c', .int .i64 x', .bool (decide (n' < 0)), .slice B' (digs n'.natAbs).length d', .int .i64 y'] 34) (.cells #[.bool false, .slice none 0 0, .int .i64 0, .bool false, .slice none 0 0, .int .i64 0] 34)
  rw [← hW]
  have L1 := ls L0 hb
  have Rk_1 := co Rk_0 hb
  have Gi := gl0 L0.out
  have Nki := nl0 Rk_0.out
  have Gj := gl1 L0.out
  have Nkj := nl1 Rk_0.out
  have Nij : w.heap.size < w.heap.size + 1 := by omega
  have Gr := gl2 L0.out
  have Nkr := nl2 Rk_0.out
  have Nir : w.heap.size < w.heap.size + 1 + 1 := by omega
  have Njr : w.heap.size + 1 < w.heap.size + 1 + 1 := by omega
  clear hW hb
  obtain ⟨fi0, zi0, fi1, zi1, fi2, zi2, fi3, zi3, fi4, zi4, fi5, zi5, xi⟩ := ly6 Ri_1.out
  obtain ⟨fj0, zj0, fj1, zj1, fj2, zj2, fj3, zj3, fj4, zj4, fj5, zj5, xj⟩ := ly6 Rj_1.out
  go_wp2_with fail
  obtain ⟨w2, hW, hb, Rsl_2⟩ := new1 v1 (.cells #[.bool (decide (m < 0)), .slice A (digs m.natAbs).length c, .int .i64 x, .bool (decide (n < 0)), .slice B (digs n.natAbs).length d, .int .i64 y, .bool (decide (m' < 0)), .slice A' (digs m'.natAbs).length c', .int .i64 x', .bool (decide (n' < 0)), .slice B' (digs n'.natAbs).length d', .int .i64 y'] 34)
  rw [← hW]
  have L2 := ls L1 hb
  have Rk_2 := co Rk_1 hb
  have Ri_2 := co Ri_1 hb
  have Rj_2 := co Rj_1 hb
  have Rr_2 := co Rr_1 hb
  have Gsl := gl0 L1.out
  have Nksl := nl0 Rk_1.out
  have Nisl := nl0 Ri_1.out
  have Njsl := nl0 Rj_1.out
  have Nrsl := nl0 Rr_1.out
  clear hW hb
  clear fi0 zi0 fi1 zi1 fi2 zi2 fi3 zi3 fi4 zi4 fi5 zi5 xi fj0 zj0 fj1 zj1 fj2 zj2 fj3 zj3 fj4 zj4 fj5 zj5 xj
  refine (takes_2 Rk_2.out Rsl_2.out (L2.out.get (A := A) (c := c) (xs := digs m.natAbs) (by simp)) (L2.out.get (A := B) (c := d) (xs := digs n.natAbs) (by simp)) lx.out ly.out HR1.out HR2.out HO.out (L2.out.get (A := A') (c := c') (xs := digs m'.natAbs) (by simp)) (L2.out.get (A := B') (c := d') (xs := digs n'.natAbs) (by simp)) kx.out ky.out HS1.out HS2.out KO.out rfl).mono ?_
  rintro e w3 ⟨rfl, hb⟩
  have L3 := ls L2 hb
  have Rk_3 := co Rk_2 hb
  have Ri_3 := co Ri_2 hb
  have Rj_3 := co Rj_2 hb
  have Rr_3 := co Rr_2 hb
  have Rsl_3 := co Rsl_2 hb
  clear hb 
  go_upto_region 3 with fail
  obtain ⟨fi0, zi0, fi1, zi1, fi2, zi2, fi3, zi3, fi4, zi4, fi5, zi5, xi⟩ := ly6 Ri_3.out
  obtain ⟨fj0, zj0, fj1, zj1, fj2, zj2, fj3, zj3, fj4, zj4, fj5, zj5, xj⟩ := ly6 Rj_3.out
  obtain ⟨fk0, zk0, fk1, zk1, xk⟩ := ly2 Rk_3.out
  have KD := Lib.hid (bd0 w3)
  have LD := ls L3 KD.out
  have Mi : w.heap.size ≠ w.heap.size + 1 + 1 := by omega
  have Mj : w.heap.size + 1 ≠ w.heap.size + 1 + 1 := by omega
  have Mk : g ≠ w.heap.size + 1 + 1 := by omega
  go_region_held3 (fun w' => (∀ o, w'.cell? ⟨w.heap.size, o, none⟩ = w3.cell? ⟨w.heap.size, o, none⟩) ∧ (∀ o, w'.cell? ⟨w.heap.size + 1, o, none⟩ = w3.cell? ⟨w.heap.size + 1, o, none⟩) ∧ (∀ o, w'.cell? ⟨g, o, none⟩ = w3.cell? ⟨g, o, none⟩))
    (first | with_reducible exact ⟨keep_b KD.out xi, keep_b KD.out xj, keep_b KD.out xk⟩ | with_reducible exact ⟨keep_b K5.out xi, keep_b K5.out xj, keep_b K5.out xk⟩ | with_reducible exact ⟨keep_b K6.out xi, keep_b K6.out xj, keep_b K6.out xk⟩ | with_reducible exact ⟨keep_b K7.out xi, keep_b K7.out xj, keep_b K7.out xk⟩ | with_reducible exact ⟨keep_b K8.out xi, keep_b K8.out xj, keep_b K8.out xk⟩ | with_reducible exact ⟨keep_b K9.out xi, keep_b K9.out xj, keep_b K9.out xk⟩ | exact ⟨(keep_set (keep_b K9.out xi) Mi), (keep_set (keep_b K9.out xj) Mj), (keep_set (keep_b K9.out xk) Mk)⟩ | exact ⟨(keep_set (keep_set (keep_b K9.out xi) Mi) Mi), (keep_set (keep_set (keep_b K9.out xj) Mj) Mj), (keep_set (keep_set (keep_b K9.out xk) Mk) Mk)⟩ | exact ⟨(keep_set (keep_set (keep_set (keep_b K9.out xi) Mi) Mi) Mi), (keep_set (keep_set (keep_set (keep_b K9.out xj) Mj) Mj) Mj), (keep_set (keep_set (keep_set (keep_b K9.out xk) Mk) Mk) Mk)⟩ | exact ⟨(keep_set (keep_set (keep_set (keep_set (keep_b K9.out xi) Mi) Mi) Mi) Mi), (keep_set (keep_set (keep_set (keep_set (keep_b K9.out xj) Mj) Mj) Mj) Mj), (keep_set (keep_set (keep_set (keep_set (keep_b K9.out xk) Mk) Mk) Mk) Mk)⟩ | exact ⟨(keep_set (keep_set (keep_set (keep_set (keep_set (keep_b K9.out xi) Mi) Mi) Mi) Mi) Mi), (keep_set (keep_set (keep_set (keep_set (keep_set (keep_b K9.out xj) Mj) Mj) Mj) Mj) Mj), (keep_set (keep_set (keep_set (keep_set (keep_set (keep_b K9.out xk) Mk) Mk) Mk) Mk) Mk)⟩ | exact ⟨(keep_set (keep_set (keep_set (keep_set (keep_set (keep_set (keep_b K9.out xi) Mi) Mi) Mi) Mi) Mi) Mi), (keep_set (keep_set (keep_set (keep_set (keep_set (keep_set (keep_b K9.out xj) Mj) Mj) Mj) Mj) Mj) Mj), (keep_set (keep_set (keep_set (keep_set (keep_set (keep_set (keep_b K9.out xk) Mk) Mk) Mk) Mk) Mk) Mk)⟩)
    (first
      | (go_at_call 14; (with_reducible refine (dadd_yes (LD.out.get (A := A) (c := c) (xs := digs m.natAbs) (by simp)) (LD.out.get (A := A') (c := c') (xs := digs m'.natAbs) (by simp)) lx.out kx.out HR1.out HS1.out (t32_live HT.out LD.out) D1.out J1.out).mono ?_); rintro e w5 ⟨A5, c5, rfl, hd, hb⟩; (have K5 := bt KD hb); (have L5 := la LD hb hd); clear hb hd)
      | (go_at_call 54; (with_reducible refine (got_ok A5 c5 a1 e1 g _ (L5.out.get (A := A5) (c := c5) (xs := digs a1.natAbs) (by simp))).mono ?_); rintro e w6 ⟨A6, c6, rfl, hd, hb⟩; (have K6 := bt K5 hb); (have L6 := la L5 hb hd); clear hb hd)
      | (go_at_call 14; (with_reducible refine (dadd_yes (L6.out.get (A := B) (c := d) (xs := digs n.natAbs) (by simp)) (L6.out.get (A := B') (c := d') (xs := digs n'.natAbs) (by simp)) ly.out ky.out HR2.out HS2.out (t32_live HT.out L6.out) D2.out J2.out).mono ?_); rintro e w7 ⟨A7, c7, rfl, hd, hb⟩; (have K7 := bt K6 hb); (have L7 := la L6 hb hd); clear hb hd)
      | (go_at_call 54; (with_reducible refine (got_ok A7 c7 a2 e2 g _ (L7.out.get (A := A7) (c := c7) (xs := digs a2.natAbs) (by simp))).mono ?_); rintro e w8 ⟨A8, c8, rfl, hd, hb⟩; (have K8 := bt K7 hb); (have L8 := la L7 hb hd); clear hb hd)
      | (go_at_call 53; (with_reducible refine (outward_ok A6 A8 c6 c8 a1 e1 a2 e2 P M E N F g _ (L8.out.get (A := A6) (c := c6) (xs := digs a1.natAbs) (by simp)) (L8.out.get (A := A8) (c := c8) (xs := digs a2.natAbs) (by simp)) (inr_len J1.out) (inr_len J2.out) (rt_in (nf_isD D1.out) J1.out) (rt_in (nf_isD D2.out) J2.out) HP.out p2 p4 (t32_live HT.out L8.out) (cells_of Rk_3.out K8.out) E1.out V1.out E2.out V2.out).mono ?_); rintro e w9 ⟨A9, c9, B9, d9, rfl, hd, he, hb⟩; (have K9 := bt K8 hb); (have L9 := la2 L8 hb hd he); (have qr0_K9 := row_c (i := 0) (co Rr_3 K9.out).out rfl); (have pr0_K9 := frozen_of_row _ _ 0 _ _ (cells_of Rr_3.out K9.out)); (have qr1_K9 := row_c (i := 1) (co Rr_3 K9.out).out rfl); (have pr1_K9 := frozen_of_row _ _ 1 _ _ (cells_of Rr_3.out K9.out)); (have qr2_K9 := row_c (i := 2) (co Rr_3 K9.out).out rfl); (have pr2_K9 := frozen_of_row _ _ 2 _ _ (cells_of Rr_3.out K9.out)); (have qr3_K9 := row_c (i := 3) (co Rr_3 K9.out).out rfl); (have pr3_K9 := frozen_of_row _ _ 3 _ _ (cells_of Rr_3.out K9.out)); (have qr4_K9 := row_c (i := 4) (co Rr_3 K9.out).out rfl); (have pr4_K9 := frozen_of_row _ _ 4 _ _ (cells_of Rr_3.out K9.out)); (have qr5_K9 := row_c (i := 5) (co Rr_3 K9.out).out rfl); (have pr5_K9 := frozen_of_row _ _ 5 _ _ (cells_of Rr_3.out K9.out)); clear hb hd he))
  rename_i hHeld
  clear hHeld
  clear fi0 zi0 fi1 zi1 fi2 zi2 fi3 zi3 fi4 zi4 fi5 zi5 xi fj0 zj0 fj1 zj1 fj2 zj2 fj3 zj3 fj4 zj4 fj5 zj5 xj fk0 zk0 fk1 zk1 xk
  have Rk_9 := co Rk_3 K9.out
  have Ri_9 := co Ri_3 K9.out
  have Rj_9 := co Rj_3 K9.out
  have Rr_9 := co Rr_3 K9.out
  have Rsl_9 := co Rsl_3 K9.out
  obtain ⟨fr0, zr0, fr1, zr1, fr2, zr2, fr3, zr3, fr4, zr4, fr5, zr5, xr⟩ := ly6 Rr_9.out
  go_wp2
  refine bodyPost_ret (v := .agg #[.bool (decide (M < 0)), .slice A9 (digs M.natAbs).length c9, .int .i64 E, .bool (decide (N < 0)), .slice B9 (digs N.natAbs).length d9, .int .i64 F]) (by simp [results, Tryz.results18, go_sem, fr0, fr1, fr2, fr3, fr4, fr5]) rfl ?_
  
  refine ⟨A9, c9, B9, d9, rfl, ?_, ?_, ?_⟩
  · exact (fin6 L9.out Rr_9.out noint_iv Gr).get (A := A9) (c := c9) (xs := digs M.natAbs) (by simp)
  · exact (fin6 L9.out Rr_9.out noint_iv Gr).get (A := B9) (c := d9) (xs := digs N.natAbs) (by simp)
  · exact (fin6 L9.out Rr_9.out noint_iv Gr).1
end Go.Proofs.YtijodbjdajddoaaGreatDoor
end

section
/-
  iv: Sub.
-/
namespace Go.Proofs.YtijodbjdajddoaaGreatDoor
open Go.RowKit
set_option linter.unusedSimpArgs false
set_option linter.unusedVariables false
theorem neg_rt {m x z : Int} (h : Rt m x) (hz : -m = z) : Rt z x := by
  subst hz
  obtain ⟨h1, h2, h3⟩ := h
  exact ⟨by rcases h1 with h | h; exact .inl ⟨by omega, h.2⟩; exact .inr (by omega), h2, h3⟩
theorem neg_ord {m x n y a b : Int} (h : dv m x ≤ dv n y) (h1 : -n = a) (h2 : -m = b) : dv a y ≤ dv b x := by
  subst h1 h2
  rw [dv_neg, dv_neg]
  grind

set_option maxHeartbeats 4000000 in
set_option maxRecDepth 100000 in
theorem isub_ok (A B A' B' : Option Addr) (c d c' d' : Nat) (m x n y m' x' n' y' P : Int) (g : Nat) (b1 b2 a1 e1 a2 e2 M E N F : Int) (w : World) (h : Dg w A c (digs m.natAbs)) (h' : Dg w B d (digs n.natAbs)) (hl : (digs m.natAbs).length ≤ 10000) (hl' : (digs n.natAbs).length ≤ 10000) (r1 : Rt m x) (r2 : Rt n y) (ho : dv m x ≤ dv n y) (k : Dg w A' c' (digs m'.natAbs)) (k' : Dg w B' d' (digs n'.natAbs)) (kl : (digs m'.natAbs).length ≤ 10000) (kl' : (digs n'.natAbs).length ≤ 10000) (s1 : Rt m' x') (s2 : Rt n' y') (ko : dv m' x' ≤ dv n' y') {p : Nat} (hP : (p : Int) = P) (p2 : 2 ≤ p) (p4 : p ≤ 400) (hT : T32 w) (hk : w.heap[g]? = some (.cells #[.int .i64 0, .int .i64 P] 45 (0, 0))) (hz1 : -n' = b1) (hz2 : -m' = b2) (hs1 : IsD (dv m x + dv b1 y') a1 e1) (q1 : inR a1 e1 = true) (hs2 : IsD (dv n y + dv b2 x') a2 e2) (q2 : inR a2 e2 = true) (ht1 : RdOf (dv a1 e1) p false M E) (u1 : inR M E = true) (ht2 : RdOf (dv a2 e2) p true N F) (u2 : inR N F = true):
    Calls Tryz.prog 19 #[.pointer (some ⟨g, 0, none⟩), .agg #[.bool (decide (m < 0)), .slice A (digs m.natAbs).length c, .int .i64 x, .bool (decide (n < 0)), .slice B (digs n.natAbs).length d, .int .i64 y], .agg #[.bool (decide (m' < 0)), .slice A' (digs m'.natAbs).length c', .int .i64 x', .bool (decide (n' < 0)), .slice B' (digs n'.natAbs).length d', .int .i64 y']] w fun e w' => Yi M E N F w e w' := by
  have HR1 := Lib.hid r1
  have HR2 := Lib.hid r2
  have lx := Lib.hid hl
  have ly := Lib.hid hl'
  have HO := Lib.hid ho
  have HS1 := Lib.hid s1
  have HS2 := Lib.hid s2
  have kx := Lib.hid kl
  have ky := Lib.hid kl'
  have KO := Lib.hid ko
  have D1 := Lib.hid hs1
  have D2 := Lib.hid hs2
  have J1 := Lib.hid q1
  have J2 := Lib.hid q2
  have E1 := Lib.hid ht1
  have E2 := Lib.hid ht2
  have V1 := Lib.hid u1
  have V2 := Lib.hid u2
  have Z1 := Lib.hid hz1
  have Z2 := Lib.hid hz2
  have B1 := Lib.hid (neg_rt s2 hz1)
  have B2 := Lib.hid (neg_rt s1 hz2)
  have BO := Lib.hid (neg_ord ko hz1 hz2)
  have BX := Lib.hid (show (digs b1.natAbs).length ≤ 10000 by rw [← hz1, Int.natAbs_neg]; exact kl')
  have BY := Lib.hid (show (digs b2.natAbs).length ≤ 10000 by rw [← hz2, Int.natAbs_neg]; exact kl)
  have HP := Lib.hid hP
  have HT := Lib.hid hT
  clear hT
  have L0 := Lib.hid (((((live_start w).add h).add h').add k).add k')
  have Rk_0 := Lib.hid hk
  clear hk
  clear h h' hl hl' r1 r2 ho k k' kl kl' s1 s2 ko hs1 hs2 q1 q2 ht1 ht2 u1 u2 hP hz1 hz2
  go_enter Tryz.func19, Tryz.ntmps19
  go_upto_region 1 with fail
  obtain ⟨v1, hW, hb, Ri_1, Rj_1, Rr_1⟩ := new3 w (.cells #[.bool (decide (m < 0)), .slice A (digs m.natAbs).length c, .int .i64 x, .bool (decide (n < 0)), .slice B (digs n.natAbs).length d, .int .i64 y] 34) (.cells #[.bool (decide (m' < 0)), .slice A' (digs m'.natAbs).length c', .int .i64 x', .bool (decide (n' < 0)), .slice B' (digs n'.natAbs).length d', .int .i64 y'] 34) (.cells #[.bool false, .slice none 0 0, .int .i64 0, .bool false, .slice none 0 0, .int .i64 0] 34)
  rw [← hW]
  have L1 := ls L0 hb
  have Rk_1 := co Rk_0 hb
  have Gi := gl0 L0.out
  have Nki := nl0 Rk_0.out
  have Gj := gl1 L0.out
  have Nkj := nl1 Rk_0.out
  have Nij : w.heap.size < w.heap.size + 1 := by omega
  have Gr := gl2 L0.out
  have Nkr := nl2 Rk_0.out
  have Nir : w.heap.size < w.heap.size + 1 + 1 := by omega
  have Njr : w.heap.size + 1 < w.heap.size + 1 + 1 := by omega
  clear hW hb
  obtain ⟨fi0, zi0, fi1, zi1, fi2, zi2, fi3, zi3, fi4, zi4, fi5, zi5, xi⟩ := ly6 Ri_1.out
  obtain ⟨fj0, zj0, fj1, zj1, fj2, zj2, fj3, zj3, fj4, zj4, fj5, zj5, xj⟩ := ly6 Rj_1.out
  go_wp2_with fail
  obtain ⟨w2, hW, hb, Rsl_2⟩ := new1 v1 (.cells #[.bool (decide (m < 0)), .slice A (digs m.natAbs).length c, .int .i64 x, .bool (decide (n < 0)), .slice B (digs n.natAbs).length d, .int .i64 y, .bool (decide (m' < 0)), .slice A' (digs m'.natAbs).length c', .int .i64 x', .bool (decide (n' < 0)), .slice B' (digs n'.natAbs).length d', .int .i64 y'] 34)
  rw [← hW]
  have L2 := ls L1 hb
  have Rk_2 := co Rk_1 hb
  have Ri_2 := co Ri_1 hb
  have Rj_2 := co Rj_1 hb
  have Rr_2 := co Rr_1 hb
  have Gsl := gl0 L1.out
  have Nksl := nl0 Rk_1.out
  have Nisl := nl0 Ri_1.out
  have Njsl := nl0 Rj_1.out
  have Nrsl := nl0 Rr_1.out
  clear hW hb
  clear fi0 zi0 fi1 zi1 fi2 zi2 fi3 zi3 fi4 zi4 fi5 zi5 xi fj0 zj0 fj1 zj1 fj2 zj2 fj3 zj3 fj4 zj4 fj5 zj5 xj
  refine (takes_2 Rk_2.out Rsl_2.out (L2.out.get (A := A) (c := c) (xs := digs m.natAbs) (by simp)) (L2.out.get (A := B) (c := d) (xs := digs n.natAbs) (by simp)) lx.out ly.out HR1.out HR2.out HO.out (L2.out.get (A := A') (c := c') (xs := digs m'.natAbs) (by simp)) (L2.out.get (A := B') (c := d') (xs := digs n'.natAbs) (by simp)) kx.out ky.out HS1.out HS2.out KO.out rfl).mono ?_
  rintro e w3 ⟨rfl, hb⟩
  have L3 := ls L2 hb
  have Rk_3 := co Rk_2 hb
  have Ri_3 := co Ri_2 hb
  have Rj_3 := co Rj_2 hb
  have Rr_3 := co Rr_2 hb
  have Rsl_3 := co Rsl_2 hb
  clear hb 
  go_upto_region 3 with fail
  obtain ⟨fi0, zi0, fi1, zi1, fi2, zi2, fi3, zi3, fi4, zi4, fi5, zi5, xi⟩ := ly6 Ri_3.out
  obtain ⟨fj0, zj0, fj1, zj1, fj2, zj2, fj3, zj3, fj4, zj4, fj5, zj5, xj⟩ := ly6 Rj_3.out
  have KD := Lib.hid (bd0 w3)
  have LD := ls L3 KD.out
  have Mi : w.heap.size ≠ w.heap.size + 1 + 1 := by omega
  have Mj : w.heap.size + 1 ≠ w.heap.size + 1 + 1 := by omega
  go_region_held3 (fun w' => (∀ o, w'.cell? ⟨w.heap.size, o, none⟩ = w3.cell? ⟨w.heap.size, o, none⟩) ∧ (∀ o, w'.cell? ⟨w.heap.size + 1, o, none⟩ = w3.cell? ⟨w.heap.size + 1, o, none⟩))
    (first | with_reducible exact ⟨keep_b KD.out xi, keep_b KD.out xj⟩ | with_reducible exact ⟨keep_b K5.out xi, keep_b K5.out xj⟩ | with_reducible exact ⟨keep_b K6.out xi, keep_b K6.out xj⟩ | exact ⟨(keep_set (keep_b K6.out xi) Mi), (keep_set (keep_b K6.out xj) Mj)⟩ | exact ⟨(keep_set (keep_set (keep_b K6.out xi) Mi) Mi), (keep_set (keep_set (keep_b K6.out xj) Mj) Mj)⟩ | exact ⟨(keep_set (keep_set (keep_set (keep_b K6.out xi) Mi) Mi) Mi), (keep_set (keep_set (keep_set (keep_b K6.out xj) Mj) Mj) Mj)⟩ | exact ⟨(keep_set (keep_set (keep_set (keep_set (keep_b K6.out xi) Mi) Mi) Mi) Mi), (keep_set (keep_set (keep_set (keep_set (keep_b K6.out xj) Mj) Mj) Mj) Mj)⟩ | exact ⟨(keep_set (keep_set (keep_set (keep_set (keep_set (keep_b K6.out xi) Mi) Mi) Mi) Mi) Mi), (keep_set (keep_set (keep_set (keep_set (keep_set (keep_b K6.out xj) Mj) Mj) Mj) Mj) Mj)⟩ | exact ⟨(keep_set (keep_set (keep_set (keep_set (keep_set (keep_set (keep_b K6.out xi) Mi) Mi) Mi) Mi) Mi) Mi), (keep_set (keep_set (keep_set (keep_set (keep_set (keep_set (keep_b K6.out xj) Mj) Mj) Mj) Mj) Mj) Mj)⟩)
    (first
      | (go_at_call 28; (with_reducible refine (ineg_ok A' B' c' d' m' x' n' y' P g b1 b2 _ (LD.out.get (A := A') (c := c') (xs := digs m'.natAbs) (by simp)) (LD.out.get (A := B') (c := d') (xs := digs n'.natAbs) (by simp)) kx.out ky.out HS1.out HS2.out KO.out (cells_of Rk_3.out KD.out) Z1.out Z2.out).mono ?_); rintro e w5 ⟨A5, c5, B5, d5, rfl, hd, he, hb⟩; (have K5 := bt KD hb); (have L5 := la2 LD hb hd he); clear hb hd he)
      | (go_at_call 18; (with_reducible refine (iadd_ok A B A5 B5 c d c5 d5 m x n y b1 y' b2 x' P g a1 e1 a2 e2 M E N F _ (L5.out.get (A := A) (c := c) (xs := digs m.natAbs) (by simp)) (L5.out.get (A := B) (c := d) (xs := digs n.natAbs) (by simp)) lx.out ly.out HR1.out HR2.out HO.out (L5.out.get (A := A5) (c := c5) (xs := digs b1.natAbs) (by simp)) (L5.out.get (A := B5) (c := d5) (xs := digs b2.natAbs) (by simp)) BX.out BY.out B1.out B2.out BO.out HP.out p2 p4 (t32_live HT.out L5.out) (cells_of Rk_3.out K5.out) D1.out J1.out D2.out J2.out E1.out V1.out E2.out V2.out).mono ?_); rintro e w6 ⟨A6, c6, B6, d6, rfl, hd, he, hb⟩; (have K6 := bt K5 hb); (have L6 := la2 L5 hb hd he); (have qr0_K6 := row_c (i := 0) (co Rr_3 K6.out).out rfl); (have pr0_K6 := frozen_of_row _ _ 0 _ _ (cells_of Rr_3.out K6.out)); (have qr1_K6 := row_c (i := 1) (co Rr_3 K6.out).out rfl); (have pr1_K6 := frozen_of_row _ _ 1 _ _ (cells_of Rr_3.out K6.out)); (have qr2_K6 := row_c (i := 2) (co Rr_3 K6.out).out rfl); (have pr2_K6 := frozen_of_row _ _ 2 _ _ (cells_of Rr_3.out K6.out)); (have qr3_K6 := row_c (i := 3) (co Rr_3 K6.out).out rfl); (have pr3_K6 := frozen_of_row _ _ 3 _ _ (cells_of Rr_3.out K6.out)); (have qr4_K6 := row_c (i := 4) (co Rr_3 K6.out).out rfl); (have pr4_K6 := frozen_of_row _ _ 4 _ _ (cells_of Rr_3.out K6.out)); (have qr5_K6 := row_c (i := 5) (co Rr_3 K6.out).out rfl); (have pr5_K6 := frozen_of_row _ _ 5 _ _ (cells_of Rr_3.out K6.out)); clear hb hd he))
  rename_i hHeld
  clear hHeld
  clear fi0 zi0 fi1 zi1 fi2 zi2 fi3 zi3 fi4 zi4 fi5 zi5 xi fj0 zj0 fj1 zj1 fj2 zj2 fj3 zj3 fj4 zj4 fj5 zj5 xj
  have Rk_6 := co Rk_3 K6.out
  have Ri_6 := co Ri_3 K6.out
  have Rj_6 := co Rj_3 K6.out
  have Rr_6 := co Rr_3 K6.out
  have Rsl_6 := co Rsl_3 K6.out
  obtain ⟨fr0, zr0, fr1, zr1, fr2, zr2, fr3, zr3, fr4, zr4, fr5, zr5, xr⟩ := ly6 Rr_6.out
  go_wp2
  refine bodyPost_ret (v := .agg #[.bool (decide (M < 0)), .slice A6 (digs M.natAbs).length c6, .int .i64 E, .bool (decide (N < 0)), .slice B6 (digs N.natAbs).length d6, .int .i64 F]) (by simp [results, Tryz.results19, go_sem, fr0, fr1, fr2, fr3, fr4, fr5]) rfl ?_
  
  refine ⟨A6, c6, B6, d6, rfl, ?_, ?_, ?_⟩
  · exact (fin6 L6.out Rr_6.out noint_iv Gr).get (A := A6) (c := c6) (xs := digs M.natAbs) (by simp)
  · exact (fin6 L6.out Rr_6.out noint_iv Gr).get (A := B6) (c := d6) (xs := digs N.natAbs) (by simp)
  · exact (fin6 L6.out Rr_6.out noint_iv Gr).1
end Go.Proofs.YtijodbjdajddoaaGreatDoor
end

section
/-
  zint.Small.
-/
namespace Go.Proofs.YtijodbjdajddoaaGreatDoor
open Go.RowKit
theorem ret_ib {a b : Int} {p q : Bool} (h : a = b) (h' : p = q) : Ending.returned (.tuple #[.int .i64 a, .bool p]) = .returned (.tuple #[.int .i64 b, .bool q]) := by rw [h, h']
theorem wrap_i64_eq (x : Int) (h : -9223372036854775808 ≤ x) (h' : x ≤ 9223372036854775807) : IntKind.i64.wrap x = x := IntWalk.i64_in _ ⟨h, h'⟩
theorem turn_u64 (x : Nat) (h : 0 < x) (h' : x ≤ 9223372036854775808) : wrap64 (IntKind.u64.wrap (-(x : Int))) = -(x : Int) := by
  rw [wrap_u64_eq]; unfold wrap64; omega
/-- What Small answers. -/
def smallz (z : Int) : Int := if -9223372036854775808 ≤ z ∧ z ≤ 9223372036854775807 then z else 0
def smallb (z : Int) : Bool := decide (-9223372036854775808 ≤ z ∧ z ≤ 9223372036854775807)
end Go.Proofs.YtijodbjdajddoaaGreatDoor
end

section
/-
  dyad.Make, From, Half.
-/
namespace Go.Proofs.YtijodbjdajddoaaGreatDoor
open Go.RowKit
set_option linter.unusedSimpArgs false
set_option linter.unusedVariables false
set_option maxHeartbeats 4000000 in
set_option maxRecDepth 100000 in
theorem from_yes (n M E : Int) (w : World) (hT : T32 w) (h0 : -9223372036854775808 ≤ n) (h1 : n ≤ 9223372036854775807) (hM : nm n = M) (hE : nx n 0 = E):
    Calls Tryz.prog 65 #[.int .i64 n] w fun e w' => Yr M E w e w' := by
  have FR := Lib.hid (fun W => zfrom_any n W h0 h1)
  have LN := Lib.hid (show (digs n.natAbs).length ≤ 2 from digs_small (by omega))
  have HM := Lib.hid (show nm (sg (decide (n < 0)) n.natAbs) = M by rw [sg_abs2]; exact hM)
  have HE := Lib.hid (show nx (sg (decide (n < 0)) n.natAbs) 0 = E by rw [sg_abs2]; exact hE)
  have HT := Lib.hid hT
  clear hT
  have L0 := Lib.hid (live_start w)
  clear h0 h1 hM hE
  go_enter Tryz.func65, Tryz.ntmps65
  go_wp2_with fail
  obtain ⟨v1, hW, hb, Rr_1⟩ := new1 w (.cells #[.bool false, .slice none 0 0, .int .i64 0] 26)
  rw [← hW]
  have L1 := ls L0 hb
  have Gr := gl0 L0.out
  clear hW hb
  refine (FR.out _).mono ?_
  rintro e w2 ⟨A2, c2, rfl, hd, hb⟩
  have L2 := la L1 hb hd
  have Rr_2 := co Rr_1 hb
  clear hb hd
  go_wp2_with fail
  refine (odd_any A2 c2 (decide (n < 0)) n.natAbs 0 M E _ (L2.out.get (A := A2) (c := c2) (xs := digs n.natAbs) (by simp)) (Nat.le_trans LN.out (by omega)) (t32_live HT.out L2.out) ⟨by omega, by omega⟩ HM.out HE.out).mono ?_
  rintro e w3 ⟨A3, c3, rfl, hd, hb⟩
  have L3 := la L2 hb hd
  have Rr_3 := co Rr_2 hb
  clear hb hd
  obtain ⟨fr0, zr0, fr1, zr1, fr2, zr2, xr⟩ := ly3 Rr_3.out
  go_wp2
  refine bodyPost_ret (v := .agg #[.bool (decide (M < 0)), .slice A3 (digs M.natAbs).length c3, .int .i64 E]) (by simp [results, Tryz.results65, go_sem, fr0, fr1, fr2]) rfl ?_
  
  refine ⟨A3, c3, rfl, ?_, ?_⟩
  · exact (fin3 L3.out Rr_3.out noint3 Gr).get (A := A3) (c := c3) (xs := digs M.natAbs) (by simp)
  · exact (fin3 L3.out Rr_3.out noint3 Gr).1
end Go.Proofs.YtijodbjdajddoaaGreatDoor
end
