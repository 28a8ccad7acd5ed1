import Derived.Test.YtdmfapgclppmhaaGreatDoorMB2
import Derived.Test.YtdmfapgclppmhaaGreatDoorMB1
import Derived.Test.YtdmfapgclppmhaaGreatDoorMB7
import Derived.Test.YtdmfapgclppmhaaGreatDoorMB3
import Derived.Test.YtdmfapgclppmhaaGreatDoorMB4
import Derived.Test.YtdmfapgclppmhaaGreatDoorMB5
import Derived.Test.YtdmfapgclppmhaaGreatDoorMB0
import Derived.Test.YtdmfapgclppmhaaGreatDoorMB6
section
namespace Go.Proofs.YtdmfapgclppmhaaGreatDoor
open Go.RowKit
end Go.Proofs.YtdmfapgclppmhaaGreatDoor
end

section
namespace Go.Proofs.YtdmfapgclppmhaaGreatDoor
open Go.RowKit
set_option linter.unusedSimpArgs false
set_option linter.unusedVariables false
theorem sg_of (b : Bool) {m : Int} (h : decide (m < 0) = b) : sg b (val (digs m.natAbs)) = m := by
  rw [val_digs, ← h]; exact sg_dz' m

theorem r5lift_any {A B : Option Addr} {c d : Nat} {m n x y p q e0 : Int} {w : World} (h : Dg w A c (digs m.natAbs)) (h' : Dg w B d (digs n.natAbs)) (hl : (digs m.natAbs).length ≤ 10000) (hl' : (digs n.natAbs).length ≤ 10000) (x0 : -131072 ≤ x) (x1 : x ≤ 131072) (y0 : -131072 ≤ y) (y1 : y ≤ 131072) (m0 : m ≠ 0) (n0 : n ≠ 0) (he : min x y = e0) (hp : upto m x e0 = p) (hq : upto n y e0 = q) :
    Calls Tryz.prog 47 #[.agg #[.bool (decide (m < 0)), .slice A (digs m.natAbs).length c, .int .i64 x], .agg #[.bool (decide (n < 0)), .slice B (digs n.natAbs).length d, .int .i64 y]] w fun e w' => Ybs p q e0 w e w' := by
  by_cases hc : y < x
  · exact r5lift_gt A B c d m n x y w h h' hl hl' x0 x1 y0 y1 m0 n0 he hp hq hc
  · exact r5lift_le A B c d m n x y w h h' hl hl' x0 x1 y0 y1 m0 n0 he hp hq (by omega)

end Go.Proofs.YtdmfapgclppmhaaGreatDoor
end

section
namespace Go.Proofs.YtdmfapgclppmhaaGreatDoor
open Go.RowKit
set_option linter.unusedSimpArgs false
set_option linter.unusedVariables false
set_option maxHeartbeats 4000000 in
set_option maxRecDepth 100000 in
theorem r5right_z0 (A : Option Addr) (c : Nat) (s : Bool) (xs : List Nat) (x : Int) (w : World) (h : Dg w A c xs) (hl : xs.length ≤ 9223372036854775807) (h0 : xs.length = 0) (hs : s = false) {q : Bool} (hq : (x == 0) = q):
    Calls Tryz.prog 36 #[.agg #[.bool s, .slice A xs.length c, .int .i64 x]] w fun e w' => e = .returned (.bool q) ∧ Below w.heap.size w w' := by
  have HL := Lib.hid hl
  have t0 : ((xs.length : Int) == 0) = true := by rw [h0]; rfl
  subst hs
  have HR := Lib.hid (show rightB false xs = true by unfold rightB; rw [if_pos h0]; rfl)
  have HQ := Lib.hid hq
  have L0 := Lib.hid ((live_start w).add h)
  clear h hl h0 hq
  go_enter Tryz.func36, Tryz.ntmps36
  go_wp2_with fail
  obtain ⟨v1, hW, hb, Rx_1⟩ := new1 w (.cells #[.bool false, .slice A xs.length c, .int .i64 x] 26)
  rw [← hW]
  have L1 := ls L0 hb
  have Gx := gl0 L0.out
  clear hW hb
  refine (rright_any A c false xs _ (L1.out.get (A := A) (c := c) (xs := xs) (by simp)) _ HR.out HL.out).mono ?_
  rintro e w2 ⟨rfl, hb⟩
  have L2 := ls L1 hb
  have Rx_2 := co Rx_1 hb
  clear hb 
  obtain ⟨fx0, zx0, fx1, zx1, fx2, zx2, xx⟩ := ly3 Rx_2.out
  go_wp2
  go_ret
  exact ⟨ret_b HQ.out, L2.out.1⟩

set_option maxHeartbeats 4000000 in
set_option maxRecDepth 100000 in
theorem r5right_z1 (A : Option Addr) (c : Nat) (s : Bool) (xs : List Nat) (x : Int) (w : World) (h : Dg w A c xs) (hl : xs.length ≤ 9223372036854775807) (h0 : xs.length = 0) (hs : s = true):
    Calls Tryz.prog 36 #[.agg #[.bool s, .slice A xs.length c, .int .i64 x]] w fun e w' => e = .returned (.bool false) ∧ Below w.heap.size w w' := by
  have HL := Lib.hid hl
  have t0 : ((xs.length : Int) == 0) = true := by rw [h0]; rfl
  subst hs
  have HR := Lib.hid (show rightB true xs = false by unfold rightB; rw [if_pos h0]; rfl)
  have L0 := Lib.hid ((live_start w).add h)
  clear h hl h0
  go_enter Tryz.func36, Tryz.ntmps36
  go_wp2_with fail
  obtain ⟨v1, hW, hb, Rx_1⟩ := new1 w (.cells #[.bool true, .slice A xs.length c, .int .i64 x] 26)
  rw [← hW]
  have L1 := ls L0 hb
  have Gx := gl0 L0.out
  clear hW hb
  refine (rright_any A c true xs _ (L1.out.get (A := A) (c := c) (xs := xs) (by simp)) _ HR.out HL.out).mono ?_
  rintro e w2 ⟨rfl, hb⟩
  have L2 := ls L1 hb
  have Rx_2 := co Rx_1 hb
  clear hb 
  obtain ⟨fx0, zx0, fx1, zx1, fx2, zx2, xx⟩ := ly3 Rx_2.out
  go_wp2
  go_ret
  exact ⟨rfl, L2.out.1⟩

set_option maxHeartbeats 4000000 in
set_option maxRecDepth 100000 in
theorem r5right_w (A : Option Addr) (c : Nat) (s : Bool) (xs : List Nat) (x : Int) (w : World) (h : Dg w A c xs) (hl : xs.length ≤ 9223372036854775807) (h0 : xs.length ≠ 0) (hr : rightB s xs = false):
    Calls Tryz.prog 36 #[.agg #[.bool s, .slice A xs.length c, .int .i64 x]] w fun e w' => e = .returned (.bool false) ∧ Below w.heap.size w w' := by
  have HL := Lib.hid hl
  have HR := Lib.hid hr
  have t0 : ((xs.length : Int) == 0) = false := beq_eq_false_iff_ne.2 (by omega)
  have L0 := Lib.hid ((live_start w).add h)
  clear h hl hr h0
  go_enter Tryz.func36, Tryz.ntmps36
  go_wp2_with fail
  obtain ⟨v1, hW, hb, Rx_1⟩ := new1 w (.cells #[.bool s, .slice A xs.length c, .int .i64 x] 26)
  rw [← hW]
  have L1 := ls L0 hb
  have Gx := gl0 L0.out
  clear hW hb
  refine (rright_any A c s xs _ (L1.out.get (A := A) (c := c) (xs := xs) (by simp)) _ HR.out HL.out).mono ?_
  rintro e w2 ⟨rfl, hb⟩
  have L2 := ls L1 hb
  have Rx_2 := co Rx_1 hb
  clear hb 
  obtain ⟨fx0, zx0, fx1, zx1, fx2, zx2, xx⟩ := ly3 Rx_2.out
  go_wp2
  go_ret
  exact ⟨rfl, L2.out.1⟩

set_option maxHeartbeats 4000000 in
set_option maxRecDepth 100000 in
theorem r5right_e (A : Option Addr) (c : Nat) (s : Bool) (xs : List Nat) (x : Int) (w : World) (h : Dg w A c xs) (hl : xs.length ≤ 9223372036854775807) (h0 : xs.length ≠ 0) (hr : rightB s xs = true) (ho : decide (xs[0]?.getD 0 % 2 = 1) = false):
    Calls Tryz.prog 36 #[.agg #[.bool s, .slice A xs.length c, .int .i64 x]] w fun e w' => e = .returned (.bool false) ∧ Below w.heap.size w w' := by
  have HL := Lib.hid hl
  have HR := Lib.hid hr
  have t0 : ((xs.length : Int) == 0) = false := beq_eq_false_iff_ne.2 (by omega)
  have hp : 0 < xs.length := by omega
  have hc1 : 0 < c := by have := h.1; omega
  obtain ⟨b, off, hA, hb, hc⟩ := h.2.2 hp
  have hx0 := hc 0 hp
  rw [Nat.add_zero] at hx0
  have H := Lib.hid h
  generalize xs[0]?.getD 0 = d at *
  have hd2 : (((d : Nat) : Int) % 2 == 1) = false := by rw [← ho, Bool.eq_iff_iff]; simp; omega
  have hd : (((d : Nat) : Int).tmod 2 == 1) = false := by rw [Int.tmod_eq_emod_of_nonneg (by omega)]; exact hd2
  have HB := Lib.hid hb
  have HX := Lib.hid hx0
  clear hc hx0 hb
  subst hA
  have L0 := Lib.hid ((live_start w).add h)
  clear h hl hr ho h0
  go_enter Tryz.func36, Tryz.ntmps36
  go_wp2_with fail
  obtain ⟨v1, hW, hb, Rx_1⟩ := new1 w (.cells #[.bool s, .slice (some ⟨b, off, none⟩) xs.length c, .int .i64 x] 26)
  rw [← hW]
  have L1 := ls L0 hb
  have Gx := gl0 L0.out
  clear hW hb
  refine (rright_any (some ⟨b, off, none⟩) c s xs _ (L1.out.get (A := (some ⟨b, off, none⟩)) (c := c) (xs := xs) (by simp)) _ HR.out HL.out).mono ?_
  rintro e w2 ⟨rfl, hb⟩
  have L2 := ls L1 hb
  have Rx_2 := co Rx_1 hb
  clear hb 
  have hx := (L2.out.1.cell (p := ⟨b, off, none⟩) HB.out).trans HX.out
  obtain ⟨fx0, zx0, fx1, zx1, fx2, zx2, xx⟩ := ly3 Rx_2.out
  go_wp2
  go_ret
  exact ⟨rfl, L2.out.1⟩

set_option maxHeartbeats 4000000 in
set_option maxRecDepth 100000 in
theorem r5right_l (A : Option Addr) (c : Nat) (s : Bool) (xs : List Nat) (x : Int) (w : World) (h : Dg w A c xs) (hl : xs.length ≤ 9223372036854775807) (h0 : xs.length ≠ 0) (hr : rightB s xs = true) (ho : decide (xs[0]?.getD 0 % 2 = 1) = true) (hx : x < -131072):
    Calls Tryz.prog 36 #[.agg #[.bool s, .slice A xs.length c, .int .i64 x]] w fun e w' => e = .returned (.bool false) ∧ Below w.heap.size w w' := by
  have HL := Lib.hid hl
  have HR := Lib.hid hr
  have t0 : ((xs.length : Int) == 0) = false := beq_eq_false_iff_ne.2 (by omega)
  have hp : 0 < xs.length := by omega
  have hc1 : 0 < c := by have := h.1; omega
  obtain ⟨b, off, hA, hb, hc⟩ := h.2.2 hp
  have hx0 := hc 0 hp
  rw [Nat.add_zero] at hx0
  have H := Lib.hid h
  generalize xs[0]?.getD 0 = d at *
  have hd2 : (((d : Nat) : Int) % 2 == 1) = true := by rw [← ho, Bool.eq_iff_iff]; simp; omega
  have hd : (((d : Nat) : Int).tmod 2 == 1) = true := by rw [Int.tmod_eq_emod_of_nonneg (by omega)]; exact hd2
  have HB := Lib.hid hb
  have HX := Lib.hid hx0
  clear hc hx0 hb
  subst hA
  have d1 : decide (-131072 ≤ x) = false := decide_eq_false (by omega)
  have L0 := Lib.hid ((live_start w).add h)
  clear h hl hr ho h0 hx
  go_enter Tryz.func36, Tryz.ntmps36
  go_wp2_with fail
  obtain ⟨v1, hW, hb, Rx_1⟩ := new1 w (.cells #[.bool s, .slice (some ⟨b, off, none⟩) xs.length c, .int .i64 x] 26)
  rw [← hW]
  have L1 := ls L0 hb
  have Gx := gl0 L0.out
  clear hW hb
  refine (rright_any (some ⟨b, off, none⟩) c s xs _ (L1.out.get (A := (some ⟨b, off, none⟩)) (c := c) (xs := xs) (by simp)) _ HR.out HL.out).mono ?_
  rintro e w2 ⟨rfl, hb⟩
  have L2 := ls L1 hb
  have Rx_2 := co Rx_1 hb
  clear hb 
  have hx := (L2.out.1.cell (p := ⟨b, off, none⟩) HB.out).trans HX.out
  obtain ⟨fx0, zx0, fx1, zx1, fx2, zx2, xx⟩ := ly3 Rx_2.out
  go_wp2
  go_ret
  exact ⟨rfl, L2.out.1⟩

set_option maxHeartbeats 4000000 in
set_option maxRecDepth 100000 in
theorem r5right_g (A : Option Addr) (c : Nat) (s : Bool) (xs : List Nat) (x : Int) (w : World) (h : Dg w A c xs) (hl : xs.length ≤ 9223372036854775807) (h0 : xs.length ≠ 0) (hr : rightB s xs = true) (ho : decide (xs[0]?.getD 0 % 2 = 1) = true) (hx : 131072 < x):
    Calls Tryz.prog 36 #[.agg #[.bool s, .slice A xs.length c, .int .i64 x]] w fun e w' => e = .returned (.bool false) ∧ Below w.heap.size w w' := by
  have HL := Lib.hid hl
  have HR := Lib.hid hr
  have t0 : ((xs.length : Int) == 0) = false := beq_eq_false_iff_ne.2 (by omega)
  have hp : 0 < xs.length := by omega
  have hc1 : 0 < c := by have := h.1; omega
  obtain ⟨b, off, hA, hb, hc⟩ := h.2.2 hp
  have hx0 := hc 0 hp
  rw [Nat.add_zero] at hx0
  have H := Lib.hid h
  generalize xs[0]?.getD 0 = d at *
  have hd2 : (((d : Nat) : Int) % 2 == 1) = true := by rw [← ho, Bool.eq_iff_iff]; simp; omega
  have hd : (((d : Nat) : Int).tmod 2 == 1) = true := by rw [Int.tmod_eq_emod_of_nonneg (by omega)]; exact hd2
  have HB := Lib.hid hb
  have HX := Lib.hid hx0
  clear hc hx0 hb
  subst hA
  have d1 : decide (-131072 ≤ x) = true := decide_eq_true (by omega)
  have d2 : decide (x ≤ 131072) = false := decide_eq_false (by omega)
  have L0 := Lib.hid ((live_start w).add h)
  clear h hl hr ho h0 hx
  go_enter Tryz.func36, Tryz.ntmps36
  go_wp2_with fail
  obtain ⟨v1, hW, hb, Rx_1⟩ := new1 w (.cells #[.bool s, .slice (some ⟨b, off, none⟩) xs.length c, .int .i64 x] 26)
  rw [← hW]
  have L1 := ls L0 hb
  have Gx := gl0 L0.out
  clear hW hb
  refine (rright_any (some ⟨b, off, none⟩) c s xs _ (L1.out.get (A := (some ⟨b, off, none⟩)) (c := c) (xs := xs) (by simp)) _ HR.out HL.out).mono ?_
  rintro e w2 ⟨rfl, hb⟩
  have L2 := ls L1 hb
  have Rx_2 := co Rx_1 hb
  clear hb 
  have hx := (L2.out.1.cell (p := ⟨b, off, none⟩) HB.out).trans HX.out
  obtain ⟨fx0, zx0, fx1, zx1, fx2, zx2, xx⟩ := ly3 Rx_2.out
  go_wp2
  go_ret
  exact ⟨rfl, L2.out.1⟩

set_option maxHeartbeats 4000000 in
set_option maxRecDepth 100000 in
theorem r5right_y (A : Option Addr) (c : Nat) (s : Bool) (xs : List Nat) (x : Int) (w : World) (h : Dg w A c xs) (hl : xs.length ≤ 9223372036854775807) (h0 : xs.length ≠ 0) (hr : rightB s xs = true) (ho : decide (xs[0]?.getD 0 % 2 = 1) = true) (hx : -131072 ≤ x ∧ x ≤ 131072):
    Calls Tryz.prog 36 #[.agg #[.bool s, .slice A xs.length c, .int .i64 x]] w fun e w' => e = .returned (.bool true) ∧ Below w.heap.size w w' := by
  have HL := Lib.hid hl
  have HR := Lib.hid hr
  have t0 : ((xs.length : Int) == 0) = false := beq_eq_false_iff_ne.2 (by omega)
  have hp : 0 < xs.length := by omega
  have hc1 : 0 < c := by have := h.1; omega
  obtain ⟨b, off, hA, hb, hc⟩ := h.2.2 hp
  have hx0 := hc 0 hp
  rw [Nat.add_zero] at hx0
  have H := Lib.hid h
  generalize xs[0]?.getD 0 = d at *
  have hd2 : (((d : Nat) : Int) % 2 == 1) = true := by rw [← ho, Bool.eq_iff_iff]; simp; omega
  have hd : (((d : Nat) : Int).tmod 2 == 1) = true := by rw [Int.tmod_eq_emod_of_nonneg (by omega)]; exact hd2
  have HB := Lib.hid hb
  have HX := Lib.hid hx0
  clear hc hx0 hb
  subst hA
  have d1 : decide (-131072 ≤ x) = true := decide_eq_true hx.1
  have d2 : decide (x ≤ 131072) = true := decide_eq_true hx.2
  have L0 := Lib.hid ((live_start w).add h)
  clear h hl hr ho h0 hx
  go_enter Tryz.func36, Tryz.ntmps36
  go_wp2_with fail
  obtain ⟨v1, hW, hb, Rx_1⟩ := new1 w (.cells #[.bool s, .slice (some ⟨b, off, none⟩) xs.length c, .int .i64 x] 26)
  rw [← hW]
  have L1 := ls L0 hb
  have Gx := gl0 L0.out
  clear hW hb
  refine (rright_any (some ⟨b, off, none⟩) c s xs _ (L1.out.get (A := (some ⟨b, off, none⟩)) (c := c) (xs := xs) (by simp)) _ HR.out HL.out).mono ?_
  rintro e w2 ⟨rfl, hb⟩
  have L2 := ls L1 hb
  have Rx_2 := co Rx_1 hb
  clear hb 
  have hx := (L2.out.1.cell (p := ⟨b, off, none⟩) HB.out).trans HX.out
  obtain ⟨fx0, zx0, fx1, zx1, fx2, zx2, xx⟩ := ly3 Rx_2.out
  go_wp2
  go_ret
  exact ⟨rfl, L2.out.1⟩

theorem r5right_any {A : Option Addr} {c : Nat} {s : Bool} {xs : List Nat} {x : Int} {q : Bool} {w : World} (h : Dg w A c xs) (hl : xs.length ≤ 9223372036854775807) (hq : dyR s xs x = q) :
    Calls Tryz.prog 36 #[.agg #[.bool s, .slice A xs.length c, .int .i64 x]] w fun e w' => e = .returned (.bool q) ∧ Below w.heap.size w w' := by
  unfold dyR at hq
  by_cases h0 : xs.length = 0
  · rw [if_pos h0] at hq
    cases s
    · exact r5right_z0 A c false xs x w h hl h0 rfl (by rw [← hq]; simp)
    · obtain rfl : q = false := by rw [← hq]; rfl
      exact r5right_z1 A c true xs x w h hl h0 rfl
  · rw [if_neg h0] at hq
    obtain ⟨r, hr⟩ : ∃ r, rightB s xs = r := ⟨_, rfl⟩
    obtain ⟨o, ho⟩ : ∃ o, decide (xs[0]?.getD 0 % 2 = 1) = o := ⟨_, rfl⟩
    rw [hr, ho] at hq
    cases r
    · obtain rfl : q = false := by rw [← hq]; rfl
      exact r5right_w A c s xs x w h hl h0 hr
    · cases o
      · obtain rfl : q = false := by rw [← hq]; rfl
        exact r5right_e A c s xs x w h hl h0 hr ho
      · by_cases h1 : x < -131072
        · obtain rfl : q = false := by rw [← hq, decide_eq_false (show ¬ -131072 ≤ x by omega)]; rfl
          exact r5right_l A c s xs x w h hl h0 hr ho h1
        · by_cases h2 : 131072 < x
          · obtain rfl : q = false := by rw [← hq, decide_eq_false (show ¬ x ≤ 131072 by omega)]; simp
            exact r5right_g A c s xs x w h hl h0 hr ho h2
          · obtain rfl : q = true := by rw [← hq, decide_eq_true (show -131072 ≤ x by omega), decide_eq_true (show x ≤ 131072 by omega)]; rfl
            exact r5right_y A c s xs x w h hl h0 hr ho ⟨by omega, by omega⟩

set_option maxHeartbeats 4000000 in
set_option maxRecDepth 100000 in
theorem r5inr_0 (A : Option Addr) (c : Nat) (m x s : Int) (w : World) (h : Dg w A c (digs m.natAbs)) (hl : (digs m.natAbs).length ≤ 100000) (x0 : -10000000 ≤ x) (x1 : x ≤ 10000000) (m0 : m ≠ 0) (hs : x + bl m = s) (hc : s < -65536):
    Calls Tryz.prog 37 #[.agg #[.bool (decide (m < 0)), .slice A (digs m.natAbs).length c, .int .i64 x]] w fun e w' => e = .returned (.bool false) ∧ Below w.heap.size w w' := by
  have t0 : ((((digs m.natAbs).length : Nat) : Int) == 0) = false := beq_eq_false_iff_ne.2 (fun e => m0 (by have := digs_nil.1 (show (digs m.natAbs).length = 0 by omega); omega))
  obtain ⟨z, hz⟩ : ∃ z : Int, (blen m.natAbs : Int) = z := ⟨_, rfl⟩
  have HZ := Lib.hid hz
  have HS := Lib.hid hs
  have HL := Lib.hid hl
  have SC := Lib.hid (And.intro x0 x1)
  have d0 : decide (-65536 ≤ s) = false := decide_eq_false (by omega)
  have L0 := Lib.hid ((live_start w).add h)
  clear h hl hs hz m0 hc x0 x1
  go_enter Tryz.func37, Tryz.ntmps37
  go_wp2_with fail
  obtain ⟨v1, hW, hb, Rx_1⟩ := new1 w (.cells #[.bool (decide (m < 0)), .slice A (digs m.natAbs).length c, .int .i64 x] 26)
  rw [← hW]
  have L1 := ls L0 hb
  have Gx := gl0 L0.out
  clear hW hb
  obtain ⟨fx0, zx0, fx1, zx1, fx2, zx2, xx⟩ := ly3 Rx_1.out
  clear fx0 zx0 fx1 zx1 fx2 zx2 xx
  obtain ⟨fx0, zx0, fx1, zx1, fx2, zx2, xx⟩ := ly3 Rx_1.out
  go_wp2_with fail
  refine (r5size_any A c m x s _ (L1.out.get (A := A) (c := c) (xs := digs m.natAbs) (by simp)) HL.out SC.out.1 SC.out.2 HS.out).mono ?_
  rintro e w2 ⟨rfl, hb⟩
  have L2 := ls L1 hb
  clear fx0 zx0 fx1 zx1 fx2 zx2 xx
  have Rx_2 := co Rx_1 hb
  clear hb 
  obtain ⟨fx0, zx0, fx1, zx1, fx2, zx2, xx⟩ := ly3 Rx_2.out
  go_wp2
  go_ret
  exact ⟨rfl, L2.out.1⟩

set_option maxHeartbeats 4000000 in
set_option maxRecDepth 100000 in
theorem r5inr_1 (A : Option Addr) (c : Nat) (m x s : Int) (w : World) (h : Dg w A c (digs m.natAbs)) (hl : (digs m.natAbs).length ≤ 100000) (x0 : -10000000 ≤ x) (x1 : x ≤ 10000000) (m0 : m ≠ 0) (hs : x + bl m = s) (hc : -65536 ≤ s ∧ 65536 < s):
    Calls Tryz.prog 37 #[.agg #[.bool (decide (m < 0)), .slice A (digs m.natAbs).length c, .int .i64 x]] w fun e w' => e = .returned (.bool false) ∧ Below w.heap.size w w' := by
  have t0 : ((((digs m.natAbs).length : Nat) : Int) == 0) = false := beq_eq_false_iff_ne.2 (fun e => m0 (by have := digs_nil.1 (show (digs m.natAbs).length = 0 by omega); omega))
  obtain ⟨z, hz⟩ : ∃ z : Int, (blen m.natAbs : Int) = z := ⟨_, rfl⟩
  have HZ := Lib.hid hz
  have HS := Lib.hid hs
  have HL := Lib.hid hl
  have SC := Lib.hid (And.intro x0 x1)
  have d0 : decide (-65536 ≤ s) = true := decide_eq_true (by omega)
  have d1 : decide (s ≤ 65536) = false := decide_eq_false (by omega)
  have L0 := Lib.hid ((live_start w).add h)
  clear h hl hs hz m0 hc x0 x1
  go_enter Tryz.func37, Tryz.ntmps37
  go_wp2_with fail
  obtain ⟨v1, hW, hb, Rx_1⟩ := new1 w (.cells #[.bool (decide (m < 0)), .slice A (digs m.natAbs).length c, .int .i64 x] 26)
  rw [← hW]
  have L1 := ls L0 hb
  have Gx := gl0 L0.out
  clear hW hb
  obtain ⟨fx0, zx0, fx1, zx1, fx2, zx2, xx⟩ := ly3 Rx_1.out
  clear fx0 zx0 fx1 zx1 fx2 zx2 xx
  obtain ⟨fx0, zx0, fx1, zx1, fx2, zx2, xx⟩ := ly3 Rx_1.out
  go_wp2_with fail
  refine (r5size_any A c m x s _ (L1.out.get (A := A) (c := c) (xs := digs m.natAbs) (by simp)) HL.out SC.out.1 SC.out.2 HS.out).mono ?_
  rintro e w2 ⟨rfl, hb⟩
  have L2 := ls L1 hb
  clear fx0 zx0 fx1 zx1 fx2 zx2 xx
  have Rx_2 := co Rx_1 hb
  clear hb 
  obtain ⟨fx0, zx0, fx1, zx1, fx2, zx2, xx⟩ := ly3 Rx_2.out
  go_wp2
  go_ret
  exact ⟨rfl, L2.out.1⟩

set_option maxHeartbeats 4000000 in
set_option maxRecDepth 100000 in
theorem r5inr_2 (A : Option Addr) (c : Nat) (m x s : Int) (w : World) (h : Dg w A c (digs m.natAbs)) (hl : (digs m.natAbs).length ≤ 100000) (x0 : -10000000 ≤ x) (x1 : x ≤ 10000000) (m0 : m ≠ 0) (hs : x + bl m = s) (hc : (-65536 ≤ s ∧ s ≤ 65536) ∧ x < -131072):
    Calls Tryz.prog 37 #[.agg #[.bool (decide (m < 0)), .slice A (digs m.natAbs).length c, .int .i64 x]] w fun e w' => e = .returned (.bool false) ∧ Below w.heap.size w w' := by
  have t0 : ((((digs m.natAbs).length : Nat) : Int) == 0) = false := beq_eq_false_iff_ne.2 (fun e => m0 (by have := digs_nil.1 (show (digs m.natAbs).length = 0 by omega); omega))
  obtain ⟨z, hz⟩ : ∃ z : Int, (blen m.natAbs : Int) = z := ⟨_, rfl⟩
  have HZ := Lib.hid hz
  have HS := Lib.hid hs
  have HL := Lib.hid hl
  have SC := Lib.hid (And.intro x0 x1)
  have d0 : decide (-65536 ≤ s) = true := decide_eq_true (by omega)
  have d1 : decide (s ≤ 65536) = true := decide_eq_true (by omega)
  have d2 : decide (-131072 ≤ x) = false := decide_eq_false (by omega)
  have L0 := Lib.hid ((live_start w).add h)
  clear h hl hs hz m0 hc x0 x1
  go_enter Tryz.func37, Tryz.ntmps37
  go_wp2_with fail
  obtain ⟨v1, hW, hb, Rx_1⟩ := new1 w (.cells #[.bool (decide (m < 0)), .slice A (digs m.natAbs).length c, .int .i64 x] 26)
  rw [← hW]
  have L1 := ls L0 hb
  have Gx := gl0 L0.out
  clear hW hb
  obtain ⟨fx0, zx0, fx1, zx1, fx2, zx2, xx⟩ := ly3 Rx_1.out
  clear fx0 zx0 fx1 zx1 fx2 zx2 xx
  obtain ⟨fx0, zx0, fx1, zx1, fx2, zx2, xx⟩ := ly3 Rx_1.out
  go_wp2_with fail
  refine (r5size_any A c m x s _ (L1.out.get (A := A) (c := c) (xs := digs m.natAbs) (by simp)) HL.out SC.out.1 SC.out.2 HS.out).mono ?_
  rintro e w2 ⟨rfl, hb⟩
  have L2 := ls L1 hb
  clear fx0 zx0 fx1 zx1 fx2 zx2 xx
  have Rx_2 := co Rx_1 hb
  clear hb 
  obtain ⟨fx0, zx0, fx1, zx1, fx2, zx2, xx⟩ := ly3 Rx_2.out
  go_wp2
  go_ret
  exact ⟨rfl, L2.out.1⟩

set_option maxHeartbeats 4000000 in
set_option maxRecDepth 100000 in
theorem r5inr_3 (A : Option Addr) (c : Nat) (m x s : Int) (w : World) (h : Dg w A c (digs m.natAbs)) (hl : (digs m.natAbs).length ≤ 100000) (x0 : -10000000 ≤ x) (x1 : x ≤ 10000000) (m0 : m ≠ 0) (hs : x + bl m = s) (hc : (-65536 ≤ s ∧ s ≤ 65536) ∧ -131072 ≤ x ∧ 131072 < x):
    Calls Tryz.prog 37 #[.agg #[.bool (decide (m < 0)), .slice A (digs m.natAbs).length c, .int .i64 x]] w fun e w' => e = .returned (.bool false) ∧ Below w.heap.size w w' := by
  have t0 : ((((digs m.natAbs).length : Nat) : Int) == 0) = false := beq_eq_false_iff_ne.2 (fun e => m0 (by have := digs_nil.1 (show (digs m.natAbs).length = 0 by omega); omega))
  obtain ⟨z, hz⟩ : ∃ z : Int, (blen m.natAbs : Int) = z := ⟨_, rfl⟩
  have HZ := Lib.hid hz
  have HS := Lib.hid hs
  have HL := Lib.hid hl
  have SC := Lib.hid (And.intro x0 x1)
  have d0 : decide (-65536 ≤ s) = true := decide_eq_true (by omega)
  have d1 : decide (s ≤ 65536) = true := decide_eq_true (by omega)
  have d2 : decide (-131072 ≤ x) = true := decide_eq_true (by omega)
  have d3 : decide (x ≤ 131072) = false := decide_eq_false (by omega)
  have L0 := Lib.hid ((live_start w).add h)
  clear h hl hs hz m0 hc x0 x1
  go_enter Tryz.func37, Tryz.ntmps37
  go_wp2_with fail
  obtain ⟨v1, hW, hb, Rx_1⟩ := new1 w (.cells #[.bool (decide (m < 0)), .slice A (digs m.natAbs).length c, .int .i64 x] 26)
  rw [← hW]
  have L1 := ls L0 hb
  have Gx := gl0 L0.out
  clear hW hb
  obtain ⟨fx0, zx0, fx1, zx1, fx2, zx2, xx⟩ := ly3 Rx_1.out
  clear fx0 zx0 fx1 zx1 fx2 zx2 xx
  obtain ⟨fx0, zx0, fx1, zx1, fx2, zx2, xx⟩ := ly3 Rx_1.out
  go_wp2_with fail
  refine (r5size_any A c m x s _ (L1.out.get (A := A) (c := c) (xs := digs m.natAbs) (by simp)) HL.out SC.out.1 SC.out.2 HS.out).mono ?_
  rintro e w2 ⟨rfl, hb⟩
  have L2 := ls L1 hb
  clear fx0 zx0 fx1 zx1 fx2 zx2 xx
  have Rx_2 := co Rx_1 hb
  clear hb 
  obtain ⟨fx0, zx0, fx1, zx1, fx2, zx2, xx⟩ := ly3 Rx_2.out
  go_wp2
  go_ret
  exact ⟨rfl, L2.out.1⟩

set_option maxHeartbeats 4000000 in
set_option maxRecDepth 100000 in
theorem r5inr_4 (A : Option Addr) (c : Nat) (m x s : Int) (w : World) (h : Dg w A c (digs m.natAbs)) (hl : (digs m.natAbs).length ≤ 100000) (x0 : -10000000 ≤ x) (x1 : x ≤ 10000000) (m0 : m ≠ 0) (hs : x + bl m = s) (hc : ((-65536 ≤ s ∧ s ≤ 65536) ∧ -131072 ≤ x ∧ x ≤ 131072) ∧ 262144 < bl m):
    Calls Tryz.prog 37 #[.agg #[.bool (decide (m < 0)), .slice A (digs m.natAbs).length c, .int .i64 x]] w fun e w' => e = .returned (.bool false) ∧ Below w.heap.size w w' := by
  have t0 : ((((digs m.natAbs).length : Nat) : Int) == 0) = false := beq_eq_false_iff_ne.2 (fun e => m0 (by have := digs_nil.1 (show (digs m.natAbs).length = 0 by omega); omega))
  obtain ⟨z, hz⟩ : ∃ z : Int, (blen m.natAbs : Int) = z := ⟨_, rfl⟩
  have HZ := Lib.hid hz
  have HS := Lib.hid hs
  have HL := Lib.hid hl
  have SC := Lib.hid (And.intro x0 x1)
  have hzb : 262144 < z := by have := hc.2; unfold bl at this; omega
  have d0 : decide (-65536 ≤ s) = true := decide_eq_true (by omega)
  have d1 : decide (s ≤ 65536) = true := decide_eq_true (by omega)
  have d2 : decide (-131072 ≤ x) = true := decide_eq_true (by omega)
  have d3 : decide (x ≤ 131072) = true := decide_eq_true (by omega)
  have d4 : decide (z ≤ 262144) = false := decide_eq_false (by omega)
  have L0 := Lib.hid ((live_start w).add h)
  clear h hl hs hz m0 hc x0 x1 hzb
  go_enter Tryz.func37, Tryz.ntmps37
  go_wp2_with fail
  obtain ⟨v1, hW, hb, Rx_1⟩ := new1 w (.cells #[.bool (decide (m < 0)), .slice A (digs m.natAbs).length c, .int .i64 x] 26)
  rw [← hW]
  have L1 := ls L0 hb
  have Gx := gl0 L0.out
  clear hW hb
  obtain ⟨fx0, zx0, fx1, zx1, fx2, zx2, xx⟩ := ly3 Rx_1.out
  clear fx0 zx0 fx1 zx1 fx2 zx2 xx
  obtain ⟨fx0, zx0, fx1, zx1, fx2, zx2, xx⟩ := ly3 Rx_1.out
  go_wp2_with fail
  refine (r5size_any A c m x s _ (L1.out.get (A := A) (c := c) (xs := digs m.natAbs) (by simp)) HL.out SC.out.1 SC.out.2 HS.out).mono ?_
  rintro e w2 ⟨rfl, hb⟩
  have L2 := ls L1 hb
  clear fx0 zx0 fx1 zx1 fx2 zx2 xx
  have Rx_2 := co Rx_1 hb
  clear hb 
  obtain ⟨fx0, zx0, fx1, zx1, fx2, zx2, xx⟩ := ly3 Rx_2.out
  go_wp2_with fail
  refine (rbits_z (L2.out.get (A := A) (c := c) (xs := digs m.natAbs) (by simp)) (Nat.le_trans HL.out (by omega)) HZ.out).mono ?_
  rintro e w3 ⟨rfl, hb⟩
  have L3 := ls L2 hb
  clear fx0 zx0 fx1 zx1 fx2 zx2 xx
  have Rx_3 := co Rx_2 hb
  clear hb 
  obtain ⟨fx0, zx0, fx1, zx1, fx2, zx2, xx⟩ := ly3 Rx_3.out
  go_wp2
  go_ret
  exact ⟨rfl, L3.out.1⟩

theorem r5inr_any {A : Option Addr} {c : Nat} {m x : Int} {q : Bool} {w : World} (h : Dg w A c (digs m.natAbs)) (hl : (digs m.natAbs).length ≤ 100000) (x0 : -10000000 ≤ x) (x1 : x ≤ 10000000) (hq : inR m x = q) :
    Calls Tryz.prog 37 #[.agg #[.bool (decide (m < 0)), .slice A (digs m.natAbs).length c, .int .i64 x]] w fun e w' => e = .returned (.bool q) ∧ Below w.heap.size w w' := by
  cases q
  · unfold inR at hq
    rw [decide_eq_false_iff_not] at hq
    have m0 : m ≠ 0 := fun e => hq (.inl e)
    have hq2 : ¬ (-131072 ≤ x ∧ x ≤ 131072 ∧ bl m ≤ 262144 ∧ -65536 ≤ x + bl m ∧ x + bl m ≤ 65536) := fun e => hq (.inr e)
    obtain ⟨s, hs⟩ : ∃ s : Int, x + bl m = s := ⟨_, rfl⟩
    rw [hs] at hq2
    by_cases h1 : s < -65536
    · exact r5inr_0 A c m x s w h hl x0 x1 m0 hs h1
    · by_cases h2 : 65536 < s
      · exact r5inr_1 A c m x s w h hl x0 x1 m0 hs ⟨by omega, h2⟩
      · by_cases h3 : x < -131072
        · exact r5inr_2 A c m x s w h hl x0 x1 m0 hs ⟨⟨by omega, by omega⟩, h3⟩
        · by_cases h4 : 131072 < x
          · exact r5inr_3 A c m x s w h hl x0 x1 m0 hs ⟨⟨by omega, by omega⟩, by omega, h4⟩
          · exact r5inr_4 A c m x s w h hl x0 x1 m0 hs ⟨⟨⟨by omega, by omega⟩, by omega, by omega⟩, by omega⟩
  · exact r5inr_t h (inr_len hq) hq

set_option maxHeartbeats 4000000 in
set_option maxRecDepth 100000 in
theorem r5told_y (A : Option Addr) (c : Nat) (m x : Int) (w : World) (h : Dg w A c (digs m.natAbs)) (hl : (digs m.natAbs).length ≤ 100000) (x0 : -10000000 ≤ x) (x1 : x ≤ 10000000) (hq : inR m x = true):
    Calls Tryz.prog 48 #[.agg #[.bool (decide (m < 0)), .slice A (digs m.natAbs).length c, .int .i64 x]] w fun e w' => Ye m x 0 w e w' := by
  have HL := Lib.hid hl
  have HQ := Lib.hid hq
  have SC := Lib.hid (And.intro x0 x1)
  have L0 := Lib.hid ((live_start w).add h)
  clear h hl hq x0 x1
  go_enter Tryz.func48, Tryz.ntmps48
  go_wp2_with fail
  obtain ⟨v1, hW, hb, Rx_1, Rr_1⟩ := new2 w (.cells #[.bool (decide (m < 0)), .slice A (digs m.natAbs).length c, .int .i64 x] 26) (.cells #[.bool false, .slice none 0 0, .int .i64 0] 26)
  rw [← hW]
  have L1 := ls L0 hb
  have Gx := gl0 L0.out
  have Gr := gl1 L0.out
  have Nxr : w.heap.size < w.heap.size + 1 := by omega
  clear hW hb
  refine (r5inr_any (L1.out.get (A := A) (c := c) (xs := digs m.natAbs) (by simp)) HL.out SC.out.1 SC.out.2 HQ.out).mono ?_
  rintro e w2 ⟨rfl, hb⟩
  have L2 := ls L1 hb
  have Rx_2 := co Rx_1 hb
  have Rr_2 := co Rr_1 hb
  clear hb 
  obtain ⟨fx0, zx0, fx1, zx1, fx2, zx2, xx⟩ := ly3 Rx_2.out
  obtain ⟨fr0, zr0, fr1, zr1, fr2, zr2, xr⟩ := ly3 Rr_2.out
  go_wp2
  refine bodyPost_ret (v := .tuple #[.agg #[.bool (decide (m < 0)), .slice A (digs m.natAbs).length c, .int .i64 x], .int .i64 0]) (by simp [results, Tryz.results48, go_sem, fx0, fx1, fx2, fr0, fr1, fr2]) rfl ?_
  
  refine ⟨A, c, rfl, ?_, ?_⟩
  · exact (fin3 L2.out Rr_2.out noint3 Gr).get (A := A) (c := c) (xs := digs m.natAbs) (by simp)
  · exact (fin3 L2.out Rr_2.out noint3 Gr).1

set_option maxHeartbeats 4000000 in
set_option maxRecDepth 100000 in
theorem r5told_n (A : Option Addr) (c : Nat) (m x : Int) (w : World) (h : Dg w A c (digs m.natAbs)) (hl : (digs m.natAbs).length ≤ 100000) (x0 : -10000000 ≤ x) (x1 : x ≤ 10000000) (hq : inR m x = false):
    Calls Tryz.prog 48 #[.agg #[.bool (decide (m < 0)), .slice A (digs m.natAbs).length c, .int .i64 x]] w fun e w' => e = .returned (.tuple #[.agg #[.bool false, .slice none 0 0, .int .i64 0], .int .i64 4]) ∧ Below w.heap.size w w' := by
  have HL := Lib.hid hl
  have HQ := Lib.hid hq
  have SC := Lib.hid (And.intro x0 x1)
  have L0 := Lib.hid ((live_start w).add h)
  clear h hl hq x0 x1
  go_enter Tryz.func48, Tryz.ntmps48
  go_wp2_with fail
  obtain ⟨v1, hW, hb, Rx_1, Rr_1⟩ := new2 w (.cells #[.bool (decide (m < 0)), .slice A (digs m.natAbs).length c, .int .i64 x] 26) (.cells #[.bool false, .slice none 0 0, .int .i64 0] 26)
  rw [← hW]
  have L1 := ls L0 hb
  have Gx := gl0 L0.out
  have Gr := gl1 L0.out
  have Nxr : w.heap.size < w.heap.size + 1 := by omega
  clear hW hb
  refine (r5inr_any (L1.out.get (A := A) (c := c) (xs := digs m.natAbs) (by simp)) HL.out SC.out.1 SC.out.2 HQ.out).mono ?_
  rintro e w2 ⟨rfl, hb⟩
  have L2 := ls L1 hb
  have Rx_2 := co Rx_1 hb
  have Rr_2 := co Rr_1 hb
  clear hb 
  obtain ⟨fx0, zx0, fx1, zx1, fx2, zx2, xx⟩ := ly3 Rx_2.out
  obtain ⟨fr0, zr0, fr1, zr1, fr2, zr2, xr⟩ := ly3 Rr_2.out
  go_wp2
  refine bodyPost_ret (v := .tuple #[.agg #[.bool false, .slice none 0 0, .int .i64 0], .int .i64 4]) (by simp [results, Tryz.results48, go_sem, fx0, fx1, fx2, fr0, fr1, fr2]) rfl ?_
  exact ⟨rfl, (fin3 L2.out Rr_2.out noint3 Gr).1⟩

theorem r5told {A : Option Addr} {c : Nat} {M E K F V : Int} {w : World} (h : Dg w A c (digs M.natAbs)) (hl : (digs M.natAbs).length ≤ 100000) (x0 : -10000000 ≤ E) (x1 : E ≤ 10000000) (hq : tot M E = (K, F, V)) :
    Calls Tryz.prog 48 #[.agg #[.bool (decide (M < 0)), .slice A (digs M.natAbs).length c, .int .i64 E]] w fun e w' => Ye K F V w e w' := by
  unfold tot at hq
  by_cases hi : inR M E = true
  · rw [if_pos hi] at hq
    obtain ⟨rfl, rfl, rfl⟩ : M = K ∧ E = F ∧ 0 = V := by simpa using hq
    exact r5told_y A c M E w h hl x0 x1 hi
  · rw [if_neg hi] at hq
    obtain ⟨rfl, rfl, rfl⟩ : 0 = K ∧ 0 = F ∧ 4 = V := by simpa using hq
    refine (r5told_n A c M E w h hl x0 x1 (by simpa using hi)).mono ?_
    rintro e w' ⟨rfl, hb⟩
    exact zero_ye hb

set_option maxHeartbeats 4000000 in
set_option maxRecDepth 100000 in
theorem r5lift_z1 (A B : Option Addr) (c d : Nat) (m n x y : Int) (w : World) (h : Dg w A c (digs m.natAbs)) (h' : Dg w B d (digs n.natAbs)) (m0 : m = 0):
    Calls Tryz.prog 47 #[.agg #[.bool (decide (m < 0)), .slice A (digs m.natAbs).length c, .int .i64 x], .agg #[.bool (decide (n < 0)), .slice B (digs n.natAbs).length d, .int .i64 y]] w fun e w' => ∃ C k, e = .returned (.tuple #[.agg #[.bool false, .slice none 0 0], .agg #[.bool (decide (n < 0)), .slice C (digs n.natAbs).length k], .int .i64 y]) ∧ Dg w' C k (digs n.natAbs) ∧ Below w.heap.size w w' := by
  have t1 : ((((digs m.natAbs).length : Nat) : Int) == 0) = true := by rw [m0, show digs (0 : Int).natAbs = [] from digs_zero]; rfl
  have L0 := Lib.hid (((live_start w).add h).add h')
  clear h h' m0
  go_enter Tryz.func47, Tryz.ntmps47
  go_wp2_with fail
  obtain ⟨v1, hW, hb, Rx_1, Ry_1, Ra_1, Rb_1⟩ := new4 w (.cells #[.bool (decide (m < 0)), .slice A (digs m.natAbs).length c, .int .i64 x] 26) (.cells #[.bool (decide (n < 0)), .slice B (digs n.natAbs).length d, .int .i64 y] 26) (.cells #[.bool false, .slice none 0 0] 24) (.cells #[.bool false, .slice none 0 0] 24)
  rw [← hW]
  have L1 := ls L0 hb
  have Gx := gl0 L0.out
  have Gy := gl1 L0.out
  have Nxy : w.heap.size < w.heap.size + 1 := by omega
  have Ga := gl2 L0.out
  have Nxa : w.heap.size < w.heap.size + 1 + 1 := by omega
  have Nya : w.heap.size + 1 < w.heap.size + 1 + 1 := by omega
  have Gb := gl3 L0.out
  have Nxb : w.heap.size < w.heap.size + 1 + 1 + 1 := by omega
  have Nyb : w.heap.size + 1 < w.heap.size + 1 + 1 + 1 := by omega
  have Nab : w.heap.size + 1 + 1 < w.heap.size + 1 + 1 + 1 := by omega
  clear hW hb
  obtain ⟨fx0, zx0, fx1, zx1, fx2, zx2, xx⟩ := ly3 Rx_1.out
  obtain ⟨fy0, zy0, fy1, zy1, fy2, zy2, xy⟩ := ly3 Ry_1.out
  obtain ⟨fa0, za0, fa1, za1, xa⟩ := ly2 Ra_1.out
  obtain ⟨fb0, zb0, fb1, zb1, xb⟩ := ly2 Rb_1.out
  go_upto_region 2 with fail
  clear fx0 zx0 fx1 zx1 fx2 zx2 xx fy0 zy0 fy1 zy1 fy2 zy2 xy fa0 za0 fa1 za1 xa fb0 zb0 fb1 zb1 xb
  obtain ⟨fx0, zx0, fx1, zx1, fx2, zx2, xx⟩ := ly3 Rx_1.out
  obtain ⟨fy0, zy0, fy1, zy1, fy2, zy2, xy⟩ := ly3 Ry_1.out
  obtain ⟨fa0, za0, fa1, za1, xa⟩ := ly2 Ra_1.out
  obtain ⟨fb0, zb0, fb1, zb1, xb⟩ := ly2 Rb_1.out
  go_region
  clear fx0 zx0 fx1 zx1 fx2 zx2 xx fy0 zy0 fy1 zy1 fy2 zy2 xy fa0 za0 fa1 za1 xa fb0 zb0 fb1 zb1 xb
  obtain ⟨w2, hW⟩ : ∃ W : World, W = ((v1.setCell ⟨w.heap.size + 1 + 1, 0, none⟩ (.bool false)).setCell ⟨w.heap.size + 1 + 1, 1, none⟩ (.slice none 0 0)) := ⟨_, rfl⟩
  rw [← hW]
  have hO : Only (w.heap.size + 1 + 1) v1 w2 := by rw [hW]; exact (((Only.refl (w.heap.size + 1 + 1) v1).setCell 0 _).setCell 1 _)
  have L2 := Lib.hid (live_only L1.out hO Ra_1.out noint_int Ga)
  have Rx_2 := Lib.hid ((hO.block _ (by omega)).trans Rx_1.out)
  have Ry_2 := Lib.hid ((hO.block _ (by omega)).trans Ry_1.out)
  have Rb_2 := Lib.hid ((hO.block _ (by omega)).trans Rb_1.out)
  have Ra_2 := Lib.hid (show w2.heap[w.heap.size + 1 + 1]? = some (.cells #[.bool false, .slice none 0 0] 24 (0, 0)) by rw [hW]; exact (heap_setCell_same _ _ 1 _ _ _ (heap_setCell_same _ _ 0 _ _ _ Ra_1.out)))
  clear hW hO
  obtain ⟨w3, hW⟩ : ∃ W : World, W = ((w2.setCell ⟨w.heap.size + 1 + 1 + 1, 0, none⟩ (.bool (decide (n < 0)))).setCell ⟨w.heap.size + 1 + 1 + 1, 1, none⟩ (.slice B (digs n.natAbs).length d)) := ⟨_, rfl⟩
  rw [← hW]
  have hO : Only (w.heap.size + 1 + 1 + 1) w2 w3 := by rw [hW]; exact (((Only.refl (w.heap.size + 1 + 1 + 1) w2).setCell 0 _).setCell 1 _)
  have L3 := Lib.hid (live_only L2.out hO Rb_2.out noint_int Gb)
  have Rx_3 := Lib.hid ((hO.block _ (by omega)).trans Rx_2.out)
  have Ry_3 := Lib.hid ((hO.block _ (by omega)).trans Ry_2.out)
  have Ra_3 := Lib.hid ((hO.block _ (by omega)).trans Ra_2.out)
  have Rb_3 := Lib.hid (show w3.heap[w.heap.size + 1 + 1 + 1]? = some (.cells #[.bool (decide (n < 0)), .slice B (digs n.natAbs).length d] 24 (0, 0)) by rw [hW]; exact (heap_setCell_same _ _ 1 _ _ _ (heap_setCell_same _ _ 0 _ _ _ Rb_2.out)))
  clear hW hO
  obtain ⟨w4, hW⟩ : ∃ W : World, W = w3.drew := ⟨_, rfl⟩
  rw [← hW]
  have hb : Below w3.heap.size w3 w4 := by rw [hW]; exact bd0 _
  have L4 := ls L3 hb
  have Rx_4 := co Rx_3 hb
  have Ry_4 := co Ry_3 hb
  have Ra_4 := co Ra_3 hb
  have Rb_4 := co Rb_3 hb
  clear hW hb
  obtain ⟨fa0, za0, fa1, za1, xa⟩ := ly2 Ra_4.out
  obtain ⟨fb0, zb0, fb1, zb1, xb⟩ := ly2 Rb_4.out
  go_wp2
  refine bodyPost_ret (v := .tuple #[.agg #[.bool false, .slice none 0 0], .agg #[.bool (decide (n < 0)), .slice B (digs n.natAbs).length d], .int .i64 y]) (by simp [results, Tryz.results47, go_sem, fa0, fa1, fb0, fb1]) rfl ?_
  exact ⟨B, d, rfl, L4.out.get (A := B) (c := d) (xs := digs n.natAbs) (by simp), L4.out.1⟩

set_option maxHeartbeats 4000000 in
set_option maxRecDepth 100000 in
theorem r5lift_z2 (A B : Option Addr) (c d : Nat) (m n x y : Int) (w : World) (h : Dg w A c (digs m.natAbs)) (h' : Dg w B d (digs n.natAbs)) (m0 : m ≠ 0) (n0 : n = 0):
    Calls Tryz.prog 47 #[.agg #[.bool (decide (m < 0)), .slice A (digs m.natAbs).length c, .int .i64 x], .agg #[.bool (decide (n < 0)), .slice B (digs n.natAbs).length d, .int .i64 y]] w fun e w' => ∃ C k, e = .returned (.tuple #[.agg #[.bool (decide (m < 0)), .slice C (digs m.natAbs).length k], .agg #[.bool false, .slice none 0 0], .int .i64 x]) ∧ Dg w' C k (digs m.natAbs) ∧ Below w.heap.size w w' := by
  have t1 : ((((digs m.natAbs).length : Nat) : Int) == 0) = false := beq_eq_false_iff_ne.2 (fun e => m0 (by have := digs_nil.1 (show (digs m.natAbs).length = 0 by omega); omega))
  have t2 : ((((digs n.natAbs).length : Nat) : Int) == 0) = true := by rw [n0, show digs (0 : Int).natAbs = [] from digs_zero]; rfl
  have L0 := Lib.hid (((live_start w).add h).add h')
  clear h h' m0 n0
  go_enter Tryz.func47, Tryz.ntmps47
  go_wp2_with fail
  obtain ⟨v1, hW, hb, Rx_1, Ry_1, Ra_1, Rb_1⟩ := new4 w (.cells #[.bool (decide (m < 0)), .slice A (digs m.natAbs).length c, .int .i64 x] 26) (.cells #[.bool (decide (n < 0)), .slice B (digs n.natAbs).length d, .int .i64 y] 26) (.cells #[.bool false, .slice none 0 0] 24) (.cells #[.bool false, .slice none 0 0] 24)
  rw [← hW]
  have L1 := ls L0 hb
  have Gx := gl0 L0.out
  have Gy := gl1 L0.out
  have Nxy : w.heap.size < w.heap.size + 1 := by omega
  have Ga := gl2 L0.out
  have Nxa : w.heap.size < w.heap.size + 1 + 1 := by omega
  have Nya : w.heap.size + 1 < w.heap.size + 1 + 1 := by omega
  have Gb := gl3 L0.out
  have Nxb : w.heap.size < w.heap.size + 1 + 1 + 1 := by omega
  have Nyb : w.heap.size + 1 < w.heap.size + 1 + 1 + 1 := by omega
  have Nab : w.heap.size + 1 + 1 < w.heap.size + 1 + 1 + 1 := by omega
  clear hW hb
  obtain ⟨fx0, zx0, fx1, zx1, fx2, zx2, xx⟩ := ly3 Rx_1.out
  obtain ⟨fy0, zy0, fy1, zy1, fy2, zy2, xy⟩ := ly3 Ry_1.out
  obtain ⟨fa0, za0, fa1, za1, xa⟩ := ly2 Ra_1.out
  obtain ⟨fb0, zb0, fb1, zb1, xb⟩ := ly2 Rb_1.out
  go_upto_region 4 with fail
  clear fx0 zx0 fx1 zx1 fx2 zx2 xx fy0 zy0 fy1 zy1 fy2 zy2 xy fa0 za0 fa1 za1 xa fb0 zb0 fb1 zb1 xb
  obtain ⟨fx0, zx0, fx1, zx1, fx2, zx2, xx⟩ := ly3 Rx_1.out
  obtain ⟨fy0, zy0, fy1, zy1, fy2, zy2, xy⟩ := ly3 Ry_1.out
  obtain ⟨fa0, za0, fa1, za1, xa⟩ := ly2 Ra_1.out
  obtain ⟨fb0, zb0, fb1, zb1, xb⟩ := ly2 Rb_1.out
  go_region
  clear fx0 zx0 fx1 zx1 fx2 zx2 xx fy0 zy0 fy1 zy1 fy2 zy2 xy fa0 za0 fa1 za1 xa fb0 zb0 fb1 zb1 xb
  obtain ⟨w2, hW⟩ : ∃ W : World, W = ((v1.setCell ⟨w.heap.size + 1 + 1, 0, none⟩ (.bool (decide (m < 0)))).setCell ⟨w.heap.size + 1 + 1, 1, none⟩ (.slice A (digs m.natAbs).length c)) := ⟨_, rfl⟩
  rw [← hW]
  have hO : Only (w.heap.size + 1 + 1) v1 w2 := by rw [hW]; exact (((Only.refl (w.heap.size + 1 + 1) v1).setCell 0 _).setCell 1 _)
  have L2 := Lib.hid (live_only L1.out hO Ra_1.out noint_int Ga)
  have Rx_2 := Lib.hid ((hO.block _ (by omega)).trans Rx_1.out)
  have Ry_2 := Lib.hid ((hO.block _ (by omega)).trans Ry_1.out)
  have Rb_2 := Lib.hid ((hO.block _ (by omega)).trans Rb_1.out)
  have Ra_2 := Lib.hid (show w2.heap[w.heap.size + 1 + 1]? = some (.cells #[.bool (decide (m < 0)), .slice A (digs m.natAbs).length c] 24 (0, 0)) by rw [hW]; exact (heap_setCell_same _ _ 1 _ _ _ (heap_setCell_same _ _ 0 _ _ _ Ra_1.out)))
  clear hW hO
  obtain ⟨w3, hW⟩ : ∃ W : World, W = ((w2.setCell ⟨w.heap.size + 1 + 1 + 1, 0, none⟩ (.bool false)).setCell ⟨w.heap.size + 1 + 1 + 1, 1, none⟩ (.slice none 0 0)) := ⟨_, rfl⟩
  rw [← hW]
  have hO : Only (w.heap.size + 1 + 1 + 1) w2 w3 := by rw [hW]; exact (((Only.refl (w.heap.size + 1 + 1 + 1) w2).setCell 0 _).setCell 1 _)
  have L3 := Lib.hid (live_only L2.out hO Rb_2.out noint_int Gb)
  have Rx_3 := Lib.hid ((hO.block _ (by omega)).trans Rx_2.out)
  have Ry_3 := Lib.hid ((hO.block _ (by omega)).trans Ry_2.out)
  have Ra_3 := Lib.hid ((hO.block _ (by omega)).trans Ra_2.out)
  have Rb_3 := Lib.hid (show w3.heap[w.heap.size + 1 + 1 + 1]? = some (.cells #[.bool false, .slice none 0 0] 24 (0, 0)) by rw [hW]; exact (heap_setCell_same _ _ 1 _ _ _ (heap_setCell_same _ _ 0 _ _ _ Rb_2.out)))
  clear hW hO
  obtain ⟨w4, hW⟩ : ∃ W : World, W = w3.drew := ⟨_, rfl⟩
  rw [← hW]
  have hb : Below w3.heap.size w3 w4 := by rw [hW]; exact bd0 _
  have L4 := ls L3 hb
  have Rx_4 := co Rx_3 hb
  have Ry_4 := co Ry_3 hb
  have Ra_4 := co Ra_3 hb
  have Rb_4 := co Rb_3 hb
  clear hW hb
  obtain ⟨fa0, za0, fa1, za1, xa⟩ := ly2 Ra_4.out
  obtain ⟨fb0, zb0, fb1, zb1, xb⟩ := ly2 Rb_4.out
  go_wp2
  refine bodyPost_ret (v := .tuple #[.agg #[.bool (decide (m < 0)), .slice A (digs m.natAbs).length c], .agg #[.bool false, .slice none 0 0], .int .i64 x]) (by simp [results, Tryz.results47, go_sem, fa0, fa1, fb0, fb1]) rfl ?_
  exact ⟨A, c, rfl, L4.out.get (A := A) (c := c) (xs := digs m.natAbs) (by simp), L4.out.1⟩
end Go.Proofs.YtdmfapgclppmhaaGreatDoor
end

section
namespace Go.Proofs.YtdmfapgclppmhaaGreatDoor
open Go.RowKit
theorem zr_end {w w4 : World} {A4 : Option Addr} {c4 : Nat} {z : Int} (g : Nat) (hg : w.heap.size ≤ g) (hd : Dg w4 A4 c4 (digs z.natAbs)) (ho : Off g A4 (digs z.natAbs)) (hb : Below w.heap.size w w4) (v v' : Value) :
    Zr z w (.returned (.agg #[.bool (decide (z < 0)), .slice A4 (digs z.natAbs).length c4])) ((w4.setCell ⟨g, 0, none⟩ v).setCell ⟨g, 1, none⟩ v') :=
  ⟨A4, c4, rfl, (hd.set_off ho _ _).set_off ho _ _, (hb.setCell (by simpa using hg) _).setCell (by simpa using hg) _⟩
set_option maxHeartbeats 4000000 in
set_option maxRecDepth 100000 in
theorem rzadd_same (A B : Option Addr) (c d : Nat) (s : Bool) (xs ys : List Nat) (w : World) (h : Dg w A c xs) (h' : Dg w B d ys) (hl : xs.length ≤ 900000) (hl' : ys.length ≤ 900000) :
    Calls Tryz.prog 50 #[.agg #[.bool s, .slice A xs.length c], .agg #[.bool s, .slice B ys.length d]] w fun e w' => Zr (sg s (val xs + val ys)) w e w' := by
  have l1 := digs_len_le h.2.1
  have l2 := digs_len_le h'.2.1
  have l3 := digs_add_len (val xs) (val ys)
  have hss : (s == s) = true := by simp
  have TA := Lib.hid (fun W h h' => radd_any A B c d xs ys W h h' (by omega) (by omega))
  have TM := Lib.hid (fun A' c' W h => rmake_any A' c' s (digs (val xs + val ys)) W h (by omega))
  rw [val_digs] at TM
  generalize sg s (val xs + val ys) = z at *
  go_enter Tryz.func50, Tryz.ntmps50
  go_wp2
  go_region_held3 (fun w' => (∀ b o, b < w.heap.size + 2 → w'.cell? ⟨b, o, none⟩ = (((w.alloc (.cells #[.bool s, .slice A xs.length c] 24)).alloc (.cells #[.bool s, .slice B ys.length d] 24)).alloc (.cells #[.bool false, .slice none 0 0] 24)).cell? ⟨b, o, none⟩))
    (first | exact fun _ _ _ => rfl | with_reducible exact (bcellB (K1.out.mono (N2 _ _ _ _))).1 | with_reducible exact (bcellB (K2.out.mono (N2 _ _ _ _))).1 | exact (bcellB (((K2.out.mono (N2 _ _ _ _)).setCell (by simp) _).setCell (by simp) _)).1)
    (first
      | (go_at_call 87; ((with_reducible refine (TA.out _ (h.below (below_drew (below3 _ _ _ _))) (h'.below (below_drew (below3 _ _ _ _)))).mono ?_); rintro e w1 ⟨A1, c1, rfl, hd, hb⟩; (have K1 := Lib.hid (undrew hb)); (have G1 := Lib.hid hd); clear hb hd))
      | (go_at_call 71; ((with_reducible refine (TM.out _ _ _ G1.out).mono ?_); rintro e w2 ⟨A2, c2, rfl, hd, hb⟩; (have K2 := Lib.hid (K1.out.trans (hb.mono K1.out.size))); (obtain ⟨hc2, hf2⟩ := bcell K2.out); (have HO2 := Lib.hid (off_box (g := w.heap.size + 1 + 1) hd K2.out (by simp) noint2')); (have G2 := Lib.hid hd); clear hb hd)))
  go_wp2
  refine bodyPost_ret (v := .agg #[.bool (decide (z < 0)), .slice A2 (digs z.natAbs).length c2]) (by simp [results, Tryz.results50, go_sem, hc2]) rfl ?_
  exact zr_end _ (by omega) G2.out HO2.out ((below3 w _ _ _).trans (K2.out.mono (by simp; omega))) _ _
set_option maxHeartbeats 4000000 in
set_option maxRecDepth 100000 in
theorem rzadd_ge (A B : Option Addr) (c d : Nat) (s r : Bool) (xs ys : List Nat) (w : World) (h : Dg w A c xs) (h' : Dg w B d ys) (hl : xs.length ≤ 900000) (hl' : ys.length ≤ 900000) (hsr : (s == r) = false) (hle : val ys ≤ val xs) :
    Calls Tryz.prog 50 #[.agg #[.bool s, .slice A xs.length c], .agg #[.bool r, .slice B ys.length d]] w fun e w' => Zr (sg s (val xs - val ys)) w e w' := by
  have l1 := digs_len_le h.2.1
  have l3 := digs_sub_len (val xs) (val ys)
  have TA := Lib.hid (fun W h h' => rsub_yes A B c d xs ys W h h' (by omega) (by omega) hle)
  have TM := Lib.hid (fun A' c' W h => rmake_any A' c' s (digs (val xs - val ys)) W h (by omega))
  rw [val_digs] at TM
  generalize sg s (val xs - val ys) = z at *
  clear hle
  go_enter Tryz.func50, Tryz.ntmps50
  go_wp2_with fail
  refine (TA.out _ (h.below (below3 _ _ _ _)) (h'.below (below3 _ _ _ _))).mono ?_
  rintro e w1 ⟨A1, c1, rfl, hd, hb⟩
  have K1 := Lib.hid hb
  have G1 := Lib.hid hd
  obtain ⟨hc1, hf1⟩ := bcell hb
  clear hb hd
  go_wp2_with fail
  refine (TM.out _ _ _ G1.out).mono ?_
  rintro e w2 ⟨A2, c2, rfl, hd, hb⟩
  have K2 := Lib.hid (K1.out.trans (hb.mono K1.out.size))
  obtain ⟨hc2, hf2⟩ := bcell K2.out
  have HO2 := Lib.hid (off_box (g := w.heap.size + 1 + 1) hd K2.out (by simp) noint2')
  have G2 := Lib.hid hd
  clear hb hd
  go_wp2
  refine bodyPost_ret (v := .agg #[.bool (decide (z < 0)), .slice A2 (digs z.natAbs).length c2]) (by simp [results, Tryz.results50, go_sem, hc2]) rfl ?_
  exact zr_end _ (by omega) G2.out HO2.out ((below3 w _ _ _).trans (K2.out.mono (by simp; omega))) _ _
set_option maxHeartbeats 4000000 in
set_option maxRecDepth 100000 in
theorem rzadd_lt (A B : Option Addr) (c d : Nat) (s r : Bool) (xs ys : List Nat) (w : World) (h : Dg w A c xs) (h' : Dg w B d ys) (hl : xs.length ≤ 900000) (hl' : ys.length ≤ 900000) (hsr : (s == r) = false) (hlt : val xs < val ys) :
    Calls Tryz.prog 50 #[.agg #[.bool s, .slice A xs.length c], .agg #[.bool r, .slice B ys.length d]] w fun e w' => Zr (sg r (val ys - val xs)) w e w' := by
  have l1 := digs_len_le h'.2.1
  have l3 := digs_sub_len (val ys) (val xs)
  have TA := Lib.hid (fun W h h' => rsub_yes B A d c ys xs W h' h (by omega) (by omega) (Nat.le_of_lt hlt))
  have TN := Lib.hid (fun W h h' => rsub_no A B c d xs ys W h h' (by omega) (by omega) hlt)
  have TM := Lib.hid (fun A' c' W h => rmake_any A' c' r (digs (val ys - val xs)) W h (by omega))
  rw [val_digs] at TM
  generalize sg r (val ys - val xs) = z at *
  clear hlt
  go_enter Tryz.func50, Tryz.ntmps50
  go_wp2_with fail
  refine (TN.out _ (h.below (below3 _ _ _ _)) (h'.below (below3 _ _ _ _))).mono ?_
  rintro e w0 ⟨rfl, rfl⟩
  go_wp2_with fail
  refine (TA.out _ (h.below (below3 _ _ _ _)) (h'.below (below3 _ _ _ _))).mono ?_
  rintro e w1 ⟨A1, c1, rfl, hd, hb⟩
  have K1 := Lib.hid hb
  have G1 := Lib.hid hd
  obtain ⟨hc1, hf1⟩ := bcell hb
  clear hb hd
  go_wp2_with fail
  refine (TM.out _ _ _ G1.out).mono ?_
  rintro e w2 ⟨A2, c2, rfl, hd, hb⟩
  have K2 := Lib.hid (K1.out.trans (hb.mono K1.out.size))
  obtain ⟨hc2, hf2⟩ := bcell K2.out
  have HO2 := Lib.hid (off_box (g := w.heap.size + 1 + 1) hd K2.out (by simp) noint2')
  have G2 := Lib.hid hd
  clear hb hd
  go_wp2
  refine bodyPost_ret (v := .agg #[.bool (decide (z < 0)), .slice A2 (digs z.natAbs).length c2]) (by simp [results, Tryz.results50, go_sem, hc2]) rfl ?_
  exact zr_end _ (by omega) G2.out HO2.out ((below3 w _ _ _).trans (K2.out.mono (by simp; omega))) _ _
theorem rzadd_any (A B : Option Addr) (c d : Nat) (s r : Bool) (xs ys : List Nat) (w : World) (h : Dg w A c xs) (h' : Dg w B d ys) (hl : xs.length ≤ 900000) (hl' : ys.length ≤ 900000) :
    Calls Tryz.prog 50 #[.agg #[.bool s, .slice A xs.length c], .agg #[.bool r, .slice B ys.length d]] w fun e w' => Zr (sg s (val xs) + sg r (val ys)) w e w' := by
  cases hsr : (s == r)
  · rcases Nat.lt_or_ge (val xs) (val ys) with hlt | hge
    · rw [← sg_less hsr hlt]; exact rzadd_lt A B c d s r xs ys w h h' hl hl' hsr hlt
    · rw [← sg_more hsr hge]; exact rzadd_ge A B c d s r xs ys w h h' hl hl' hsr hge
  · have e : s = r := by simpa using hsr
    subst e
    rw [← sg_same]; exact rzadd_same A B c d s xs ys w h h' hl hl'
end Go.Proofs.YtdmfapgclppmhaaGreatDoor
end

section
namespace Go.Proofs.YtdmfapgclppmhaaGreatDoor
open Go.RowKit
set_option linter.unusedSimpArgs false
set_option linter.unusedVariables false
theorem nx_bdU {z y : Int} (h : (digs z.natAbs).length ≤ 100000) (y0 : -1000000 ≤ y) (y1 : y ≤ 1000000) : -10000000 ≤ nx z y ∧ nx z y ≤ 10000000 := by
  by_cases h0 : z = 0
  · unfold nx; rw [if_pos h0]; omega
  · have hb := bl_bd h
    have hlt : tz z.natAbs < 2 * 3200000 := by
      have := (blen_bd z.natAbs (by omega)).2.1
      have := tz_lt (by omega) this
      omega
    have e2 : nx z y = y + tz z.natAbs := by unfold nx; rw [if_neg h0]
    omega
theorem rzadd_j {A B : Option Addr} {c d : Nat} {p q z : Int} {w : World} (h : Dg w A c (digs p.natAbs)) (h' : Dg w B d (digs q.natAbs)) (hl : (digs p.natAbs).length ≤ 100000) (hl' : (digs q.natAbs).length ≤ 100000) (hz : p + q = z) :
    Calls Tryz.prog 50 #[.agg #[.bool (decide (p < 0)), .slice A (digs p.natAbs).length c], .agg #[.bool (decide (q < 0)), .slice B (digs q.natAbs).length d]] w fun e w' => Zr z w e w' := by
  have := rzadd_any A B c d (decide (p < 0)) (decide (q < 0)) _ _ w h h' (by omega) (by omega)
  rw [sg_of _ rfl, sg_of _ rfl, hz] at this; exact this
theorem rnorm_j {A : Option Addr} {c : Nat} {z y M E : Int} {w : World} (h : Dg w A c (digs z.natAbs)) (hl : (digs z.natAbs).length ≤ 100000) (y0 : -1000000 ≤ y) (y1 : y ≤ 1000000) (hM : nm z = M) (hE : nx z y = E) :
    Calls Tryz.prog 49 #[.agg #[.bool (decide (z < 0)), .slice A (digs z.natAbs).length c], .int .i64 y] w fun e w' => Yr M E w e w' :=
  rnorm_z h hl (sg_of _ rfl) hl y0 y1 hM hE

set_option maxHeartbeats 4000000 in
set_option maxRecDepth 100000 in
theorem r5add_b_ (A B : Option Addr) (c d : Nat) (m n x y : Int) (p q e0 z M E : Int) (w : World) (h : Dg w A c (digs m.natAbs)) (h' : Dg w B d (digs n.natAbs)) (hl : (digs m.natAbs).length ≤ 10000) (hl' : (digs n.natAbs).length ≤ 10000) (r1 : Rt m x) (r2 : Rt n y) (hf : ∀ W, Dg W A c (digs m.natAbs) → Dg W B d (digs n.natAbs) → Calls Tryz.prog 47 #[.agg #[.bool (decide (m < 0)), .slice A (digs m.natAbs).length c, .int .i64 x], .agg #[.bool (decide (n < 0)), .slice B (digs n.natAbs).length d, .int .i64 y]] W (Ybs p q e0 W)) (lp : (digs p.natAbs).length ≤ 20000) (lq : (digs q.natAbs).length ≤ 20000) (hz : p + q = z) (lz : (digs z.natAbs).length ≤ 50000) (e00 : -1000000 ≤ e0) (e01 : e0 ≤ 1000000) (hM : nm z = M) (hE : nx z e0 = E) {K F V : Int} (hq : tot M E = (K, F, V)):
    Calls Tryz.prog 23 #[.agg #[.bool (decide (m < 0)), .slice A (digs m.natAbs).length c, .int .i64 x], .agg #[.bool (decide (n < 0)), .slice B (digs n.natAbs).length d, .int .i64 y]] w fun e w' => Ye K F V w e w' := by
  have HR1 := Lib.hid r1
  have HR2 := Lib.hid r2
  have lx := Lib.hid hl
  have ly := Lib.hid hl'
  have HQ := Lib.hid hq
  have HF := Lib.hid hf
  have LP := Lib.hid lp
  have LQ := Lib.hid lq
  have HZ := Lib.hid hz
  have LZ := Lib.hid lz
  have E0 := Lib.hid (And.intro e00 e01)
  have HM := Lib.hid hM
  have HE := Lib.hid hE
  have BE := nx_bdU (z := z) (y := e0) (by omega) e00 e01
  rw [hE] at BE
  have BE := Lib.hid BE
  have LM := nm_len z
  rw [hM] at LM
  have LM := Lib.hid (Nat.le_trans LM lz)
  have L0 := Lib.hid (((live_start w).add h).add h')
  clear h h' hl hl' r1 r2 hf lp lq hz lz e00 e01 hM hE hq
  go_enter Tryz.func23, Tryz.ntmps23
  go_wp2_with fail
  obtain ⟨v1, hW, hb, Rx_1, Ry_1, Rr_1⟩ := new3 w (.cells #[.bool (decide (m < 0)), .slice A (digs m.natAbs).length c, .int .i64 x] 26) (.cells #[.bool (decide (n < 0)), .slice B (digs n.natAbs).length d, .int .i64 y] 26) (.cells #[.bool false, .slice none 0 0, .int .i64 0] 26)
  rw [← hW]
  have L1 := ls L0 hb
  have Gx := gl0 L0.out
  have Gy := gl1 L0.out
  have Nxy : w.heap.size < w.heap.size + 1 := by omega
  have Gr := gl2 L0.out
  have Nxr : w.heap.size < w.heap.size + 1 + 1 := by omega
  have Nyr : w.heap.size + 1 < w.heap.size + 1 + 1 := by omega
  clear hW hb
  refine (r5right_t (L1.out.get (A := A) (c := c) (xs := digs m.natAbs) (by simp)) lx.out HR1.out).mono ?_
  rintro e w2 ⟨rfl, hb⟩
  have L2 := ls L1 hb
  have Rx_2 := co Rx_1 hb
  have Ry_2 := co Ry_1 hb
  have Rr_2 := co Rr_1 hb
  clear hb 
  obtain ⟨fy0, zy0, fy1, zy1, fy2, zy2, xy⟩ := ly3 Ry_2.out
  go_wp2_with fail
  refine (r5right_t (L2.out.get (A := B) (c := d) (xs := digs n.natAbs) (by simp)) ly.out HR2.out).mono ?_
  rintro e w3 ⟨rfl, hb⟩
  have L3 := ls L2 hb
  clear fy0 zy0 fy1 zy1 fy2 zy2 xy
  have Rx_3 := co Rx_2 hb
  have Ry_3 := co Ry_2 hb
  have Rr_3 := co Rr_2 hb
  clear hb 
  obtain ⟨fx0, zx0, fx1, zx1, fx2, zx2, xx⟩ := ly3 Rx_3.out
  obtain ⟨fy0, zy0, fy1, zy1, fy2, zy2, xy⟩ := ly3 Ry_3.out
  go_wp2_with fail
  refine (HF.out _ (L3.out.get (A := A) (c := c) (xs := digs m.natAbs) (by simp)) (L3.out.get (A := B) (c := d) (xs := digs n.natAbs) (by simp))).mono ?_
  rintro e w4 ⟨A4, c4, B4, d4, rfl, hd, hd', hb⟩
  have L4 := Lib.hid (((L3.out.step hb).add hd).add hd')
  clear fx0 zx0 fx1 zx1 fx2 zx2 xx fy0 zy0 fy1 zy1 fy2 zy2 xy
  have Rx_4 := co Rx_3 hb
  have Ry_4 := co Ry_3 hb
  have Rr_4 := co Rr_3 hb
  clear hb hd hd'
  go_wp2_with fail
  obtain ⟨w5, hW, hb, Ra_5, Rb_5⟩ := new2 w4 (.cells #[.bool (decide (p < 0)), .slice A4 (digs p.natAbs).length c4] 24) (.cells #[.bool (decide (q < 0)), .slice B4 (digs q.natAbs).length d4] 24)
  rw [← hW]
  have L5 := ls L4 hb
  have Rx_5 := co Rx_4 hb
  have Ry_5 := co Ry_4 hb
  have Rr_5 := co Rr_4 hb
  have Ga := gl0 L4.out
  have Nxa := nl0 Rx_4.out
  have Nya := nl0 Ry_4.out
  have Nra := nl0 Rr_4.out
  have Gb := gl1 L4.out
  have Nxb := nl1 Rx_4.out
  have Nyb := nl1 Ry_4.out
  have Nrb := nl1 Rr_4.out
  have Nab : w4.heap.size < w4.heap.size + 1 := by omega
  clear hW hb
  refine (rzadd_j (L5.out.get (A := A4) (c := c4) (xs := digs p.natAbs) (by simp)) (L5.out.get (A := B4) (c := d4) (xs := digs q.natAbs) (by simp)) (Nat.le_trans LP.out (by omega)) (Nat.le_trans LQ.out (by omega)) HZ.out).mono ?_
  rintro e w6 ⟨A6, c6, rfl, hd, hb⟩
  have L6 := la L5 hb hd
  have Rx_6 := co Rx_5 hb
  have Ry_6 := co Ry_5 hb
  have Rr_6 := co Rr_5 hb
  have Ra_6 := co Ra_5 hb
  have Rb_6 := co Rb_5 hb
  clear hb hd
  go_wp2_with fail
  refine (rnorm_j (L6.out.get (A := A6) (c := c6) (xs := digs z.natAbs) (by simp)) (Nat.le_trans LZ.out (by omega)) E0.out.1 E0.out.2 HM.out HE.out).mono ?_
  rintro e w7 ⟨A7, c7, rfl, hd, hb⟩
  have L7 := la L6 hb hd
  have Rx_7 := co Rx_6 hb
  have Ry_7 := co Ry_6 hb
  have Rr_7 := co Rr_6 hb
  have Ra_7 := co Ra_6 hb
  have Rb_7 := co Rb_6 hb
  clear hb hd
  go_wp2_with fail
  refine (r5told (L7.out.get (A := A7) (c := c7) (xs := digs M.natAbs) (by simp)) (Nat.le_trans LM.out (by omega)) BE.out.1 BE.out.2 HQ.out).mono ?_
  rintro e w8 ⟨A8, c8, rfl, hd, hb⟩
  have L8 := la L7 hb hd
  have Rx_8 := co Rx_7 hb
  have Ry_8 := co Ry_7 hb
  have Rr_8 := co Rr_7 hb
  have Ra_8 := co Ra_7 hb
  have Rb_8 := co Rb_7 hb
  clear hb hd
  obtain ⟨fr0, zr0, fr1, zr1, fr2, zr2, xr⟩ := ly3 Rr_8.out
  go_wp2
  refine bodyPost_ret (v := .tuple #[.agg #[.bool (decide (K < 0)), .slice A8 (digs K.natAbs).length c8, .int .i64 F], .int .i64 V]) (by simp [results, Tryz.results23, go_sem, fr0, fr1, fr2]) rfl ?_
  
  refine ⟨A8, c8, rfl, ?_, ?_⟩
  · exact (fin3 L8.out Rr_8.out noint3 Gr).get (A := A8) (c := c8) (xs := digs K.natAbs) (by simp)
  · exact (fin3 L8.out Rr_8.out noint3 Gr).1

theorem ybs_z1 {A B : Option Addr} {c d : Nat} {m n x y : Int} {w : World} (h : Dg w A c (digs m.natAbs)) (h' : Dg w B d (digs n.natAbs)) (m0 : m = 0) :
    Calls Tryz.prog 47 #[.agg #[.bool (decide (m < 0)), .slice A (digs m.natAbs).length c, .int .i64 x], .agg #[.bool (decide (n < 0)), .slice B (digs n.natAbs).length d, .int .i64 y]] w (Ybs 0 n y w) := by
  refine (r5lift_z1 A B c d m n x y w h h' m0).mono ?_
  rintro e w' ⟨C, k, rfl, hd, hb⟩
  have e0 : digs (0 : Int).natAbs = [] := digs_zero
  exact ⟨none, 0, C, k, by rw [e0]; rfl, by rw [e0]; exact Dg.nil_ _ _, hd, hb⟩
theorem ybs_z2 {A B : Option Addr} {c d : Nat} {m n x y : Int} {w : World} (h : Dg w A c (digs m.natAbs)) (h' : Dg w B d (digs n.natAbs)) (m0 : m ≠ 0) (n0 : n = 0) :
    Calls Tryz.prog 47 #[.agg #[.bool (decide (m < 0)), .slice A (digs m.natAbs).length c, .int .i64 x], .agg #[.bool (decide (n < 0)), .slice B (digs n.natAbs).length d, .int .i64 y]] w (Ybs m 0 x w) := by
  refine (r5lift_z2 A B c d m n x y w h h' m0 n0).mono ?_
  rintro e w' ⟨C, k, rfl, hd, hb⟩
  have e0 : digs (0 : Int).natAbs = [] := digs_zero
  exact ⟨C, k, none, 0, by rw [e0]; rfl, hd, by rw [e0]; exact Dg.nil_ _ _, hb⟩

theorem r5add_t {A B : Option Addr} {c d : Nat} {m n x y M E K F V : Int} {w : World} (h : Dg w A c (digs m.natAbs)) (h' : Dg w B d (digs n.natAbs)) (hl : (digs m.natAbs).length ≤ 10000) (hl' : (digs n.natAbs).length ≤ 10000) (r1 : Rt m x) (r2 : Rt n y) (hs : IsD (dv m x + dv n y) M E) (hq : tot M E = (K, F, V)) :
    Calls Tryz.prog 23 #[.agg #[.bool (decide (m < 0)), .slice A (digs m.natAbs).length c, .int .i64 x], .agg #[.bool (decide (n < 0)), .slice B (digs n.natAbs).length d, .int .i64 y]] w fun e w' => Ye K F V w e w' := by
  have e0 : (digs (0 : Int).natAbs).length = 0 := by rw [show digs (0 : Int).natAbs = [] from digs_zero]; rfl
  by_cases m0 : m = 0
  · have hu := IsD.of (m := n) (e := y) (M := M) (E := E) (by rw [m0, dv_zero, Rat.zero_add] at hs; exact hs)
    exact r5add_b_ A B c d m n x y 0 n y n M E w h h' hl hl' r1 r2 (fun W a b => ybs_z1 a b m0) (by omega) (by omega) (by omega) (by omega) (by have := r2.2; omega) (by have := r2.2; omega) hu.1 hu.2 hq
  · by_cases n0 : n = 0
    · have hu := IsD.of (m := m) (e := x) (M := M) (E := E) (by rw [n0, dv_zero, Rat.add_zero] at hs; exact hs)
      exact r5add_b_ A B c d m n x y m 0 x m M E w h h' hl hl' r1 r2 (fun W a b => ybs_z2 a b m0 n0) (by omega) (by omega) (by omega) (by omega) (by have := r1.2; omega) (by have := r1.2; omega) hu.1 hu.2 hq
    · obtain ⟨e1, he1⟩ : ∃ e, min x y = e := ⟨_, rfl⟩
      have ez := sum_upto m x n y
      rw [he1] at ez
      have x0 := r1.2.1
      have x1 := r1.2.2
      have y0 := r2.2.1
      have y1 := r2.2.2
      have lp := upto_len2 (m := m) (x := x) (e0 := e1) hl (by omega)
      have lq := upto_len2 (m := n) (x := y) (e0 := e1) hl' (by omega)
      have hu := IsD.of (m := upto m x e1 + upto n y e1) (e := e1) (M := M) (E := E) (by rw [ez]; exact hs)
      have h1 := digs_len_mono _ _ (by omega : (upto m x e1 + upto n y e1).natAbs ≤ (upto m x e1).natAbs + (upto n y e1).natAbs)
      have h2 := digs_add_len (upto m x e1).natAbs (upto n y e1).natAbs
      exact r5add_b_ A B c d m n x y _ _ e1 _ M E w h h' hl hl' r1 r2 (fun W a b => r5lift_any a b hl hl' x0 x1 y0 y1 m0 n0 he1 rfl rfl) lp lq rfl (by omega) (by omega) (by omega) hu.1 hu.2 hq
end Go.Proofs.YtdmfapgclppmhaaGreatDoor
end

section
namespace Go.Proofs.YtdmfapgclppmhaaGreatDoor
open Go.RowKit
set_option maxHeartbeats 2000000 in
set_option maxRecDepth 100000 in
theorem rzbytes_any (A : Option Addr) (c : Nat) (s : Bool) (xs : List Nat) (w : World) (h : Dg w A c xs) (hl : xs.length ≤ 400) (hr : rightB s xs = true) :
    Calls Tryz.prog 38 #[.agg #[.bool s, .slice A xs.length c]] w fun e w' => e = .returned (.tuple #[.string ⟨(zbytes s xs).toArray⟩, .bool true]) ∧ Below w.heap.size w w' := by
  have RA := Lib.hid (fun W h => rright_any A c s xs W h true hr (by omega))
  obtain ⟨i0, hi, hz0, hz1, hz2⟩ := info_parts elem8_info
  have d4 : decide ((400 : Int) < (xs.length : Int)) = false := by simp; omega
  clear hr
  have HD := Lib.hid h
  clear h
  obtain ⟨H, hH⟩ : ∃ H : Int, ((headN s xs.length : Nat) : Int) = H := ⟨_, rfl⟩
  have HH := Lib.hid hH
  have hH2 : H = 2 * (xs.length : Int) + (if s then 1 else 0) := by rw [← hH]; unfold headN; cases s <;> simp
  clear hH
  cases s
  · have hH3 : 2 * (xs.length : Int) = H := by simpa using hH2.symm
    have hHb : 0 ≤ H ∧ H ≤ 801 := by omega
    obtain ⟨hHb0, hHb1⟩ := hHb
    have HEQ := Lib.hid hH3
    clear hH2 hH3
    go_enter Tryz.func38, Tryz.ntmps38
    go_wp2_with fail
    refine (RA.out _ (HD.out.below (below1 _ _))).mono ?_
    rintro e w1 ⟨rfl, hb⟩
    have K1 := Lib.hid (show Below (w.heap.size + 1) (w.alloc (.cells #[.bool false, .slice A xs.length c] 24)) w1 by simpa using hb)
    obtain ⟨hc, hf⟩ := bcellB K1.out
    have hsz : w.heap.size + 1 ≤ w1.heap.size := by have := K1.out.size; simpa using this
    clear hb
    go_upto_region 7 with fail
    rw [HEQ.out]
    go_wp2_with fail
    have HW := Lib.hid (show (w1.alloc (.cells #[.int .u8 (H / 256), .int .u8 (H % 256)] 5)).ownsRow (w.heap.size + 1) 5 1 (.slice (some ⟨w1.heap.size, 0, none⟩) 2 2) 2 (Lib.byteCells [UInt8.ofNat (headN false xs.length / 256), UInt8.ofNat (headN false xs.length)]) by
      rw [head_cells HH.out hHb1]
      exact World.ownsRow_lit w1 #[.int .u8 (H / 256), .int .u8 (H % 256)] 2 hsz (by unfold maxLen; omega) rfl)
    have KW := Lib.hid (K1.out.alloc hsz (.cells #[.int .u8 (H / 256), .int .u8 (H % 256)] 5))
    clear hc hf
    generalize w1.alloc (.cells #[.int .u8 (H / 256), .int .u8 (H % 256)] 5) = w2 at *
    go_loopw [6, 7] (fun v i wr => ∃ k : Nat, k ≤ xs.length ∧ i = .int .i64 k ∧ Hid (wr.ownsRow (w.heap.size + 1) 5 1 v (2 + 4 * k) (Lib.byteCells ([UInt8.ofNat (headN false xs.length / 256), UInt8.ofNat (headN false xs.length)] ++ lay4 (xs.take k)))) ∧ Hid (Below (w.heap.size + 1) (w.alloc (.cells #[.bool false, .slice A xs.length c] 24)) wr)) (fun _ i _ => xs.length - (intOf i).toNat)
    case atStart => exact ⟨0, Nat.zero_le _, rfl, Lib.hid (by simpa [lay4] using HW.out), KW⟩
    case round =>
      obtain ⟨k, hk, rfl, ho, hb⟩ := hrel
      obtain ⟨hc, hf⟩ := bcellB hb.out
      have hsz2 : w.heap.size + 1 ≤ wr.heap.size := by have := hb.out.size; simpa using this
      by_cases hlt : k < xs.length
      · obtain ⟨b, off, hD, hbl, hcell⟩ := HD.out.2.2 (by omega)
        have hcx := ((below1 w (.cells #[.bool false, .slice A xs.length c] 24)).trans (hb.out.mono (by omega))).cell (p := ⟨b, off + k, none⟩) hbl |>.trans (hcell k hlt)
        have hx := getD_lt HD.out.2.1 k
        have HX := Lib.hid hx
        generalize hxk : xs[k]?.getD 0 = x at *
        have HXK := Lib.hid hxk
        clear hcell hxk hx
        generalize hX : ((x : Nat) : Int) = X at *
        have i0' : 0 ≤ X := by omega
        have i1' : X < 4294967296 := by have := HX.out; omega
        have HXX := Lib.hid hX
        clear hX
        have hkc : k ≤ c := by have := HD.out.1; omega
        subst hD
        go_wp2_with (at_builtin; refine wpList_append_own _ rfl _ _ 50 rfl (w.heap.size + 1) 5 i0 (.int .u8 0) 1 1 Tryz.underlying50 hi hz0 hz1 hz2 rfl (by decide) _ _ _ rfl (ho.out.alloc _) ⟨wr.heap.size, 0, none⟩ 4 4 [.int .u8 (X % 256), .int .u8 (X / 256 % 256), .int .u8 (X / 65536 % 256), .int .u8 (X / 16777216)] rfl rfl (fun j u hj => four_new hj) (by intro u hu; simp at hu; rcases hu with rfl | rfl | rfl | rfl <;> rfl) (by unfold maxLen; omega) (by omega) (by simp; omega) ?_)
        intro v' w4 hown1 hgrow _
        have HN := Lib.hid hown1
        have HB1 := Lib.hid ((hb.out.alloc hsz2 _).grown hgrow (by simp; omega) (fun k hk => (ho.out.lt k hk).1))
        clear hown1 hgrow hc hf
        go_wp2
        go_roundw
        case rel =>
          refine ⟨k + 1, by omega, by go_num, Lib.hid ?_, HB1⟩
          rw [lay4_take hlt, HXK.out, ← List.append_assoc, byteCells_add, d4_cells HXX.out HX.out]
          exact HN.out
        case measure => simp [intOf]; omega
      · have hkl : k = xs.length := by omega
        subst hkl
        have e : xs.take xs.length = xs := List.take_length
        rw [e] at ho
        have hcv := own_string ho.out (by simp [lay4_len]; omega) (by omega)
        have KZ := Lib.hid hb.out
        clear ho hb e
        go_wp2
        go_ret2
        exact ⟨rfl, (below1 w _).trans (KZ.out.mono (by omega))⟩
  · have hH3 : 2 * (xs.length : Int) + 1 = H := by simpa using hH2.symm
    have hHb : 0 ≤ H ∧ H ≤ 801 := by omega
    obtain ⟨hHb0, hHb1⟩ := hHb
    have HEQ := Lib.hid hH3
    clear hH2 hH3
    go_enter Tryz.func38, Tryz.ntmps38
    go_wp2_with fail
    refine (RA.out _ (HD.out.below (below1 _ _))).mono ?_
    rintro e w1 ⟨rfl, hb⟩
    have K1 := Lib.hid (show Below (w.heap.size + 1) (w.alloc (.cells #[.bool true, .slice A xs.length c] 24)) w1 by simpa using hb)
    obtain ⟨hc, hf⟩ := bcellB K1.out
    have hsz : w.heap.size + 1 ≤ w1.heap.size := by have := K1.out.size; simpa using this
    clear hb
    go_upto_region 7 with fail
    rw [HEQ.out]
    go_wp2_with fail
    have HW := Lib.hid (show (w1.alloc (.cells #[.int .u8 (H / 256), .int .u8 (H % 256)] 5)).ownsRow (w.heap.size + 1) 5 1 (.slice (some ⟨w1.heap.size, 0, none⟩) 2 2) 2 (Lib.byteCells [UInt8.ofNat (headN true xs.length / 256), UInt8.ofNat (headN true xs.length)]) by
      rw [head_cells HH.out hHb1]
      exact World.ownsRow_lit w1 #[.int .u8 (H / 256), .int .u8 (H % 256)] 2 hsz (by unfold maxLen; omega) rfl)
    have KW := Lib.hid (K1.out.alloc hsz (.cells #[.int .u8 (H / 256), .int .u8 (H % 256)] 5))
    clear hc hf
    generalize w1.alloc (.cells #[.int .u8 (H / 256), .int .u8 (H % 256)] 5) = w2 at *
    go_loopw [6, 7] (fun v i wr => ∃ k : Nat, k ≤ xs.length ∧ i = .int .i64 k ∧ Hid (wr.ownsRow (w.heap.size + 1) 5 1 v (2 + 4 * k) (Lib.byteCells ([UInt8.ofNat (headN true xs.length / 256), UInt8.ofNat (headN true xs.length)] ++ lay4 (xs.take k)))) ∧ Hid (Below (w.heap.size + 1) (w.alloc (.cells #[.bool true, .slice A xs.length c] 24)) wr)) (fun _ i _ => xs.length - (intOf i).toNat)
    case atStart => exact ⟨0, Nat.zero_le _, rfl, Lib.hid (by simpa [lay4] using HW.out), KW⟩
    case round =>
      obtain ⟨k, hk, rfl, ho, hb⟩ := hrel
      obtain ⟨hc, hf⟩ := bcellB hb.out
      have hsz2 : w.heap.size + 1 ≤ wr.heap.size := by have := hb.out.size; simpa using this
      by_cases hlt : k < xs.length
      · obtain ⟨b, off, hD, hbl, hcell⟩ := HD.out.2.2 (by omega)
        have hcx := ((below1 w (.cells #[.bool true, .slice A xs.length c] 24)).trans (hb.out.mono (by omega))).cell (p := ⟨b, off + k, none⟩) hbl |>.trans (hcell k hlt)
        have hx := getD_lt HD.out.2.1 k
        have HX := Lib.hid hx
        generalize hxk : xs[k]?.getD 0 = x at *
        have HXK := Lib.hid hxk
        clear hcell hxk hx
        generalize hX : ((x : Nat) : Int) = X at *
        have i0' : 0 ≤ X := by omega
        have i1' : X < 4294967296 := by have := HX.out; omega
        have HXX := Lib.hid hX
        clear hX
        have hkc : k ≤ c := by have := HD.out.1; omega
        subst hD
        go_wp2_with (at_builtin; refine wpList_append_own _ rfl _ _ 50 rfl (w.heap.size + 1) 5 i0 (.int .u8 0) 1 1 Tryz.underlying50 hi hz0 hz1 hz2 rfl (by decide) _ _ _ rfl (ho.out.alloc _) ⟨wr.heap.size, 0, none⟩ 4 4 [.int .u8 (X % 256), .int .u8 (X / 256 % 256), .int .u8 (X / 65536 % 256), .int .u8 (X / 16777216)] rfl rfl (fun j u hj => four_new hj) (by intro u hu; simp at hu; rcases hu with rfl | rfl | rfl | rfl <;> rfl) (by unfold maxLen; omega) (by omega) (by simp; omega) ?_)
        intro v' w4 hown1 hgrow _
        have HN := Lib.hid hown1
        have HB1 := Lib.hid ((hb.out.alloc hsz2 _).grown hgrow (by simp; omega) (fun k hk => (ho.out.lt k hk).1))
        clear hown1 hgrow hc hf
        go_wp2
        go_roundw
        case rel =>
          refine ⟨k + 1, by omega, by go_num, Lib.hid ?_, HB1⟩
          rw [lay4_take hlt, HXK.out, ← List.append_assoc, byteCells_add, d4_cells HXX.out HX.out]
          exact HN.out
        case measure => simp [intOf]; omega
      · have hkl : k = xs.length := by omega
        subst hkl
        have e : xs.take xs.length = xs := List.take_length
        rw [e] at ho
        have hcv := own_string ho.out (by simp [lay4_len]; omega) (by omega)
        have KZ := Lib.hid hb.out
        clear ho hb e
        go_wp2
        go_ret2
        exact ⟨rfl, (below1 w _).trans (KZ.out.mono (by omega))⟩
end Go.Proofs.YtdmfapgclppmhaaGreatDoor
end

section
namespace Go.Proofs.YtdmfapgclppmhaaGreatDoor
open Go.RowKit
set_option linter.unusedSimpArgs false
set_option linter.unusedVariables false
set_option maxHeartbeats 4000000 in
set_option maxRecDepth 100000 in
theorem r5half_t (x u K F : Int) (q : Bool) (w : World) (hm : ∀ (A : Option Addr) (c : Nat) (W : World), Dg W A c (digs u.natAbs) → Calls Tryz.prog 51 #[.agg #[.bool (decide (u < 0)), .slice A (digs u.natAbs).length c], .int .i64 x] W fun e w' => Yb K F q W e w') (hu : u = 1):
    Calls Tryz.prog 24 #[.int .i64 x] w fun e w' => Yr K F w e w' := by
  have FR : ∀ W, Calls Tryz.prog 39 #[.int .i64 1] W fun e w' => Zr u W e w' := fun W => by subst hu; exact rzfrom_any 1 W (by omega) (by omega)
  have FR := Lib.hid FR
  have MY := Lib.hid hm
  have L0 := Lib.hid (live_start w)
  clear hu hm
  go_enter Tryz.func24, Tryz.ntmps24
  go_wp2_with fail
  obtain ⟨v1, hW, hb, Rr_1⟩ := new1 w (.cells #[.bool false, .slice none 0 0, .int .i64 0] 26)
  rw [← hW]
  have L1 := ls L0 hb
  have Gr := gl0 L0.out
  clear hW hb
  refine (FR.out _).mono ?_
  rintro e w2 ⟨A2, c2, rfl, hd, hb⟩
  have L2 := la L1 hb hd
  have Rr_2 := co Rr_1 hb
  clear hb hd
  go_wp2_with fail
  refine (MY.out A2 c2 _ (L2.out.get (A := A2) (c := c2) (xs := digs u.natAbs) (by simp))).mono ?_
  rintro e w3 ⟨A3, c3, rfl, hd, hb⟩
  have L3 := la L2 hb hd
  have Rr_3 := co Rr_2 hb
  clear hb hd
  obtain ⟨fr0, zr0, fr1, zr1, fr2, zr2, xr⟩ := ly3 Rr_3.out
  go_wp2
  have al : ∀ (V : World) (o : Obj) (i : Nat), w.heap.size < V.heap.size → (V.alloc o).cell? ⟨w.heap.size, i, none⟩ = V.cell? ⟨w.heap.size, i, none⟩ := fun V o i h => (below1 V o).cell (p := ⟨_, i, none⟩) h
  refine bodyPost_ret (v := .agg #[.bool (decide (K < 0)), .slice A3 (digs K.natAbs).length c3, .int .i64 F]) (by simp [results, Tryz.results24, go_sem, al, xr, fr0, fr1, fr2]) rfl ?_
  refine ⟨A3, c3, rfl, ?_, ?_⟩
  · exact ((fin3 L3.out Rr_3.out noint3 Gr).step (below1 _ _)).get (A := A3) (c := c3) (xs := digs K.natAbs) (by simp)
  · exact ((fin3 L3.out Rr_3.out noint3 Gr).step (below1 _ _)).1
set_option maxHeartbeats 4000000 in
set_option maxRecDepth 100000 in
theorem r5size_w (A : Option Addr) (c : Nat) (s : Bool) (xs : List Nat) (x : Int) (w : World) (h : Dg w A c xs) (hl : xs.length ≤ 9223372036854775807) (hq : dyR s xs x = false):
    Calls Tryz.prog 65 #[.agg #[.bool s, .slice A xs.length c, .int .i64 x]] w fun e w' => e = .returned (.tuple #[.int .i64 0, .bool false]) ∧ Below w.heap.size w w' := by
  have lx := Lib.hid hl
  have HQ := Lib.hid hq
  have L0 := Lib.hid ((live_start w).add h)
  clear h hl hq
  go_enter Tryz.func65, Tryz.ntmps65
  go_wp2_with fail
  obtain ⟨v1, hW, hb, Rx_1⟩ := new1 w (.cells #[.bool s, .slice A xs.length c, .int .i64 x] 26)
  rw [← hW]
  have L1 := ls L0 hb
  have Gx := gl0 L0.out
  clear hW hb
  refine (r5right_any (L1.out.get (A := A) (c := c) (xs := xs) (by simp)) lx.out HQ.out).mono ?_
  rintro e w2 ⟨rfl, hb⟩
  have L2 := ls L1 hb
  have Rx_2 := co Rx_1 hb
  clear hb 
  obtain ⟨fx0, zx0, fx1, zx1, fx2, zx2, xx⟩ := ly3 Rx_2.out
  go_wp2
  go_ret2
  exact ⟨rfl, L2.out.1⟩
set_option maxHeartbeats 4000000 in
set_option maxRecDepth 100000 in
theorem r5size_z (A : Option Addr) (c : Nat) (m x : Int) (w : World) (h : Dg w A c (digs m.natAbs)) (hl : (digs m.natAbs).length ≤ 10000) (r1 : Rt m x) (m0 : m = 0):
    Calls Tryz.prog 65 #[.agg #[.bool (decide (m < 0)), .slice A (digs m.natAbs).length c, .int .i64 x]] w fun e w' => e = .returned (.tuple #[.int .i64 0, .bool false]) ∧ Below w.heap.size w w' := by
  have lx := Lib.hid hl
  have HR := Lib.hid r1
  have t1 : ((((digs m.natAbs).length : Nat) : Int) == 0) = true := by rw [m0, show digs (0 : Int).natAbs = [] from digs_zero]; rfl
  have L0 := Lib.hid ((live_start w).add h)
  clear h hl r1 m0
  go_enter Tryz.func65, Tryz.ntmps65
  go_wp2_with fail
  obtain ⟨v1, hW, hb, Rx_1⟩ := new1 w (.cells #[.bool (decide (m < 0)), .slice A (digs m.natAbs).length c, .int .i64 x] 26)
  rw [← hW]
  have L1 := ls L0 hb
  have Gx := gl0 L0.out
  clear hW hb
  refine (r5right_t (L1.out.get (A := A) (c := c) (xs := digs m.natAbs) (by simp)) lx.out HR.out).mono ?_
  rintro e w2 ⟨rfl, hb⟩
  have L2 := ls L1 hb
  have Rx_2 := co Rx_1 hb
  clear hb 
  obtain ⟨fx0, zx0, fx1, zx1, fx2, zx2, xx⟩ := ly3 Rx_2.out
  go_wp2
  go_ret2
  exact ⟨rfl, L2.out.1⟩
set_option maxHeartbeats 4000000 in
set_option maxRecDepth 100000 in
theorem r5size_y (A : Option Addr) (c : Nat) (m x k : Int) (w : World) (h : Dg w A c (digs m.natAbs)) (hl : (digs m.natAbs).length ≤ 10000) (r1 : Rt m x) (m0 : m ≠ 0) (hk : x + bl m = k):
    Calls Tryz.prog 65 #[.agg #[.bool (decide (m < 0)), .slice A (digs m.natAbs).length c, .int .i64 x]] w fun e w' => e = .returned (.tuple #[.int .i64 k, .bool true]) ∧ Below w.heap.size w w' := by
  have lx := Lib.hid hl
  have HR := Lib.hid r1
  have t1 : ((((digs m.natAbs).length : Nat) : Int) == 0) = false := beq_eq_false_iff_ne.2 (fun e => m0 (by have := digs_nil.1 (show (digs m.natAbs).length = 0 by omega); omega))
  have SB := Lib.hid (show -10000000 ≤ x ∧ x ≤ 10000000 by have := r1.2; omega)
  have HK := Lib.hid hk
  have L0 := Lib.hid ((live_start w).add h)
  clear h hl r1 m0 hk
  go_enter Tryz.func65, Tryz.ntmps65
  go_wp2_with fail
  obtain ⟨v1, hW, hb, Rx_1⟩ := new1 w (.cells #[.bool (decide (m < 0)), .slice A (digs m.natAbs).length c, .int .i64 x] 26)
  rw [← hW]
  have L1 := ls L0 hb
  have Gx := gl0 L0.out
  clear hW hb
  refine (r5right_t (L1.out.get (A := A) (c := c) (xs := digs m.natAbs) (by simp)) lx.out HR.out).mono ?_
  rintro e w2 ⟨rfl, hb⟩
  have L2 := ls L1 hb
  have Rx_2 := co Rx_1 hb
  clear hb 
  obtain ⟨fx0, zx0, fx1, zx1, fx2, zx2, xx⟩ := ly3 Rx_2.out
  go_wp2_with fail
  refine (r5size_any A c m x k _ (L2.out.get (A := A) (c := c) (xs := digs m.natAbs) (by simp)) (Nat.le_trans lx.out (by omega)) SB.out.1 SB.out.2 HK.out).mono ?_
  rintro e w3 ⟨rfl, hb⟩
  have L3 := ls L2 hb
  clear fx0 zx0 fx1 zx1 fx2 zx2 xx
  have Rx_3 := co Rx_2 hb
  clear hb 
  obtain ⟨fx0, zx0, fx1, zx1, fx2, zx2, xx⟩ := ly3 Rx_3.out
  go_wp2
  go_ret2
  exact ⟨rfl, L3.out.1⟩

theorem r5half_u (x u : Int) (w : World) (h0 : -65537 ≤ x) (h1 : x ≤ 65535) (hu : u = 1) :
    Calls Tryz.prog 24 #[.int .i64 x] w fun e w' => Yr u x w e w' := by
  have LN : (digs u.natAbs).length ≤ 2 := digs_small (by omega)
  have hI : inR u x = true := by
    subst hu
    have e : bl 1 = 1 := by decide +kernel
    unfold inR
    rw [decide_eq_true_eq, e]
    right
    omega
  exact r5half_t x u u x true w (fun A c W hW => r5make_yes A c (decide (u < 0)) (digs u.natAbs) x u x W hW (by omega) (by omega) (by omega) (by rw [sg_dz, hu]; exact (nm_odd rfl).1) (by rw [sg_dz, hu]; exact (nm_odd rfl).2 x) hI) hu

set_option maxHeartbeats 4000000 in
set_option maxRecDepth 100000 in
theorem r15short_w (A : Option Addr) (c : Nat) (s : Bool) (xs : List Nat) (x : Int) (w : World) (h : Dg w A c xs) (hl : xs.length ≤ 9223372036854775807) (hq : dyR s xs x = false):
    Calls Tryz.prog 66 #[.agg #[.bool s, .slice A xs.length c, .int .i64 x], .int .i64 400] w fun e w' => e = .returned (.bool false) ∧ Below w.heap.size w w' := by
  have lx := Lib.hid hl
  have HQ := Lib.hid hq
  have L0 := Lib.hid ((live_start w).add h)
  clear h hl hq
  go_enter Tryz.func66, Tryz.ntmps66
  go_wp2_with fail
  obtain ⟨v1, hW, hb, Rx_1⟩ := new1 w (.cells #[.bool s, .slice A xs.length c, .int .i64 x] 26)
  rw [← hW]
  have L1 := ls L0 hb
  clear hW hb
  refine (r5right_any (L1.out.get (A := A) (c := c) (xs := xs) (by simp)) lx.out HQ.out).mono ?_
  rintro e w2 ⟨rfl, hb⟩
  have L2 := ls L1 hb
  have Rx_2 := co Rx_1 hb
  clear hb
  obtain ⟨fx0, zx0, fx1, zx1, fx2, zx2, xx⟩ := ly3 Rx_2.out
  go_wp2
  go_ret
  exact ⟨rfl, L2.out.1⟩

set_option maxHeartbeats 4000000 in
set_option maxRecDepth 100000 in
theorem r15short_y (A : Option Addr) (c : Nat) (m x : Int) (w : World) (h : Dg w A c (digs m.natAbs)) (hl : (digs m.natAbs).length ≤ 10000) (r1 : Rt m x) {q : Bool} (hq : decide (bl m ≤ 400) = q):
    Calls Tryz.prog 66 #[.agg #[.bool (decide (m < 0)), .slice A (digs m.natAbs).length c, .int .i64 x], .int .i64 400] w fun e w' => e = .returned (.bool q) ∧ Below w.heap.size w w' := by
  have lx := Lib.hid hl
  have HR := Lib.hid (dyR_num r1)
  obtain ⟨kk, hkk⟩ : ∃ kk : Nat, bl m = kk := ⟨_, rfl⟩
  have HB := Lib.hid (show (blen (val (digs m.natAbs)) : Int) = (kk : Int) by rw [val_digs, ← hkk]; rfl)
  have hd : decide (kk ≤ 400) = q := by rw [← hkk]; exact hq
  have hd2 : decide ((kk : Int) ≤ 400) = q := by rw [← hd, decide_eq_decide]; omega
  clear hkk
  have L0 := Lib.hid ((live_start w).add h)
  clear h hl hq r1
  go_enter Tryz.func66, Tryz.ntmps66
  go_wp2_with fail
  obtain ⟨v1, hW, hb, Rx_1⟩ := new1 w (.cells #[.bool (decide (m < 0)), .slice A (digs m.natAbs).length c, .int .i64 x] 26)
  rw [← hW]
  have L1 := ls L0 hb
  clear hW hb
  refine (r5right_any (L1.out.get (A := A) (c := c) (xs := digs m.natAbs) (by simp)) (Nat.le_trans lx.out (by omega)) HR.out).mono ?_
  rintro e w2 ⟨rfl, hb⟩
  have L2 := ls L1 hb
  have Rx_2 := co Rx_1 hb
  clear hb
  obtain ⟨fx0, zx0, fx1, zx1, fx2, zx2, xx⟩ := ly3 Rx_2.out
  go_wp2_with fail
  refine (rbits_any A c (digs m.natAbs) _ (L2.out.get (A := A) (c := c) (xs := digs m.natAbs) (by simp)) (Nat.le_trans lx.out (by omega))).mono ?_
  rintro e w3 ⟨rfl, hb⟩
  rw [HB.out]
  have L3 := ls L2 hb
  clear hb fx0 zx0 fx1 zx1 fx2 zx2 xx
  go_wp2
  go_ret
  exact ⟨rfl, L3.out.1⟩

theorem r15short_any {A : Option Addr} {c : Nat} {s : Bool} {xs : List Nat} {x : Int} {q : Bool} {w : World} (h : Dg w A c xs) (hl : xs.length ≤ 10000) (hq : mayB s xs x = q) :
    Calls Tryz.prog 66 #[.agg #[.bool s, .slice A xs.length c, .int .i64 x], .int .i64 400] w fun e w' => e = .returned (.bool q) ∧ Below w.heap.size w w' := by
  cases hr : dyR s xs x
  · obtain rfl : q = false := by rw [← hq]; unfold mayB; rw [hr]; rfl
    exact r15short_w A c s xs x w h (by omega) hr
  · obtain ⟨m, rfl, rfl, r1⟩ := num_of h.2.1 hr
    exact r15short_y A c m x w h hl r1 (by rw [← hq, may_num r1])

set_option maxHeartbeats 4000000 in
set_option maxRecDepth 100000 in
theorem r15plain_w (A : Option Addr) (c : Nat) (s : Bool) (xs : List Nat) (x : Int) (w : World) (h : Dg w A c xs) (hl : xs.length ≤ 9223372036854775807) (hq : dyR s xs x = false):
    Calls Tryz.prog 32 #[.agg #[.bool s, .slice A xs.length c, .int .i64 x]] w fun e w' => e = .returned (.bool false) ∧ Below w.heap.size w w' := by
  have lx := Lib.hid hl
  have HQ := Lib.hid hq
  have L0 := Lib.hid ((live_start w).add h)
  clear h hl hq
  go_enter Tryz.func32, Tryz.ntmps32
  go_wp2_with fail
  obtain ⟨v1, hW, hb, Rx_1⟩ := new1 w (.cells #[.bool s, .slice A xs.length c, .int .i64 x] 26)
  rw [← hW]
  have L1 := ls L0 hb
  clear hW hb
  refine (r5right_any (L1.out.get (A := A) (c := c) (xs := xs) (by simp)) lx.out HQ.out).mono ?_
  rintro e w2 ⟨rfl, hb⟩
  have L2 := ls L1 hb
  have Rx_2 := co Rx_1 hb
  clear hb
  obtain ⟨fx0, zx0, fx1, zx1, fx2, zx2, xx⟩ := ly3 Rx_2.out
  go_wp2_with fail
  refine (r5size_w A c s xs x _ (L2.out.get (A := A) (c := c) (xs := xs) (by simp)) lx.out HQ.out).mono ?_
  rintro e w3 ⟨rfl, hb⟩
  have L3 := ls L2 hb
  clear fx0 zx0 fx1 zx1 fx2 zx2 xx
  have Rx_3 := co Rx_2 hb
  clear hb
  obtain ⟨fx0, zx0, fx1, zx1, fx2, zx2, xx⟩ := ly3 Rx_3.out
  go_wp2
  go_ret
  exact ⟨rfl, L3.out.1⟩

set_option maxHeartbeats 4000000 in
set_option maxRecDepth 100000 in
theorem r15plain_z (A : Option Addr) (c : Nat) (m x : Int) (w : World) (h : Dg w A c (digs m.natAbs)) (hl : (digs m.natAbs).length ≤ 10000) (r1 : Rt m x) (m0 : m = 0):
    Calls Tryz.prog 32 #[.agg #[.bool (decide (m < 0)), .slice A (digs m.natAbs).length c, .int .i64 x]] w fun e w' => e = .returned (.bool true) ∧ Below w.heap.size w w' := by
  have lx := Lib.hid hl
  have HR := Lib.hid (dyR_num r1)
  have HR1 := Lib.hid r1
  have HM0 := Lib.hid m0
  have L0 := Lib.hid ((live_start w).add h)
  clear h hl r1 m0
  go_enter Tryz.func32, Tryz.ntmps32
  go_wp2_with fail
  obtain ⟨v1, hW, hb, Rx_1⟩ := new1 w (.cells #[.bool (decide (m < 0)), .slice A (digs m.natAbs).length c, .int .i64 x] 26)
  rw [← hW]
  have L1 := ls L0 hb
  clear hW hb
  refine (r5right_any (L1.out.get (A := A) (c := c) (xs := digs m.natAbs) (by simp)) (Nat.le_trans lx.out (by omega)) HR.out).mono ?_
  rintro e w2 ⟨rfl, hb⟩
  have L2 := ls L1 hb
  have Rx_2 := co Rx_1 hb
  clear hb
  obtain ⟨fx0, zx0, fx1, zx1, fx2, zx2, xx⟩ := ly3 Rx_2.out
  go_wp2_with fail
  refine (r5size_z A c m x _ (L2.out.get (A := A) (c := c) (xs := digs m.natAbs) (by simp)) lx.out HR1.out HM0.out).mono ?_
  rintro e w3 ⟨rfl, hb⟩
  have L3 := ls L2 hb
  clear fx0 zx0 fx1 zx1 fx2 zx2 xx
  have Rx_3 := co Rx_2 hb
  clear hb
  obtain ⟨fx0, zx0, fx1, zx1, fx2, zx2, xx⟩ := ly3 Rx_3.out
  go_wp2
  go_ret
  exact ⟨rfl, L3.out.1⟩

set_option maxHeartbeats 4000000 in
set_option maxRecDepth 100000 in
theorem r15plain_l (A : Option Addr) (c : Nat) (m x : Int) (w : World) (h : Dg w A c (digs m.natAbs)) (hl : (digs m.natAbs).length ≤ 10000) (r1 : Rt m x) (m0 : m ≠ 0) (hx : x < -64):
    Calls Tryz.prog 32 #[.agg #[.bool (decide (m < 0)), .slice A (digs m.natAbs).length c, .int .i64 x]] w fun e w' => e = .returned (.bool false) ∧ Below w.heap.size w w' := by
  have lx := Lib.hid hl
  have HR := Lib.hid (dyR_num r1)
  have HR1 := Lib.hid r1
  have HM0 := Lib.hid m0
  obtain ⟨k, hk⟩ : ∃ k : Int, x + bl m = k := ⟨_, rfl⟩
  have HK := Lib.hid hk
  have d1 : decide (-64 ≤ x) = false := decide_eq_false (by omega)
  have L0 := Lib.hid ((live_start w).add h)
  clear h hl r1 m0 hk hx
  go_enter Tryz.func32, Tryz.ntmps32
  go_wp2_with fail
  obtain ⟨v1, hW, hb, Rx_1⟩ := new1 w (.cells #[.bool (decide (m < 0)), .slice A (digs m.natAbs).length c, .int .i64 x] 26)
  rw [← hW]
  have L1 := ls L0 hb
  clear hW hb
  refine (r5right_any (L1.out.get (A := A) (c := c) (xs := digs m.natAbs) (by simp)) (Nat.le_trans lx.out (by omega)) HR.out).mono ?_
  rintro e w2 ⟨rfl, hb⟩
  have L2 := ls L1 hb
  have Rx_2 := co Rx_1 hb
  clear hb
  obtain ⟨fx0, zx0, fx1, zx1, fx2, zx2, xx⟩ := ly3 Rx_2.out
  go_wp2_with fail
  refine (r5size_y A c m x k _ (L2.out.get (A := A) (c := c) (xs := digs m.natAbs) (by simp)) lx.out HR1.out HM0.out HK.out).mono ?_
  rintro e w3 ⟨rfl, hb⟩
  have L3 := ls L2 hb
  clear fx0 zx0 fx1 zx1 fx2 zx2 xx
  have Rx_3 := co Rx_2 hb
  clear hb
  obtain ⟨fx0, zx0, fx1, zx1, fx2, zx2, xx⟩ := ly3 Rx_3.out
  go_wp2
  go_ret
  exact ⟨rfl, L3.out.1⟩

set_option maxHeartbeats 4000000 in
set_option maxRecDepth 100000 in
theorem r15plain_y (A : Option Addr) (c : Nat) (m x : Int) (w : World) (h : Dg w A c (digs m.natAbs)) (hl : (digs m.natAbs).length ≤ 10000) (r1 : Rt m x) (m0 : m ≠ 0) (hx : -64 ≤ x) {q : Bool} (hq : decide (x + bl m ≤ 16) = q):
    Calls Tryz.prog 32 #[.agg #[.bool (decide (m < 0)), .slice A (digs m.natAbs).length c, .int .i64 x]] w fun e w' => e = .returned (.bool q) ∧ Below w.heap.size w w' := by
  have lx := Lib.hid hl
  have HR := Lib.hid (dyR_num r1)
  have HR1 := Lib.hid r1
  have HM0 := Lib.hid m0
  obtain ⟨k, hk⟩ : ∃ k : Int, x + bl m = k := ⟨_, rfl⟩
  have HK := Lib.hid hk
  have d1 : decide (-64 ≤ x) = true := decide_eq_true (by omega)
  have d2 : decide (k ≤ 16) = q := by rw [← hq, hk]
  have L0 := Lib.hid ((live_start w).add h)
  clear h hl r1 m0 hk hx hq
  go_enter Tryz.func32, Tryz.ntmps32
  go_wp2_with fail
  obtain ⟨v1, hW, hb, Rx_1⟩ := new1 w (.cells #[.bool (decide (m < 0)), .slice A (digs m.natAbs).length c, .int .i64 x] 26)
  rw [← hW]
  have L1 := ls L0 hb
  clear hW hb
  refine (r5right_any (L1.out.get (A := A) (c := c) (xs := digs m.natAbs) (by simp)) (Nat.le_trans lx.out (by omega)) HR.out).mono ?_
  rintro e w2 ⟨rfl, hb⟩
  have L2 := ls L1 hb
  have Rx_2 := co Rx_1 hb
  clear hb
  obtain ⟨fx0, zx0, fx1, zx1, fx2, zx2, xx⟩ := ly3 Rx_2.out
  go_wp2_with fail
  refine (r5size_y A c m x k _ (L2.out.get (A := A) (c := c) (xs := digs m.natAbs) (by simp)) lx.out HR1.out HM0.out HK.out).mono ?_
  rintro e w3 ⟨rfl, hb⟩
  have L3 := ls L2 hb
  clear fx0 zx0 fx1 zx1 fx2 zx2 xx
  have Rx_3 := co Rx_2 hb
  clear hb
  obtain ⟨fx0, zx0, fx1, zx1, fx2, zx2, xx⟩ := ly3 Rx_3.out
  go_wp2
  go_ret
  exact ⟨rfl, L3.out.1⟩

theorem r15plain_any {A : Option Addr} {c : Nat} {s : Bool} {xs : List Nat} {x : Int} {q : Bool} {w : World} (h : Dg w A c xs) (hl : xs.length ≤ 10000) (hq : plainB s xs x = q) :
    Calls Tryz.prog 32 #[.agg #[.bool s, .slice A xs.length c, .int .i64 x]] w fun e w' => e = .returned (.bool q) ∧ Below w.heap.size w w' := by
  unfold plainB at hq
  cases hr : dyR s xs x
  · obtain rfl : q = false := by rw [← hq, hr]; rfl
    exact r15plain_w A c s xs x w h (by omega) hr
  · rw [hr, Bool.true_and] at hq
    obtain ⟨m, rfl, rfl, r1⟩ := num_of h.2.1 hr
    by_cases m0 : m = 0
    · obtain rfl : q = true := by rw [← hq, decide_eq_true (show (digs m.natAbs).length = 0 by rw [m0, show digs (0 : Int).natAbs = [] from digs_zero]; rfl)]; rfl
      exact r15plain_z A c m x w h hl r1 m0
    · rw [decide_eq_false (fun e => m0 (by have := digs_nil.1 e; omega)), Bool.false_or, val_digs] at hq
      by_cases hx : x < -64
      · obtain rfl : q = false := by rw [← hq, decide_eq_false (by omega)]; rfl
        exact r15plain_l A c m x w h hl r1 m0 hx
      · rw [decide_eq_true (by omega), Bool.true_and] at hq
        exact r15plain_y A c m x w h hl r1 m0 (by omega) hq

set_option maxHeartbeats 4000000 in
set_option maxRecDepth 100000 in
theorem r5bytes_n (A : Option Addr) (c : Nat) (m x : Int) (w : World) (h : Dg w A c (digs m.natAbs)) (hl : (digs m.natAbs).length ≤ 400) (r1 : Rt m x) (hq : inR m x = false):
    Calls Tryz.prog 19 #[.agg #[.bool (decide (m < 0)), .slice A (digs m.natAbs).length c, .int .i64 x]] w fun e w' => e = .returned (.tuple #[.string ⟨#[]⟩, .int .i64 4]) ∧ Below w.heap.size w w' := by
  have lx := Lib.hid hl
  have HR := Lib.hid (dyR_num r1)
  have HI := Lib.hid hq
  have XB := Lib.hid r1.2
  have L0 := Lib.hid ((live_start w).add h)
  clear h hl r1 hq
  go_enter Tryz.func19, Tryz.ntmps19
  go_wp2_with fail
  obtain ⟨v1, hW, hb, Rx_1⟩ := new1 w (.cells #[.bool (decide (m < 0)), .slice A (digs m.natAbs).length c, .int .i64 x] 26)
  rw [← hW]
  have L1 := ls L0 hb
  clear hW hb
  refine (r5right_any (L1.out.get (A := A) (c := c) (xs := digs m.natAbs) (by simp)) (Nat.le_trans lx.out (by omega)) HR.out).mono ?_
  rintro e w2 ⟨rfl, hb⟩
  have L2 := ls L1 hb
  have Rx_2 := co Rx_1 hb
  clear hb
  obtain ⟨fx0, zx0, fx1, zx1, fx2, zx2, xx⟩ := ly3 Rx_2.out
  go_wp2_with fail
  refine (r5inr_any (L2.out.get (A := A) (c := c) (xs := digs m.natAbs) (by simp)) (Nat.le_trans lx.out (by omega)) (by have := XB.out; omega) (by have := XB.out; omega) HI.out).mono ?_
  rintro e w3 ⟨rfl, hb⟩
  have L3 := ls L2 hb
  clear fx0 zx0 fx1 zx1 fx2 zx2 xx
  have Rx_3 := co Rx_2 hb
  clear hb
  obtain ⟨fx0, zx0, fx1, zx1, fx2, zx2, xx⟩ := ly3 Rx_3.out
  go_wp2
  exact bodyPost_ret (v := .tuple #[.string ⟨#[]⟩, .int .i64 4]) (by simp [results, Tryz.results19, go_sem]) rfl ⟨rfl, L3.out.1⟩

set_option maxHeartbeats 4000000 in
set_option maxRecDepth 100000 in
theorem r5bytes_y (A : Option Addr) (c : Nat) (m x : Int) (t : ByteArray) (w : World) (h : Dg w A c (digs m.natAbs)) (hl : (digs m.natAbs).length ≤ 400) (r1 : Rt m x) (hq : inR m x = true) (ht : t.data.toList = zb m ++ zb x):
    Calls Tryz.prog 19 #[.agg #[.bool (decide (m < 0)), .slice A (digs m.natAbs).length c, .int .i64 x]] w fun e w' => e = .returned (.tuple #[.string t, .int .i64 0]) ∧ Below w.heap.size w w' := by
  have lx := Lib.hid hl
  have HR := Lib.hid (dyR_num r1)
  have HI := Lib.hid hq
  have XB := Lib.hid r1.2
  obtain ⟨t1, ht1⟩ : ∃ t1 : ByteArray, (⟨(zb m).toArray⟩ : ByteArray) = t1 := ⟨_, rfl⟩
  obtain ⟨t2, ht2⟩ : ∃ t2 : ByteArray, (⟨(zb x).toArray⟩ : ByteArray) = t2 := ⟨_, rfl⟩
  have TT := Lib.hid (show t1 ++ t2 = t by rw [← ht1, ← ht2]; apply ByteArray.ext; apply Array.toList_inj.1; rw [ht]; simp)
  have TS := Lib.hid (show t1.size + t2.size ≤ 10000 by rw [← ht1, ← ht2]; have := zbytes_len (decide (m < 0)) (digs m.natAbs); have h2 := zbytes_len (decide (x < 0)) (digs x.natAbs); have h3 : (digs x.natAbs).length ≤ 2 := digs_small (by have := r1.2; omega); show (zb m).length + (zb x).length ≤ 10000; unfold zb; omega)
  have B1 := Lib.hid (fun (V : World) (hV : Dg V A c (digs m.natAbs)) => ht1 ▸ rzbytes_any A c (decide (m < 0)) (digs m.natAbs) V hV hl (zb_right m))
  have B2 := Lib.hid (fun (A' : Option Addr) (c' : Nat) (V : World) (hV : Dg V A' c' (digs x.natAbs)) => ht2 ▸ rzbytes_any A' c' (decide (x < 0)) (digs x.natAbs) V hV (Nat.le_trans (digs_small (by have := r1.2; omega)) (by omega : 2 ≤ 400)) (zb_right x))
  have L0 := Lib.hid ((live_start w).add h)
  clear h hl r1 hq ht ht1 ht2
  go_enter Tryz.func19, Tryz.ntmps19
  go_wp2_with fail
  obtain ⟨v1, hW, hb, Rx_1⟩ := new1 w (.cells #[.bool (decide (m < 0)), .slice A (digs m.natAbs).length c, .int .i64 x] 26)
  rw [← hW]
  have L1 := ls L0 hb
  clear hW hb
  refine (r5right_any (L1.out.get (A := A) (c := c) (xs := digs m.natAbs) (by simp)) (Nat.le_trans lx.out (by omega)) HR.out).mono ?_
  rintro e w2 ⟨rfl, hb⟩
  have L2 := ls L1 hb
  have Rx_2 := co Rx_1 hb
  clear hb
  obtain ⟨fx0, zx0, fx1, zx1, fx2, zx2, xx⟩ := ly3 Rx_2.out
  go_wp2_with fail
  refine (r5inr_any (L2.out.get (A := A) (c := c) (xs := digs m.natAbs) (by simp)) (Nat.le_trans lx.out (by omega)) (by have := XB.out; omega) (by have := XB.out; omega) HI.out).mono ?_
  rintro e w3 ⟨rfl, hb⟩
  have L3 := ls L2 hb
  clear fx0 zx0 fx1 zx1 fx2 zx2 xx
  have Rx_3 := co Rx_2 hb
  clear hb
  obtain ⟨fx0, zx0, fx1, zx1, fx2, zx2, xx⟩ := ly3 Rx_3.out
  go_wp2_with fail
  refine (B1.out _ (L3.out.get (A := A) (c := c) (xs := digs m.natAbs) (by simp))).mono ?_
  rintro e w4 ⟨rfl, hb⟩
  have L4 := ls L3 hb
  clear fx0 zx0 fx1 zx1 fx2 zx2 xx
  have Rx_4 := co Rx_3 hb
  clear hb
  obtain ⟨fx0, zx0, fx1, zx1, fx2, zx2, xx⟩ := ly3 Rx_4.out
  go_wp2_with fail
  refine (rzfrom_any x _ (by have := XB.out; omega) (by have := XB.out; omega)).mono ?_
  rintro e w5 ⟨A', c', rfl, hd, hb⟩
  have L5 := la L4 hb hd
  clear hb hd fx0 zx0 fx1 zx1 fx2 zx2 xx
  go_wp2_with fail
  refine (B2.out A' c' _ (L5.out.get (A := A') (c := c') (xs := digs x.natAbs) (by simp))).mono ?_
  rintro e w6 ⟨rfl, hb⟩
  have L6 := ls L5 hb
  clear hb
  have nl : ¬ (9223372036854775807 < t1.size + t2.size) := by have := TS.out; omega
  go_wp2_with fail
  rw [TT.out]
  exact bodyPost_ret (v := .tuple #[.string t, .int .i64 0]) (by simp [results, Tryz.results19, go_sem]) rfl ⟨rfl, L6.out.1⟩

theorem r5bytes_any {v : Nm} (hk : ok32 v.2.1) (hl : v.2.1.length ≤ 400) (hr : dyR v.1 v.2.1 v.2.2 = true) : ∃ t : ByteArray, t.data.toList = bytT v ∧ ∀ (A : Option Addr) (c : Nat) (w : World), Dg w A c v.2.1 →
    Calls Tryz.prog 19 #[.agg #[.bool v.1, .slice A v.2.1.length c, .int .i64 v.2.2]] w fun e w' => e = .returned (.tuple #[.string t, .int .i64 (errT v)]) ∧ Below w.heap.size w w' := by
  obtain ⟨s, xs, x⟩ := v
  obtain ⟨m, rfl, rfl, r1⟩ := num_of hk hr
  have hn : nmv (decide (m < 0), digs m.natAbs, x) = m := sg_dz m
  unfold bytT errT dyIn nbB
  rw [hn]
  dsimp only
  cases hq : inR m x
  · exact ⟨⟨#[]⟩, rfl, fun A c w h => r5bytes_n A c m x w h hl r1 hq⟩
  · exact ⟨⟨(zb m ++ zb x).toArray⟩, rfl, fun A c w h => r5bytes_y A c m x _ w h hl r1 hq rfl⟩
end Go.Proofs.YtdmfapgclppmhaaGreatDoor
end

section
namespace Go.Proofs.YtdmfapgclppmhaaGreatDoor
open Go.RowKit
set_option linter.unusedSimpArgs false
set_option linter.unusedVariables false
/-- May a piece be, but for its numbers? -/
def fitsH (p : Pd) : Bool := nmB p.a && ((decide (-64 ≤ p.w) && decide (p.w ≤ 64)) && ((decide (2 ≤ p.cs.length) && decide (p.cs.length ≤ 17)) && (nmB p.er && !p.er.1)))
def fitsB (p : Pd) : Bool := fitsH p && p.cs.all nmB
theorem all_take_snoc {cs : List Nm} {j : Nat} {v : Nm} (h : cs[j]? = some v) (ha : (cs.take j).all nmB = true) (hv : nmB v = true) : (cs.take (j + 1)).all nmB = true := by
  rw [List.take_add_one, h]; simp [ha, hv]
theorem all_no {cs : List Nm} {j : Nat} {v : Nm} (h : cs[j]? = some v) (hv : nmB v = false) : cs.all nmB = false := by
  rw [Bool.eq_false_iff]; intro e
  rw [List.all_eq_true] at e
  have := e v (List.mem_of_getElem? h)
  rw [hv] at this; cases this

set_option maxHeartbeats 8000000 in
set_option maxRecDepth 100000 in
theorem r15fits_go (A B P : Option Addr) (c d k n : Nat) (s r : Bool) (xs ys : List Nat) (x W y : Int) (cs : List Nm) (q q1 : Bool) (w : World) (h : Dg w A c xs) (h' : Dg w B d ys) (hl : xs.length ≤ 10000) (hl' : ys.length ≤ 10000) (hns : NsL w P k cs) (hX : ∀ v, v ∈ cs → v.2.1.length ≤ 10000) (hn : cs.length = n) (hq1 : (nmB (s, xs, x) && ((decide (-64 ≤ W) && decide (W ≤ 64)) && ((decide (2 ≤ n) && decide (n ≤ 17)) && (nmB (r, ys, y) && !r)))) = q1) (hq : (q1 && cs.all nmB) = q) :
    Calls Tryz.prog 33 #[.agg #[.bool s, .slice A xs.length c, .int .i64 x, .int .i64 W, .slice P n k, .bool r, .slice B ys.length d, .int .i64 y]] w fun e w' => e = .returned (.bool q) ∧ Below w.heap.size w w' := by
  have H := Lib.hid h
  have H' := Lib.hid h'
  have HL := Lib.hid (And.intro hl hl')
  have HNS := Lib.hid hns
  have HX := Lib.hid hX
  have HN := Lib.hid hn
  have Q1 := Lib.hid hq1
  have HQ := Lib.hid hq
  clear h h' hl hl' hns hX hn hq1 hq
  go_enter Tryz.func33, Tryz.ntmps33
  go_upto_region 1 with fail
  obtain ⟨v1, hW⟩ : ∃ V : World, w.alloc (.cells #[.bool s, .slice A xs.length c, .int .i64 x, .int .i64 W, .slice P n k, .bool r, .slice B ys.length d, .int .i64 y] 49) = V := ⟨_, rfl⟩
  rw [hW]
  have B1 := Lib.hid (show Below w.heap.size w v1 by rw [← hW]; exact below1 _ _)
  have R1 := Lib.hid (show v1.heap[w.heap.size]? = some (.cells #[.bool s, .slice A xs.length c, .int .i64 x, .int .i64 W, .slice P n k, .bool r, .slice B ys.length d, .int .i64 y] 49 (0, 0)) by rw [← hW]; exact heap_alloc_new _ _)
  clear hW
  go_cut [41] (fun bv wx => bv = .bool (!q1) ∧ Hid (Below w.heap.size w wx) ∧ Hid (wx.heap[w.heap.size]? = some (.cells #[.bool s, .slice A xs.length c, .int .i64 x, .int .i64 W, .slice P n k, .bool r, .slice B ys.length d, .int .i64 y] 49 (0, 0))))
  case first =>
    obtain ⟨ra, hra⟩ : ∃ t, nmB (s, xs, x) = t := ⟨_, rfl⟩
    have HA := Lib.hid hra
    clear hra
    have f0 := row_c (i := 0) R1.out rfl
    have zf0 := frozen_of_row _ _ 0 _ _ R1.out
    have f1 := row_c (i := 1) R1.out rfl
    have zf1 := frozen_of_row _ _ 1 _ _ R1.out
    have f2 := row_c (i := 2) R1.out rfl
    have zf2 := frozen_of_row _ _ 2 _ _ R1.out
    have f3 := row_c (i := 3) R1.out rfl
    have zf3 := frozen_of_row _ _ 3 _ _ R1.out
    have f4 := row_c (i := 4) R1.out rfl
    have zf4 := frozen_of_row _ _ 4 _ _ R1.out
    have f5 := row_c (i := 5) R1.out rfl
    have zf5 := frozen_of_row _ _ 5 _ _ R1.out
    have f6 := row_c (i := 6) R1.out rfl
    have zf6 := frozen_of_row _ _ 6 _ _ R1.out
    have f7 := row_c (i := 7) R1.out rfl
    have zf7 := frozen_of_row _ _ 7 _ _ R1.out
    have xf := heap_lt R1.out
    go_wp2_with fail
    refine (r15short_any (H.out.below B1.out) HL.out.1 HA.out).mono ?_
    rintro e v2 ⟨rfl, hb⟩
    have B2 := Lib.hid (B1.out.trans (hb.mono B1.out.size))
    have R2 := co R1 hb
    clear hb f0 zf0 f1 zf1 f2 zf2 f3 zf3 f4 zf4 f5 zf5 f6 zf6 f7 zf7 xf
    have f0 := row_c (i := 0) R2.out rfl
    have zf0 := frozen_of_row _ _ 0 _ _ R2.out
    have f1 := row_c (i := 1) R2.out rfl
    have zf1 := frozen_of_row _ _ 1 _ _ R2.out
    have f2 := row_c (i := 2) R2.out rfl
    have zf2 := frozen_of_row _ _ 2 _ _ R2.out
    have f3 := row_c (i := 3) R2.out rfl
    have zf3 := frozen_of_row _ _ 3 _ _ R2.out
    have f4 := row_c (i := 4) R2.out rfl
    have zf4 := frozen_of_row _ _ 4 _ _ R2.out
    have f5 := row_c (i := 5) R2.out rfl
    have zf5 := frozen_of_row _ _ 5 _ _ R2.out
    have f6 := row_c (i := 6) R2.out rfl
    have zf6 := frozen_of_row _ _ 6 _ _ R2.out
    have f7 := row_c (i := 7) R2.out rfl
    have zf7 := frozen_of_row _ _ 7 _ _ R2.out
    have xf := heap_lt R2.out
    cases ra
    · go_wp2_with fail
      go_meet
      exact ⟨by rw [show q1 = false from by rw [← Q1.out]; have hA := HA.out; simp [hA]]; rfl, B2, R2⟩
    · by_cases c1 : W < -64
      · have d1 : decide (W < -64) = true := decide_eq_true c1
        have C1 := Lib.hid c1
        clear c1
        go_wp2_with fail
        go_meet
        exact ⟨by rw [show q1 = false from by rw [← Q1.out]; have cc := C1.out; simp; omega]; rfl, B2, R2⟩
      · have d1 : decide (W < -64) = false := decide_eq_false c1
        by_cases c2 : 64 < W
        · have d2 : decide (64 < W) = true := decide_eq_true c2
          have C2 := Lib.hid c2
          clear c1 c2
          go_wp2_with fail
          go_meet
          exact ⟨by rw [show q1 = false from by rw [← Q1.out]; have cc := C2.out; simp; omega]; rfl, B2, R2⟩
        · have d2 : decide (64 < W) = false := decide_eq_false c2
          by_cases c3 : n < 2
          · have d3 : decide ((n : Int) < 2) = true := decide_eq_true (by omega)
            have d4 : decide (n < 2) = true := decide_eq_true c3
            have C3 := Lib.hid c3
            clear c1 c2 c3
            go_wp2_with fail
            go_meet
            exact ⟨by rw [show q1 = false from by rw [← Q1.out]; have cc := C3.out; simp; omega]; rfl, B2, R2⟩
          · have d3 : decide ((n : Int) < 2) = false := decide_eq_false (by omega)
            have d4 : decide (n < 2) = false := decide_eq_false c3
            by_cases c4 : 17 < n
            · have d5 : decide (17 < (n : Int)) = true := decide_eq_true (by omega)
              have d6 : decide (17 < n) = true := decide_eq_true c4
              have C4 := Lib.hid c4
              clear c1 c2 c3 c4
              go_wp2_with fail
              go_meet
              exact ⟨by rw [show q1 = false from by rw [← Q1.out]; have cc := C4.out; simp; omega]; rfl, B2, R2⟩
            · have d5 : decide (17 < (n : Int)) = false := decide_eq_false (by omega)
              have d6 : decide (17 < n) = false := decide_eq_false c4
              have CC := Lib.hid (show (-64 ≤ W ∧ W ≤ 64) ∧ 2 ≤ n ∧ n ≤ 17 by omega)
              clear c1 c2 c3 c4
              go_wp2_with fail
              obtain ⟨rb, hrb⟩ : ∃ t, nmB (r, ys, y) = t := ⟨_, rfl⟩
              have HE := Lib.hid hrb
              clear hrb
              refine (r15short_any (H'.out.below B2.out) HL.out.2 HE.out).mono ?_
              rintro e v3 ⟨rfl, hb⟩
              have B3 := Lib.hid (B2.out.trans (hb.mono B2.out.size))
              have R3 := co R2 hb
              clear hb f0 zf0 f1 zf1 f2 zf2 f3 zf3 f4 zf4 f5 zf5 f6 zf6 f7 zf7 xf
              have f0 := row_c (i := 0) R3.out rfl
              have zf0 := frozen_of_row _ _ 0 _ _ R3.out
              have f1 := row_c (i := 1) R3.out rfl
              have zf1 := frozen_of_row _ _ 1 _ _ R3.out
              have f2 := row_c (i := 2) R3.out rfl
              have zf2 := frozen_of_row _ _ 2 _ _ R3.out
              have f3 := row_c (i := 3) R3.out rfl
              have zf3 := frozen_of_row _ _ 3 _ _ R3.out
              have f4 := row_c (i := 4) R3.out rfl
              have zf4 := frozen_of_row _ _ 4 _ _ R3.out
              have f5 := row_c (i := 5) R3.out rfl
              have zf5 := frozen_of_row _ _ 5 _ _ R3.out
              have f6 := row_c (i := 6) R3.out rfl
              have zf6 := frozen_of_row _ _ 6 _ _ R3.out
              have f7 := row_c (i := 7) R3.out rfl
              have zf7 := frozen_of_row _ _ 7 _ _ R3.out
              have xf := heap_lt R3.out
              cases rb
              · go_wp2_with fail
                go_meet
                exact ⟨by rw [show q1 = false from by rw [← Q1.out]; have hE := HE.out; simp [hE]]; rfl, B3, R3⟩
              · cases r
                · go_wp2_with fail
                  go_meet
                  exact ⟨by rw [show q1 = true from by rw [← Q1.out]; have hA := HA.out; have hE := HE.out; have cc := CC.out; simp [hA, hE]; omega]; rfl, B3, R3⟩
                · go_wp2_with fail
                  go_meet
                  exact ⟨by rw [show q1 = false from by rw [← Q1.out]; simp]; rfl, B3, R3⟩
  case rest =>
    obtain ⟨rfl, B4, R4⟩ := hcut
    rename_i v4
    cases q1
    · obtain rfl : q = false := by rw [← HQ.out]; rfl
      go_wp2_with fail
      go_ret
      exact ⟨rfl, B4.out⟩
    · obtain rfl : q = cs.all nmB := by rw [← HQ.out]; rfl
      have H17 := Lib.hid (show n ≤ 17 by have := Q1.out; simp only [Bool.and_eq_true, decide_eq_true_eq] at this; exact this.2.2.1.2)
      go_wp2_with fail
      go_loopw [3] (fun i wr => ∃ j : Nat, j ≤ n ∧ i = .int .i64 j ∧ Hid ((cs.take j).all nmB = true) ∧ Hid (Below w.heap.size w wr) ∧ Hid (wr.heap[w.heap.size]? = some (.cells #[.bool s, .slice A xs.length c, .int .i64 x, .int .i64 W, .slice P n k, .bool r, .slice B ys.length d, .int .i64 y] 49 (0, 0)))) (fun i _ => n - (intOf i).toNat)
      case atStart => exact ⟨0, Nat.zero_le _, rfl, Lib.hid rfl, B4, R4⟩
      case round =>
        obtain ⟨j, hj, rfl, HAL, HB, HRT⟩ := hrel
        have t4 := row_c (i := 4) HRT.out rfl
        have zt4 := frozen_of_row _ _ 4 _ _ HRT.out
        have xt := heap_lt HRT.out
        by_cases hlt : j < n
        · obtain ⟨v, hv⟩ : ∃ v, cs[j]? = some v := ⟨_, List.getElem?_eq_getElem (by have := HN.out; omega)⟩
          have HV := Lib.hid hv
          obtain ⟨b, o, A2, c2, rfl, g0, g1, g2, hd⟩ := (HNS.out.below HB.out).rowq j v hv
          have HD := Lib.hid hd
          have HXV := Lib.hid (HX.out v (List.mem_of_getElem? hv))
          obtain ⟨⟨vs, vx, ve⟩, hve⟩ : ∃ z, z = v := ⟨_, rfl⟩
          subst hve
          clear hv hd
          go_wp2_with fail
          obtain ⟨rv, hrv⟩ : ∃ t, nmB (vs, vx, ve) = t := ⟨_, rfl⟩
          have HRV := Lib.hid hrv
          clear hrv
          refine (r15short_any HD.out HXV.out HRV.out).mono ?_
          rintro e w1 ⟨rfl, hb1⟩
          have HB1 := Lib.hid (HB.out.trans (hb1.mono HB.out.size))
          have HRT1 := Lib.hid (cells_of HRT.out hb1)
          clear hb1 g0 g1 g2 t4 zt4 xt
          cases rv
          · have HNO := Lib.hid (all_no HV.out HRV.out)
            go_wp2
            try rw [Exit.noGoto_ret]
            go_ret
            exact ⟨by rw [HNO.out]; rfl, HB1.out⟩
          · have HS := Lib.hid (all_take_snoc HV.out HAL.out HRV.out)
            go_wp2
            go_roundw
            case rel =>
              have h17 := H17.out
              have hw : wrap64 ((j : Int) + 1) = (j : Int) + 1 := IntWalk.wrap64_in _ ⟨by omega, by omega⟩
              refine ⟨_, _, _, _, _, _, _, _, _, _, _, _, _, _, _, _, ⟨j + 1, by omega, ?_, HS, HB1, HRT1⟩, rfl⟩
              rw [hw]; exact congrArg _ (by omega)
            case measure =>
              have h17 := H17.out
              have hw : wrap64 ((j : Int) + 1) = (j : Int) + 1 := IntWalk.wrap64_in _ ⟨by omega, by omega⟩
              rw [hw]
              simp [intOf]; omega
        · obtain rfl : j = n := by omega
          have HE := Lib.hid (show cs.all nmB = true by have := HAL.out; rwa [← HN.out, List.take_length] at this)
          go_wp2
          go_ret
          exact ⟨by rw [HE.out]; rfl, HB.out⟩

theorem r15fits_any {A B P : Option Addr} {c d k : Nat} {p : Pd} {q : Bool} {w : World} (h : Dg w A c p.a.2.1) (h' : Dg w B d p.er.2.1) (hl : p.a.2.1.length ≤ 10000) (hl' : p.er.2.1.length ≤ 10000) (hns : NsL w P k p.cs) (hX : ∀ v, v ∈ p.cs → v.2.1.length ≤ 10000) (hq : fitsB p = q) :
    Calls Tryz.prog 33 #[.agg #[.bool p.a.1, .slice A p.a.2.1.length c, .int .i64 p.a.2.2, .int .i64 p.w, .slice P p.cs.length k, .bool p.er.1, .slice B p.er.2.1.length d, .int .i64 p.er.2.2]] w fun e w' => e = .returned (.bool q) ∧ Below w.heap.size w w' := by
  obtain ⟨⟨s, xs, x⟩, W, cs, ⟨r, ys, y⟩⟩ := p
  exact r15fits_go A B P c d k cs.length s r xs ys x W y cs q _ w h h' hl hl' hns hX rfl rfl hq
end Go.Proofs.YtdmfapgclppmhaaGreatDoor
end

section
namespace Go.Proofs.YtdmfapgclppmhaaGreatDoor
open Go.RowKit
set_option linter.unusedSimpArgs false
set_option linter.unusedVariables false
set_option maxHeartbeats 4000000 in
set_option maxRecDepth 100000 in
theorem r15end_n (A : Option Addr) (c : Nat) (m v W t M E K F V : Int) (w : World) (h : Dg w A c (digs m.natAbs)) (hl : (digs m.natAbs).length ≤ 10000) (r1 : Rt m v) (h0 : -30 ≤ W) (h1 : W ≤ 10) (hu : t = 1) (hs : IsD (dv m v + dv t W) M E) (hq : tot M E = (K, F, V)):
    Calls Tryz.prog 35 #[.agg #[.bool (decide (m < 0)), .slice A (digs m.natAbs).length c, .int .i64 v], .int .i64 W] w fun e w' => Yr K F w e w' := by
  have lx := Lib.hid hl
  have HR1 := Lib.hid r1
  have HS := Lib.hid hs
  have HQ := Lib.hid hq
  have RU := Lib.hid (show Rt t W by subst hu; exact ⟨.inr rfl, by omega, by omega⟩)
  have LU := Lib.hid (show (digs t.natAbs).length ≤ 10000 from Nat.le_trans (digs_small (by omega)) (by omega : 2 ≤ 10000))
  have HH := Lib.hid (fun (W1 : World) => r5half_u W t W1 (by omega) (by omega) hu)
  have L0 := Lib.hid ((live_start w).add h)
  clear h hl r1 hs hq hu h0 h1
  go_enter Tryz.func35, Tryz.ntmps35
  go_wp2_with fail
  obtain ⟨v1, hW, hb, Rx_1, Rr_1⟩ := new2 w (.cells #[.bool (decide (m < 0)), .slice A (digs m.natAbs).length c, .int .i64 v] 26) (.cells #[.bool false, .slice none 0 0, .int .i64 0] 26)
  rw [← hW]
  have L1 := ls L0 hb
  have Gx := gl0 L0.out
  have Gr := gl1 L0.out
  have Nxr : w.heap.size < w.heap.size + 1 := by omega
  clear hW hb
  refine wp_operands_late (W := v1) rfl 6 8 9 [0, 1, 2, 3, 4, 5, 7] [8, 9, 10, 11, 7, 12, 13, 5] (fun i u ww => match i with | 6 => u = .int .i64 V | 0 => u = .agg #[.bool (decide (m < 0)), .slice A (digs m.natAbs).length c, .int .i64 v] | 1 => u = .int .i64 W | 2 => ∃ A c, u = .agg #[.bool (decide (t < 0)), .slice A (digs t.natAbs).length c, .int .i64 W] ∧ Dg ww A c (digs t.natAbs) | 3 => ∃ A c, u = .tuple #[.agg #[.bool (decide (K < 0)), .slice A (digs K.natAbs).length c, .int .i64 F], .int .i64 V] ∧ Dg ww A c (digs K.natAbs) | 4 => ∃ A c, u = .tuple #[.agg #[.bool (decide (K < 0)), .slice A (digs K.natAbs).length c, .int .i64 F], .int .i64 V] ∧ Dg ww A c (digs K.natAbs) | 5 => ∃ A c, u = .agg #[.bool (decide (K < 0)), .slice A (digs K.natAbs).length c, .int .i64 F] ∧ Dg ww A c (digs K.natAbs) | 7 => ∃ g, u = .pointer (some ⟨g, 0, none⟩) ∧ ww.heap[g]? = some (.cells #[.bool false, .slice none 0 0, .int .i64 0] 26 (0, 0)) ∧ v1.heap.size ≤ g | _ => True)
    (by kernel_rfl) (by kernel_rfl) (by decide) (by kernel_rfl) (by kernel_rfl) (by kernel_rfl) (by decide) (by kernel_rfl) (by kernel_rfl) (by kernel_rfl) (by kernel_rfl) (by kernel_rfl) (by kernel_rfl) (by kernel_rfl) (by kernel_rfl) ?_ ?_ ?_
  · intro i u x y hi h hb
    have hi' : i = 6 ∨ i = 0 ∨ i = 1 ∨ i = 2 ∨ i = 3 ∨ i = 4 ∨ i = 5 ∨ i = 7 := by simpa using hi
    rcases hi' with rfl | rfl | rfl | rfl | rfl | rfl | rfl | rfl
    · exact h
    · exact h
    · exact h
    · obtain ⟨A, c, e, hd⟩ := h
      exact ⟨A, c, e, hd.below hb⟩
    · obtain ⟨A, c, e, hd⟩ := h
      exact ⟨A, c, e, hd.below hb⟩
    · obtain ⟨A, c, e, hd⟩ := h
      exact ⟨A, c, e, hd.below hb⟩
    · obtain ⟨A, c, e, hd⟩ := h
      exact ⟨A, c, e, hd.below hb⟩
    · obtain ⟨g, e, hg, hge⟩ := h
      exact ⟨g, e, cells_of hg hb, hge⟩
  · intro i a x KK hi hF hb hw hK
    have hi' : i = 6 ∨ i = 0 ∨ i = 1 ∨ i = 2 ∨ i = 3 ∨ i = 4 ∨ i = 5 ∨ i = 7 := by simpa using hi
    rcases hi' with rfl | rfl | rfl | rfl | rfl | rfl | rfl | rfl
    · simp only [wpOp, List.getElem?_toArray, List.getElem?_cons_succ, List.getElem?_cons_zero, Region.wanted, if_true]
      refine Or.inl ?_
      obtain ⟨A', c', e0, hd⟩ := hw 4 (by kernel_rfl)
      have e0 : a.eval (.tmp 7) = _ := e0
      clear hw hF
      simp only [Oper.wp, execOp]
      rw [e0]
      go_simp
      exact hK _ x (by first | rfl | simp) (Below.refl _ _)
    · simp only [wpOp, List.getElem?_toArray, List.getElem?_cons_zero, Region.wanted, if_true]
      refine Or.inl ?_
      have e0 : a.eval (.tmp 2) = .pointer (some ⟨w.heap.size, 0, none⟩) := hF.2.2 2 (by decide)
      have f0 := row_cell Rx_1.out hb 0
      have f1 := row_cell Rx_1.out hb 1
      have f2 := row_cell Rx_1.out hb 2
      simp only [List.getElem?_toArray, List.getElem?_cons_succ, List.getElem?_cons_zero] at f0 f1 f2
      clear hw hF
      simp only [Oper.wp, execOp]
      rw [e0]
      go_simp
      exact hK _ x (by first | rfl | simp) (Below.refl _ _)
    · simp only [wpOp, List.getElem?_toArray, List.getElem?_cons_succ, List.getElem?_cons_zero, Region.wanted, if_true]
      refine Or.inl ?_
      have e0 : a.eval (.tmp 1) = .int .i64 W := hF.2.2 1 (by decide)
      clear hw hF
      simp only [Oper.wp, execOp]
      rw [e0]
      go_simp
      exact hK _ x (by first | rfl | simp) (Below.refl _ _)
    · simp only [wpOp, List.getElem?_toArray, List.getElem?_cons_succ, List.getElem?_cons_zero, Region.wanted, if_true]
      refine Or.inl ?_
      have e0 : a.tmps.getD 9 undef = .int .i64 W := hw 1 (by kernel_rfl)
      clear hw hF
      simp only [Oper.wp, execOp]
      go_simp
      refine (HH.out _).mono ?_
      rintro e y ⟨A2, c2, rfl, hd2, hbb⟩
      exact hK _ y ⟨A2, c2, rfl, hd2⟩ hbb
    · simp only [wpOp, List.getElem?_toArray, List.getElem?_cons_succ, List.getElem?_cons_zero, Region.wanted, if_true]
      refine Or.inl ?_
      have e0 : a.tmps.getD 8 undef = .agg #[.bool (decide (m < 0)), .slice A (digs m.natAbs).length c, .int .i64 v] := hw 0 (by kernel_rfl)
      obtain ⟨A', c', e1, hd⟩ := hw 2 (by kernel_rfl)
      have e1 : a.tmps.getD 10 undef = _ := e1
      clear hw hF
      simp only [Oper.wp, execOp]
      go_simp
      refine (r5add_t ((L1.out.step hb).get (A := A) (c := c) (xs := digs m.natAbs) (by simp)) hd lx.out LU.out HR1.out RU.out HS.out HQ.out).mono ?_
      rintro e y ⟨A2, c2, rfl, hd2, hbb⟩
      exact hK _ y ⟨A2, c2, rfl, hd2⟩ hbb
    · simp only [wpOp, List.getElem?_toArray, List.getElem?_cons_succ, List.getElem?_cons_zero, Region.wanted, if_true]
      refine Or.inl ?_
      obtain ⟨A', c', e0, hd⟩ := hw 3 (by kernel_rfl)
      have e0 : a.eval (.tmp 11) = _ := e0
      clear hw hF
      simp only [Oper.wp, execOp]
      rw [e0]
      go_simp
      exact hK _ x ⟨A', c', rfl, hd⟩ (Below.refl _ _)
    · simp only [wpOp, List.getElem?_toArray, List.getElem?_cons_succ, List.getElem?_cons_zero, Region.wanted, if_true]
      refine Or.inl ?_
      obtain ⟨A', c', e0, hd⟩ := hw 4 (by kernel_rfl)
      have e0 : a.eval (.tmp 7) = _ := e0
      clear hw hF
      simp only [Oper.wp, execOp]
      rw [e0]
      go_simp
      exact hK _ x ⟨A', c', rfl, hd⟩ (Below.refl _ _)
    · simp only [wpOp, List.getElem?_toArray, List.getElem?_cons_succ, List.getElem?_cons_zero, Region.wanted, if_true]
      refine Or.inl ?_
      clear hw hF
      simp only [Oper.wp, execOp]
      go_simp
      exact hK _ _ ⟨_, rfl, heap_alloc_new _ _, hb.size⟩ (below1 _ _)
  · intro a x hF0 hb hR
    have hF : Fr6 [13, 8, 9, 10, 11, 7, 12, 5] _ a := hF0
    have e0 : a.tmps.getD 8 undef = .agg #[.bool (decide (m < 0)), .slice A (digs m.natAbs).length c, .int .i64 v] := hR 0 (by decide)
    have e1 : a.tmps.getD 9 undef = .int .i64 W := hR 1 (by decide)
    obtain ⟨B2, d2, h2, hd2⟩ := hR 2 (by decide)
    have e2 : a.tmps.getD 10 undef = _ := h2
    obtain ⟨B3, d3, h3, hd3⟩ := hR 3 (by decide)
    have e3 : a.tmps.getD 11 undef = _ := h3
    obtain ⟨B4, d4, h4, hd4⟩ := hR 4 (by decide)
    have e4 : a.tmps.getD 7 undef = _ := h4
    obtain ⟨B5, d5, h5, hd5⟩ := hR 5 (by decide)
    have e5 : a.tmps.getD 12 undef = _ := h5
    obtain ⟨g7, h7, hg7, hge7⟩ := hR 7 (by decide)
    have e7 : a.tmps.getD 5 undef = _ := h7
    refine ⟨⟨?_, ?_⟩, fun hx => ?_⟩
    · rw [hF.fold (by kernel_rfl)]
      simp only [List.foldl_cons, List.foldl_nil, e0, e1, e2, e3, e4, e5, e7]
      generalize a.tmps.getD 13 undef = vx at *
      simp only [Act.put, List.setIfInBounds_toArray, List.set_cons_zero, List.set_cons_succ]
      clear e0 e1 e2 e3 e4 e5 e7 hR hF hF0 h2 h3 h4 h5 h7
      obtain ⟨w2, hW⟩ : ∃ W : World, W = x := ⟨_, rfl⟩
      rw [← hW]
      rw [← hW] at hb hd2 hd3 hd4 hd5 hg7
      have L2 := Lib.hid (((((L1.out.step hb).add hd2).add hd3).add hd4).add hd5)
      have Rx_2 := co Rx_1 hb
      have Rr_2 := co Rr_1 hb
      have Rq7_2 := Lib.hid hg7
      have Gq7 : w.heap.size ≤ g7 := Nat.le_trans L1.out.1.size hge7
      have Nxq7 : w.heap.size < g7 := by have := heap_lt Rx_1.out; omega
      have Nrq7 : w.heap.size + 1 < g7 := by have := heap_lt Rr_1.out; omega
      clear hW hb hd2 hd3 hd4 hd5 hg7 hge7
      obtain ⟨fq70, zq70, fq71, zq71, fq72, zq72, xq7⟩ := ly3 Rq7_2.out
      simp only [wpOps_cons]
      simp only [wpOp, List.getElem?_toArray, List.getElem?_cons_succ, List.getElem?_cons_zero, Region.wanted, if_true]
      refine Or.inl ?_
      simp only [Oper.wp, execOp]
      go_simp
      simp only [wpOps_cons]
      simp only [wpOp, List.getElem?_toArray, List.getElem?_cons_succ, List.getElem?_cons_zero, Region.wanted, if_true]
      refine Or.inl ?_
      simp only [Oper.wp, execOp]
      go_simp
      simp only [wpOps_cons]
      simp only [wpOp, List.getElem?_toArray, List.getElem?_cons_succ, List.getElem?_cons_zero, Region.wanted, if_true]
      refine Or.inl ?_
      simp only [Oper.wp, execOp]
      go_simp
      try simp only [wpOps]
      clear fq70 zq70 fq71 zq71 fq72 zq72 xq7
      obtain ⟨w3, hW⟩ : ∃ W : World, W = (((w2.setCell ⟨g7, 0, none⟩ (.bool (decide (K < 0)))).setCell ⟨g7, 1, none⟩ (.slice B5 (digs K.natAbs).length d5)).setCell ⟨g7, 2, none⟩ (.int .i64 F)) := ⟨_, rfl⟩
      rw [← hW]
      have hO : Only (g7) w2 w3 := by rw [hW]; exact ((((Only.refl (g7) w2).setCell 0 _).setCell 1 _).setCell 2 _)
      have L3 := Lib.hid (live_only L2.out hO Rq7_2.out noint_dy Gq7)
      have Rx_3 := Lib.hid ((hO.block _ (by omega)).trans Rx_2.out)
      have Rr_3 := Lib.hid ((hO.block _ (by omega)).trans Rr_2.out)
      have Rq7_3 := Lib.hid (show w3.heap[g7]? = some (.cells #[.bool (decide (K < 0)), .slice B5 (digs K.natAbs).length d5, .int .i64 F] 26 (0, 0)) by rw [hW]; exact (heap_setCell_same _ _ 2 _ _ _ (heap_setCell_same _ _ 1 _ _ _ (heap_setCell_same _ _ 0 _ _ _ Rq7_2.out))))
      clear hW hO
      obtain ⟨fr0, zr0, fr1, zr1, fr2, zr2, xr⟩ := ly3 Rr_3.out
      obtain ⟨fq70, zq70, fq71, zq71, fq72, zq72, xq7⟩ := ly3 Rq7_3.out
      go_wp2
      refine bodyPost_ret (v := .agg #[.bool (decide (K < 0)), .slice B5 (digs K.natAbs).length d5, .int .i64 F]) (by simp [results, Tryz.results35, go_sem, fr0, fr1, fr2, fq70, fq71, fq72]) rfl ?_
      
      refine ⟨B5, d5, rfl, ?_, ?_⟩
      · exact (fin3 L3.out Rr_3.out noint3 Gr).get (A := B5) (c := d5) (xs := digs K.natAbs) (by simp)
      · exact (fin3 L3.out Rr_3.out noint3 Gr).1
    · rw [hF.fold (by kernel_rfl)]
      simp only [List.foldl_cons, List.foldl_nil, e0, e1, e2, e3, e4, e5, e7]
      generalize a.tmps.getD 13 undef = vx at *
      simp only [Act.put, List.setIfInBounds_toArray, List.set_cons_zero, List.set_cons_succ]
      clear e0 e1 e2 e3 e4 e5 e7 hR hF hF0 h2 h3 h4 h5 h7
      obtain ⟨w2, hW⟩ : ∃ W : World, W = x := ⟨_, rfl⟩
      rw [← hW]
      rw [← hW] at hb hd2 hd3 hd4 hd5 hg7
      have L2 := Lib.hid (((((L1.out.step hb).add hd2).add hd3).add hd4).add hd5)
      have Rx_2 := co Rx_1 hb
      have Rr_2 := co Rr_1 hb
      have Rq7_2 := Lib.hid hg7
      have Gq7 : w.heap.size ≤ g7 := Nat.le_trans L1.out.1.size hge7
      have Nxq7 : w.heap.size < g7 := by have := heap_lt Rx_1.out; omega
      have Nrq7 : w.heap.size + 1 < g7 := by have := heap_lt Rr_1.out; omega
      clear hW hb hd2 hd3 hd4 hd5 hg7 hge7
      obtain ⟨fq70, zq70, fq71, zq71, fq72, zq72, xq7⟩ := ly3 Rq7_2.out
      simp only [wpOps_cons]
      simp only [wpOp, List.getElem?_toArray, List.getElem?_cons_succ, List.getElem?_cons_zero, Region.wanted, if_true]
      refine Or.inl ?_
      simp only [Oper.wp, execOp]
      go_simp
      simp only [wpOps_cons]
      simp only [wpOp, List.getElem?_toArray, List.getElem?_cons_succ, List.getElem?_cons_zero, Region.wanted, if_true]
      refine Or.inl ?_
      simp only [Oper.wp, execOp]
      go_simp
      simp only [wpOps_cons]
      simp only [wpOp, List.getElem?_toArray, List.getElem?_cons_succ, List.getElem?_cons_zero, Region.wanted, if_true]
      refine Or.inl ?_
      simp only [Oper.wp, execOp]
      go_simp
      try simp only [wpOps]
      clear fq70 zq70 fq71 zq71 fq72 zq72 xq7
      obtain ⟨w3, hW⟩ : ∃ W : World, W = (((w2.setCell ⟨g7, 0, none⟩ (.bool (decide (K < 0)))).setCell ⟨g7, 1, none⟩ (.slice B5 (digs K.natAbs).length d5)).setCell ⟨g7, 2, none⟩ (.int .i64 F)) := ⟨_, rfl⟩
      rw [← hW]
      have hO : Only (g7) w2 w3 := by rw [hW]; exact ((((Only.refl (g7) w2).setCell 0 _).setCell 1 _).setCell 2 _)
      have L3 := Lib.hid (live_only L2.out hO Rq7_2.out noint_dy Gq7)
      have Rx_3 := Lib.hid ((hO.block _ (by omega)).trans Rx_2.out)
      have Rr_3 := Lib.hid ((hO.block _ (by omega)).trans Rr_2.out)
      have Rq7_3 := Lib.hid (show w3.heap[g7]? = some (.cells #[.bool (decide (K < 0)), .slice B5 (digs K.natAbs).length d5, .int .i64 F] 26 (0, 0)) by rw [hW]; exact (heap_setCell_same _ _ 2 _ _ _ (heap_setCell_same _ _ 1 _ _ _ (heap_setCell_same _ _ 0 _ _ _ Rq7_2.out))))
      clear hW hO
      obtain ⟨fr0, zr0, fr1, zr1, fr2, zr2, xr⟩ := ly3 Rr_3.out
      obtain ⟨fq70, zq70, fq71, zq71, fq72, zq72, xq7⟩ := ly3 Rq7_3.out
      go_wp2
      refine bodyPost_ret (v := .agg #[.bool (decide (K < 0)), .slice B5 (digs K.natAbs).length d5, .int .i64 F]) (by simp [results, Tryz.results35, go_sem, fr0, fr1, fr2, fq70, fq71, fq72]) rfl ?_
      
      refine ⟨B5, d5, rfl, ?_, ?_⟩
      · exact (fin3 L3.out Rr_3.out noint3 Gr).get (A := B5) (c := d5) (xs := digs K.natAbs) (by simp)
      · exact (fin3 L3.out Rr_3.out noint3 Gr).1
    · have e6 : a.tmps.getD 13 undef = .int .i64 V := hx
      rw [hF.fold (by kernel_rfl)]
      simp only [List.foldl_cons, List.foldl_nil, e0, e1, e2, e3, e4, e5, e7, e6]
      simp only [Act.put, List.setIfInBounds_toArray, List.set_cons_zero, List.set_cons_succ]
      clear e0 e1 e2 e3 e4 e5 e7 e6 hR hF hF0 h2 h3 h4 h5 h7 hx
      obtain ⟨w2, hW⟩ : ∃ W : World, W = x := ⟨_, rfl⟩
      rw [← hW]
      rw [← hW] at hb hd2 hd3 hd4 hd5 hg7
      have L2 := Lib.hid (((((L1.out.step hb).add hd2).add hd3).add hd4).add hd5)
      have Rx_2 := co Rx_1 hb
      have Rr_2 := co Rr_1 hb
      have Rq7_2 := Lib.hid hg7
      have Gq7 : w.heap.size ≤ g7 := Nat.le_trans L1.out.1.size hge7
      have Nxq7 : w.heap.size < g7 := by have := heap_lt Rx_1.out; omega
      have Nrq7 : w.heap.size + 1 < g7 := by have := heap_lt Rr_1.out; omega
      clear hW hb hd2 hd3 hd4 hd5 hg7 hge7
      obtain ⟨fq70, zq70, fq71, zq71, fq72, zq72, xq7⟩ := ly3 Rq7_2.out
      simp only [wpOps_cons]
      simp only [wpOp, List.getElem?_toArray, List.getElem?_cons_succ, List.getElem?_cons_zero, Region.wanted, if_true]
      refine Or.inl ?_
      simp only [Oper.wp, execOp]
      go_simp
      simp only [wpOps_cons]
      simp only [wpOp, List.getElem?_toArray, List.getElem?_cons_succ, List.getElem?_cons_zero, Region.wanted, if_true]
      refine Or.inl ?_
      simp only [Oper.wp, execOp]
      go_simp
      try simp only [wpOps]
      clear fq70 zq70 fq71 zq71 fq72 zq72 xq7
      obtain ⟨w3, hW⟩ : ∃ W : World, W = (((w2.setCell ⟨g7, 0, none⟩ (.bool (decide (K < 0)))).setCell ⟨g7, 1, none⟩ (.slice B5 (digs K.natAbs).length d5)).setCell ⟨g7, 2, none⟩ (.int .i64 F)) := ⟨_, rfl⟩
      rw [← hW]
      have hO : Only (g7) w2 w3 := by rw [hW]; exact ((((Only.refl (g7) w2).setCell 0 _).setCell 1 _).setCell 2 _)
      have L3 := Lib.hid (live_only L2.out hO Rq7_2.out noint_dy Gq7)
      have Rx_3 := Lib.hid ((hO.block _ (by omega)).trans Rx_2.out)
      have Rr_3 := Lib.hid ((hO.block _ (by omega)).trans Rr_2.out)
      have Rq7_3 := Lib.hid (show w3.heap[g7]? = some (.cells #[.bool (decide (K < 0)), .slice B5 (digs K.natAbs).length d5, .int .i64 F] 26 (0, 0)) by rw [hW]; exact (heap_setCell_same _ _ 2 _ _ _ (heap_setCell_same _ _ 1 _ _ _ (heap_setCell_same _ _ 0 _ _ _ Rq7_2.out))))
      clear hW hO
      obtain ⟨fr0, zr0, fr1, zr1, fr2, zr2, xr⟩ := ly3 Rr_3.out
      obtain ⟨fq70, zq70, fq71, zq71, fq72, zq72, xq7⟩ := ly3 Rq7_3.out
      go_wp2
      refine bodyPost_ret (v := .agg #[.bool (decide (K < 0)), .slice B5 (digs K.natAbs).length d5, .int .i64 F]) (by simp [results, Tryz.results35, go_sem, fr0, fr1, fr2, fq70, fq71, fq72]) rfl ?_
      
      refine ⟨B5, d5, rfl, ?_, ?_⟩
      · exact (fin3 L3.out Rr_3.out noint3 Gr).get (A := B5) (c := d5) (xs := digs K.natAbs) (by simp)
      · exact (fin3 L3.out Rr_3.out noint3 Gr).1

theorem r15end_q {A : Option Addr} {c : Nat} {m v W K F : Int} {w : World} (h : Dg w A c (digs m.natAbs)) (hl : (digs m.natAbs).length ≤ 10000) (r1 : Rt m v) (h0 : -30 ≤ W) (h1 : W ≤ 10) (hq : endq m v W = (K, F)) :
    Calls Tryz.prog 35 #[.agg #[.bool (decide (m < 0)), .slice A (digs m.natAbs).length c, .int .i64 v], .int .i64 W] w fun e w' => Yr K F w e w' := by
  have := r15end_n A c m v W 1 _ _ (endq m v W).1 (endq m v W).2 (tot (nm (endz m v W)) (nx (endz m v W) (min v W))).2.2 w h hl r1 h0 h1 rfl (endz_is m v W) rfl
  rw [hq] at this; exact this
end Go.Proofs.YtdmfapgclppmhaaGreatDoor
end

section
namespace Go.Proofs.YtdmfapgclppmhaaGreatDoor
open Go.RowKit
set_option linter.unusedSimpArgs false
set_option linter.unusedVariables false
theorem piece_of {p : Pd} {D : Int} (h0 : 1 ≤ D) (h1 : D ≤ 16) : pieceB p D = (fitsB p && ((decide (-30 ≤ p.w) && decide (p.w ≤ 10)) && decide ((p.cs.length : Int) = D + 1))) := by
  rw [Bool.eq_iff_iff]
  unfold pieceB fitsB fitsH
  simp only [Bool.and_eq_true, decide_eq_true_eq]
  constructor
  · rintro ⟨⟨a0, a1⟩, a2, ⟨a3, a4⟩, a5, a6⟩
    exact ⟨⟨⟨a3, ⟨⟨by omega, by omega⟩, ⟨by omega, by omega⟩, a4, a6⟩⟩, a5⟩, ⟨a0, a1⟩, a2⟩
  · rintro ⟨⟨⟨a3, ⟨_, _, a4, a6⟩⟩, a5⟩, ⟨a0, a1⟩, a2⟩
    exact ⟨⟨a0, a1⟩, a2, ⟨a3, a4⟩, a5, a6⟩

set_option maxHeartbeats 8000000 in
set_option maxRecDepth 100000 in
theorem r15right_no (A P : Option Addr) (c n k : Nat) (F O W Q D : Int) (s : Bool) (xs : List Nat) (x : Int) (w : World) (h : Dg w A c xs) (hl : xs.length ≤ 10000) (hq : ((decide (1 ≤ F) && decide (F ≤ 10)) && ((decide (0 ≤ O) && decide (O ≤ 64)) && (plainB s xs x && ((decide (-30 ≤ W) && decide (W ≤ 10)) && ((decide (4 ≤ Q) && decide (Q ≤ 48)) && ((decide (1 ≤ D) && decide (D ≤ 16)) && (decide (1 ≤ n) && decide (n ≤ 32)))))))) = false) :
    Calls Tryz.prog 18 #[.agg #[.int .i64 F, .int .i64 O, .bool s, .slice A xs.length c, .int .i64 x, .int .i64 W, .int .i64 Q, .int .i64 D, .slice P n k]] w fun e w' => e = .returned (.bool false) ∧ Below w.heap.size w w' := by
  have H := Lib.hid h
  have HL := Lib.hid hl
  have HQ := Lib.hid hq
  clear h hl hq
  go_enter Tryz.func18, Tryz.ntmps18
  go_upto_region 1 with fail
  obtain ⟨v1, hW⟩ : ∃ V : World, w.alloc (.cells #[.int .i64 F, .int .i64 O, .bool s, .slice A xs.length c, .int .i64 x, .int .i64 W, .int .i64 Q, .int .i64 D, .slice P n k] 29) = V := ⟨_, rfl⟩
  rw [hW]
  have B1 := Lib.hid (show Below w.heap.size w v1 by rw [← hW]; exact below1 _ _)
  have R1 := Lib.hid (show v1.heap[w.heap.size]? = some (.cells #[.int .i64 F, .int .i64 O, .bool s, .slice A xs.length c, .int .i64 x, .int .i64 W, .int .i64 Q, .int .i64 D, .slice P n k] 29 (0, 0)) by rw [← hW]; exact heap_alloc_new _ _)
  clear hW
  have f0 := row_c (i := 0) R1.out rfl
  have zf0 := frozen_of_row _ _ 0 _ _ R1.out
  have f1 := row_c (i := 1) R1.out rfl
  have zf1 := frozen_of_row _ _ 1 _ _ R1.out
  have f2 := row_c (i := 2) R1.out rfl
  have zf2 := frozen_of_row _ _ 2 _ _ R1.out
  have f3 := row_c (i := 3) R1.out rfl
  have zf3 := frozen_of_row _ _ 3 _ _ R1.out
  have f4 := row_c (i := 4) R1.out rfl
  have zf4 := frozen_of_row _ _ 4 _ _ R1.out
  have f5 := row_c (i := 5) R1.out rfl
  have zf5 := frozen_of_row _ _ 5 _ _ R1.out
  have f6 := row_c (i := 6) R1.out rfl
  have zf6 := frozen_of_row _ _ 6 _ _ R1.out
  have f7 := row_c (i := 7) R1.out rfl
  have zf7 := frozen_of_row _ _ 7 _ _ R1.out
  have f8 := row_c (i := 8) R1.out rfl
  have zf8 := frozen_of_row _ _ 8 _ _ R1.out
  have xf := heap_lt R1.out
  by_cases k0 : F < 1
  · have d0 : decide (F < 1) = true := decide_eq_true k0
    clear k0
    go_wp2_with fail
    go_ret
    exact ⟨rfl, B1.out⟩
  · have d0 : decide (F < 1) = false := decide_eq_false k0
    by_cases k1 : 10 < F
    · have d1 : decide (10 < F) = true := decide_eq_true k1
      clear k0 k1
      go_wp2_with fail
      go_ret
      exact ⟨rfl, B1.out⟩
    · have d1 : decide (10 < F) = false := decide_eq_false k1
      by_cases k2 : O < 0
      · have d2 : decide (O < 0) = true := decide_eq_true k2
        clear k0 k1 k2
        go_wp2_with fail
        go_ret
        exact ⟨rfl, B1.out⟩
      · have d2 : decide (O < 0) = false := decide_eq_false k2
        by_cases k3 : 64 < O
        · have d3 : decide (64 < O) = true := decide_eq_true k3
          clear k0 k1 k2 k3
          go_wp2_with fail
          go_ret
          exact ⟨rfl, B1.out⟩
        · have d3 : decide (64 < O) = false := decide_eq_false k3
          obtain ⟨rp, hrp⟩ : ∃ t, plainB s xs x = t := ⟨_, rfl⟩
          have HP := Lib.hid hrp
          clear hrp
          go_wp2_with fail
          refine (r15plain_any (H.out.below B1.out) HL.out HP.out).mono ?_
          rintro e v2 ⟨rfl, hb⟩
          have B2 := Lib.hid (B1.out.trans (hb.mono B1.out.size))
          have R2 := co R1 hb
          clear hb f0 zf0 f1 zf1 f2 zf2 f3 zf3 f4 zf4 f5 zf5 f6 zf6 f7 zf7 f8 zf8 xf
          have f0 := row_c (i := 0) R2.out rfl
          have zf0 := frozen_of_row _ _ 0 _ _ R2.out
          have f1 := row_c (i := 1) R2.out rfl
          have zf1 := frozen_of_row _ _ 1 _ _ R2.out
          have f2 := row_c (i := 2) R2.out rfl
          have zf2 := frozen_of_row _ _ 2 _ _ R2.out
          have f3 := row_c (i := 3) R2.out rfl
          have zf3 := frozen_of_row _ _ 3 _ _ R2.out
          have f4 := row_c (i := 4) R2.out rfl
          have zf4 := frozen_of_row _ _ 4 _ _ R2.out
          have f5 := row_c (i := 5) R2.out rfl
          have zf5 := frozen_of_row _ _ 5 _ _ R2.out
          have f6 := row_c (i := 6) R2.out rfl
          have zf6 := frozen_of_row _ _ 6 _ _ R2.out
          have f7 := row_c (i := 7) R2.out rfl
          have zf7 := frozen_of_row _ _ 7 _ _ R2.out
          have f8 := row_c (i := 8) R2.out rfl
          have zf8 := frozen_of_row _ _ 8 _ _ R2.out
          have xf := heap_lt R2.out
          cases rp
          · go_wp2_with fail
            go_ret
            exact ⟨rfl, B2.out⟩
          · have HP := HP
            by_cases k5 : W < -30
            · have d5 : decide (W < -30) = true := decide_eq_true k5
              clear k0 k1 k2 k3 k5
              go_wp2_with fail
              go_ret
              exact ⟨rfl, B2.out⟩
            · have d5 : decide (W < -30) = false := decide_eq_false k5
              by_cases k6 : 10 < W
              · have d6 : decide (10 < W) = true := decide_eq_true k6
                clear k0 k1 k2 k3 k5 k6
                go_wp2_with fail
                go_ret
                exact ⟨rfl, B2.out⟩
              · have d6 : decide (10 < W) = false := decide_eq_false k6
                by_cases k7 : Q < 4
                · have d7 : decide (Q < 4) = true := decide_eq_true k7
                  clear k0 k1 k2 k3 k5 k6 k7
                  go_wp2_with fail
                  go_ret
                  exact ⟨rfl, B2.out⟩
                · have d7 : decide (Q < 4) = false := decide_eq_false k7
                  by_cases k8 : 48 < Q
                  · have d8 : decide (48 < Q) = true := decide_eq_true k8
                    clear k0 k1 k2 k3 k5 k6 k7 k8
                    go_wp2_with fail
                    go_ret
                    exact ⟨rfl, B2.out⟩
                  · have d8 : decide (48 < Q) = false := decide_eq_false k8
                    by_cases k9 : D < 1
                    · have d9 : decide (D < 1) = true := decide_eq_true k9
                      clear k0 k1 k2 k3 k5 k6 k7 k8 k9
                      go_wp2_with fail
                      go_ret
                      exact ⟨rfl, B2.out⟩
                    · have d9 : decide (D < 1) = false := decide_eq_false k9
                      by_cases k10 : 16 < D
                      · have d10 : decide (16 < D) = true := decide_eq_true k10
                        clear k0 k1 k2 k3 k5 k6 k7 k8 k9 k10
                        go_wp2_with fail
                        go_ret
                        exact ⟨rfl, B2.out⟩
                      · have d10 : decide (16 < D) = false := decide_eq_false k10
                        by_cases k11 : n < 1
                        · have d11 : decide (n < 1) = true := decide_eq_true k11
                          have e11 : decide ((n : Int) < 1) = true := decide_eq_true (by omega)
                          clear k0 k1 k2 k3 k5 k6 k7 k8 k9 k10 k11
                          go_wp2_with fail
                          go_ret
                          exact ⟨rfl, B2.out⟩
                        · have d11 : decide (n < 1) = false := decide_eq_false k11
                          have e11 : decide ((n : Int) < 1) = false := decide_eq_false (by omega)
                          by_cases k12 : 32 < n
                          · have d12 : decide (32 < n) = true := decide_eq_true k12
                            have e12 : decide (32 < (n : Int)) = true := decide_eq_true (by omega)
                            clear k0 k1 k2 k3 k5 k6 k7 k8 k9 k10 k11 k12
                            go_wp2_with fail
                            go_ret
                            exact ⟨rfl, B2.out⟩
                          · have d12 : decide (32 < n) = false := decide_eq_false k12
                            have e12 : decide (32 < (n : Int)) = false := decide_eq_false (by omega)
                            exfalso
                            have hq := HQ.out
                            rw [HP.out, Bool.eq_false_iff] at hq
                            apply hq
                            simp only [Bool.and_eq_true, decide_eq_true_eq, true_and]
                            omega

set_option maxHeartbeats 8000000 in
set_option maxRecDepth 100000 in
theorem r15right_go (A : Option Addr) (c b o k n : Nat) (m x F O W Q D : Int) (ps : List Pd) (w : World) (h : Dg w A c (digs m.natAbs)) (hl : (digs m.natAbs).length ≤ 10000) (r1 : Rt m x) (hb : b < w.heap.size) (hps : PsW w b o ps) (hsm : SmP ps) (hn : ps.length = n) (h0 : 1 ≤ F ∧ F ≤ 10) (h1 : 0 ≤ O ∧ O ≤ 64) (h2 : plainB (decide (m < 0)) (digs m.natAbs) x = true) (h3 : -30 ≤ W ∧ W ≤ 10) (h4 : 4 ≤ Q ∧ Q ≤ 48) (h5 : 1 ≤ D ∧ D ≤ 16) (h6 : 1 ≤ n ∧ n ≤ 32) {q : Bool} (hq : (rightL D ps (m, x) == some (endq m x W)) = q) :
    Calls Tryz.prog 18 #[.agg #[.int .i64 F, .int .i64 O, .bool (decide (m < 0)), .slice A (digs m.natAbs).length c, .int .i64 x, .int .i64 W, .int .i64 Q, .int .i64 D, .slice (some ⟨b, o, none⟩) n k]] w fun e w' => e = .returned (.bool q) ∧ Below w.heap.size w w' := by
  have lx := Lib.hid hl
  have HR1 := Lib.hid r1
  have HBB := Lib.hid hb
  have HPS := Lib.hid hps
  have HSM := Lib.hid hsm
  have HN := Lib.hid hn
  have HQ := Lib.hid hq
  have HW := Lib.hid h3
  have HN6 := Lib.hid h6
  have HD := Lib.hid h5
  have HPL := Lib.hid h2
  have d0 : decide (F < 1) = false := decide_eq_false (by omega)
  have d1 : decide (10 < F) = false := decide_eq_false (by omega)
  have d2 : decide (O < 0) = false := decide_eq_false (by omega)
  have d3 : decide (64 < O) = false := decide_eq_false (by omega)
  have d5 : decide (W < -30) = false := decide_eq_false (by omega)
  have d6 : decide (10 < W) = false := decide_eq_false (by omega)
  have d7 : decide (Q < 4) = false := decide_eq_false (by omega)
  have d8 : decide (48 < Q) = false := decide_eq_false (by omega)
  have d9 : decide (D < 1) = false := decide_eq_false (by omega)
  have d10 : decide (16 < D) = false := decide_eq_false (by omega)
  have d11 : decide (n < 1) = false := decide_eq_false (by omega)
  have e11 : decide ((n : Int) < 1) = false := decide_eq_false (by omega)
  have d12 : decide (32 < n) = false := decide_eq_false (by omega)
  have e12 : decide (32 < (n : Int)) = false := decide_eq_false (by omega)
  have L0 := Lib.hid ((live_start w).add h)
  clear h hl r1 hb hps hsm hq h0 h1 h2 h3 h4 h5 h6 hn
  go_enter Tryz.func18, Tryz.ntmps18
  go_upto_region 1 with fail
  obtain ⟨v1, hW, hb, Rt_1⟩ := new1 w (.cells #[.int .i64 F, .int .i64 O, .bool (decide (m < 0)), .slice A (digs m.natAbs).length c, .int .i64 x, .int .i64 W, .int .i64 Q, .int .i64 D, .slice (some ⟨b, o, none⟩) n k] 29)
  rw [← hW]
  have L1 := ls L0 hb
  clear hW hb
  have ft0 := row_c (i := 0) Rt_1.out rfl
  have zt0 := frozen_of_row _ _ 0 _ _ Rt_1.out
  have ft1 := row_c (i := 1) Rt_1.out rfl
  have zt1 := frozen_of_row _ _ 1 _ _ Rt_1.out
  have ft2 := row_c (i := 2) Rt_1.out rfl
  have zt2 := frozen_of_row _ _ 2 _ _ Rt_1.out
  have ft3 := row_c (i := 3) Rt_1.out rfl
  have zt3 := frozen_of_row _ _ 3 _ _ Rt_1.out
  have ft4 := row_c (i := 4) Rt_1.out rfl
  have zt4 := frozen_of_row _ _ 4 _ _ Rt_1.out
  have ft5 := row_c (i := 5) Rt_1.out rfl
  have zt5 := frozen_of_row _ _ 5 _ _ Rt_1.out
  have ft6 := row_c (i := 6) Rt_1.out rfl
  have zt6 := frozen_of_row _ _ 6 _ _ Rt_1.out
  have ft7 := row_c (i := 7) Rt_1.out rfl
  have zt7 := frozen_of_row _ _ 7 _ _ Rt_1.out
  have ft8 := row_c (i := 8) Rt_1.out rfl
  have zt8 := frozen_of_row _ _ 8 _ _ Rt_1.out
  have xt := heap_lt Rt_1.out
  go_wp2_with fail
  refine (r15plain_any (L1.out.get (A := A) (c := c) (xs := digs m.natAbs) (by simp)) lx.out HPL.out).mono ?_
  rintro e w4 ⟨rfl, hb⟩
  have L4 := ls L1 hb
  clear ft0 zt0 ft1 zt1 ft2 zt2 ft3 zt3 ft4 zt4 ft5 zt5 ft6 zt6 ft7 zt7 ft8 zt8 xt
  have Rt_4 := co Rt_1 hb
  clear hb
  have ft0 := row_c (i := 0) Rt_4.out rfl
  have zt0 := frozen_of_row _ _ 0 _ _ Rt_4.out
  have ft1 := row_c (i := 1) Rt_4.out rfl
  have zt1 := frozen_of_row _ _ 1 _ _ Rt_4.out
  have ft2 := row_c (i := 2) Rt_4.out rfl
  have zt2 := frozen_of_row _ _ 2 _ _ Rt_4.out
  have ft3 := row_c (i := 3) Rt_4.out rfl
  have zt3 := frozen_of_row _ _ 3 _ _ Rt_4.out
  have ft4 := row_c (i := 4) Rt_4.out rfl
  have zt4 := frozen_of_row _ _ 4 _ _ Rt_4.out
  have ft5 := row_c (i := 5) Rt_4.out rfl
  have zt5 := frozen_of_row _ _ 5 _ _ Rt_4.out
  have ft6 := row_c (i := 6) Rt_4.out rfl
  have zt6 := frozen_of_row _ _ 6 _ _ Rt_4.out
  have ft7 := row_c (i := 7) Rt_4.out rfl
  have zt7 := frozen_of_row _ _ 7 _ _ Rt_4.out
  have ft8 := row_c (i := 8) Rt_4.out rfl
  have zt8 := frozen_of_row _ _ 8 _ _ Rt_4.out
  have xt := heap_lt Rt_4.out
  go_wp2
  clear d0 d1 d2 d3 d5 d6 d7 d8 d9 d10 d11 d12 e11 e12
  obtain ⟨w9, hW, hb, Rnx_9⟩ := new1 w4 (.cells #[.bool (decide (m < 0)), .slice A (digs m.natAbs).length c, .int .i64 x] 26)
  rw [← hW]
  have L9 := ls L4 hb
  have Rt_9 := co Rt_4 hb
  have Gnx := gl0 L4.out
  have Ntnx := nl0 Rt_4.out
  clear hW hb ft0 zt0 ft1 zt1 ft2 zt2 ft3 zt3 ft4 zt4 ft5 zt5 ft6 zt6 ft7 zt7 ft8 zt8 xt
  go_loopw [4] (fun i wr => ∃ (j : Nat) (K E : Int) (A1 : Option Addr) (c1 : Nat), j ≤ n ∧ i = .int .i64 j ∧ Hid (rightL D (ps.take j) (m, x) = some (K, E)) ∧ Hid (Rt K E ∧ (digs K.natAbs).length ≤ 10000) ∧ Hid (Below w.heap.size w wr) ∧ Hid (wr.heap[w.heap.size]? = some (.cells #[.int .i64 F, .int .i64 O, .bool (decide (m < 0)), .slice A (digs m.natAbs).length c, .int .i64 x, .int .i64 W, .int .i64 Q, .int .i64 D, .slice (some ⟨b, o, none⟩) n k] 29 (0, 0))) ∧ Hid (wr.heap[w4.heap.size]? = some (.cells #[.bool (decide (K < 0)), .slice A1 (digs K.natAbs).length c1, .int .i64 E] 26 (0, 0))) ∧ Hid (Dg wr A1 c1 (digs K.natAbs))) (fun i _ => n - (intOf i).toNat)
  case atStart => exact ⟨0, m, x, A, c, Nat.zero_le _, rfl, Lib.hid rfl, Lib.hid ⟨HR1.out, lx.out⟩, Lib.hid L9.out.1, Rt_9, Rnx_9, Lib.hid (L9.out.get (A := A) (c := c) (xs := digs m.natAbs) (by simp))⟩
  case round =>
    obtain ⟨j, K, E, A1, c1, hj, rfl, HL, HK, HB, HRT, HRN, HD1⟩ := hrel
    have L0r := Lib.hid (((L0.out.step HB.out)).add HD1.out)
    have GTn : w.heap.size < wr.heap.size := heap_lt HRT.out
    by_cases hlt : j < n
    · obtain ⟨p, hp⟩ : ∃ p, ps[j]? = some p := ⟨_, List.getElem?_eq_getElem (by have := HN.out; omega)⟩
      obtain ⟨A2, c2, B2, d2, P2, k2, e0, e1, e2, e3, e4, e5, e6, e7, hda, hde, hns⟩ := HPS.out j p hp
      have HP := Lib.hid hp
      have SM := Lib.hid (HSM.out p (List.mem_of_getElem? hp))
      have HLT := Lib.hid hlt
      have g0 := (HB.out.cell (p := ⟨b, o + j * 8, none⟩) HBB.out).trans e0
      have g1 := (HB.out.cell (p := ⟨b, o + j * 8 + 1, none⟩) HBB.out).trans e1
      have g2 := (HB.out.cell (p := ⟨b, o + j * 8 + 2, none⟩) HBB.out).trans e2
      have g3 := (HB.out.cell (p := ⟨b, o + j * 8 + 3, none⟩) HBB.out).trans e3
      have g4 := (HB.out.cell (p := ⟨b, o + j * 8 + 4, none⟩) HBB.out).trans e4
      have g5 := (HB.out.cell (p := ⟨b, o + j * 8 + 5, none⟩) HBB.out).trans e5
      have g6 := (HB.out.cell (p := ⟨b, o + j * 8 + 6, none⟩) HBB.out).trans e6
      have g7 := (HB.out.cell (p := ⟨b, o + j * 8 + 7, none⟩) HBB.out).trans e7
      have LR := Lib.hid ((L0r.out.add (hda.below HB.out)).add (hde.below HB.out))
      have HNS := Lib.hid hns
      clear e0 e1 e2 e3 e4 e5 e6 e7 hda hde hns hp
      obtain ⟨pb, hpb⟩ : ∃ r, fitsB p = r := ⟨_, rfl⟩
      have HPB := Lib.hid hpb
      clear hpb
      have ft0 := row_c (i := 0) HRT.out rfl
      have zt0 := frozen_of_row _ _ 0 _ _ HRT.out
      have ft1 := row_c (i := 1) HRT.out rfl
      have zt1 := frozen_of_row _ _ 1 _ _ HRT.out
      have ft2 := row_c (i := 2) HRT.out rfl
      have zt2 := frozen_of_row _ _ 2 _ _ HRT.out
      have ft3 := row_c (i := 3) HRT.out rfl
      have zt3 := frozen_of_row _ _ 3 _ _ HRT.out
      have ft4 := row_c (i := 4) HRT.out rfl
      have zt4 := frozen_of_row _ _ 4 _ _ HRT.out
      have ft5 := row_c (i := 5) HRT.out rfl
      have zt5 := frozen_of_row _ _ 5 _ _ HRT.out
      have ft6 := row_c (i := 6) HRT.out rfl
      have zt6 := frozen_of_row _ _ 6 _ _ HRT.out
      have ft7 := row_c (i := 7) HRT.out rfl
      have zt7 := frozen_of_row _ _ 7 _ _ HRT.out
      have ft8 := row_c (i := 8) HRT.out rfl
      have zt8 := frozen_of_row _ _ 8 _ _ HRT.out
      have xt := heap_lt HRT.out
      go_upto_region 8 with fail
      obtain ⟨w10, hW, hb, Rp_10⟩ := new1 wr (.cells #[.bool p.a.1, .slice A2 p.a.2.1.length c2, .int .i64 p.a.2.2, .int .i64 p.w, .slice P2 p.cs.length k2, .bool p.er.1, .slice B2 p.er.2.1.length d2, .int .i64 p.er.2.2] 49)
      rw [← hW]
      have L10 := ls LR hb
      have Rt_10 := co HRT hb
      have Rnx_10 := co HRN hb
      have Gp := gl0 LR.out
      have Ntp := nl0 HRT.out
      have Nnxp := nl0 HRN.out
      clear hW hb
      clear ft0 zt0 ft1 zt1 ft2 zt2 ft3 zt3 ft4 zt4 ft5 zt5 ft6 zt6 ft7 zt7 ft8 zt8 xt
      clear g0 g1 g2 g3 g4 g5 g6 g7
      have fp0 := row_c (i := 0) Rp_10.out rfl
      have zp0 := frozen_of_row _ _ 0 _ _ Rp_10.out
      have fp1 := row_c (i := 1) Rp_10.out rfl
      have zp1 := frozen_of_row _ _ 1 _ _ Rp_10.out
      have fp2 := row_c (i := 2) Rp_10.out rfl
      have zp2 := frozen_of_row _ _ 2 _ _ Rp_10.out
      have fp3 := row_c (i := 3) Rp_10.out rfl
      have zp3 := frozen_of_row _ _ 3 _ _ Rp_10.out
      have fp4 := row_c (i := 4) Rp_10.out rfl
      have zp4 := frozen_of_row _ _ 4 _ _ Rp_10.out
      have fp5 := row_c (i := 5) Rp_10.out rfl
      have zp5 := frozen_of_row _ _ 5 _ _ Rp_10.out
      have fp6 := row_c (i := 6) Rp_10.out rfl
      have zp6 := frozen_of_row _ _ 6 _ _ Rp_10.out
      have fp7 := row_c (i := 7) Rp_10.out rfl
      have zp7 := frozen_of_row _ _ 7 _ _ Rp_10.out
      have xp := heap_lt Rp_10.out
      go_wp2_with fail
      refine (r15fits_any (p := p) (q := pb) (L10.out.get (A := A2) (c := c2) (xs := p.a.2.1) (by simp)) (L10.out.get (A := B2) (c := d2) (xs := p.er.2.1) (by simp)) SM.out.1 SM.out.2.1 (HNS.out.below L10.out.1) SM.out.2.2 HPB.out).mono ?_
      rintro e w11 ⟨rfl, hb⟩
      have L11 := ls L10 hb
      clear fp0 zp0 fp1 zp1 fp2 zp2 fp3 zp3 fp4 zp4 fp5 zp5 fp6 zp6 fp7 zp7 xp
      have Rt_11 := co Rt_10 hb
      have Rnx_11 := co Rnx_10 hb
      have Rp_11 := co Rp_10 hb
      clear hb
      have PO := Lib.hid (piece_of (p := p) HD.out.1 HD.out.2)
      cases pb
      · have HQF := Lib.hid (show q = false by rw [← HQ.out, right_none HP.out HL.out (by rw [PO.out, HPB.out]; rfl)]; rfl)
        go_wp2
        try rw [Exit.noGoto_ret]
        go_ret
        exact ⟨by rw [HQF.out]; rfl, L11.out.1⟩
      · obtain ⟨n2, hn2⟩ : ∃ t, p.cs.length = t := ⟨_, rfl⟩
        obtain ⟨D1, hD1⟩ : ∃ t, D + 1 = t := ⟨_, rfl⟩
        rw [hn2] at Rp_11 ⊢
        have hwD : wrap64 (D + 1) = D1 := by have := HD.out; rw [← hD1]; exact IntWalk.wrap64_in _ ⟨by omega, by omega⟩
        have hiD : IntKind.i64.wrap (D + 1) = D1 := by have := HD.out; rw [← hD1]; exact IntWalk.i64_in _ (by omega)
        have HN2 := Lib.hid hn2
        have HDD := Lib.hid hD1
        clear hn2 hD1
        have ft0 := row_c (i := 0) Rt_11.out rfl
        have zt0 := frozen_of_row _ _ 0 _ _ Rt_11.out
        have ft1 := row_c (i := 1) Rt_11.out rfl
        have zt1 := frozen_of_row _ _ 1 _ _ Rt_11.out
        have ft2 := row_c (i := 2) Rt_11.out rfl
        have zt2 := frozen_of_row _ _ 2 _ _ Rt_11.out
        have ft3 := row_c (i := 3) Rt_11.out rfl
        have zt3 := frozen_of_row _ _ 3 _ _ Rt_11.out
        have ft4 := row_c (i := 4) Rt_11.out rfl
        have zt4 := frozen_of_row _ _ 4 _ _ Rt_11.out
        have ft5 := row_c (i := 5) Rt_11.out rfl
        have zt5 := frozen_of_row _ _ 5 _ _ Rt_11.out
        have ft6 := row_c (i := 6) Rt_11.out rfl
        have zt6 := frozen_of_row _ _ 6 _ _ Rt_11.out
        have ft7 := row_c (i := 7) Rt_11.out rfl
        have zt7 := frozen_of_row _ _ 7 _ _ Rt_11.out
        have ft8 := row_c (i := 8) Rt_11.out rfl
        have zt8 := frozen_of_row _ _ 8 _ _ Rt_11.out
        have xt := heap_lt Rt_11.out
        obtain ⟨fnx0, znx0, fnx1, znx1, fnx2, znx2, xnx⟩ := ly3 Rnx_11.out
        have fp0 := row_c (i := 0) Rp_11.out rfl
        have zp0 := frozen_of_row _ _ 0 _ _ Rp_11.out
        have fp1 := row_c (i := 1) Rp_11.out rfl
        have zp1 := frozen_of_row _ _ 1 _ _ Rp_11.out
        have fp2 := row_c (i := 2) Rp_11.out rfl
        have zp2 := frozen_of_row _ _ 2 _ _ Rp_11.out
        have fp3 := row_c (i := 3) Rp_11.out rfl
        have zp3 := frozen_of_row _ _ 3 _ _ Rp_11.out
        have fp4 := row_c (i := 4) Rp_11.out rfl
        have zp4 := frozen_of_row _ _ 4 _ _ Rp_11.out
        have fp5 := row_c (i := 5) Rp_11.out rfl
        have zp5 := frozen_of_row _ _ 5 _ _ Rp_11.out
        have fp6 := row_c (i := 6) Rp_11.out rfl
        have zp6 := frozen_of_row _ _ 6 _ _ Rp_11.out
        have fp7 := row_c (i := 7) Rp_11.out rfl
        have zp7 := frozen_of_row _ _ 7 _ _ Rp_11.out
        have xp := heap_lt Rp_11.out
        obtain ⟨pw, hpw⟩ : ∃ t, p.w = t := ⟨_, rfl⟩
        have HPW := Lib.hid hpw
        rw [hpw] at fp3 Rp_11 ⊢
        clear hpw
        by_cases k1 : pw < -30
        · have d1 : decide (pw < -30) = true := decide_eq_true k1
          have HQF := Lib.hid (show q = false by rw [← HQ.out, right_none HP.out HL.out (by rw [PO.out, HPW.out, decide_eq_false (show ¬ -30 ≤ pw by omega)]; simp)]; rfl)
          clear k1
          go_wp2
          try rw [Exit.noGoto_ret]
          go_ret
          exact ⟨by rw [HQF.out]; rfl, L11.out.1⟩
        · have d1 : decide (pw < -30) = false := decide_eq_false k1
          by_cases k2 : 10 < pw
          · have d2 : decide (10 < pw) = true := decide_eq_true k2
            have HQF := Lib.hid (show q = false by rw [← HQ.out, right_none HP.out HL.out (by rw [PO.out, HPW.out, decide_eq_false (show ¬ pw ≤ 10 by omega)]; simp)]; rfl)
            clear k1 k2
            go_wp2
            try rw [Exit.noGoto_ret]
            go_ret
            exact ⟨by rw [HQF.out]; rfl, L11.out.1⟩
          · have d2 : decide (10 < pw) = false := decide_eq_false k2
            by_cases k3 : (n2 : Int) = D1
            · have HWB := Lib.hid (show -30 ≤ pw ∧ pw ≤ 10 by omega)
              have HK3 := Lib.hid (show pieceB p D = true by rw [PO.out, HPB.out, HPW.out, HN2.out, HDD.out, k3, decide_eq_true (show -30 ≤ pw by omega), decide_eq_true (show pw ≤ 10 by omega)]; simp)
              have d3 : ((n2 : Int) != D1) = false := by simp [k3]
              clear k1 k2 k3
              have hnb : nmB p.a = true := by have := HK3.out; unfold pieceB at this; simp only [Bool.and_eq_true] at this; exact this.2.2.1.1
              unfold nmB mayB at hnb
              rw [Bool.and_eq_true] at hnb
              obtain ⟨m2, hm2, hs2, rr2⟩ := num_of ((L11.out.get (A := A2) (c := c2) (xs := p.a.2.1) (by simp))).2.1 hnb.1
              have hnv : nmv p.a = m2 := by unfold nmv; rw [← hm2, ← hs2, val_digs]; exact sg_dzM m2
              obtain ⟨qs, hqs⟩ : ∃ t, decide (m2 = K ∧ p.a.2.2 = E) = t := ⟨_, rfl⟩
              have HC := Lib.hid (fun (V : World) (ha : Dg V A2 c2 p.a.2.1) (hb : Dg V A1 c1 (digs K.natAbs)) => (by rw [← hm2] at ha; have := dSame_q ha hb (by rw [hm2]; exact SM.out.1) hqs; rw [hm2, hs2] at this; exact this : Calls Tryz.prog 34 #[.agg #[.bool p.a.1, .slice A2 p.a.2.1.length c2, .int .i64 p.a.2.2], .agg #[.bool (decide (K < 0)), .slice A1 (digs K.natAbs).length c1, .int .i64 E]] V fun e w' => e = .returned (.bool qs) ∧ Below V.heap.size V w'))
              obtain ⟨⟨K2, F2⟩, hkf⟩ : ∃ t, endq m2 p.a.2.2 pw = t := ⟨_, rfl⟩
              have HE := Lib.hid (fun (V : World) (ha : Dg V A2 c2 p.a.2.1) => (by rw [← hm2] at ha; have := r15end_q ha (by rw [hm2]; exact SM.out.1) rr2 HWB.out.1 HWB.out.2 hkf; rw [hm2, hs2] at this; exact this : Calls Tryz.prog 35 #[.agg #[.bool p.a.1, .slice A2 p.a.2.1.length c2, .int .i64 p.a.2.2], .int .i64 pw] V fun e w' => Yr K2 F2 V e w'))
              have RK2 := Lib.hid (endq_rt m2 p.a.2.2 pw)
              rw [hkf] at RK2
              go_wp2_with fail
              refine (HC.out _ (L11.out.get (A := A2) (c := c2) (xs := p.a.2.1) (by simp)) (L11.out.get (A := A1) (c := c1) (xs := digs K.natAbs) (by simp))).mono ?_
              rintro e w12 ⟨rfl, hb⟩
              have L12 := ls L11 hb
              clear fnx0 znx0 fnx1 znx1 fnx2 znx2 xnx ft0 zt0 ft1 zt1 ft2 zt2 ft3 zt3 ft4 zt4 ft5 zt5 ft6 zt6 ft7 zt7 ft8 zt8 xt fp0 zp0 fp1 zp1 fp2 zp2 fp3 zp3 fp4 zp4 fp5 zp5 fp6 zp6 fp7 zp7 xp
              have Rt_12 := co Rt_11 hb
              have Rnx_12 := co Rnx_11 hb
              have Rp_12 := co Rp_11 hb
              clear hb
              cases qs
              · have HQF := Lib.hid (show q = false by rw [← HQ.out, right_none (r := (K, E)) HP.out HL.out (by rw [HK3.out, hnv]; dsimp only; rw [hqs]; rfl)]; rfl)
                clear hnb hm2 hs2 rr2 hnv hqs hkf
                go_wp2
                try rw [Exit.noGoto_ret]
                go_ret
                exact ⟨by rw [HQF.out]; rfl, L12.out.1⟩
              · have HRS := Lib.hid (right_some (r := (K, E)) HP.out HL.out (by rw [HK3.out, hnv]; dsimp only; rw [hqs]; rfl))
                rw [decide_eq_true_eq] at hqs
                rw [← hqs.1, ← hqs.2, HPW.out, hkf] at HRS
                clear hnb hm2 hs2 rr2 hnv hqs hkf
                have fp0 := row_c (i := 0) Rp_12.out rfl
                have zp0 := frozen_of_row _ _ 0 _ _ Rp_12.out
                have fp1 := row_c (i := 1) Rp_12.out rfl
                have zp1 := frozen_of_row _ _ 1 _ _ Rp_12.out
                have fp2 := row_c (i := 2) Rp_12.out rfl
                have zp2 := frozen_of_row _ _ 2 _ _ Rp_12.out
                have fp3 := row_c (i := 3) Rp_12.out rfl
                have zp3 := frozen_of_row _ _ 3 _ _ Rp_12.out
                have fp4 := row_c (i := 4) Rp_12.out rfl
                have zp4 := frozen_of_row _ _ 4 _ _ Rp_12.out
                have fp5 := row_c (i := 5) Rp_12.out rfl
                have zp5 := frozen_of_row _ _ 5 _ _ Rp_12.out
                have fp6 := row_c (i := 6) Rp_12.out rfl
                have zp6 := frozen_of_row _ _ 6 _ _ Rp_12.out
                have fp7 := row_c (i := 7) Rp_12.out rfl
                have zp7 := frozen_of_row _ _ 7 _ _ Rp_12.out
                have xp := heap_lt Rp_12.out
                obtain ⟨fnx0, znx0, fnx1, znx1, fnx2, znx2, xnx⟩ := ly3 Rnx_12.out
                go_wp2_with fail
                refine (HE.out _ (L12.out.get (A := A2) (c := c2) (xs := p.a.2.1) (by simp))).mono ?_
                rintro e w13 ⟨A13, c13, rfl, hd, hb⟩
                have L13 := la L12 hb hd
                clear fp0 zp0 fp1 zp1 fp2 zp2 fp3 zp3 fp4 zp4 fp5 zp5 fp6 zp6 fp7 zp7 xp fnx0 znx0 fnx1 znx1 fnx2 znx2 xnx
                have Rt_13 := co Rt_12 hb
                have Rnx_13 := co Rnx_12 hb
                have Rp_13 := co Rp_12 hb
                clear hb hd
                obtain ⟨fnx0, znx0, fnx1, znx1, fnx2, znx2, xnx⟩ := ly3 Rnx_13.out
                go_wp2
                obtain ⟨w14, hW⟩ : ∃ W : World, W = (((w13.setCell ⟨w4.heap.size, 0, none⟩ (.bool (decide (K2 < 0)))).setCell ⟨w4.heap.size, 1, none⟩ (.slice A13 (digs K2.natAbs).length c13)).setCell ⟨w4.heap.size, 2, none⟩ (.int .i64 F2)) := ⟨_, rfl⟩
                rw [← hW]
                have hO : Only (w4.heap.size) w13 w14 := by rw [hW]; exact ((((Only.refl (w4.heap.size) w13).setCell 0 _).setCell 1 _).setCell 2 _)
                have L14 := Lib.hid (live_only L13.out hO Rnx_13.out noint_dy Gnx)
                have Rt_14 := Lib.hid ((hO.block _ (by omega)).trans Rt_13.out)
                have Rnx_14 := Lib.hid (show w14.heap[w4.heap.size]? = some (.cells #[.bool (decide (K2 < 0)), .slice A13 (digs K2.natAbs).length c13, .int .i64 F2] 26 (0, 0)) by rw [hW]; exact (heap_setCell_same _ _ 2 _ _ _ (heap_setCell_same _ _ 1 _ _ _ (heap_setCell_same _ _ 0 _ _ _ Rnx_13.out))))
                clear hW hO
                clear fnx0 znx0 fnx1 znx1 fnx2 znx2 xnx hwD hiD d1 d2 d3
                go_roundw
                case rel =>
                  have hlen := HN6.out
                  have hlt := HLT.out
                  have hw : wrap64 ((j : Int) + 1) = (j : Int) + 1 := IntWalk.wrap64_in _ ⟨by omega, by omega⟩
                  first
                    | exact ⟨j + 1, K2, F2, A13, c13, HLT.out, by rw [hw]; exact congrArg _ (by omega), HRS, RK2, Lib.hid L14.out.1, Rt_14, Rnx_14, Lib.hid (L14.out.get (A := A13) (c := c13) (xs := digs K2.natAbs) (by simp))⟩
                    | (refine ⟨_, _, _, _, _, _, _, _, _, _, _, _, _, _, _, _, _, _, _, _, _, _, _, _, _, _, _, _, _, _, _, _, _, _, _, _, _, _, _, _, _, _, _, _, _, _, _, _, _, _, ⟨j + 1, K2, F2, A13, c13, HLT.out, ?_, HRS, RK2, Lib.hid L14.out.1, Rt_14, Rnx_14, Lib.hid (L14.out.get (A := A13) (c := c13) (xs := digs K2.natAbs) (by simp))⟩, rfl⟩; rw [hw]; exact congrArg _ (by omega))
                case measure =>
                  have hlen := HN6.out
                  have hlt := HLT.out
                  have hw : wrap64 ((j : Int) + 1) = (j : Int) + 1 := IntWalk.wrap64_in _ ⟨by omega, by omega⟩
                  rw [hw]
                  simp [intOf]; omega
            · have d3 : ((n2 : Int) != D1) = true := by simpa using k3
              have HQF := Lib.hid (show q = false by rw [← HQ.out, right_none HP.out HL.out (by rw [PO.out, HN2.out, HDD.out, decide_eq_false k3]; simp)]; rfl)
              clear k1 k2 k3
              go_wp2
              try rw [Exit.noGoto_ret]
              go_ret
              exact ⟨by rw [HQF.out]; rfl, L11.out.1⟩
    · obtain rfl : j = n := by omega
      have hl2 := HL.out
      rw [← HN.out, List.take_length] at hl2
      obtain ⟨⟨Z1, Z2⟩, hzz⟩ : ∃ t, endq m x W = t := ⟨_, rfl⟩
      have RZ := endq_rt m x W
      rw [hzz] at RZ
      dsimp only at RZ
      have hqz : decide (K = Z1 ∧ E = Z2) = q := by
        rw [← HQ.out, hl2, hzz, Bool.eq_iff_iff]
        simp only [beq_iff_eq, Option.some.injEq, Prod.mk.injEq, decide_eq_true_eq]
      have HZ := Lib.hid hzz
      have HQZ := Lib.hid hqz
      have LK := Lib.hid HK.out.2
      clear hl2 hzz RZ hqz
      have ft0 := row_c (i := 0) HRT.out rfl
      have zt0 := frozen_of_row _ _ 0 _ _ HRT.out
      have ft1 := row_c (i := 1) HRT.out rfl
      have zt1 := frozen_of_row _ _ 1 _ _ HRT.out
      have ft2 := row_c (i := 2) HRT.out rfl
      have zt2 := frozen_of_row _ _ 2 _ _ HRT.out
      have ft3 := row_c (i := 3) HRT.out rfl
      have zt3 := frozen_of_row _ _ 3 _ _ HRT.out
      have ft4 := row_c (i := 4) HRT.out rfl
      have zt4 := frozen_of_row _ _ 4 _ _ HRT.out
      have ft5 := row_c (i := 5) HRT.out rfl
      have zt5 := frozen_of_row _ _ 5 _ _ HRT.out
      have ft6 := row_c (i := 6) HRT.out rfl
      have zt6 := frozen_of_row _ _ 6 _ _ HRT.out
      have ft7 := row_c (i := 7) HRT.out rfl
      have zt7 := frozen_of_row _ _ 7 _ _ HRT.out
      have ft8 := row_c (i := 8) HRT.out rfl
      have zt8 := frozen_of_row _ _ 8 _ _ HRT.out
      have xt := heap_lt HRT.out
      obtain ⟨fnx0, znx0, fnx1, znx1, fnx2, znx2, xnx⟩ := ly3 HRN.out
      go_upto_region 11 with fail
      have KD := Lib.hid (bd0 wr)
      have LD := ls L0r KD.out
      go_region_held3 (fun w' => ∀ b o, b < wr.heap.size → w'.cell? ⟨b, o, none⟩ = wr.cell? ⟨b, o, none⟩)
        (first | with_reducible exact (bcell KD.out).1 | with_reducible exact (bcell K14.out).1 | with_reducible exact (bcell K15.out).1)
        (first
          | (go_at_call 35; (with_reducible refine (r15end_q (K := Z1) (F := Z2) (LD.out.get (A := A) (c := c) (xs := digs m.natAbs) (by simp)) lx.out HR1.out HW.out.1 HW.out.2 HZ.out).mono ?_); rintro e w14 ⟨A14, c14, rfl, hd, hb⟩; (have K14 := bt KD hb); (have L14 := la LD hb hd); clear hb hd)
          | (go_at_call 34; (with_reducible refine (dSame_q (L14.out.get (A := A1) (c := c1) (xs := digs K.natAbs) (by simp)) (L14.out.get (A := A14) (c := c14) (xs := digs Z1.natAbs) (by simp)) LK.out HQZ.out).mono ?_); rintro e w15 ⟨rfl, hb⟩; (have K15 := bt K14 hb); (have L15 := Lib.hid (L14.out.step hb)); clear hb ))
      rename_i hHeld
      clear hHeld
      clear fnx0 znx0 fnx1 znx1 fnx2 znx2 xnx ft0 zt0 ft1 zt1 ft2 zt2 ft3 zt3 ft4 zt4 ft5 zt5 ft6 zt6 ft7 zt7 ft8 zt8 xt
      clear KD LD
      go_wp2
      go_ret
      exact ⟨rfl, L15.out.1⟩

theorem r15right_any {A P : Option Addr} {c k : Nat} {F O W Q D : Int} {a : Nm} {ps : List Pd} {q : Bool} {w : World} (h : Dg w A c a.2.1) (hl : a.2.1.length ≤ 10000) (hps : PsL w P ps) (hsm : SmP ps) (hq : rightT F O a W Q D ps = q) :
    Calls Tryz.prog 18 #[.agg #[.int .i64 F, .int .i64 O, .bool a.1, .slice A a.2.1.length c, .int .i64 a.2.2, .int .i64 W, .int .i64 Q, .int .i64 D, .slice P ps.length k]] w fun e w' => e = .returned (.bool q) ∧ Below w.heap.size w w' := by
  obtain ⟨s, xs, x⟩ := a
  dsimp only at *
  cases hh : ((decide (1 ≤ F) && decide (F ≤ 10)) && ((decide (0 ≤ O) && decide (O ≤ 64)) && (plainB s xs x && ((decide (-30 ≤ W) && decide (W ≤ 10)) && ((decide (4 ≤ Q) && decide (Q ≤ 48)) && ((decide (1 ≤ D) && decide (D ≤ 16)) && (decide (1 ≤ ps.length) && decide (ps.length ≤ 32))))))))
  · obtain rfl : q = false := by
      rw [← hq, Bool.eq_false_iff]; intro e
      have h2 := right_parts e
      rw [Bool.eq_false_iff] at hh
      apply hh
      simp only [Bool.and_eq_true, decide_eq_true_eq]
      exact ⟨h2.1, h2.2.1, h2.2.2.1, h2.2.2.2.1, h2.2.2.2.2.1, h2.2.2.2.2.2.1, h2.2.2.2.2.2.2.1⟩
    exact r15right_no A P c _ k F O W Q D s xs x w h hl hh
  · have hh0 := hh
    simp only [Bool.and_eq_true, decide_eq_true_eq] at hh
    obtain ⟨h0, h1, h2, h3, h4, h5, h6⟩ := hh
    have hr : dyR s xs x = true := by have := h2; unfold plainB at this; rw [Bool.and_eq_true] at this; exact this.1
    obtain ⟨m, rfl, rfl, r1⟩ := num_of h.2.1 hr
    obtain ⟨b, o, rfl, hb, hp⟩ := hps (by omega)
    have hv : nmv (decide (m < 0), digs m.natAbs, x) = m := by unfold nmv; rw [val_digs]; exact sg_dzM m
    refine r15right_go A c b o k _ m x F O W Q D ps w h hl r1 hb hp hsm rfl h0 h1 h2 h3 h4 h5 h6 ?_
    rw [← hq]
    unfold rightT
    rw [hv]
    have e7 : (decide (1 ≤ (ps.length : Int)) && decide ((ps.length : Int) ≤ 32)) = true := by simp; omega
    simp [h0, h1, h2, h3, h4, h5, e7]
end Go.Proofs.YtdmfapgclppmhaaGreatDoor
end

