import Derived.Test.YtcciibejachjkaaDoorMB0
import Derived.Deep.DeepCutAuto
import Derived.WalkMore
import Derived.Deep.LoopGhost
import Derived.Laws.CopyOwn
import Derived.Laws.OwnMore
import Derived.Deep.AppendLies
section
/-
  The reference's own text (astrolaberef01): Sub, Mul.
-/
namespace Go.Proofs.YtcciibejachjkaaDoor
open Go.RowKit
theorem rsub_step {xs ys zs : List Nat} {k s d c t : Nat} (hz : zs.length = k) (h : val (xs.take k) + 4294967296 ^ k * c = val zs + val (ys.take k))
    (hs : s + ys[k]?.getD 0 + c = xs[k]?.getD 0 + 4294967296 * d) (ht : t = s) : val (xs.take (k + 1)) + 4294967296 ^ (k + 1) * d = val (zs ++ [t]) + val (ys.take (k + 1)) := by
  subst ht
  rw [val_take_step, val_take_step, val_snoc, hz, Nat.pow_succ]
  have : 4294967296 ^ k * (xs[k]?.getD 0) + 4294967296 ^ k * 4294967296 * d = 4294967296 ^ k * t + 4294967296 ^ k * (ys[k]?.getD 0) + 4294967296 ^ k * c := by
    rw [Nat.mul_assoc, ← Nat.mul_add, ← hs, Nat.mul_add, Nat.mul_add]
  omega
theorem rsub_end {xs ys zs : List Nat} {d : Nat} (o1 : ok32 xs) (o2 : ok32 ys) (o3 : ok32 zs) (hz : zs.length = xs.length) (hle : val ys ≤ val xs) (h : val (xs.take xs.length) + 4294967296 ^ xs.length * d = val zs + val (ys.take xs.length)) : val zs = val xs - val ys := by
  have hy : val (ys.take xs.length) = val ys := by
    rw [val_take_mod o2, Nat.mod_eq_of_lt (Nat.lt_of_le_of_lt hle (val_lt o1))]
  rw [List.take_of_length_le (Nat.le_refl _), hy] at h
  exact sub_end h (by rw [← hz]; exact val_lt o3) hle
end Go.Proofs.YtcciibejachjkaaDoor
end

section
/-
  The reference's own text (astrolaberef01): Mul.
-/
namespace Go.Proofs.YtcciibejachjkaaDoor
open Go.RowKit
theorem Row.new_zeros (w : World) (n : Nat) : Row (w.alloc (.cells (madeCells #[.int .u32 0] n) 51)) w.heap.size (List.replicate n 0) := Row.made w n
end Go.Proofs.YtcciibejachjkaaDoor
end

section
/-
  The reference's own text (astrolaberef01): Shl, Shr.
-/
namespace Go.Proofs.YtcciibejachjkaaDoor
open Go.RowKit
theorem rshl_or (x c p : Nat) (hx : x < 4294967296) (hc : c < 2 ^ p) (hp : p < 32) :
    bits BinOp.or IntKind.u64 (IntKind.u64.wrap ((x : Int) * 2 ^ p)) (c : Int) = ((x * 2 ^ p + c : Nat) : Int) ∧ x * 2 ^ p + c < 18446744073709551616 := by
  have hpl : 2 ^ p < 4294967296 := Nat.pow_lt_pow_right (by omega) (by omega : p < 32)
  have hm : x * 2 ^ p ≤ 4294967295 * 4294967295 := Nat.mul_le_mul (by omega) (by omega)
  have e : IntKind.u64.wrap ((x : Int) * 2 ^ p) = ((x * 2 ^ p : Nat) : Int) := by
    have e1 : (x : Int) * 2 ^ p = ((x * 2 ^ p : Nat) : Int) := by rw [Int.natCast_mul, Int.natCast_pow]; rfl
    have e2 : ∀ m : Int, IntKind.u64.wrap m = m % 18446744073709551616 := fun m => by simp [IntKind.wrap, IntKind.bits, IntKind.signed]
    rw [e1, e2]; omega
  refine ⟨?_, by omega⟩
  rw [e, u64_or_nat _ _ (by omega) (by omega), nat_join p _ _ (Nat.mul_mod_left _ _) hc]
theorem rshl_step {zs xs : List Nat} {k W p c t d : Nat} (hz : zs.length = W + k) (h : val zs + 4294967296 ^ (W + k) * c = 4294967296 ^ W * (val (xs.take k) * 2 ^ p))
    (hs : t + 4294967296 * d = (xs[k]?.getD 0) * 2 ^ p + c) : val (zs ++ [t]) + 4294967296 ^ (W + (k + 1)) * d = 4294967296 ^ W * (val (xs.take (k + 1)) * 2 ^ p) := by
  rw [← Nat.add_assoc, val_take_step, val_snoc, hz, Nat.pow_succ, Nat.add_mul, Nat.mul_add, ← h]
  have e1 : 4294967296 ^ W * (4294967296 ^ k * (xs[k]?.getD 0) * 2 ^ p) = 4294967296 ^ (W + k) * (xs[k]?.getD 0 * 2 ^ p) := by
    rw [Nat.pow_add, Nat.mul_assoc, Nat.mul_assoc]
  have e2 : 4294967296 ^ (W + k) * t + 4294967296 ^ (W + k) * 4294967296 * d = 4294967296 ^ (W + k) * (xs[k]?.getD 0 * 2 ^ p) + 4294967296 ^ (W + k) * c := by
    rw [Nat.mul_assoc, ← Nat.mul_add, hs, Nat.mul_add]
  rw [e1]
  omega
theorem own_zeros {w : World} {e : TypeId} (n : Nat) (hm : n ≤ maxLen) : (w.alloc (.cells (madeCells #[.int .u32 0] n) e)).ownsRow w.heap.size e 1 (.slice (some ⟨w.heap.size, 0, none⟩) n n) n (cells (List.replicate n 0)) := by
  refine ⟨by simp [cells], .inr ⟨w.heap.size, n, madeCells #[.int .u32 0] n, rfl, Nat.le_refl _, heap_alloc_new w _, Nat.le_refl _, hm, by simp [size_madeCells], ?_⟩⟩
  apply List.ext_getElem
  · simp [madeCells, cells]
  · intro i h1 h2
    simp [madeCells, cells, Nat.mod_one]
end Go.Proofs.YtcciibejachjkaaDoor
end

section
/-
  The reference's own text (astrolaberef01): Shr.
-/
namespace Go.Proofs.YtcciibejachjkaaDoor
open Go.RowKit
theorem rshr_step {zs ys : List Nat} {k p s : Nat} (hz : zs.length = k) (hk : k < ys.length) (hok : ok32 ys) (hp : p < 32) (h : val zs + 4294967296 ^ k * (val (ys.drop k) / 2 ^ p) = val ys / 2 ^ p)
    (hs : s = ys[k]?.getD 0 + 4294967296 * (ys[k + 1]?.getD 0)) : val (zs ++ [s / 2 ^ p % 4294967296]) + 4294967296 ^ (k + 1) * (val (ys.drop (k + 1)) / 2 ^ p) = val ys / 2 ^ p := by
  have hss := two_pow_split p (by omega)
  have hP : 0 < 2 ^ p := Nat.pow_pos (by omega)
  have e1 : s / 2 ^ p % 4294967296 = val (ys.drop k) / 2 ^ p % 4294967296 := by
    rw [hs, val_drop_cons hk, shr_math _ _ _ _ hss hP, shr_math _ _ _ _ hss hP, Nat.add_mul_mod_self_left, Nat.add_mul_mod_self_left]
    congr 2
    rw [← val_mod hok (k + 1), Nat.mod_mul_mod]
  have e2 : val (ys.drop k) / 2 ^ p / 4294967296 = val (ys.drop (k + 1)) / 2 ^ p := by
    rw [Nat.div_div_eq_div_mul, Nat.mul_comm, ← Nat.div_div_eq_div_mul, val_drop_cons hk]
    congr 1
    have := getD_lt hok k
    omega
  rw [val_snoc, hz, e1, ← e2, Nat.pow_succ, Nat.mul_assoc, Nat.add_assoc, ← Nat.mul_add, Nat.mod_add_div]
  exact h
end Go.Proofs.YtcciibejachjkaaDoor
end

section
/-
  The reference's calls (astrolaberef01) over what a law carries along.
-/
namespace Go.Proofs.YtcciibejachjkaaDoor
open Go.RowKit
section
variable {w0 w w' : World} {L : List (Option Addr × Nat × List Nat)} {A B : Option Addr} {c d n m : Nat} {xs ys : List Nat} {x y : Nat}
theorem Live.none_ (h : Live w0 w L) : Live w0 w ((none, 0, []) :: L) := h.add (Dg.nil_ _ _)
theorem small_g {q : Int} {p : Bool} (hL : Live w0 w L) (h1 : (A, c, xs) ∈ L) (hn : n = xs.length) (hx : val xs = x) (b1 : xs.length ≤ 1048576) (hq : (small? x : Int) = q) (hp : decide (x < 18446744073709551616) = p) :
    Calls Tryd.prog 23 #[.slice A n c] w fun e w' => e = .returned (.tuple #[.int .u64 q, .bool p]) ∧ Live w0 w' L := by
  subst hn hx hq hp
  exact (small_any A c xs w (hL.get h1) (by omega)).mono fun e w' ⟨he, k, hw⟩ => ⟨he, by rw [hw]; exact hL.drewN k⟩
theorem shl_l_no {i : Int} (hL : Live w0 w L) (_h1 : (A, c, xs) ∈ L) (hn : n = xs.length) (hi : i < 0 ∨ 100000 < i) :
    Calls Tryd.prog 52 #[.slice A n c, .int .i64 i] w fun e w' => e = .returned (.tuple #[.slice none 0 0, .bool false]) ∧ Live w0 w' L := by
  subst hn
  exact (shl_no A c xs i w hi).mono fun e w' ⟨he, hw⟩ => ⟨he, by rw [← hw]; exact hL⟩
theorem shr_l_neg {i : Int} (hL : Live w0 w L) (h1 : (A, c, xs) ∈ L) (hn : n = xs.length) (hx : val xs = x) (b1 : xs.length ≤ 1048576) (hi : i < 0) :
    Calls Tryd.prog 56 #[.slice A n c, .int .i64 i] w fun e w' => ∃ A' c', e = .returned (.slice A' (digs x).length c') ∧ Live w0 w' ((A', c', digs x) :: L) := by
  subst hn hx
  exact (shr_neg A c xs i w (hL.get h1) b1 hi).mono fun e w' ⟨A', c', he, hd, hb⟩ => ⟨A', c', he, (hL.step hb).add hd⟩
end
end Go.Proofs.YtcciibejachjkaaDoor
end

section
/-
  The law's short, same; astrolaberef04's Same, Make; zint.Right.
-/
namespace Go.Proofs.YtcciibejachjkaaDoor
open Go.RowKit
set_option maxHeartbeats 2000000 in
set_option maxRecDepth 100000 in
theorem Same_any (A B : Option Addr) (c d : Nat) (s : Bool) (xs : List Nat) (w : World) (h : Dg w A c xs) (h' : Dg w B d xs) (hl : xs.length ≤ 16777216) :
    Calls Tryd.prog 19 #[.agg #[.bool s, .slice A xs.length c], .agg #[.bool s, .slice B xs.length d]] w fun e w' => e = .returned (.bool true) ∧ Below w.heap.size w w' := by
  have hne : ((xs.length : Int) != (xs.length : Int)) = false := by simp
  have hns : (s != s) = false := by simp
  have H1 := Lib.hid (h.below (below2 w (.cells #[.bool s, .slice A xs.length c] 24) (.cells #[.bool s, .slice B xs.length d] 24)))
  have H2 := Lib.hid (h'.below (below2 w (.cells #[.bool s, .slice A xs.length c] 24) (.cells #[.bool s, .slice B xs.length d] 24)))
  clear h h'
  go_enter Tryd.func19, Tryd.ntmps19
  go_wp2
  go_loopw [5] (fun i wr => (∃ k : Nat, k ≤ xs.length ∧ i = .int .i64 k) ∧ ∃ m, wr = ((w.alloc (.cells #[.bool s, .slice A xs.length c] 24)).alloc (.cells #[.bool s, .slice B xs.length d] 24)).drewN m) (fun i _ => xs.length - (intOf i).toNat)
  case atStart => exact ⟨⟨0, Nat.zero_le _, rfl⟩, 0, rfl⟩
  case round =>
    obtain ⟨⟨k, hk, rfl⟩, m, rfl⟩ := hrel
    by_cases hlt : k < xs.length
    · obtain ⟨b, off, hA, hb, hcx⟩ := H1.out.2.2 (by omega)
      obtain ⟨b', off', hB, hb', hcy⟩ := H2.out.2.2 (by omega)
      have hx := hcx k hlt
      have hy := hcy k hlt
      generalize xs[k]?.getD 0 = x at *
      have t1 : ((x : Int) != (x : Int)) = false := by simp
      clear hcx hcy H1 H2
      subst hA hB
      go_wp2_with fail
      go_quiet (fail)
      go_wp2_with fail
      go_roundw
      case rel => exact ⟨⟨k + 1, hlt, by go_num⟩, _, rfl⟩
      case measure => simp [intOf]; omega
    · go_wp2
      go_ret
      exact ⟨rfl, below_drewN (below2 _ _ _) m⟩
end Go.Proofs.YtcciibejachjkaaDoor
end

section
/-
  zint.Right and the reference's; the sign of a number while it is reckoned.
-/
namespace Go.Proofs.YtcciibejachjkaaDoor
open Go.RowKit
/-- Is it right? -/
def rightB (s : Bool) (xs : List Nat) : Bool := if xs.length = 0 then !s else decide (xs[xs.length - 1]?.getD 0 ≠ 0)
set_option maxHeartbeats 1000000 in
set_option maxRecDepth 100000 in
theorem right_any (A : Option Addr) (c : Nat) (s : Bool) (xs : List Nat) (w : World) (h : Dg w A c xs) (q : Bool) (hq : rightB s xs = q) (hl : xs.length ≤ 9223372036854775807) :
    Calls Tryd.prog 13 #[.agg #[.bool s, .slice A xs.length c]] w fun e w' => e = .returned (.bool q) ∧ Below w.heap.size w w' := by
  by_cases h0 : xs.length = 0
  · have t0 : ((xs.length : Int) == 0) = true := by rw [h0]; rfl
    have hq2 : (!s) = q := by rw [← hq]; unfold rightB; rw [if_pos h0]
    clear h h0 hq
    go_enter Tryd.func13, Tryd.ntmps13
    go_wp2
    go_ret
    exact ⟨rfl, below1 _ _⟩
  · have t0 : ((xs.length : Int) == 0) = false := beq_eq_false_iff_ne.2 (by omega)
    obtain ⟨b, off, hA, hb, hc⟩ := h.2.2 (by omega)
    have hx := hc (xs.length - 1) (by omega)
    have hp : 0 < xs.length := by omega
    have hq' : decide (xs[xs.length - 1]?.getD 0 ≠ 0) = q := by rw [← hq]; unfold rightB; rw [if_neg h0]
    generalize xs[xs.length - 1]?.getD 0 = x at *
    have hxq : ((x : Int) != 0) = q := by
      rw [← hq', Bool.eq_iff_iff]; simp
    have HX := Lib.hid hxq
    clear h h0 hq hc hq' hxq
    subst hA
    go_enter Tryd.func13, Tryd.ntmps13
    go_wp2
    go_ret
    refine ⟨?_, below1 _ _⟩
    rw [← HX.out]
    rfl
end Go.Proofs.YtcciibejachjkaaDoor
end

section
/-
  zint.Sub, Mul.
-/
namespace Go.Proofs.YtcciibejachjkaaDoor
open Go.RowKit
theorem chain {W v w1 : World} (h0 : Below W.heap.size W v) (hb : Below v.heap.size v w1) : Below W.heap.size W w1 := h0.trans (hb.mono h0.size)
theorem bal1 {W v : World} (h : Below W.heap.size W v) (o : Obj) : Below W.heap.size W (v.alloc o) := h.alloc h.size _
theorem bal2 {W v : World} (h : Below W.heap.size W v) (o o' : Obj) : Below W.heap.size W ((v.alloc o).alloc o') := (h.alloc h.size _).alloc (by have := h.size; simp; omega) _
theorem Dg.set_at {w : World} {A : Option Addr} {c g i : Nat} {xs : List Nat} {v0 : Value} (h : Dg w A c xs) (h0 : w.cell? ⟨g, i, none⟩ = some v0) (hv : ∀ n : Int, v0 ≠ .int .u32 n) (v : Value) : Dg (w.setCell ⟨g, i, none⟩ v) A c xs :=
  ⟨h.1, h.2.1, fun h1 => by
    obtain ⟨b, off, e, hb, hc⟩ := h.2.2 h1
    refine ⟨b, off, e, by simpa using hb, fun j hj => ?_⟩
    by_cases he : (⟨g, i, none⟩ : Addr) = ⟨b, off + j, none⟩
    · have h2 := hc j hj
      rw [← he, h0] at h2
      exact absurd (Option.some.inj h2) (hv _)
    · rw [World.cell?_setCell_other _ _ _ _ (fun e => he e)]
      exact hc j hj⟩
theorem Dg.set2 {w : World} {A B : Option Addr} {c g n m : Nat} {b : Bool} {xs : List Nat} (h : Dg w A c xs) (h0 : w.cell? ⟨g, 0, none⟩ = some (.slice B n m)) (h1 : w.cell? ⟨g, 1, none⟩ = some (.bool b)) (v v' : Value) : Dg ((w.setCell ⟨g, 0, none⟩ v).setCell ⟨g, 1, none⟩ v') A c xs :=
  (h.set_at h0 (by intro n h; cases h) v).set_at (v0 := .bool b) (by rw [World.cell?_setCell_other _ _ _ _ (by simp)]; exact h1) (by intro n h; cases h) v'
theorem bset2 {W v : World} (h : Below W.heap.size W v) {g : Nat} (hg : W.heap.size ≤ g) (a b : Value) : Below W.heap.size W ((v.setCell ⟨g, 0, none⟩ a).setCell ⟨g, 1, none⟩ b) := (h.setCell (by simpa using hg) _).setCell (by simpa using hg) _
theorem bd0 (W : World) : Below W.heap.size W W.drew := below_drew (Below.refl _ _)
theorem bd1 (W : World) (o : Obj) : Below W.heap.size W (W.alloc o).drew := below_drew (bal1 (Below.refl _ _) _)
theorem bd2 (W : World) (o o' : Obj) : Below W.heap.size W ((W.alloc o).alloc o').drew := below_drew (bal2 (Below.refl _ _) _ _)
theorem carry4 {W w' : World} (hb : Below W.heap.size W w') {p1 p2 p3 p4 : Addr} {v1 v2 v3 v4 : Value} (h : W.cell? p1 = some v1 ∧ W.cell? p2 = some v2 ∧ W.cell? p3 = some v3 ∧ W.cell? p4 = some v4)
    (b1 : p1.block < W.heap.size) (b2 : p2.block < W.heap.size) (b3 : p3.block < W.heap.size) (b4 : p4.block < W.heap.size) : w'.cell? p1 = some v1 ∧ w'.cell? p2 = some v2 ∧ w'.cell? p3 = some v3 ∧ w'.cell? p4 = some v4 :=
  ⟨(hb.cell b1).trans h.1, (hb.cell b2).trans h.2.1, (hb.cell b3).trans h.2.2.1, (hb.cell b4).trans h.2.2.2⟩
theorem set4 {w : World} {p1 p2 p3 p4 q : Addr} {v1 v2 v3 v4 v : Value} (h : w.cell? p1 = some v1 ∧ w.cell? p2 = some v2 ∧ w.cell? p3 = some v3 ∧ w.cell? p4 = some v4)
    (b1 : p1.block ≠ q.block) (b2 : p2.block ≠ q.block) (b3 : p3.block ≠ q.block) (b4 : p4.block ≠ q.block) : (w.setCell q v).cell? p1 = some v1 ∧ (w.setCell q v).cell? p2 = some v2 ∧ (w.setCell q v).cell? p3 = some v3 ∧ (w.setCell q v).cell? p4 = some v4 :=
  ⟨(World.cell?_setCell_other _ _ _ _ (fun e => b1 (by rw [e]))).trans h.1, (World.cell?_setCell_other _ _ _ _ (fun e => b2 (by rw [e]))).trans h.2.1, (World.cell?_setCell_other _ _ _ _ (fun e => b3 (by rw [e]))).trans h.2.2.1, (World.cell?_setCell_other _ _ _ _ (fun e => b4 (by rw [e]))).trans h.2.2.2⟩
end Go.Proofs.YtcciibejachjkaaDoor
end

section
/-
  zint.Mul.
-/
namespace Go.Proofs.YtcciibejachjkaaDoor
open Go.RowKit
theorem heap_lt {w : World} {g : Nat} {o : Obj} (h : w.heap[g]? = some o) : g < w.heap.size := by
  rcases Nat.lt_or_ge g w.heap.size with h' | h'
  · exact h'
  · rw [Array.getElem?_eq_none h'] at h; cases h
/-- Digits do not lie in a block that held another thing, and still does. -/
theorem off_row {W w1 : World} {A : Option Addr} {c g : Nat} {xs : List Nat} {cs : Array Value} {t : TypeId} {fr : Nat × Nat} (hd : Dg w1 A c xs) (hb : Below W.heap.size W w1) (hg : W.heap[g]? = some (.cells cs t fr)) (hcs : ∀ (o : Nat) (n : Int), cs[o]? ≠ some (.int .u32 n)) : Off g A xs := by
  intro h0 o e
  obtain ⟨b, off, e', _, hc⟩ := hd.2.2 h0
  rw [e] at e'
  simp only [Option.some.injEq, Addr.mk.injEq, and_true] at e'
  obtain ⟨rfl, rfl⟩ := e'
  have h1 := hc 0 h0
  rw [hb.cell (p := ⟨g, o + 0, none⟩) (heap_lt hg), cell_of_row _ _ _ _ _ _ hg] at h1
  exact hcs _ _ h1
theorem row_cell {W w1 : World} {g : Nat} {cs : Array Value} {t : TypeId} {fr : Nat × Nat} (hg : W.heap[g]? = some (.cells cs t fr)) (hb : Below W.heap.size W w1) (o : Nat) : w1.cell? ⟨g, o, none⟩ = cs[o]? :=
  (hb.cell (p := ⟨g, o, none⟩) (heap_lt hg)).trans (cell_of_row _ _ _ _ _ _ hg)
theorem row_frozen {W w1 : World} {g : Nat} {cs : Array Value} {t : TypeId} (hg : W.heap[g]? = some (.cells cs t (0, 0))) (hb : Below W.heap.size W w1) (o : Nat) : w1.frozen? ⟨g, o, none⟩ = false :=
  (hb.frozen (p := ⟨g, o, none⟩) (heap_lt hg)).trans (frozen_of_row _ _ _ _ _ hg)
theorem sg_mulx (s r : Bool) (x y : Nat) : sg (s != r) (x * y) = sg s x * sg r y := by
  unfold sg; cases s <;> cases r <;> simp [Int.neg_mul, Int.mul_neg]
set_option maxHeartbeats 4000000 in
set_option maxRecDepth 100000 in
theorem zmul_any (A B : Option Addr) (c d : Nat) (s r : Bool) (xs ys : List Nat) (w : World) (h : Dg w A c xs) (h' : Dg w B d ys) (hl : xs.length ≤ 500000) (hl' : ys.length ≤ 500000) :
    Calls Tryd.prog 12 #[.agg #[.bool s, .slice A xs.length c], .agg #[.bool r, .slice B ys.length d]] w fun e w' => Zr (sg s (val xs) * sg r (val ys)) w e w' := by
  have l1 := digs_len_le h.2.1
  have l2 := digs_len_le h'.2.1
  obtain ⟨t1, ht1⟩ : ∃ t, (s && decide (0 < val xs)) = t := ⟨_, rfl⟩
  obtain ⟨t2, ht2⟩ : ∃ t, (r && decide (0 < val ys)) = t := ⟨_, rfl⟩
  have TA := Lib.hid (fun W h => take_any A c s xs W h (by omega))
  have TB := Lib.hid (fun W h => take_any B d r ys W h (by omega))
  have E1 := Lib.hid (sg_take s (val xs))
  have E2 := Lib.hid (sg_take r (val ys))
  rw [ht1] at TA E1
  rw [ht2] at TB E2
  clear ht1 ht2
  go_enter Tryd.func12, Tryd.ntmps12
  go_upto_region 1 with fail
  have HB0 := Lib.hid (below3 w (.cells #[.bool s, .slice A xs.length c] 24) (.cells #[.bool r, .slice B ys.length d] 24) (.cells #[.bool false, .slice none 0 0] 24))
  obtain ⟨W, hW⟩ : ∃ W : World, W = ((w.alloc (.cells #[.bool s, .slice A xs.length c] 24)).alloc (.cells #[.bool r, .slice B ys.length d] 24)).alloc (.cells #[.bool false, .slice none 0 0] 24) := ⟨_, rfl⟩
  have F0 : W.cell? ⟨w.heap.size, 0, none⟩ = some (.bool s) ∧ W.cell? ⟨w.heap.size, 1, none⟩ = some (.slice A xs.length c) ∧ W.cell? ⟨w.heap.size + 1, 0, none⟩ = some (.bool r) ∧ W.cell? ⟨w.heap.size + 1, 1, none⟩ = some (.slice B ys.length d) := by
    rw [hW]
    refine ⟨?_, ?_, ?_, ?_⟩ <;> go_simp
  rw [← hW] at HB0
  rw [← hW]
  have HW := Lib.hid hW
  have H1 := Lib.hid (h.below HB0.out)
  have H2 := Lib.hid (h'.below HB0.out)
  have hsz : W.heap.size = w.heap.size + 3 := by rw [hW]; simp
  have HR := Lib.hid (show W.heap[w.heap.size + 1 + 1]? = some (.cells #[.bool false, .slice none 0 0] 24 (0, 0)) by rw [hW]; have := heap_alloc_new ((w.alloc (.cells #[.bool s, .slice A xs.length c] 24)).alloc (.cells #[.bool r, .slice B ys.length d] 24)) (.cells #[.bool false, .slice none 0 0] 24); simpa using this)
  clear hW h h'
  have S0 : w.heap.size < W.heap.size := by omega
  have S1 : w.heap.size + 1 < W.heap.size := by omega
  have HZ := Lib.hid hsz
  clear hsz
  refine two_calls (W := W) rfl 7 8 9 10 5 6 (.agg #[.bool s, .slice A xs.length c]) (.agg #[.bool r, .slice B ys.length d])
    (fun u w' => ∃ A' c', u = .agg #[.slice A' (digs (val xs)).length c', .bool t1] ∧ Dg w' A' c' (digs (val xs)))
    (fun u w' => ∃ A' c', u = .agg #[.slice A' (digs (val ys)).length c', .bool t2] ∧ Dg w' A' c' (digs (val ys)))
    #[.slice none 0 0, .bool false] 46 (fun | .agg us => us | _ => #[])
    rfl (by kernel_rfl) (by kernel_rfl) (by decide) (by kernel_rfl) noint2 ?_ ?_ ?_ ?_ ?_ ?_ ?_ ?_ ?_ ?_ (bd0 W) ?_
  · rintro u w1 w2 ⟨A', c', rfl, hd⟩ hk; exact ⟨A', c', rfl, hd.kept hk⟩
  · rintro u w1 w2 ⟨A', c', rfl, hd⟩ hk; exact ⟨A', c', rfl, hd.kept hk⟩
  · intro a v K hF hb hK
    simp only [wpOp, List.getElem?_toArray, List.getElem?_cons_zero, Region.wanted, if_true]
    refine Or.inl ?_
    have e : a.eval (.tmp 2) = .pointer (some ⟨w.heap.size, 0, none⟩) := hF.2.2 2 (by decide)
    obtain ⟨hc, _⟩ := bcell hb
    simp only [Oper.wp, execOp]
    rw [e]
    go_simp
    exact hK
  · intro a v K hF hb hK
    simp only [wpOp, List.getElem?_toArray, List.getElem?_cons_succ, List.getElem?_cons_zero, Region.wanted, if_true]
    refine Or.inl ?_
    have e : a.eval (.tmp 3) = .pointer (some ⟨w.heap.size + 1, 0, none⟩) := hF.2.2 3 (by decide)
    obtain ⟨hc, _⟩ := bcell hb
    simp only [Oper.wp, execOp]
    rw [e]
    go_simp
    exact hK
  · intro a v K hF hb h1 hK
    simp only [wpOp, List.getElem?_toArray, List.getElem?_cons_succ, List.getElem?_cons_zero, Region.wanted, if_true]
    refine Or.inl ?_
    have e : a.eval (.tmp 7) = .agg #[.bool s, .slice A xs.length c] := h1
    simp only [Oper.wp, execOp]
    go_simp
    refine (TA.out v (H1.out.below hb)).mono ?_
    rintro e w1 ⟨A', c', rfl, hd, hbb⟩
    exact hK _ _ ⟨A', c', rfl, hd⟩ hbb
  · intro a v K hF hb h1 hK
    simp only [wpOp, List.getElem?_toArray, List.getElem?_cons_succ, List.getElem?_cons_zero, Region.wanted, if_true]
    refine Or.inl ?_
    have e : a.eval (.tmp 9) = .agg #[.bool r, .slice B ys.length d] := h1
    simp only [Oper.wp, execOp]
    go_simp
    refine (TB.out v (H2.out.below hb)).mono ?_
    rintro e w1 ⟨A', c', rfl, hd, hbb⟩
    exact hK _ _ ⟨A', c', rfl, hd⟩ hbb
  · intro a v K hF hK
    simp only [wpOp, List.getElem?_toArray, List.getElem?_cons_succ, List.getElem?_cons_zero, Region.wanted, if_true]
    refine Or.inl ?_
    simp only [Oper.wp, execOp]
    go_simp
    exact hK
  · intro a v K hF hK
    simp only [wpOp, List.getElem?_toArray, List.getElem?_cons_succ, List.getElem?_cons_zero, Region.wanted, if_true]
    refine Or.inl ?_
    simp only [Oper.wp, execOp]
    go_simp
    exact hK
  · intro a v K g u hF hx hc hR hg hK
    simp only [wpOp, List.getElem?_toArray, List.getElem?_cons_succ, List.getElem?_cons_zero, Region.wanted, if_true]
    refine Or.inl ?_
    obtain ⟨A', c', rfl, hd⟩ := hR
    have e : a.eval (.tmp 5) = .pointer (some ⟨g, 0, none⟩) := hx
    have e' : a.eval (.tmp 8) = _ := hc
    simp only [Oper.wp, execOp]
    rw [e, e']
    have f0 := cell_of_row v g 0 _ _ _ hg
    have f1 := cell_of_row v g 1 _ _ _ hg
    have z0 := frozen_of_row v g 0 _ _ hg
    have z1 := frozen_of_row v g 1 _ _ hg
    go_simp
    exact hK _ (heap_setCell_same _ _ 1 _ _ _ (heap_setCell_same _ _ 0 _ _ _ hg)) (((Only.refl g v).setCell 0 _).setCell 1 _)
  · intro a v K g u hF hx hc hR hg hK
    simp only [wpOp, List.getElem?_toArray, List.getElem?_cons_succ, List.getElem?_cons_zero, Region.wanted, if_true]
    refine Or.inl ?_
    obtain ⟨A', c', rfl, hd⟩ := hR
    have e : a.eval (.tmp 6) = .pointer (some ⟨g, 0, none⟩) := hx
    have e' : a.eval (.tmp 10) = _ := hc
    simp only [Oper.wp, execOp]
    rw [e, e']
    have f0 := cell_of_row v g 0 _ _ _ hg
    have f1 := cell_of_row v g 1 _ _ _ hg
    have z0 := frozen_of_row v g 0 _ _ hg
    have z1 := frozen_of_row v g 1 _ _ hg
    go_simp
    exact hK _ (heap_setCell_same _ _ 1 _ _ _ (heap_setCell_same _ _ 0 _ _ _ hg)) (((Only.refl g v).setCell 0 _).setCell 1 _)
  · intro a v g1 g2 u1 u2 hF hb h1 h2 hne
    obtain ⟨hl1, hc1, hx1⟩ := h1
    obtain ⟨hl2, hc2, hx2⟩ := h2
    obtain ⟨ec1, A1, c1, rfl, hd1⟩ := hc1 rfl
    obtain ⟨ec2, A2, c2, rfl, hd2⟩ := hc2 rfl
    obtain ⟨ex1, hg1, hs1, hh1⟩ := hx1 rfl
    obtain ⟨ex2, hg2, hs2, hh2⟩ := hx2 rfl
    rw [hF.eq (by kernel_rfl) (hl1 rfl) ec1 (hl2 rfl) ec2 ex1 ex2]
    simp only [if_true] at hh1 hh2
    have HF := Lib.hid (And.intro (cell_of_row v g1 0 _ _ _ hh1) (And.intro (cell_of_row v g1 1 _ _ _ hh1) (And.intro (cell_of_row v g2 0 _ _ _ hh2) (cell_of_row v g2 1 _ _ _ hh2))))
    have KB := Lib.hid hb
    have D1 := Lib.hid hd1
    have D2 := Lib.hid hd2
    clear hF hb hl1 hc1 hx1 hl2 hc2 hx2 ec1 ec2 ex1 ex2 hh1 hh2 hd1 hd2 hne
    simp only [Act.put, List.setIfInBounds_toArray, List.set_cons_zero, List.set_cons_succ]
    have n1 := Lib.hid (show g1 ≠ w.heap.size + 1 + 1 by have := HZ.out; omega)
    have n2 := Lib.hid (show g2 ≠ w.heap.size + 1 + 1 by have := HZ.out; omega)
    have KD := Lib.hid (below_drew (Below.refl v.heap.size v))
    clear TA TB
    go_wp2_with fail
    go_region_held3 (fun w' => w'.cell? ⟨g1, 0, none⟩ = some (.slice A1 (digs (val xs)).length c1) ∧ w'.cell? ⟨g1, 1, none⟩ = some (.bool t1) ∧ w'.cell? ⟨g2, 0, none⟩ = some (.slice A2 (digs (val ys)).length c2) ∧ w'.cell? ⟨g2, 1, none⟩ = some (.bool t2))
      (first | exact HF.out | exact carry4 K3.out HF.out hs1 hs1 hs2 hs2 | exact carry4 K4.out HF.out hs1 hs1 hs2 hs2 | exact set4 (set4 (carry4 K4.out HF.out hs1 hs1 hs2 hs2) n1.out n1.out n2.out n2.out) n1.out n1.out n2.out n2.out)
      (first
        | (go_at_call 30; refine (times_any A1 A2 c1 c2 (val xs) (val ys) _ (D1.out.below KD.out) (D2.out.below KD.out) (by omega) (by omega)).mono ?_; rintro e w3 ⟨A3, c3, rfl, hd, hb⟩; (have K3 := Lib.hid (KD.out.trans (hb.mono KD.out.size))); (have G3 := Lib.hid hd); clear hb hd)
        | (go_at_call 17; refine (give_any A3 c3 (val xs * val ys) (t1 != t2) _ G3.out (by have := digs_mul_len (val xs) (val ys); omega)).mono ?_; rintro e w4 ⟨A4, c4, rfl, hd, hb⟩; (have K4 := Lib.hid (K3.out.trans (hb.mono K3.out.size))); (have KA := Lib.hid (KB.out.trans (K4.out.mono KB.out.size))); (have q0 := row_cell HR.out KA.out 0); (have q1 := row_cell HR.out KA.out 1); (have q2 := row_frozen HR.out KA.out 0); (have q3 := row_frozen HR.out KA.out 1); (simp only [List.getElem?_toArray, List.getElem?_cons_zero, List.getElem?_cons_succ] at q0 q1); (have HO4 := Lib.hid (off_row (g := w.heap.size + 1 + 1) hd KA.out HR.out noint2')); (have G4 := Lib.hid hd); clear hb hd))
    go_wp2
    refine bodyPost_ret (v := .agg #[.bool ((t1 != t2) && decide (val xs * val ys ≠ 0)), .slice A4 (digs (val xs * val ys)).length c4]) (by simp [results, Tryd.results12, go_sem, q0, q1]) rfl ?_
    exact zr_give (by rw [sg_mulx, E1.out, E2.out]) ((G4.out.set_off HO4.out _ _).set_off HO4.out _ _) ((((HB0.out.trans (KA.out.mono HB0.out.size)).setCell (by simp; omega) _).setCell (by simp; omega) _))
end Go.Proofs.YtcciibejachjkaaDoor
end

section
/-
  zint.sign, Cmp.
-/
namespace Go.Proofs.YtcciibejachjkaaDoor
open Go.RowKit
theorem sign_sg {s t : Bool} {x : Nat} (h : (s && decide (0 < x)) = t) : ((digs x).length = 0 → Int.sign (sg s x) = 0) ∧ ((digs x).length ≠ 0 → Int.sign (sg s x) = if t then -1 else 1) := by
  subst h
  rcases Nat.eq_zero_or_pos x with h0 | h0
  · subst h0
    refine ⟨fun _ => ?_, fun h => absurd (by rw [digs_zero]; rfl) h⟩
    unfold sg; cases s <;> rfl
  · refine ⟨fun h => absurd (digs_nil.1 h) (by omega), fun _ => ?_⟩
    unfold sg
    cases s
    · simp [h0]
    · simp [h0]
theorem sign_bd (z : Int) : -1 ≤ Int.sign z ∧ Int.sign z ≤ 1 := by
  rcases Int.lt_trichotomy z 0 with h | h | h
  · rw [Int.sign_eq_neg_one_of_neg h]; omega
  · subst h; decide
  · rw [Int.sign_eq_one_of_pos h]; omega
theorem sign_three (z : Int) : (z < 0 ∧ Int.sign z = -1) ∨ (z = 0 ∧ Int.sign z = 0) ∨ (0 < z ∧ Int.sign z = 1) := by
  rcases Int.lt_trichotomy z 0 with h | h | h
  · exact .inl ⟨h, Int.sign_eq_neg_one_of_neg h⟩
  · subst h; exact .inr (.inl ⟨rfl, rfl⟩)
  · exact .inr (.inr ⟨h, Int.sign_eq_one_of_pos h⟩)
theorem sign_lt {X Y : Int} (h : Int.sign X < Int.sign Y) : -1 = Int.sign (X - Y) := by
  have := sign_three X; have := sign_three Y; have := sign_three (X - Y); omega
theorem sign_gt {X Y : Int} (h : Int.sign Y < Int.sign X) : 1 = Int.sign (X - Y) := by
  have := sign_three X; have := sign_three Y; have := sign_three (X - Y); omega
theorem cmpi_three (x y : Nat) : (x < y ∧ cmpi x y = -1) ∨ (x = y ∧ cmpi x y = 0) ∨ (y < x ∧ cmpi x y = 1) := by
  rcases Nat.lt_trichotomy x y with h | h | h
  · exact .inl ⟨h, cmpi_lt h⟩
  · exact .inr (.inl ⟨h, cmpi_eq h⟩)
  · exact .inr (.inr ⟨h, cmpi_gt h⟩)
theorem sign_eq {s r : Bool} {x y : Nat} (h : Int.sign (sg s x) = Int.sign (sg r y)) : Int.sign (sg s x) * cmpi x y = Int.sign (sg s x - sg r y) := by
  have h3 := cmpi_three x y
  have h1 := sign_three (sg s x - sg r y)
  have h2 := sign_three (sg s x)
  have h4 := sign_three (sg r y)
  have e1 : sg s x = (x : Int) ∨ sg s x = -(x : Int) := by unfold sg; cases s <;> simp
  have e2 : sg r y = (y : Int) ∨ sg r y = -(y : Int) := by unfold sg; cases r <;> simp
  rcases h2 with ⟨ha, hb⟩ | ⟨ha, hb⟩ | ⟨ha, hb⟩ <;> rw [hb] at h ⊢ <;> omega
end Go.Proofs.YtcciibejachjkaaDoor
end

section
/-
  A region that draws its order: its operands in whatever order (loads, calls, new boxes), then its stores in the one order that is left.
-/
namespace Go.Proofs.YtcciibejachjkaaDoor
open Go.RowKit
section
variable {P : Program} {ops : Array Oper} {Q : Exit → Act → World → Prop} {md : Region.Mode}
/-- Number i waits for number k, by others. -/
def waitsT (md : Region.Mode) (ops : Array Oper) : Nat → Nat → Nat → Bool
  | 0, _, _ => false
  | f + 1, i, k => waitsB md ops i k || (List.range ops.size).any fun m => waitsB md ops i m && waitsT md ops f m k
/-- What is listed has all listed that it waits for. -/
def Down (md : Region.Mode) (ops : Array Oper) (l : Array Bool) : Prop := ∀ j, l.getD j false = true → ∀ k, waitsB md ops j k = true → l.getD k false = true
theorem Down.set {l : Array Bool} (h : Down md ops l) {i : Nat} (hi : i ∈ Region.ready md ops l) : Down md ops (l.setIfInBounds i true) := by
  intro j hj k hk
  by_cases hji : i = j
  · subst hji; exact getD_set_true (waits_spec hk hi)
  · rw [getD_set_ne false hji] at hj; exact getD_set_true (h j hj k hk)
theorem Down.through {l : Array Bool} (h : Down md ops l) : ∀ (f j k : Nat), l.getD j false = true → waitsT md ops f j k = true → l.getD k false = true
  | 0, _, _, _, hw => by cases hw
  | f + 1, j, k, hj, hw => by
    simp only [waitsT, Bool.or_eq_true, List.any_eq_true, Bool.and_eq_true] at hw
    rcases hw with hw | ⟨m, _, h1, h2⟩
    · exact h j hj k hw
    · exact h.through f m k (h j hj m h1) h2
theorem Down.ready {l : Array Bool} (h : Down md ops l) {f i k : Nat} (hi : i ∈ Region.ready md ops l) (hw : waitsT md ops f i k = true) : l.getD k false = true := by
  cases f with
  | zero => cases hw
  | succ f =>
    simp only [waitsT, Bool.or_eq_true, List.any_eq_true, Bool.and_eq_true] at hw
    rcases hw with hw | ⟨m, _, h1, h2⟩
    · exact waits_spec hw hi
    · exact h.through f m k (waits_spec h1 hi) h2
/-- Each from n0 on waits for all ahead of it. -/
def tailB (md : Region.Mode) (ops : Array Oper) (n0 : Nat) : Bool := (List.range ops.size).all fun i => decide (i < n0) || (List.range i).all fun k => waitsT md ops ops.size i k
def tails (m : Nat) : Nat → List Nat
  | 0 => []
  | n + 1 => m :: tails (m + 1) n
theorem wpAny_phase {n0 : Nat} (I : Array Bool → Act → World → Prop) (hn : n0 ≤ ops.size) (hb : backB md ops = true) (ht : tailB md ops n0 = true)
    (step : ∀ l a w i, I l a w → l.size = ops.size → i < n0 → i ∈ Region.ready md ops l → wpOp P ops Q i (fun a' w' => I (l.setIfInBounds i true) a' w') a w)
    (fin : ∀ l a w, I l a w → l.size = ops.size → (∀ i, i < n0 → l.getD i false = true) → wpOps P ops Q (tails n0 (ops.size - n0)) a w) {a : Act} {w : World}
    (h : I (Array.replicate ops.size false) a w) : wpAny P md ops Q ops.size (Array.replicate ops.size false) a w := by
  have z : ∀ j, (Array.replicate ops.size false).getD j false = false := by intro j; simp [Array.getElem?_replicate]; split <;> rfl
  have hwt : ∀ i, n0 ≤ i → i < ops.size → ∀ k, k < i → waitsT md ops ops.size i k = true := by
    intro i h1 h2 k hk
    simp only [tailB, List.all_eq_true, List.mem_range, Bool.or_eq_true, decide_eq_true_eq] at ht
    rcases ht i h2 with h3 | h3
    · omega
    · exact h3 k hk
  refine wpAny_inv (fun l a w => l.size = ops.size ∧ Down md ops l ∧ (((∀ k, n0 ≤ k → l.getD k false = false) ∧ I l a w) ∨ ∃ m, n0 ≤ m ∧ m ≤ ops.size ∧ (∀ k, k < m → l.getD k false = true) ∧ (∀ k, m ≤ k → l.getD k false = false) ∧ wpOps P ops Q (tails m (ops.size - m)) a w)) ?_ ?_ _ _ _ _ ⟨by simp, fun j hj => absurd hj (by rw [z]; simp), .inl ⟨fun k _ => z k, h⟩⟩ (by simp [still])
  · rintro l a w i ⟨hl, hd, hor⟩ hi
    have hiu := (mem_ready.1 hi).1
    have hin : i < ops.size := by
      rcases Nat.lt_or_ge i l.size with h' | h'
      · omega
      · simp [Array.getElem?_eq_none h'] at hiu
    have hif : l.getD i false = false := by
      have : i < l.size := by omega
      simp [this] at hiu ⊢; exact hiu
    have sz : ∀ j, (l.setIfInBounds i true).getD j false = (if i = j then true else l.getD j false) := fun j => getD_set l i j (by omega)
    have key : ∀ m, n0 ≤ m → m ≤ ops.size → (∀ k, k < m → l.getD k false = true) → (∀ k, m ≤ k → l.getD k false = false) → wpOps P ops Q (tails m (ops.size - m)) a w → i = m ∧ wpOp P ops Q i (fun a' w' => wpOps P ops Q (tails (m + 1) (ops.size - (m + 1))) a' w') a w := by
      intro m h1 h2 h3 h4 h5
      have him : i = m := by
        rcases Nat.lt_trichotomy i m with h6 | h6 | h6
        · rw [h3 i h6] at hif; cases hif
        · exact h6
        · have := hd.ready hi (hwt i (by omega) hin m h6)
          rw [h4 m (Nat.le_refl _)] at this; cases this
      subst him
      refine ⟨rfl, ?_⟩
      have e : ops.size - i = (ops.size - (i + 1)) + 1 := by omega
      rw [e] at h5
      simp only [tails, wpOps_cons] at h5
      exact h5
    have fin2 : ∀ m, n0 ≤ m → m ≤ ops.size → (∀ k, k < m → l.getD k false = true) → (∀ k, m ≤ k → l.getD k false = false) → wpOps P ops Q (tails m (ops.size - m)) a w → wpOp P ops Q i (fun a' w' => (l.setIfInBounds i true).size = ops.size ∧ Down md ops (l.setIfInBounds i true) ∧ (((∀ k, n0 ≤ k → (l.setIfInBounds i true).getD k false = false) ∧ I (l.setIfInBounds i true) a' w') ∨ ∃ m, n0 ≤ m ∧ m ≤ ops.size ∧ (∀ k, k < m → (l.setIfInBounds i true).getD k false = true) ∧ (∀ k, m ≤ k → (l.setIfInBounds i true).getD k false = false) ∧ wpOps P ops Q (tails m (ops.size - m)) a' w')) a w := by
      intro m h1 h2 h3 h4 h5
      obtain ⟨rfl, h6⟩ := key m h1 h2 h3 h4 h5
      refine wpOp_mono (fun a' w' h7 => ⟨by simpa using hl, hd.set hi, .inr ⟨i + 1, by omega, hin, fun k hk => ?_, fun k hk => ?_, h7⟩⟩) h6
      · rw [sz]; split
        · rfl
        · exact h3 k (by omega)
      · rw [sz, if_neg (by omega)]; exact h4 k (by omega)
    rcases hor with ⟨hno, hI⟩ | ⟨m, h1, h2, h3, h4, h5⟩
    · rcases Nat.lt_or_ge i n0 with hlt | hge
      · refine wpOp_mono (fun a' w' h7 => ⟨by simpa using hl, hd.set hi, .inl ⟨fun k hk => ?_, h7⟩⟩) (step l a w i hI hl hlt hi)
        rw [sz, if_neg (by omega)]; exact hno k hk
      · have h3 : ∀ k, k < n0 → l.getD k false = true := fun k hk => hd.ready hi (hwt i hge hin k (by omega))
        exact fin2 n0 (Nat.le_refl _) hn h3 hno (fin l a w hI hl h3)
    · exact fin2 m h1 h2 h3 h4 h5
  · rintro l a w ⟨hl, hd, hor⟩ hr
    have hall := all_of_back hb hl hr
    rcases hor with ⟨hno, hI⟩ | ⟨m, h1, h2, h3, h4, h5⟩
    · have hnn : n0 = ops.size := by
        rcases Nat.lt_or_ge n0 ops.size with h' | h'
        · have := hall n0 h'; rw [hno n0 (Nat.le_refl _)] at this; cases this
        · omega
      have := fin l a w hI hl (fun i hi => hall i (by omega))
      rw [hnn, Nat.sub_self] at this
      simpa [tails, wpOps] using this
    · have hnn : m = ops.size := by
        rcases Nat.lt_or_ge m ops.size with h' | h'
        · have := hall m h'; rw [h4 m (Nat.le_refl _)] at this; cases this
        · omega
      rw [hnn, Nat.sub_self] at h5
      simpa [tails, wpOps] using h5
/-- All slots but those of D are as they were, and are so when these are put anew. -/
theorem Fr6.fold {D : List Tmp} {a0 a : Act} (h : Fr6 D a0 a) (hin : (D.all fun t => decide (t < a0.tmps.size)) = true) : a = D.foldl (fun b t => b.put (some t) (a.tmps.getD t undef)) a0 := by
  have key : ∀ (D : List Tmp) (b : Act), (D.all fun t => decide (t < b.tmps.size)) = true → b.defers = a.defers → b.tmps.size = a.tmps.size → (∀ j, j ∉ D → a.tmps.getD j undef = b.tmps.getD j undef) → a = D.foldl (fun b t => b.put (some t) (a.tmps.getD t undef)) b := by
    intro D
    induction D with
    | nil => intro b _ h1 h2 h3; exact act_ext h1.symm h2.symm (fun j => h3 j (by simp))
    | cons t D ih =>
      intro b h0 h1 h2 h3
      simp only [List.all_cons, Bool.and_eq_true, decide_eq_true_eq] at h0
      rw [List.foldl_cons]
      refine ih _ ?_ (by rw [put_defers]; exact h1) (by rw [put_size]; exact h2) (fun j hj => ?_)
      · rw [List.all_eq_true] at h0 ⊢
        intro x hx; rw [put_size]; exact h0.2 x hx
      · exact put_at j h0.1 rfl (fun hne => h3 j (by simp [hne, hj]))
  exact key D a0 hin h.1.symm h.2.1.symm h.2.2
/-- Loads, calls and new boxes in whatever order; behind them the stores. -/
theorem wp_operands {id : Nat} {a0 : Act} {W : World} (hm : P.follows .mixedOrders = true) (n0 : Nat) (D : List Tmp) (R : Nat → Value → World → Prop) (al : Nat → Bool)
    (hn : n0 ≤ ops.size) (hD : D.length = n0) (hb : backB .any ops = true) (ht : tailB .any ops n0 = true) (hnd : D.Nodup) (hin : (D.all fun t => decide (t < a0.tmps.size)) = true)
    (st : ∀ i u w w', i < n0 → R i u w → Below w.heap.size w w' → R i u w')
    (hal : ∀ i u w, al i = true → R i u w → ∃ g, u = .pointer (some ⟨g, 0, none⟩) ∧ g < w.heap.size)
    (step : ∀ i a w K, i < n0 → Fr6 D a0 a → Below W.heap.size W w → (∀ k, waitsB .any ops i k = true → R k (a.tmps.getD (D.getD k 0) undef) w) →
      (∀ u w', R i u w' → Below w.heap.size w w' → (al i = true → u = .pointer (some ⟨w.heap.size, 0, none⟩)) → K (a.put (some (D.getD i 0)) u) w') → wpOp P ops Q i K a w)
    (fin : ∀ a w, Fr6 D a0 a → Below W.heap.size W w → (∀ i, i < n0 → R i (a.tmps.getD (D.getD i 0) undef) w) → (∀ i j, i < n0 → j < n0 → i ≠ j → al i = true → al j = true → a.tmps.getD (D.getD i 0) undef ≠ a.tmps.getD (D.getD j 0) undef) →
      wpOps P ops Q (tails n0 (ops.size - n0)) a w) : (Code.region id ops true).wp P Q a0 W := by
  have hmem : ∀ i, i < n0 → D.getD i 0 ∈ D := fun i hi => by rw [List.getD_eq_getElem?_getD, List.getElem?_eq_getElem (by omega)]; exact List.getElem_mem _
  have hlt : ∀ i, i < n0 → D.getD i 0 < a0.tmps.size := fun i hi => by
    rw [List.all_eq_true] at hin
    simpa using hin _ (hmem i hi)
  have hne : ∀ i j, i < n0 → j < n0 → i ≠ j → D.getD i 0 ≠ D.getD j 0 := fun i j hi hj h e => by
    rw [List.getD_eq_getElem?_getD, List.getD_eq_getElem?_getD, List.getElem?_eq_getElem (by omega), List.getElem?_eq_getElem (by omega)] at e
    exact h ((List.getElem_inj hnd).1 (by simpa using e))
  have hwk : ∀ l : Array Bool, l.size = ops.size → ∀ i k, i ∈ Region.ready .any ops l → waitsB .any ops i k = true → i < n0 → k < n0 := by
    intro l hl i k hi hk hi0
    have hlt : i < ops.size := by omega
    simp only [backB, List.all_eq_true, List.mem_range] at hb
    have h1 := hb i hlt
    simp only [Array.getElem?_eq_getElem hlt, Option.map_some, Option.getD_some, Array.all_eq_true_iff_forall_mem] at h1
    simp only [waitsB, Array.getElem?_eq_getElem hlt, Option.map_some, Option.getD_some, Array.any_eq_true'] at hk
    obtain ⟨e, he, h2⟩ := hk
    simp only [Bool.and_eq_true, beq_iff_eq] at h2
    have h3 := h1 e he
    simp only [h2.1, Bool.not_true, Bool.false_or, decide_eq_true_eq] at h3
    omega
  have z : ∀ j, (Array.replicate ops.size false).getD j false = false := by intro j; simp [Array.getElem?_replicate]; split <;> rfl
  refine wp_region_any hm (wpAny_phase (fun l a w => Fr6 D a0 a ∧ Below W.heap.size W w ∧ (∀ i, i < n0 → l.getD i false = true → R i (a.tmps.getD (D.getD i 0) undef) w) ∧
    (∀ i j, i < n0 → j < n0 → i ≠ j → l.getD i false = true → l.getD j false = true → al i = true → al j = true → a.tmps.getD (D.getD i 0) undef ≠ a.tmps.getD (D.getD j 0) undef)) hn hb ht ?_ ?_ ⟨⟨rfl, rfl, fun _ _ => rfl⟩, ⟨rfl, rfl, rfl, Nat.le_refl _, fun _ _ => rfl⟩, fun i _ hi => absurd hi (by rw [z]; simp), fun i j _ _ _ hi => absurd hi (by rw [z]; simp)⟩)
  · rintro l a w i ⟨hF, hbw, hR, hA⟩ hl hi0 hi
    have sz : ∀ j, (l.setIfInBounds i true).getD j false = (if i = j then true else l.getD j false) := fun j => getD_set l i j (by omega)
    have ps : a.tmps.size = a0.tmps.size := hF.2.1
    refine step i a w _ hi0 hF hbw (fun k hk => hR k (hwk l hl i k hi hk hi0) (waits_spec hk hi)) (fun u w' hu hbb hua => ⟨hF.put (hmem i hi0) _, hbw.trans (hbb.mono hbw.size), fun j hj hjl => ?_, fun j k hj hk hjk hjl hkl haj hak => ?_⟩)
    · by_cases hij : i = j
      · subst hij; rw [put_same _ _ _ (by rw [ps]; exact hlt i hi0)]; exact hu
      · rw [sz, if_neg hij] at hjl
        rw [put_other _ _ _ _ (hne i j hi0 hj hij)]
        exact st j _ _ _ hj (hR j hj hjl) hbb
    · by_cases hij : i = j
      · subst hij
        rw [put_same _ _ _ (by rw [ps]; exact hlt i hi0), put_other _ _ _ _ (hne i k hi0 hk hjk)]
        rw [sz, if_neg hjk] at hkl
        obtain ⟨g, e, hg⟩ := hal k _ _ hak (hR k hk hkl)
        rw [e, hua haj]; intro e2; injection e2 with e2; injection e2 with e2; injection e2 with e2; omega
      · rw [sz, if_neg hij] at hjl
        rw [put_other _ _ _ _ (hne i j hi0 hj hij)]
        by_cases hik : i = k
        · subst hik
          rw [put_same _ _ _ (by rw [ps]; exact hlt i hi0)]
          obtain ⟨g, e, hg⟩ := hal j _ _ haj (hR j hj hjl)
          rw [e, hua hak]; intro e2; injection e2 with e2; injection e2 with e2; injection e2 with e2; omega
        · rw [sz, if_neg hik] at hkl
          rw [put_other _ _ _ _ (hne i k hi0 hk hik)]
          exact hA j k hj hk hjk hjl hkl haj hak
  · rintro l a w ⟨hF, hbw, hR, hA⟩ _ hall
    exact fin a w hF hbw (fun i hi => hR i hi (hall i hi)) (fun i j hi hj hij h1 h2 => hA i j hi hj hij (hall i hi) (hall j hj) h1 h2)
end
end Go.Proofs.YtcciibejachjkaaDoor
end

section
/-
  Plain arithmetic of the long division: a guessed digit, and what is left.
-/
namespace Go.Proofs.YtcciibejachjkaaDoor
theorem kn_start {u v p f t l : Nat} (hf : 0 < f) (hu : u < (t + 1) * p) (hv : f * p ≤ v) (hl : l * v ≤ u) : l ≤ t / f := by
  have h1 : l * f * p ≤ u := Nat.le_trans (by rw [Nat.mul_assoc]; exact Nat.mul_le_mul_left l hv) hl
  have h2 : l * f < t + 1 := Nat.lt_of_mul_lt_mul_right (Nat.lt_of_le_of_lt h1 hu)
  exact (Nat.le_div_iff_mul_le hf).2 (by omega)
/-- A guess that fails the test is too much. -/
theorem kn_down {u v p f s t r d x l : Nat} (hu : u < ((t * 4294967296 + x) + 1) * p) (hv : (f * 4294967296 + s) * p ≤ v) (hl : l * v ≤ u) (ht : d * f + r = t) (hd : r * 4294967296 + x < d * s) : l + 1 ≤ d := by
  rcases Nat.lt_or_ge l d with h | h
  · exact h
  · exfalso
    have h1 : l * (f * 4294967296 + s) * p ≤ u := Nat.le_trans (by rw [Nat.mul_assoc]; exact Nat.mul_le_mul_left l hv) hl
    have h2 : l * (f * 4294967296 + s) < t * 4294967296 + x + 1 := Nat.lt_of_mul_lt_mul_right (Nat.lt_of_le_of_lt h1 hu)
    have h3 := Nat.mul_le_mul_right (f * 4294967296 + s) h
    have h4 : d * (f * 4294967296 + s) = d * f * 4294967296 + d * s := by rw [Nat.mul_add, Nat.mul_assoc]
    have h5 : t * 4294967296 = d * f * 4294967296 + r * 4294967296 := by rw [← ht, Nat.add_mul]
    omega
/-- A guess that passes the test is at most one too much. -/
theorem kn_near {u v p f s t r d x l : Nat} (hu : (t * 4294967296 + x) * p ≤ u) (hv : v < ((f * 4294967296 + s) + 1) * p) (hl : u < (l + 1) * v) (ht : d * f + r = t) (hd : d * s ≤ r * 4294967296 + x) (hb : d ≤ f * 4294967296) : d ≤ l + 1 := by
  rcases Nat.lt_or_ge (l + 1) d with h | h
  · exfalso
    have h4 : d * (f * 4294967296 + s) = d * f * 4294967296 + d * s := by rw [Nat.mul_add, Nat.mul_assoc]
    have h5 : t * 4294967296 = d * f * 4294967296 + r * 4294967296 := by rw [← ht, Nat.add_mul]
    have h6 : d * (f * 4294967296 + s) ≤ t * 4294967296 + x := by omega
    have h7 : d * (f * 4294967296 + s) * p < (l + 1) * v := Nat.lt_of_le_of_lt (Nat.le_trans (Nat.mul_le_mul_right p h6) hu) hl
    have h8 : (l + 1) * v ≤ (d - 1) * v := Nat.mul_le_mul_right v (by omega)
    have h9 : (d - 1) * v ≤ (d - 1) * ((f * 4294967296 + s) + 1) * p := by rw [Nat.mul_assoc]; exact Nat.mul_le_mul_left _ (by omega)
    have h10 : d * (f * 4294967296 + s) < (d - 1) * ((f * 4294967296 + s) + 1) := Nat.lt_of_mul_lt_mul_right (Nat.lt_of_lt_of_le h7 (Nat.le_trans h8 h9))
    obtain ⟨e, rfl⟩ : ∃ e, d = e + 1 := ⟨d - 1, by omega⟩
    rw [Nat.add_sub_cancel, Nat.mul_add e, Nat.add_mul] at h10
    omega
  · exact h
/-- Where the rest is past 32 bits, the guess passes. -/
theorem kn_past {f s t r d x : Nat} (hs : s < 4294967296) (htop : t < (f + 1) * 4294967296) (ht : d * f + r = t) (hr : 4294967296 ≤ r) : d < 4294967296 ∧ d * s ≤ r * 4294967296 + x := by
  have h1 : d * f < f * 4294967296 := by rw [Nat.add_mul] at htop; omega
  have h2 : d < 4294967296 := by rw [Nat.mul_comm f] at h1; exact Nat.lt_of_mul_lt_mul_right h1
  refine ⟨h2, ?_⟩
  have h3 : d * s ≤ 4294967296 * 4294967296 := Nat.mul_le_mul (by omega) (by omega)
  have h4 : 4294967296 * 4294967296 ≤ r * 4294967296 := Nat.mul_le_mul_right _ hr
  omega
theorem kn_top {u v p f t : Nat} (hu : t * p ≤ u) (hv : v < (f + 1) * p) (hl : u < v * 4294967296) : t < (f + 1) * 4294967296 := by
  have h1 : v * 4294967296 < (f + 1) * p * 4294967296 := Nat.mul_lt_mul_of_pos_right hv (by omega)
  have h2 : t * p < (f + 1) * 4294967296 * p := by rw [Nat.mul_right_comm]; omega
  exact Nat.lt_of_mul_lt_mul_right h2
/-- The last digits of a list, and the others. -/
theorem val_top1 {xs : List Nat} {k : Nat} (h : xs.length = k + 1) : val xs = val (xs.take k) + 4294967296 ^ k * (xs[k]?.getD 0) := by
  have e := take_one (xs := xs) (k := k) (by omega)
  rw [List.take_of_length_le (by omega)] at e
  conv => lhs; rw [e]
  rw [val_snoc, List.length_take, Nat.min_eq_left (by omega)]
theorem val_top2 {xs : List Nat} {k : Nat} (h : xs.length = k + 2) : val xs = val (xs.take k) + 4294967296 ^ k * (xs[k]?.getD 0 + 4294967296 * (xs[k + 1]?.getD 0)) := by
  rw [val_top1 (k := k + 1) h, take_one (by omega), val_snoc, List.length_take, Nat.min_eq_left (by omega), Nat.pow_succ, Nat.mul_add, Nat.mul_assoc]; omega
theorem val_take_lt {xs : List Nat} (h : ok32 xs) (k : Nat) (hk : k ≤ xs.length) : val (xs.take k) < 4294967296 ^ k := by
  have := val_lt (xs := xs.take k) (fun x hx => h x (List.mem_of_mem_take hx))
  rwa [List.length_take, Nat.min_eq_left hk] at this
theorem between {a b p t : Nat} (h : b < p) (e : a = b + p * t) : t * p ≤ a ∧ a < (t + 1) * p := by
  rw [Nat.mul_comm p] at e; rw [Nat.add_mul]; omega
/-- What a list is, seen from its first two places. -/
theorem val_seen1 {xs : List Nat} (h : ok32 xs) {k : Nat} (hk : xs.length = k + 1) : (xs[k]?.getD 0) * 4294967296 ^ k ≤ val xs ∧ val xs < (xs[k]?.getD 0 + 1) * 4294967296 ^ k :=
  between (val_take_lt h k (by omega)) (val_top1 hk)
theorem val_seen2 {xs : List Nat} (h : ok32 xs) {k : Nat} (hk : xs.length = k + 2) : (xs[k + 1]?.getD 0 * 4294967296 + xs[k]?.getD 0) * 4294967296 ^ k ≤ val xs ∧ val xs < (xs[k + 1]?.getD 0 * 4294967296 + xs[k]?.getD 0 + 1) * 4294967296 ^ k :=
  between (val_take_lt h k (by omega)) (by rw [val_top2 hk, Nat.mul_comm (xs[k + 1]?.getD 0), Nat.add_comm (4294967296 * _)])
theorem val_seen3 {xs : List Nat} (h : ok32 xs) {k : Nat} (hk : xs.length = k + 3) : ((xs[k + 2]?.getD 0 * 4294967296 + xs[k + 1]?.getD 0) * 4294967296 + xs[k]?.getD 0) * 4294967296 ^ k ≤ val xs ∧
    val xs < ((xs[k + 2]?.getD 0 * 4294967296 + xs[k + 1]?.getD 0) * 4294967296 + xs[k]?.getD 0 + 1) * 4294967296 ^ k := by
  refine between (val_take_lt h k (by omega)) ?_
  have e : xs[k]?.getD 0 + 4294967296 * (xs[k + 1]?.getD 0 + 4294967296 * (xs[k + 2]?.getD 0)) = (xs[k + 2]?.getD 0 * 4294967296 + xs[k + 1]?.getD 0) * 4294967296 + xs[k]?.getD 0 := by omega
  rw [val_top2 (k := k + 1) hk, take_one (by omega), val_snoc, List.length_take, Nat.min_eq_left (by omega), Nat.pow_succ, ← e, Nat.mul_add (4294967296 ^ k) (xs[k]?.getD 0), Nat.mul_assoc (4294967296 ^ k) 4294967296, Nat.add_assoc]
/-- A digit off: what is left. -/
theorem kn_left {u v d l r c p : Nat} (hv : 0 < v) (hl : l = u / v) (h1 : l ≤ d) (h2 : d ≤ l + 1) (e : u + p * c = r + d * v) (hr : r < p) (hu : u < p) (hvp : v ≤ p) : (c = 0 ∧ d = l ∧ r = u % v) ∨ (1 = c ∧ d = l + 1 ∧ (r + v) % p = u % v ∧ p ≤ r + v) := by
  have h3 := Nat.div_add_mod u v
  have h4 := Nat.mod_lt u hv
  rw [← hl, Nat.mul_comm] at h3
  rcases Nat.lt_or_ge l d with h | h
  · have : d = l + 1 := by omega
    subst this
    rw [Nat.add_mul] at e
    right
    have hc : c = 1 := by
      rcases c with _ | _ | c
      · omega
      · rfl
      · exfalso
        have : p * (c + 1 + 1) = p * c + p + p := by rw [Nat.mul_add, Nat.mul_add]; omega
        omega
    subst hc
    refine ⟨rfl, rfl, ?_, by omega⟩
    have : r + v = u % v + p := by omega
    rw [this, Nat.add_mod_right, Nat.mod_eq_of_lt (by omega)]
  · have : d = l := by omega
    subst this
    left
    have hc : c = 0 := by
      rcases c with _ | c
      · rfl
      · exfalso
        have : p * (c + 1) = p * c + p := by rw [Nat.mul_add]; omega
        omega
    subst hc
    exact ⟨rfl, rfl, by omega⟩
end Go.Proofs.YtcciibejachjkaaDoor
end

section
/-
  Plain arithmetic of the long division: a row of digits in its list, a quotient's digit.
-/
namespace Go.Proofs.YtcciibejachjkaaDoor
open Go.RowKit
theorem take_step {zs z0 ys : List Nat} {off k d c b b' x t : Nat} (hz : off + k < zs.length) (hz0 : off + k < z0.length) (hy : k < ys.length)
    (h : val (z0.take (off + k)) + 4294967296 ^ (off + k) * (c + b) = val (zs.take (off + k)) + 4294967296 ^ off * (val (ys.take k) * x))
    (hs : z0[off + k]?.getD 0 + 4294967296 * (d + b') = t + (ys[k]?.getD 0 * x + c) + b) :
    val (z0.take (off + (k + 1))) + 4294967296 ^ (off + (k + 1)) * (d + b') = val ((zs.set (off + k) t).take (off + (k + 1))) + 4294967296 ^ off * (val (ys.take (k + 1)) * x) := by
  rw [← Nat.add_assoc, take_set hz, take_one hz0, take_one hy, val_snoc, val_snoc, val_snoc, List.length_take, List.length_take, List.length_take, Nat.min_eq_left (by omega), Nat.min_eq_left (by omega), Nat.min_eq_left (by omega), Nat.pow_succ]
  have e1 : 4294967296 ^ off * ((val (ys.take k) + 4294967296 ^ k * (ys[k]?.getD 0)) * x) = 4294967296 ^ off * (val (ys.take k) * x) + 4294967296 ^ (off + k) * (ys[k]?.getD 0 * x) := by
    rw [Nat.add_mul, Nat.mul_add, Nat.pow_add]; congr 1; simp only [Nat.mul_assoc]
  have e2 : 4294967296 ^ (off + k) * (z0[off + k]?.getD 0) + 4294967296 ^ (off + k) * 4294967296 * (d + b') = 4294967296 ^ (off + k) * t + 4294967296 ^ (off + k) * (ys[k]?.getD 0 * x) + 4294967296 ^ (off + k) * (c + b) := by
    rw [Nat.mul_assoc, ← Nat.mul_add, hs, ← Nat.mul_add, ← Nat.mul_add]; congr 1; omega
  rw [e1]
  omega
theorem take_last {zs z0 : List Nat} {k c b b' t E : Nat} (hz : k < zs.length) (hz0 : k < z0.length)
    (h : val (z0.take k) + 4294967296 ^ k * (c + b) = val (zs.take k) + E) (hs : t + c + b = z0[k]?.getD 0 + 4294967296 * b') :
    val (z0.take (k + 1)) + 4294967296 ^ (k + 1) * b' = val ((zs.set k t).take (k + 1)) + E := by
  rw [take_set hz, take_one hz0, val_snoc, val_snoc, List.length_take, List.length_take, Nat.min_eq_left (by omega), Nat.min_eq_left (by omega), Nat.pow_succ]
  have e2 : 4294967296 ^ k * (z0[k]?.getD 0) + 4294967296 ^ k * 4294967296 * b' = 4294967296 ^ k * t + 4294967296 ^ k * (c + b) := by
    rw [Nat.mul_assoc, ← Nat.mul_add, ← hs, ← Nat.mul_add]; congr 1; omega
  omega
theorem val_split (xs : List Nat) {k : Nat} (h : k ≤ xs.length) : val xs = val (xs.take k) + 4294967296 ^ k * val (xs.drop k) := by
  conv => lhs; rw [← List.take_append_drop k xs, val_append, List.length_take, Nat.min_eq_left h]
theorem whole_of_take {zs z0 : List Nat} {k b E : Nat} (hk : k ≤ z0.length) (hl : zs.length = z0.length) (hd : zs.drop k = z0.drop k) (h : val (z0.take k) + 4294967296 ^ k * b = val (zs.take k) + E) :
    val z0 + 4294967296 ^ k * b = val zs + E := by
  rw [val_split z0 hk, val_split zs (by omega : k ≤ zs.length), hd]; omega
theorem drop_of_get {zs z0 : List Nat} {k : Nat} (h : ∀ j, k ≤ j → zs[j]? = z0[j]?) : zs.drop k = z0.drop k := by
  apply List.ext_getElem?
  intro j
  rw [List.getElem?_drop, List.getElem?_drop, h _ (by omega)]
theorem val_pos_of_get : ∀ (xs : List Nat) (j : Nat), xs[j]?.getD 0 ≠ 0 → 4294967296 ^ j ≤ val xs := by
  intro xs
  induction xs with
  | nil => intro j h; simp at h
  | cons x r ih =>
    intro j h
    rcases j with _ | j
    · simp at h; simp only [val, Nat.pow_zero]; omega
    · have := ih j (by simpa using h); simp only [val, Nat.pow_succ]; omega
/-- A list whose number is below B^k has noughts from k on. -/
theorem drop_zero {xs : List Nat} {k : Nat} (hk : k ≤ xs.length) (h : val xs < 4294967296 ^ k) : val (xs.drop k) = 0 := by
  rcases Nat.eq_zero_or_pos (val (xs.drop k)) with h0 | h0
  · exact h0
  · exfalso
    have := val_split xs hk
    have := Nat.le_mul_of_pos_right (4294967296 ^ k) h0
    omega
theorem below_of_drop {xs : List Nat} (hok : ok32 xs) {k : Nat} (hk : k ≤ xs.length) (h : val (xs.drop k) = 0) : val xs < 4294967296 ^ k := by
  rw [val_split xs hk, h, Nat.mul_zero, Nat.add_zero]; exact val_take_lt hok k hk
/-- A row in its list. -/
theorem val_window {xs : List Nat} (hok : ok32 xs) {j m : Nat} (hk : j + m ≤ xs.length) (h : val xs < 4294967296 ^ (j + m)) : val ((xs.drop j).take m) = val xs / 4294967296 ^ j := by
  have h1 := val_split xs (k := j) (by omega)
  have h2 := val_split (xs.drop j) (k := m) (by rw [List.length_drop]; omega)
  have h3 : val ((xs.drop j).drop m) = 0 := by rw [List.drop_drop]; exact drop_zero hk h
  rw [h3, Nat.mul_zero, Nat.add_zero] at h2
  have h4 := val_take_lt hok j (by omega)
  rw [h1, ← h2, Nat.add_mul_div_left _ _ (Nat.pow_pos (by omega)), Nat.div_eq_of_lt h4, Nat.zero_add]
theorem val_set_zero : ∀ (xs : List Nat) (j d : Nat), j < xs.length → xs[j]?.getD 0 = 0 → val (xs.set j d) = val xs + 4294967296 ^ j * d := by
  intro xs
  induction xs with
  | nil => intro j d h; simp at h
  | cons x r ih =>
    intro j d h h0
    rcases j with _ | j
    · simp at h0; subst h0; simp [val]; omega
    · have := ih j d (by simpa using h) (by simpa using h0)
      simp only [List.set_cons_succ, val, this, Nat.pow_succ]
      rw [Nat.mul_add, Nat.mul_right_comm, Nat.mul_comm _ 4294967296]; omega
/-- One digit of the quotient: what is left, whether the guess was right or one too much. -/
theorem div_fix {L P v Q l x b M : Nat} (hP : 0 < P) (hv : 0 < v) (hl : l = L / P / v) (h1 : l ≤ x) (h2 : x ≤ l + 1) (hvQ : P * v ≤ Q) (hMQ : M < Q) (h : L + Q * b = M + P * (v * x)) :
    P * (v * l) ≤ L ∧ L - P * (v * l) < v * P ∧ ((b = 0 ∧ x = l ∧ M = L - P * (v * l)) ∨ (b = 1 ∧ x = l + 1 ∧ ∀ c M', M' < Q → M' + Q * c = M + P * v → M' = L - P * (v * l))) := by
  have e1 := Nat.div_add_mod L P
  have e2 := Nat.div_add_mod (L / P) v
  have e3 := Nat.mod_lt L hP
  have e4 := Nat.mod_lt (L / P) hv
  rw [← hl] at e2
  have e5 : P * (L / P) = P * (v * l) + P * (L / P % v) := by rw [← Nat.mul_add, e2]
  have e6 : P * (L / P % v) + P ≤ P * v := by have := Nat.mul_le_mul_left P e4; rw [Nat.mul_succ] at this; exact this
  rw [Nat.mul_comm v P]
  have e7 : P * (v * (l + 1)) = P * (v * l) + P * v := by rw [Nat.mul_add, Nat.mul_one, Nat.mul_add]
  generalize eT : P * (v * l) = T at *
  refine ⟨by omega, by omega, ?_⟩
  rcases Nat.lt_or_ge l x with hx | hx
  · have : x = l + 1 := by omega
    subst this
    rw [e7] at h
    right
    have hb : b = 1 := by
      rcases b with _ | _ | b
      · omega
      · rfl
      · exfalso; rw [Nat.mul_add, Nat.mul_add] at h; omega
    subst hb
    refine ⟨rfl, rfl, fun c M' hM' hc => ?_⟩
    rcases c with _ | _ | c
    · omega
    · omega
    · exfalso; rw [Nat.mul_add, Nat.mul_add] at hc; omega
  · have : x = l := by omega
    subst this
    rw [eT] at h
    left
    have hb : b = 0 := by
      rcases b with _ | b
      · rfl
      · exfalso; rw [Nat.mul_add] at h; omega
    subst hb
    exact ⟨rfl, rfl, by omega⟩
end Go.Proofs.YtcciibejachjkaaDoor
end

section
/-
  quo.takeOff, giveBack: a row of the long division.
-/
namespace Go.Proofs.YtcciibejachjkaaDoor
open Go.RowKit
/-- All blocks but one are as they were. -/
def Rest (g : Nat) (w w' : World) : Prop := w'.heap.size = w.heap.size ∧ ∀ b, b ≠ g → w'.heap[b]? = w.heap[b]?
theorem Rest.refl (g : Nat) (w : World) : Rest g w w := ⟨rfl, fun _ _ => rfl⟩
theorem Rest.set_ {g : Nat} {w w' : World} (h : Rest g w w') (i : Nat) (v : Value) : Rest g w (w'.setCell ⟨g, i, none⟩ v) := by
  refine ⟨by rw [← h.1]; simp [World.setCell], fun b hb => ?_⟩
  rw [← h.2 b hb]
  simp [World.setCell, Array.getElem?_modify]
  intro e; exact absurd e.symm hb
theorem Rest.drewN {g : Nat} {w w' : World} (h : Rest g w w') (n : Nat) : Rest g w (w'.drewN n) := h
theorem Rest.row {g q : Nat} {w w' : World} {ys : List Nat} (h : Rest g w w') (hr : Row w q ys) (hq : q ≠ g) : Row w' q ys := (h.2 q hq).trans hr
theorem add_last {zs z0 : List Nat} {k c d t E : Nat} (hz : k < zs.length) (hz0 : k < z0.length)
    (h : val (zs.take k) + 4294967296 ^ k * c = val (z0.take k) + E) (hs : t + 4294967296 * d = z0[k]?.getD 0 + c) :
    val ((zs.set k t).take (k + 1)) + 4294967296 ^ (k + 1) * d = val (z0.take (k + 1)) + E := by
  rw [take_set hz, take_one hz0, val_snoc, val_snoc, List.length_take, List.length_take, Nat.min_eq_left (by omega), Nat.min_eq_left (by omega), Nat.pow_succ]
  have e2 : 4294967296 ^ k * t + 4294967296 ^ k * 4294967296 * d = 4294967296 ^ k * (z0[k]?.getD 0) + 4294967296 ^ k * c := by
    rw [Nat.mul_assoc, ← Nat.mul_add, hs, ← Nat.mul_add]
  omega
set_option maxHeartbeats 2000000 in
set_option maxRecDepth 100000 in
theorem takeoff_any (B : Option Addr) (g off m cap d : Nat) (x : Nat) (ys z0 : List Nat) (w : World) (hrow : Row w g z0) (hok : ok32 z0) (h : Dg w B d ys) (hb : ∀ b o, B = some ⟨b, o, none⟩ → b < g) (hm : m = ys.length + 1)
    (hl : z0.length ≤ 4194304) (hoff : off + ys.length < z0.length) (hx : x < 4294967296) :
    Calls Tryd.prog 54 #[.slice (some ⟨g, off, none⟩) m cap, .slice B ys.length d, .int .u32 x] w fun e w' => ∃ (b : Nat) (zs : List Nat), e = .returned (.bool ((b : Int) == 1)) ∧ b ≤ 1 ∧ Row w' g zs ∧ ok32 zs ∧ zs.length = z0.length ∧
      zs.drop (off + (ys.length + 1)) = z0.drop (off + (ys.length + 1)) ∧ val z0 + 4294967296 ^ (off + (ys.length + 1)) * b = val zs + 4294967296 ^ off * (val ys * x) ∧ Below g w w' ∧ Rest g w w' := by
  have H := Lib.hid h
  have HB := Lib.hid hb
  have HR := Lib.hid hrow
  have HO := Lib.hid hok
  have HM := Lib.hid hm
  clear h hb hrow hok hm
  go_enter Tryd.func54, Tryd.ntmps54
  go_wp2
  go_loopw [7, 8, 13] (fun cy bw i wr => ∃ (k c b : Nat) (zs : List Nat), k ≤ ys.length ∧ i = .int .i64 k ∧ cy = .int .u64 c ∧ c < 4294967296 ∧ bw = .int .u32 b ∧ b ≤ 1 ∧ Row wr g zs ∧ Hid (zs.length = z0.length) ∧ ok32 zs ∧ Hid (∀ j, off + k ≤ j → zs[j]? = z0[j]?) ∧
    Hid (val (z0.take (off + k)) + 4294967296 ^ (off + k) * (c + b) = val (zs.take (off + k)) + 4294967296 ^ off * (val (ys.take k) * x)) ∧ Below g w wr ∧ Hid (Rest g w wr)) (fun _ _ i _ => ys.length - (intOf i).toNat)
  case atStart => exact ⟨0, 0, 0, z0, Nat.zero_le _, rfl, rfl, by omega, rfl, by omega, HR.out, by simp [Hid], HO.out, by simp [Hid], by simp [Hid, val], Below.refl _ _, Rest.refl _ _⟩
  case round =>
    obtain ⟨k, c, b, zs, hk, rfl, rfl, hc, rfl, hbw, hrow, HL, hok, HJ, HE, hbel, HS⟩ := hrel
    by_cases hlt : k < ys.length
    · obtain ⟨bb, o, hB, hbk, hcx⟩ := H.out.2.2 (by omega)
      have hbg := HB.out _ _ hB
      have hy := (hbel.cell (p := ⟨bb, o + k, none⟩) hbg).trans (hcx k (by omega))
      have hY := getD_lt H.out.2.1 k
      have hcell := hrow.cell (i := off + k) (by have := HL.out; omega)
      have hfr := hrow.frozen (off + k)
      have hZ := getD_lt hok (off + k)
      have hkm : k < m := by have := HM.out; omega
      have hkm' : (k : Int) < (m : Int) := by omega
      generalize ez : zs[off + k]?.getD 0 = z at *
      generalize ey : ys[k]?.getD 0 = y at *
      have HZ := Lib.hid ez
      have HY := Lib.hid ey
      have hp0 : 0 ≤ (y : Int) * (x : Int) := by rw [← Int.natCast_mul]; omega
      have hpn : y * x ≤ 18446744065119617025 := Nat.le_trans (Nat.mul_le_mul (Nat.le_of_lt_succ hY) (Nat.le_of_lt_succ hx)) (by decide)
      have hp1 : (y : Int) * (x : Int) ≤ 18446744065119617025 := by rw [← Int.natCast_mul]; omega
      have ep : (y : Int) * (x : Int) = ((y * x : Nat) : Int) := (Int.natCast_mul y x).symm
      have e1 : ((c : Int) + (y : Int) * (x : Int)) % 4294967296 = (lo (y * x + c) : Nat) := by rw [ep]; unfold lo; omega
      have e2 : ((c : Int) + (y : Int) * (x : Int)) / 4294967296 = (hi (y * x + c) : Nat) := by rw [ep]; unfold hi; omega
      have hlh := lo_hi (y * x + c)
      have hlo := lo_lt (y * x + c)
      have hhi : hi (y * x + c) < 4294967296 := by unfold hi; omega
      have E1 := Lib.hid e1
      have E2 := Lib.hid e2
      have HLH := Lib.hid hlh
      clear ez ey hcx ep e1 e2 hlh hpn
      subst hB
      go_wp2_with fail
      rw [E1.out]
      refine (sub32_fn z (lo (y * x + c)) b _ hZ hlo hbw).mono ?_
      rintro e w' ⟨rfl, rfl⟩
      go_wp2
      go_roundw
      case rel =>
        obtain ⟨hq0, hq1, hq2⟩ := sub_parts hZ hlo hbw
        have hl' := HL.out
        refine ⟨k + 1, hi (y * x + c), subhi z (lo (y * x + c)) b, zs.set (off + k) (sublo z (lo (y * x + c)) b), hlt, by go_num, by rw [E2.out], hhi, rfl, hq2, hrow.set_ _ _, by simp only [List.length_set]; exact HL, ok_set hok hq1 _, fun j hj => ?_, ?_, ?_, HS.out.set_ _ _⟩
        · rw [get_set_other (by omega)]; exact HJ.out j (by omega)
        · refine take_step (by omega) (by omega) hlt HE.out ?_
          rw [← HJ.out _ (Nat.le_refl _), HZ.out, HY.out]
          have := HLH.out
          omega
        · exact hbel.setCell (by simp) _
      case measure => simp [intOf]; omega
    · have hk' : k = ys.length := by omega
      subst hk'
      have hcell := hrow.cell (i := off + ys.length) (by have := HL.out; omega)
      have hfr := hrow.frozen (off + ys.length)
      have hZ := getD_lt hok (off + ys.length)
      have hkm : ys.length < m := by have := HM.out; omega
      have hkm' : (ys.length : Int) < (m : Int) := by omega
      generalize ez : zs[off + ys.length]?.getD 0 = z at *
      have HZ := Lib.hid ez
      clear hlt ez
      go_wp2_with fail
      refine (sub32_fn z c b _ hZ hc hbw).mono ?_
      rintro e w' ⟨rfl, rfl⟩
      go_wp2
      go_ret
      obtain ⟨hq0, hq1, hq2⟩ := sub_parts hZ hc hbw
      have hl' := HL.out
      have hE := HE.out
      rw [List.take_of_length_le (Nat.le_refl ys.length)] at hE
      have hE' := take_last (by omega) (by omega) hE (t := sublo z c b) (b' := subhi z c b) (by rw [← HJ.out _ (Nat.le_refl _), HZ.out]; omega)
      rw [Nat.add_assoc] at hE'
      have hd : (zs.set (off + ys.length) (sublo z c b)).drop (off + (ys.length + 1)) = z0.drop (off + (ys.length + 1)) := drop_of_get fun j hj => by rw [get_set_other (by omega)]; exact HJ.out j (by omega)
      exact ⟨subhi z c b, _, rfl, hq2, hrow.set_ _ _, ok_set hok hq1 _, by simp only [List.length_set]; exact hl', hd, whole_of_take (by omega) (by simp only [List.length_set]; exact hl') hd hE', hbel.setCell (by simp) _, HS.out.set_ _ _⟩
set_option maxHeartbeats 2000000 in
set_option maxRecDepth 100000 in
theorem giveback_any (B : Option Addr) (g off m cap d : Nat) (ys z0 : List Nat) (w : World) (hrow : Row w g z0) (hok : ok32 z0) (h : Dg w B d ys) (hb : ∀ b o, B = some ⟨b, o, none⟩ → b < g) (hm : m = ys.length + 1)
    (hl : z0.length ≤ 4194304) (hoff : off + ys.length < z0.length) :
    Calls Tryd.prog 55 #[.slice (some ⟨g, off, none⟩) m cap, .slice B ys.length d] w fun e w' => ∃ (c : Nat) (zs : List Nat), e = .returned (.tuple #[]) ∧ Row w' g zs ∧ ok32 zs ∧ zs.length = z0.length ∧
      zs.drop (off + (ys.length + 1)) = z0.drop (off + (ys.length + 1)) ∧ val zs + 4294967296 ^ (off + (ys.length + 1)) * c = val z0 + 4294967296 ^ off * val ys ∧ Below g w w' ∧ Rest g w w' := by
  have H := Lib.hid h
  have HB := Lib.hid hb
  have HR := Lib.hid hrow
  have HO := Lib.hid hok
  have HM := Lib.hid hm
  clear h hb hrow hok hm
  go_enter Tryd.func55, Tryd.ntmps55
  go_wp2
  go_loopw [4, 9] (fun bw i wr => ∃ (k c : Nat) (zs : List Nat), k ≤ ys.length ∧ i = .int .i64 k ∧ bw = .int .u32 c ∧ c ≤ 1 ∧ Row wr g zs ∧ Hid (zs.length = z0.length) ∧ ok32 zs ∧ Hid (∀ j, off + k ≤ j → zs[j]? = z0[j]?) ∧
    Hid (val (zs.take (off + k)) + 4294967296 ^ (off + k) * c = val (z0.take (off + k)) + 4294967296 ^ off * (val (ys.take k) * 1)) ∧ Below g w wr ∧ Hid (Rest g w wr)) (fun _ i _ => ys.length - (intOf i).toNat)
  case atStart => exact ⟨0, 0, z0, Nat.zero_le _, rfl, rfl, by omega, HR.out, by simp [Hid], HO.out, by simp [Hid], by simp [Hid, val], Below.refl _ _, Rest.refl _ _⟩
  case round =>
    obtain ⟨k, c, zs, hk, rfl, rfl, hc, hrow, HL, hok, HJ, HE, hbel, HS⟩ := hrel
    by_cases hlt : k < ys.length
    · obtain ⟨bb, o, hB, hbk, hcx⟩ := H.out.2.2 (by omega)
      have hbg := HB.out _ _ hB
      have hy := (hbel.cell (p := ⟨bb, o + k, none⟩) hbg).trans (hcx k (by omega))
      have hY := getD_lt H.out.2.1 k
      have hcell := hrow.cell (i := off + k) (by have := HL.out; omega)
      have hfr := hrow.frozen (off + k)
      have hZ := getD_lt hok (off + k)
      have hkm : k < m := by have := HM.out; omega
      have hkm' : (k : Int) < (m : Int) := by omega
      generalize ez : zs[off + k]?.getD 0 = z at *
      generalize ey : ys[k]?.getD 0 = y at *
      have HZ := Lib.hid ez
      have HY := Lib.hid ey
      clear ez ey hcx
      subst hB
      go_wp2_with fail
      refine (add32_fn z y c _ hZ hY hc).mono ?_
      rintro e w' ⟨rfl, rfl⟩
      go_wp2
      go_roundw
      case rel =>
        have hp := lo_hi (z + y + c)
        have hq := lo_lt (z + y + c)
        have hl' := HL.out
        refine ⟨k + 1, hi (z + y + c), zs.set (off + k) (lo (z + y + c)), hlt, by go_num, rfl, by unfold hi; omega, hrow.set_ _ _, by simp only [List.length_set]; exact HL, ok_set hok hq _, fun j hj => ?_, ?_, ?_, HS.out.set_ _ _⟩
        · rw [get_set_other (by omega)]; exact HJ.out j (by omega)
        · refine row_step (by omega) (by omega) hlt hl' HE.out ?_ rfl
          rw [← HJ.out _ (Nat.le_refl _), HZ.out, HY.out]
          omega
        · exact hbel.setCell (by simp) _
      case measure => simp [intOf]; omega
    · have hk' : k = ys.length := by omega
      subst hk'
      have hcell := hrow.cell (i := off + ys.length) (by have := HL.out; omega)
      have hfr := hrow.frozen (off + ys.length)
      have hZ := getD_lt hok (off + ys.length)
      have hkm : ys.length < m := by have := HM.out; omega
      have hkm' : (ys.length : Int) < (m : Int) := by omega
      generalize ez : zs[off + ys.length]?.getD 0 = z at *
      have HZ := Lib.hid ez
      clear hlt ez
      go_wp2
      go_end0
      have e1 : ((z : Int) + (c : Int)) % 4294967296 = (lo (z + c) : Nat) := by unfold lo; omega
      have hp := lo_hi (z + c)
      have hq := lo_lt (z + c)
      have hl' := HL.out
      have hE := HE.out
      rw [List.take_of_length_le (Nat.le_refl ys.length), Nat.mul_one] at hE
      have hE' := add_last (by omega) (by omega) hE (t := lo (z + c)) (d := hi (z + c)) (by rw [← HJ.out _ (Nat.le_refl _), HZ.out]; omega)
      rw [Nat.add_assoc] at hE'
      have hd : (zs.set (off + ys.length) (lo (z + c))).drop (off + (ys.length + 1)) = z0.drop (off + (ys.length + 1)) := drop_of_get fun j hj => by rw [get_set_other (by omega)]; exact HJ.out j (by omega)
      refine ⟨hi (z + c), zs.set (off + ys.length) (lo (z + c)), rfl, hrow.set_int e1, ok_set hok hq _, by simp only [List.length_set]; exact hl', hd, ?_, hbel.setCell (by simp) _, HS.out.set_ _ _⟩
      rw [val_split (zs.set (off + ys.length) (lo (z + c))) (k := off + (ys.length + 1)) (by simp only [List.length_set]; omega), val_split z0 (k := off + (ys.length + 1)) (by omega), hd]
      omega
end Go.Proofs.YtcciibejachjkaaDoor
end

section
/-
  quo.guess: a quotient's digit, or one more.
-/
namespace Go.Proofs.YtcciibejachjkaaDoor
open Go.RowKit
/-- What the guess leans on: f and s the divisor's first digits, t and x the row's, l the digit. -/
structure Gs (f s t x l : Nat) : Prop where
  hf : 2147483648 ≤ f
  hf' : f < 4294967296
  hs : s < 4294967296
  hx : x < 4294967296
  ht : t < (f + 1) * 4294967296
  hl : l < 4294967296
  start : l ≤ t / f
  down : ∀ d r, d * f + r = t → r * 4294967296 + x < d * s → l + 1 ≤ d
  near : ∀ d r, d * f + r = t → d < 4294967296 → d * s ≤ r * 4294967296 + x → d ≤ l + 1
theorem gs_of {R V : List Nat} {k : Nat} (oR : ok32 R) (oV : ok32 V) (hR : R.length = k + 3) (hV : V.length = k + 2) (hf : 2147483648 ≤ V[k + 1]?.getD 0) (hlt : val R < val V * 4294967296) :
    Gs (V[k + 1]?.getD 0) (V[k]?.getD 0) (R[k + 1]?.getD 0 + 4294967296 * (R[k + 2]?.getD 0)) (R[k]?.getD 0) (val R / val V) := by
  have r1 := val_seen3 oR hR
  have v2 := val_seen2 oV hV
  have v1 := val_seen1 oV (k := k + 1) hV
  have r2 : (R[k + 2]?.getD 0 * 4294967296 + R[k + 1]?.getD 0) * 4294967296 ^ (k + 1) ≤ val R ∧ val R < (R[k + 2]?.getD 0 * 4294967296 + R[k + 1]?.getD 0 + 1) * 4294967296 ^ (k + 1) := val_seen2 oR (k := k + 1) hR
  have hp : 0 < 4294967296 ^ (k + 1) := Nat.pow_pos (by omega)
  have et : R[k + 1]?.getD 0 + 4294967296 * (R[k + 2]?.getD 0) = R[k + 2]?.getD 0 * 4294967296 + R[k + 1]?.getD 0 := by omega
  have hvp : 0 < val V := by
    rcases Nat.eq_zero_or_pos (val V) with h0 | h0
    · rw [h0, Nat.zero_mul] at hlt; omega
    · exact h0
  have hd := Nat.div_mul_le_self (val R) (val V)
  have hu : val R < (val R / val V + 1) * val V := by
    have := Nat.div_add_mod (val R) (val V)
    have := Nat.mod_lt (val R) hvp
    rw [Nat.add_mul, Nat.mul_comm (_ / _)]; omega
  rw [et]
  refine ⟨hf, getD_lt oV _, getD_lt oV _, getD_lt oR _, kn_top r2.1 v1.2 hlt, ?_, kn_start (by omega) r2.2 v1.1 hd, fun d r h1 h2 => kn_down r1.2 v2.1 hd h1 h2, fun d r h1 h2 h3 => kn_near r1.1 v2.2 hu h1 h3 ?_⟩
  · rw [Nat.div_lt_iff_lt_mul hvp, Nat.mul_comm]; exact hlt
  · have := Nat.mul_le_mul_right 4294967296 hf; omega
theorem Gs.small {f s t x l : Nat} (h : Gs f s t x l) {d r : Nat} (e : d * f + r = t) : d < 8589934592 := by
  have h1 := h.ht
  have h2 := Nat.mul_le_mul_left d h.hf
  have h3 := h.hf'
  have h4 : d * 2147483648 ≤ t := by omega
  have h5 := Nat.mul_lt_mul_of_pos_right (show f + 1 < 4294967298 by omega) (show 0 < 4294967296 by omega)
  omega
theorem Gs.down' {f s t x l : Nat} (h : Gs f s t x l) {d r : Nat} (e : d * f + r = t) (hd : 4294967296 ≤ d ∨ r * 4294967296 + x < d * s) : l + 1 ≤ d := by
  rcases hd with hd | hd
  · have := h.hl; omega
  · exact h.down d r e hd
theorem Gs.fin {f s t x l : Nat} (h : Gs f s t x l) {d r : Nat} (e : d * f + r = t) (hl : l ≤ d) (hd : 4294967296 ≤ r ∨ (d < 4294967296 ∧ d * s ≤ r * 4294967296 + x)) : d < 4294967296 ∧ l ≤ d ∧ d ≤ l + 1 := by
  rcases hd with hd | ⟨h1, h2⟩
  · obtain ⟨h1, h2⟩ := kn_past (x := x) h.hs h.ht e hd
    exact ⟨h1, hl, h.near d r e h1 h2⟩
  · exact ⟨h1, hl, h.near d r e h1 h2⟩
theorem step_eq {d f r t : Nat} (e : d * f + r = t) (hd : 1 ≤ d) : (d - 1) * f + (r + f) = t := by
  obtain ⟨c, rfl⟩ : ∃ c, d = c + 1 := ⟨d - 1, by omega⟩
  rw [Nat.add_mul] at e; rw [Nat.add_sub_cancel]; omega
theorem drawn_refl (w : World) : ∃ N, w = w.drewN N := ⟨0, rfl⟩
theorem drawn_drewN {w w' : World} (h : ∃ N, w' = w.drewN N) (k : Nat) : ∃ N, w'.drewN k = w.drewN N := by obtain ⟨N, rfl⟩ := h; exact ⟨N + k, World.drewN_drewN _ _ _⟩
theorem drawn_drew {w w' : World} (h : ∃ N, w' = w.drewN N) : ∃ N, w'.drew = w.drewN N := by obtain ⟨N, rfl⟩ := h; exact ⟨N + 1, rfl⟩
set_option maxHeartbeats 4000000 in
set_option maxRecDepth 100000 in
theorem guess_any (A B : Option Addr) (c d k n m : Nat) (R V : List Nat) (w : World) (h : Dg w A c R) (h' : Dg w B d V) (hn : n = V.length) (hm : m = R.length) (hR : R.length = k + 3) (hV : V.length = k + 2) (hk : k ≤ 4194304) (hf : 2147483648 ≤ V[k + 1]?.getD 0) (hlt : val R < val V * 4294967296) :
    Calls Tryd.prog 53 #[.slice A m c, .slice B n d] w fun e w' => (∃ x : Nat, e = .returned (.int .u32 x) ∧ x < 4294967296 ∧ val R / val V ≤ x ∧ x ≤ val R / val V + 1) ∧ ∃ n, w' = w.drewN n := by
  have G := Lib.hid (gs_of h.2.1 h'.2.1 hR hV hf hlt)
  obtain ⟨a, o, hA, ha, hca⟩ := h.2.2 (by omega)
  obtain ⟨b, p, hB, hb, hcb⟩ := h'.2.2 (by omega)
  have c0 := hca k (by omega)
  have c1 := hca (k + 1) (by omega)
  have c2 := hca (k + 2) (by omega)
  have q0 := hcb k (by omega)
  have q1 := hcb (k + 1) (by omega)
  have b2 := getD_lt h.2.1 (k + 2)
  have b1 := getD_lt h.2.1 (k + 1)
  generalize val R / val V = l at *
  generalize V[k + 1]?.getD 0 = f at *
  generalize V[k]?.getD 0 = s at *
  generalize R[k]?.getD 0 = x at *
  generalize R[k + 1]?.getD 0 = x1 at *
  generalize R[k + 2]?.getD 0 = x2 at *
  have ek : k = n - 2 := by omega
  have ek1 : k + 1 = n - 1 := by omega
  have ek2 : k + 2 = n := by omega
  rw [ek] at c0 q0
  rw [ek1] at c1 q1
  rw [ek2] at c2
  have n2 : 2 ≤ n := by omega
  have nm : n < m := by omega
  have nb : n ≤ 5000000 := by omega
  have b0 : x < 4294967296 := G.out.hx
  have bf : f < 4294967296 := G.out.hf'
  have bs : s < 4294967296 := G.out.hs
  have f0 : 0 < f := by omega
  have f1 : ((f : Int) == 0) = false := beq_eq_false_iff_ne.2 (by omega)
  obtain ⟨t, ht⟩ : ∃ t : Nat, x1 + 4294967296 * x2 = t := ⟨_, rfl⟩
  have hO : bits BinOp.or IntKind.u64 ((x2 : Int) * 4294967296) (x1 : Int) = (t : Int) := by rw [or_join _ _ b2 b1, ht]
  have bt : t < 18446744073709551616 := by omega
  rw [ht] at G
  obtain ⟨d0, hd0⟩ : ∃ d0 : Nat, t / f = d0 := ⟨_, rfl⟩
  obtain ⟨r0, hr0⟩ : ∃ r0 : Nat, t % f = r0 := ⟨_, rfl⟩
  have hw0 : IntKind.u64.wrap ((t : Int) / (f : Int)) = (d0 : Int) := by rw [← hd0, ← Int.natCast_ediv]; exact IntWalk.u64_in _ ⟨by omega, by have := Nat.div_le_self t f; omega⟩
  have hw1 : (t : Int) % (f : Int) = (r0 : Int) := by rw [← hr0, Int.natCast_emod]
  have D0 := Lib.hid (show d0 * f + r0 = t by rw [← hd0, ← hr0, Nat.mul_comm]; exact Nat.div_add_mod t f)
  have R0 := Lib.hid (show r0 < 4294967296 by rw [← hr0]; exact Nat.lt_trans (Nat.mod_lt t f0) bf)
  have Q0 := Lib.hid (show t / f = d0 from hd0)
  clear hd0 hr0
  subst hA hB
  clear h h' hn hm hR hV hk hf hlt hca hcb ek ek1 ek2 ht
  go_enter Tryd.func53, Tryd.ntmps53
  go_wp2
  go_step3
  go_wp2
  go_quiet (fail)
  go_wp2
  go_quiet (fail)
  go_wp2
  go_quiet (fail)
  go_wp2
  go_step3
  go_wp2
  go_loopw [9, 10] (fun dv rv wr => ∃ d r : Nat, dv = .int .u64 d ∧ rv = .int .u64 r ∧ r < 4294967296 ∧ Hid (d * f + r = t) ∧ Hid (l ≤ d) ∧ Hid (∃ N, wr = w.drewN N) ∧ wr.cell? ⟨a, o + (n - 2), none⟩ = some (.int .u32 x)) (fun dv _ _ => (intOf dv).toNat)
  case atStart => exact ⟨d0, r0, rfl, by rw [hw1], by have := R0.out; omega, D0.out, by have := G.out.start; have := Q0.out; show l ≤ d0; omega, by (simp only [Hid]; repeat (first | exact drawn_refl _ | apply drawn_drewN | apply drawn_drew)), c0⟩
  case round =>
    obtain ⟨d, r, rfl, rfl, hr, HE, HL, HW, hcell⟩ := hrel
    have hd := G.out.small HE.out
    by_cases h1 : 4294967295 < d
    · have t1 : decide (4294967295 < (d : Int)) = true := by simp; omega
      have g1 : 1 ≤ d := by omega
      have HD := Lib.hid (G.out.down' HE.out (.inl (by omega)))
      clear h1
      by_cases h2 : 4294967295 < r + f
      · have t2 : decide (4294967295 < (r : Int) + (f : Int)) = true := by simp; omega
        have HF := Lib.hid (G.out.fin (step_eq HE.out g1) (by have := HD.out; omega) (.inl (by omega)))
        have hz : ((d : Int) - 1) % 4294967296 = ((d - 1 : Nat) : Int) := by have := HF.out; omega
        have HZ := Lib.hid hz
        clear h2 hz
        go_wp2
        try rw [Exit.noGoto_ret]
        go_ret
        exact ⟨⟨d - 1, ret_i HZ.out, HF.out.1, HF.out.2⟩, HW.out⟩
      · have t2 : decide (4294967295 < (r : Int) + (f : Int)) = false := by simp; omega
        have HZ := Lib.hid (show (d : Int) - 1 = ((d - 1 : Nat) : Int) by omega)
        go_wp2
        go_roundw
        case rel => exact ⟨d - 1, r + f, by rw [HZ.out], by rw [Int.natCast_add], by omega, step_eq HE.out g1, by have := HD.out; show l ≤ d - 1; omega, HW, hcell⟩
        case measure => simp [intOf]; omega
    · have t1 : decide (4294967295 < (d : Int)) = false := by simp; omega
      have hp0 : 0 ≤ (d : Int) * (s : Int) := by rw [← Int.natCast_mul]; omega
      have hpn : d * s ≤ 18446744065119617025 := Nat.le_trans (Nat.mul_le_mul (show d ≤ 4294967295 by omega) (show s ≤ 4294967295 by omega)) (by decide)
      have hp1 : (d : Int) * (s : Int) ≤ 18446744065119617025 := by rw [← Int.natCast_mul]; omega
      obtain ⟨v, hv⟩ : ∃ v : Nat, x + 4294967296 * r = v := ⟨_, rfl⟩
      have hO2 : bits BinOp.or IntKind.u64 ((r : Int) * 4294967296) (x : Int) = (v : Int) := by rw [or_join _ _ hr b0, hv]
      by_cases h3 : v < d * s
      · have t3 : decide ((v : Int) < (d : Int) * (s : Int)) = true := by rw [decide_eq_true_iff, ← Int.natCast_mul]; omega
        have HD := Lib.hid (G.out.down' HE.out (.inr (by omega)))
        have g1 : 1 ≤ d := by have := HD.out; omega
        clear h1 h3 hv hpn
        by_cases h2 : 4294967295 < r + f
        · have t2 : decide (4294967295 < (r : Int) + (f : Int)) = true := by simp; omega
          have HF := Lib.hid (G.out.fin (step_eq HE.out g1) (by have := HD.out; omega) (.inl (by omega)))
          have hz : ((d : Int) - 1) % 4294967296 = ((d - 1 : Nat) : Int) := by have := HF.out; omega
          have HZ := Lib.hid hz
          clear h2 hz
          go_wp2
          try rw [Exit.noGoto_ret]
          go_ret
          exact ⟨⟨d - 1, ret_i HZ.out, HF.out.1, HF.out.2⟩, HW.out⟩
        · have t2 : decide (4294967295 < (r : Int) + (f : Int)) = false := by simp; omega
          have HZ := Lib.hid (show (d : Int) - 1 = ((d - 1 : Nat) : Int) by omega)
          go_wp2
          go_roundw
          case rel => exact ⟨d - 1, r + f, by rw [HZ.out], by rw [Int.natCast_add], by omega, step_eq HE.out g1, by have := HD.out; show l ≤ d - 1; omega, HW, hcell⟩
          case measure => simp [intOf]; omega
      · have t3 : decide ((v : Int) < (d : Int) * (s : Int)) = false := by rw [decide_eq_false_iff_not, ← Int.natCast_mul]; omega
        have HF := Lib.hid (G.out.fin HE.out HL.out (.inr ⟨by omega, by omega⟩))
        have HZ := Lib.hid (show (d : Int) % 4294967296 = (d : Int) by omega)
        clear h1 h3 hv hpn
        go_wp2
        try rw [Exit.noGoto_ret]
        go_ret
        exact ⟨⟨d, ret_i HZ.out, HF.out.1, HF.out.2⟩, HW.out⟩
end Go.Proofs.YtcciibejachjkaaDoor
end

section
/-
  The divisor moved up until its first bit is 1.
-/
namespace Go.Proofs.YtcciibejachjkaaDoor
open Go.RowKit
theorem bits_le : ∀ (k x : Nat), x < 2 ^ k → blen x ≤ k := by
  intro k
  induction k with
  | zero => intro x h; simp at h; subst h; rw [blen_zero]; omega
  | succ k ih =>
    intro x h
    rcases Nat.eq_zero_or_pos x with h0 | h0
    · subst h0; rw [blen_zero]; omega
    · rw [blen_pos (by omega)]
      have := ih (x / 2) (by rw [Nat.pow_succ] at h; omega)
      omega
theorem norm_way {b : Nat} (hb : b ≠ 0) : ∃ s, s ≤ 31 ∧ blen b + s = 32 * (digs b).length := by
  have h := blen_digs b hb
  have hl : 0 < (digs b).length := by
    rcases Nat.eq_zero_or_pos (digs b).length with h0 | h0
    · exact absurd (digs_nil.1 h0) hb
    · exact h0
  have h1 := bits_le 32 _ (getD_lt (ok_digs b) ((digs b).length - 1))
  have h2 : 1 ≤ blen ((digs b)[(digs b).length - 1]?.getD 0) := by
    have hne : (digs b)[(digs b).length - 1]?.getD 0 ≠ 0 := by
      have e : (digs b)[(digs b).length - 1]? = some (digs b)[(digs b).length - 1] := List.getElem?_eq_getElem (by omega)
      rw [e]
      exact last_digs (by rw [List.getLast?_eq_getElem?, e]; rfl)
    rw [blen_pos hne]; omega
  exact ⟨32 * (digs b).length - blen b, by omega, by omega⟩
theorem norm_top {b s : Nat} (hb : b ≠ 0) (hs : blen b + s = 32 * (digs b).length) : (digs (b * 2 ^ s)).length = (digs b).length ∧ 2147483648 ≤ (digs (b * 2 ^ s))[(digs b).length - 1]?.getD 0 := by
  have hv : b * 2 ^ s ≠ 0 := Nat.mul_ne_zero hb (Nat.pos_iff_ne_zero.1 (Nat.pow_pos (by omega)))
  have h := blen_digs _ hv
  rw [blen_shl s hb, hs] at h
  have h1 := bits_le 32 _ (getD_lt (ok_digs (b * 2 ^ s)) ((digs (b * 2 ^ s)).length - 1))
  have hl : 0 < (digs (b * 2 ^ s)).length := by
    rcases Nat.eq_zero_or_pos (digs (b * 2 ^ s)).length with h0 | h0
    · exact absurd (digs_nil.1 h0) hv
    · exact h0
  have h2 : 1 ≤ blen ((digs (b * 2 ^ s))[(digs (b * 2 ^ s)).length - 1]?.getD 0) := by
    have hne : (digs (b * 2 ^ s))[(digs (b * 2 ^ s)).length - 1]?.getD 0 ≠ 0 := by
      have e : (digs (b * 2 ^ s))[(digs (b * 2 ^ s)).length - 1]? = some (digs (b * 2 ^ s))[(digs (b * 2 ^ s)).length - 1] := List.getElem?_eq_getElem (by omega)
      rw [e]
      exact last_digs (by rw [List.getLast?_eq_getElem?, e]; rfl)
    rw [blen_pos hne]; omega
  have e : (digs (b * 2 ^ s)).length = (digs b).length := by omega
  refine ⟨e, ?_⟩
  rw [← e]
  rcases Nat.lt_or_ge ((digs (b * 2 ^ s))[(digs (b * 2 ^ s)).length - 1]?.getD 0) 2147483648 with h3 | h3
  · have := bits_le 31 _ h3; omega
  · exact h3
/-- The number moved up is below the divisor, moved up, B^(m - n + 1) times. -/
theorem norm_start {a b s : Nat} (hb : b ≠ 0) (hle : (digs b).length ≤ (digs a).length) : a * 2 ^ s < b * 2 ^ s * 4294967296 ^ ((digs a).length - (digs b).length + 1) := by
  have h1 : a < 4294967296 ^ (digs a).length := by have := val_lt (ok_digs a); rwa [val_digs] at this
  have hl : 0 < (digs b).length := by
    rcases Nat.eq_zero_or_pos (digs b).length with h0 | h0
    · exact absurd (digs_nil.1 h0) hb
    · exact h0
  have h2 : 4294967296 ^ ((digs b).length - 1) ≤ b := by
    have hne : (digs b)[(digs b).length - 1]?.getD 0 ≠ 0 := by
      have e : (digs b)[(digs b).length - 1]? = some (digs b)[(digs b).length - 1] := List.getElem?_eq_getElem (by omega)
      rw [e]
      exact last_digs (by rw [List.getLast?_eq_getElem?, e]; rfl)
    have := val_pos_of_get _ _ hne
    rwa [val_digs] at this
  have h3 : a < b * 4294967296 ^ ((digs a).length - (digs b).length + 1) := by
    refine Nat.lt_of_lt_of_le h1 (Nat.le_trans (Nat.le_of_eq ?_) (Nat.mul_le_mul_right _ h2))
    rw [← Nat.pow_add]; congr 1; omega
  rw [Nat.mul_right_comm]
  exact Nat.mul_lt_mul_of_pos_right h3 (Nat.pow_pos (by omega))
theorem div_moved (a b s : Nat) : a * 2 ^ s / (b * 2 ^ s) = a / b := Nat.mul_div_mul_right a b (Nat.pow_pos (by omega))
theorem mod_moved (a b s : Nat) : a * 2 ^ s % (b * 2 ^ s) / 2 ^ s = a % b := by
  rw [Nat.mul_mod_mul_right, Nat.mul_div_cancel _ (Nat.pow_pos (by omega))]
theorem div_done {m v q l : Nat} (e : m = l + v * q) (h : l < v) : q = m / v ∧ l = m % v := by
  subst e
  rw [Nat.add_mul_div_left _ _ (by omega), Nat.add_mul_mod_self_left, Nat.div_eq_of_lt h, Nat.mod_eq_of_lt h]; omega
end Go.Proofs.YtcciibejachjkaaDoor
end

section
/-
  math/bits.Div32; quo.divDigit.
-/
namespace Go.Proofs.YtcciibejachjkaaDoor
open Go.RowKit
set_option maxHeartbeats 1000000 in
set_option maxRecDepth 100000 in
theorem div32_any (x y d : Nat) (w : World) (hx : x < d) (hy : y < 4294967296) (hd : d < 4294967296) :
    Calls Tryd.prog 50 #[.int .u32 x, .int .u32 y, .int .u32 d] w fun e w' => e = .returned (.tuple #[.int .u32 ((y + 4294967296 * x) / d : Nat), .int .u32 ((y + 4294967296 * x) % d : Nat)]) ∧ ∃ n, w' = w.drewN n := by
  have f1 : ((d : Int) == 0) = false := beq_eq_false_iff_ne.2 (by omega)
  have f3 : ((d : Int) != 0) = true := by simp; omega
  have f2 : decide (d ≤ x) = false := by simp; omega
  have f0 : 0 < d := by omega
  have hx' : x < 4294967296 := by omega
  obtain ⟨t, ht⟩ : ∃ t : Nat, y + 4294967296 * x = t := ⟨_, rfl⟩
  have hO : bits BinOp.or IntKind.u64 ((x : Int) * 4294967296) (y : Int) = (t : Int) := by rw [or_join _ _ hx' hy, ht]
  obtain ⟨q, hq⟩ : ∃ q : Nat, t / d = q := ⟨_, rfl⟩
  obtain ⟨r, hr⟩ : ∃ r : Nat, t % d = r := ⟨_, rfl⟩
  have hw0 : IntKind.u64.wrap ((t : Int) / (d : Int)) = (q : Int) := by rw [← hq, ← Int.natCast_ediv]; exact IntWalk.u64_in _ ⟨by omega, by have := Nat.div_le_self t d; omega⟩
  have hw1 : (t : Int) % (d : Int) = (r : Int) := by rw [← hr, Int.natCast_emod]
  have bq : q < 4294967296 := by rw [← hq, Nat.div_lt_iff_lt_mul f0, ← ht]; have := Nat.mul_le_mul_left 4294967296 hx; omega
  have br : r < 4294967296 := by rw [← hr]; exact Nat.lt_trans (Nat.mod_lt t f0) hd
  have bt : t < 18446744073709551616 := by omega
  rw [ht, hq, hr]
  clear ht hq hr hx
  go_enter Tryd.func50, Tryd.ntmps50
  go_wp2
  go_quiet (fail)
  go_wp2
  go_ret2
  exact ⟨ret2 (by omega) (by omega), _, rfl⟩
theorem digit_step {xs zs : List Nat} {k d r q r' : Nat} (hx : k < xs.length) (hz : k < zs.length) (h : val (xs.drop (k + 1)) = val (zs.drop (k + 1)) * d + r) (hq : (xs[k]?.getD 0 + 4294967296 * r) / d = q) (hr : (xs[k]?.getD 0 + 4294967296 * r) % d = r') :
    val (xs.drop k) = val ((zs.set k q).drop k) * d + r' := by
  have e1 : xs.drop k = xs[k]?.getD 0 :: xs.drop (k + 1) := by rw [List.drop_eq_getElem_cons hx, List.getElem?_eq_getElem hx]; rfl
  have e2 : (zs.set k q).drop k = q :: zs.drop (k + 1) := by
    rw [List.drop_eq_getElem_cons (by simpa using hz), List.drop_set_of_lt (by omega)]; simp
  have e3 := Nat.div_add_mod (xs[k]?.getD 0 + 4294967296 * r) d
  rw [hq, hr, Nat.mul_comm] at e3
  rw [e1, e2]
  simp only [val]
  rw [h, Nat.add_mul, Nat.mul_add, Nat.mul_assoc]
  omega
set_option maxHeartbeats 2000000 in
set_option maxRecDepth 100000 in
theorem divdigit_any (A : Option Addr) (c d : Nat) (xs : List Nat) (w : World) (h : Dg w A c xs) (hl : xs.length ≤ 1048576) (hd0 : 0 < d) (hd : d < 4294967296) :
    Calls Tryd.prog 36 #[.slice A xs.length c, .int .u32 d] w fun e w' => ∃ A' c' B' d', e = .returned (.tuple #[.slice A' (digs (val xs / d)).length c', .slice B' (digs (val xs % d)).length d']) ∧ Dg w' A' c' (digs (val xs / d)) ∧ Dg w' B' d' (digs (val xs % d)) ∧ Below w.heap.size w w' := by
  have H := Lib.hid h
  clear h
  have hmk := run_make_row' (P := Tryd.prog) 22 51 (.int .u32 0) 4 Tryd.underlying22 elem_info rfl .i64 .i64 xs.length (by omega) (by omega)
  go_enter Tryd.func36, Tryd.ntmps36
  go_wp2
  go_loopw [6, 7] (fun rv i wr => ∃ (k r : Nat) (z : Int) (zs : List Nat), k ≤ xs.length ∧ i = .int .i64 z ∧ z = (k : Int) - 1 ∧ rv = .int .u32 r ∧ r < d ∧ Row wr w.heap.size zs ∧ Hid (zs.length = xs.length) ∧ ok32 zs ∧
    Hid (val (xs.drop k) = val (zs.drop k) * d + r) ∧ Below w.heap.size w wr) (fun _ i _ => (intOf i + 1).toNat)
  case atStart => exact ⟨xs.length, 0, (xs.length : Int) - 1, List.replicate xs.length 0, Nat.le_refl _, rfl, rfl, rfl, hd0, Row.made _ _, by simp [Hid], ok_zeros _, by simp [Hid, val], (Below.refl _ _).alloc (Nat.le_refl _) _⟩
  case round =>
    obtain ⟨k, r, z, zs, hk, rfl, hz, rfl, hr, hrow, HL, hok, HE, hbel⟩ := hrel
    rcases k with _ | k
    · obtain rfl : z = -1 := by omega
      clear hz hk
      have HV : Hid (val xs / d = val zs ∧ val xs % d = r) := by
        have e := HE.out
        rw [List.drop_zero, List.drop_zero] at e
        rw [e, Nat.mul_comm, Nat.mul_add_div hd0, Nat.mul_add_mod, Nat.div_eq_of_lt hr, Nat.mod_eq_of_lt hr]
        exact ⟨Nat.add_zero _, rfl⟩
      have L0 := Lib.hid ((live_start wr).add (hrow.dg hok (c := xs.length) (by have := HL.out; omega)))
      have hl' := HL.out
      go_wp2_with fail
      refine Calls.mono (trim_l (xs := zs) (x := val xs / d) L0.out (by simp) hl'.symm (by rw [HV.out.1]) (by omega)) ?_
      rintro e w2 ⟨A2, c2, rfl, h2⟩
      have L2 := Lib.hid h2
      clear h2
      have hr64 : r < 18446744073709551616 := by omega
      go_wp2_with fail
      refine Calls.mono (from_l L2.out (i := (r : Int)) (k := r) rfl hr64) ?_
      rintro e w3 ⟨A3, c3, rfl, h3⟩
      have L3 := Lib.hid h3
      clear h3
      go_wp2
      go_ret2
      rw [HV.out.2]
      exact ⟨A2, c2, A3, c3, rfl, L3.out.get (by simp), L3.out.get (by simp), hbel.trans (L3.out.1.mono hbel.size)⟩
    · obtain rfl : z = (k : Int) := by omega
      clear hz
      obtain ⟨b, o, hA, hbk, hcx⟩ := H.out.2.2 (by omega)
      have hy := (hbel.cell (p := ⟨b, o + k, none⟩) hbk).trans (hcx k (by omega))
      have hY := getD_lt H.out.2.1 k
      have hcell := hrow.cell (i := k) (by have := HL.out; omega)
      have hfr := hrow.frozen k
      have hki : (k : Int) < (xs.length : Int) := by omega
      have hki' : k < xs.length := by omega
      generalize ey : xs[k]?.getD 0 = y at *
      have HY := Lib.hid ey
      clear ey hcx
      subst hA
      go_wp2_with fail
      refine (div32_any r y d _ hr hY hd).mono ?_
      rintro e w' ⟨rfl, n, rfl⟩
      obtain ⟨q, hq⟩ : ∃ q : Nat, (y + 4294967296 * r) / d = q := ⟨_, rfl⟩
      obtain ⟨r', hr'⟩ : ∃ r' : Nat, (y + 4294967296 * r) % d = r' := ⟨_, rfl⟩
      have bq : q < 4294967296 := by rw [← hq, Nat.div_lt_iff_lt_mul hd0]; have := Nat.mul_le_mul_left 4294967296 hr; omega
      have br : r' < d := by rw [← hr']; exact Nat.mod_lt _ hd0
      rw [hq, hr']
      have HQ := Lib.hid hq
      have HR := Lib.hid hr'
      clear hq hr'
      go_wp2
      go_roundw
      case rel =>
        have hl' := HL.out
        exact ⟨k, r', (k : Int) - 1, zs.set k q, by omega, rfl, rfl, rfl, br, (hrow.drewN n).set_ _ _, by simp only [List.length_set]; exact HL, ok_set hok bq _, digit_step hki' (by omega) HE.out (by rw [HY.out]; exact HQ.out) (by rw [HY.out]; exact HR.out), (below_drewN hbel n).setCell (by simp) _⟩
      case measure => simp [intOf]
end Go.Proofs.YtcciibejachjkaaDoor
end

section
/-
  quo.divLong.
-/
namespace Go.Proofs.YtcciibejachjkaaDoor
open Go.RowKit
theorem zeros_cells2 (n : Nat) : madeCells #[.int .u32 0] n = (cells (List.replicate n 0)).toArray := by
  apply Array.ext
  · simp [madeCells, cells]
  · intro i h1 h2
    simp [madeCells, cells, Nat.mod_one]
theorem elem_size2 : (Tryd.prog.info? 51).map (·.size) = some 1 := by kernel_rfl
theorem splice_front (xs : List Nat) (n : Nat) : splice (cells (List.replicate n 0)) 0 (cells xs) = cells (xs ++ List.replicate (n - xs.length) 0) := by
  simp [splice, cells, List.map_append]
theorem front_ok {xs : List Nat} (h : ok32 xs) (k : Nat) : ok32 (xs ++ List.replicate k 0) := by
  intro x hx
  rcases List.mem_append.1 hx with hx | hx
  · exact h x hx
  · exact ok_zeros k x hx
theorem front_val (xs : List Nat) (k : Nat) : val (xs ++ List.replicate k 0) = val xs := by rw [val_append, val_zeros]; omega
theorem front_row {w : World} {g n : Nat} {CS XS : List Value} {xs : List Nat} (hg : w.heap[g]? = some (.cells (splice CS 0 XS).toArray 51 (0, 0))) (h1 : CS = cells (List.replicate n 0)) (h2 : XS = cells xs) : Row w g (xs ++ List.replicate (n - xs.length) 0) := by
  subst h1 h2
  rw [splice_front] at hg
  exact hg
theorem run_cut1 {P : Program} {t e : TypeId} {i : TypeInfo} (ht : P.underlying t = some (.slice e)) (hi : P.info? e = some i) (hs : i.size = 1) (g N k m : Nat) (h : k + m + 1 ≤ N) (W : World) :
    (Instr.slice t (.slice (some ⟨g, 0, none⟩) N N) (some (.int .i64 (k : Int))) (some (.int .i64 ((k : Int) + (m : Int) + 1))) none).run P W = .ok (.slice (some ⟨g, k, none⟩) (m + 1) (N - k)) W := by
  have h1 : (0 : Int) ≤ (k : Int) + (m : Int) + 1 := by omega
  have h2 : (k : Int) + (m : Int) + 1 ≤ (N : Int) := by omega
  have h3 : ((k : Int) + (m : Int) + 1).toNat = k + m + 1 := by omega
  have h5 : ¬ (N = k) := by omega
  have h6 : k + m + 1 - k = m + 1 := by omega
  have h7 : ¬ (k + m + 1 < k) := by omega
  simp [Instr.slice, Instr.sliceBounds, run_underlying ht, go_sem, h1, h2, h3, h5, h6, h7, sizeOf, typeInfo, hi, hs]
theorem Row.window {w : World} {g : Nat} {ys : List Nat} (h : Row w g ys) (hk : ok32 ys) {off m c : Nat} (ho : off + m ≤ ys.length) (hc : m ≤ c) : Dg w (some ⟨g, off, none⟩) c ((ys.drop off).take m) := by
  have hl : ((ys.drop off).take m).length = m := by rw [List.length_take, List.length_drop]; omega
  refine ⟨by omega, fun x hx => hk x (List.mem_of_mem_drop (List.mem_of_mem_take hx)), fun _ => ⟨g, off, rfl, h.lt, fun j hj => ?_⟩⟩
  rw [hl] at hj
  rw [h.cell (by omega), List.getElem?_take, if_pos hj, List.getElem?_drop]
/-- What stands between two digits. -/
structure Dv (M v K N k : Nat) (zs qs : List Nat) : Prop where
  zl : zs.length = N + 1
  ql : qs.length = K + 1
  zo : ok32 zs
  qo : ok32 qs
  eq : M = val zs + v * val qs
  lt : val zs < v * 4294967296 ^ k
  zero : ∀ i, i < k → qs[i]?.getD 0 = 0
theorem Dv.row {M v K N k n : Nat} {zs qs : List Nat} (h : Dv M v K N (k + 1) zs qs) (hv : v < 4294967296 ^ n) : val zs < 4294967296 ^ (k + (n + 1)) := by
  have h1 := h.lt
  have h2 : v * 4294967296 ^ (k + 1) ≤ 4294967296 ^ n * 4294967296 ^ (k + 1) := Nat.mul_le_mul_right _ (by omega)
  rw [← Nat.pow_add, show n + (k + 1) = k + (n + 1) by omega] at h2
  omega
theorem Dv.next {M v K N k : Nat} {zs qs zs' : List Nat} (h : Dv M v K N (k + 1) zs qs) (hk : k < K + 1) {l : Nat} (hl : l < 4294967296) (e : val zs' = val zs - 4294967296 ^ k * (v * l)) (hle : 4294967296 ^ k * (v * l) ≤ val zs) (hlt : val zs - 4294967296 ^ k * (v * l) < v * 4294967296 ^ k) (zl : zs'.length = N + 1) (zo : ok32 zs') :
    Dv M v K N k zs' (qs.set k l) := by
  refine ⟨zl, by rw [List.length_set]; exact h.ql, zo, ok_set h.qo hl _, ?_, by rw [e]; exact hlt, fun i hi => by rw [get_set_other (by omega)]; exact h.zero i (by omega)⟩
  rw [val_set_zero _ _ _ (by rw [h.ql]; exact hk) (h.zero k (by omega)), e, h.eq, Nat.mul_add]
  have e1 : v * (4294967296 ^ k * l) = 4294967296 ^ k * (v * l) := by rw [Nat.mul_left_comm]
  rw [e1]
  omega
theorem Dv.took {M v K N k n : Nat} {zs qs V : List Nat} (h : Dv M v K N (k + 1) zs qs) (hk : k < K + 1) (eV : val V = v) (hv0 : 0 < v) (hv : v < 4294967296 ^ n) (hkN : k + (n + 1) ≤ N + 1) {x b : Nat} {zs1 : List Nat} (h1 : val ((zs.drop k).take (n + 1)) / val V ≤ x) (h2 : x ≤ val ((zs.drop k).take (n + 1)) / val V + 1) (hx : x < 4294967296)
    (zo1 : ok32 zs1) (zl1 : zs1.length = zs.length) (zd : zs1.drop (k + (n + 1)) = zs.drop (k + (n + 1))) (he : val zs + 4294967296 ^ (k + (n + 1)) * b = val zs1 + 4294967296 ^ k * (val V * x)) :
    (b = 0 ∧ Dv M v K N k zs1 (qs.set k x)) ∨ (b = 1 ∧ 1 ≤ x ∧ ∀ c zs2, ok32 zs2 → zs2.length = zs1.length → zs2.drop (k + (n + 1)) = zs1.drop (k + (n + 1)) → val zs2 + 4294967296 ^ (k + (n + 1)) * c = val zs1 + 4294967296 ^ k * val V → Dv M v K N k zs2 (qs.set k (x - 1))) := by
  have hr := h.row hv
  have hz := drop_zero (by rw [h.zl]; exact hkN) hr
  rw [val_window h.zo (by rw [h.zl]; exact hkN) hr, eV] at h1 h2
  rw [eV] at he
  have b1 := below_of_drop zo1 (by rw [zl1, h.zl]; exact hkN) (by rw [zd]; exact hz)
  have hvQ : 4294967296 ^ k * v ≤ 4294967296 ^ (k + (n + 1)) := by
    rw [Nat.pow_add]
    refine Nat.mul_le_mul_left _ (Nat.le_trans (Nat.le_of_lt hv) ?_)
    rw [Nat.pow_succ]; omega
  obtain ⟨c1, c2, c3⟩ := div_fix (Nat.pow_pos (by omega)) hv0 rfl h1 h2 hvQ b1 he
  have lx : val zs / 4294967296 ^ k / v < 4294967296 := Nat.lt_of_le_of_lt h1 hx
  rcases c3 with ⟨rfl, rfl, e⟩ | ⟨rfl, e1, e⟩
  · exact .inl ⟨rfl, h.next hk lx e c1 c2 (by rw [zl1]; exact h.zl) zo1⟩
  · refine .inr ⟨rfl, by rw [e1]; exact Nat.succ_pos _, fun c zs2 zo2 zl2 zd2 he2 => ?_⟩
    rw [eV] at he2
    have b2 := below_of_drop zo2 (by rw [zl2, zl1, h.zl]; exact hkN) (by rw [zd2, zd]; exact hz)
    rw [show x - 1 = val zs / 4294967296 ^ k / v by rw [e1]; rfl]
    exact h.next hk lx (e c _ b2 he2) c1 c2 (by rw [zl2, zl1]; exact h.zl) zo2
theorem Row.other {w : World} {g q : Nat} {ys : List Nat} (h : Row w g ys) (hg : g ≠ q) (i : Nat) (v : Value) : Row (w.setCell ⟨q, i, none⟩ v) g ys := ((Rest.refl q w).set_ i v).row h hg
set_option maxHeartbeats 8000000 in
set_option maxRecDepth 100000 in
theorem divlong_any (A B : Option Addr) (c d : Nat) (xs ys : List Nat) (w : World) (h : Dg w A c xs) (h' : Dg w B d ys) (hl : xs.length ≤ 1000000) (h2 : 2 ≤ ys.length) (hle : ys.length ≤ xs.length) (ex : digs (val xs) = xs) (ey : digs (val ys) = ys) :
    Calls Tryd.prog 37 #[.slice A xs.length c, .slice B ys.length d] w fun e w' => ∃ A' c' B' d', e = .returned (.tuple #[.slice A' (digs (val xs / val ys)).length c', .slice B' (digs (val xs % val ys)).length d']) ∧ Dg w' A' c' (digs (val xs / val ys)) ∧ Dg w' B' d' (digs (val xs % val ys)) ∧ Below w.heap.size w w' := by
  have y0 : val ys ≠ 0 := fun e => by rw [e, digs_zero] at ey; rw [← ey] at h2; simp at h2
  obtain ⟨s, hs, es⟩ := norm_way y0
  have ⟨t1, t2⟩ := norm_top y0 es
  have t3 := norm_start (a := val xs) (s := s) y0 (by rw [ex, ey]; exact hle)
  have x0 : val xs ≠ 0 := fun e => by rw [e, digs_zero] at ex; have := congrArg List.length ex; simp at this; omega
  have m0 : val xs * 2 ^ s ≠ 0 := Nat.mul_ne_zero x0 (Nat.pos_iff_ne_zero.1 (Nat.pow_pos (by omega)))
  have ml := digs_shl_len (val xs) s
  have hdiv := div_moved (val xs) (val ys) s
  have hmod := mod_moved (val xs) (val ys) s
  rw [ex] at ml t3
  rw [ey] at t1 t2 t3 es
  have L0 := Lib.hid (((live_start w).add h).add h')
  have ES := Lib.hid es
  obtain ⟨K, hK⟩ : ∃ K, xs.length = ys.length + K := ⟨xs.length - ys.length, by omega⟩
  rw [show xs.length - ys.length + 1 = K + 1 by omega] at t3
  have HK := Lib.hid hK
  have T1 := Lib.hid t1
  clear h h' es hK t1
  go_enter Tryd.func37, Tryd.ntmps37
  go_wp2_with fail
  refine Calls.mono (bits_l (xs := ys) (x := val ys) L0.out (by simp) rfl rfl (by omega) rfl) ?_
  rintro e w1 ⟨rfl, h1⟩
  have L1 := Lib.hid h1
  clear h1
  have hbl : blen (val ys) ≤ 32 * ys.length := by have := ES.out; omega
  go_wp2_with fail
  refine Calls.mono (shl_l (xs := ys) (x := val ys) (k := s) L1.out (by simp) rfl rfl (by omega) (by have := ES.out; omega) (by omega)) ?_
  rintro e w2 ⟨A2, c2, rfl, h1⟩
  have L2 := Lib.hid h1
  clear h1
  go_wp2_with fail
  refine Calls.mono (shl_l (xs := xs) (x := val xs) (k := s) L2.out (by simp) rfl rfl (by omega) (by have := ES.out; omega) (by omega)) ?_
  rintro e w3 ⟨A3, c3, rfl, h1⟩
  have L3 := Lib.hid h1
  clear h1
  have eV : (digs (val ys * 2 ^ s)).length = ys.length := T1.out
  have oV := ok_digs (val ys * 2 ^ s)
  have vV := val_digs (val ys * 2 ^ s)
  have oM := ok_digs (val xs * 2 ^ s)
  have vM := val_digs (val xs * 2 ^ s)
  have hX0 : 0 < (digs (val xs * 2 ^ s)).length := by
    rcases Nat.eq_zero_or_pos (digs (val xs * 2 ^ s)).length with h0 | h0
    · exact absurd (digs_nil.1 h0) m0
    · exact h0
  have hX1 : (digs (val xs * 2 ^ s)).length ≤ xs.length + 1 := by omega
  rw [← eV] at t2 h2 hle
  have HK2 := Lib.hid (show xs.length = (digs (val ys * 2 ^ s)).length + K from by rw [eV]; exact HK.out)
  clear hbl eV T1 HK ml m0 x0 y0
  generalize val ys * 2 ^ s = v at *
  generalize val xs * 2 ^ s = M at *
  obtain ⟨V, hV⟩ : ∃ V, digs v = V := ⟨_, rfl⟩
  rw [hV] at L3 t2 h2 hle oV vV HK2
  rw [hV]
  obtain ⟨X, hX⟩ : ∃ X, digs M = X := ⟨_, rfl⟩
  rw [hX] at L3 hX0 hX1 oM vM
  rw [hX]
  have OV := Lib.hid oV
  have OM := Lib.hid oM
  have VV := Lib.hid vV
  have VM := Lib.hid vM
  have T2 := Lib.hid t2
  have T3 := Lib.hid t3
  have HD := Lib.hid hdiv
  have HM := Lib.hid hmod
  clear oV oM vV vM t2 t3 hdiv hmod hV hX ex ey
  have hmk := run_make_row' (P := Tryd.prog) 22 51 (.int .u32 0) 4 Tryd.underlying22 elem_info rfl .i64 .i64 (xs.length + 1) (by omega) (by omega)
  rw [show ((xs.length + 1 : Nat) : Int) = (xs.length : Int) + 1 by omega, zeros_cells2] at hmk
  obtain ⟨CS, hCS⟩ : ∃ CS, CS = cells (List.replicate (xs.length + 1) 0) := ⟨_, rfl⟩
  obtain ⟨XS, hXS⟩ : ∃ XS, XS = cells X := ⟨_, rfl⟩
  rw [← hCS] at hmk
  have HCS := Lib.hid hCS
  have HXS := Lib.hid hXS
  have hlC : CS.length = xs.length + 1 := by rw [hCS, cells_len, List.length_replicate]
  have hlX : XS.length = X.length := by rw [hXS, cells_len]
  have HF := Lib.hid (show 0 + XS.length ≤ CS.length from by omega)
  have HL := Lib.hid (show XS.length = Nat.min X.length (xs.length + 1) from by rw [hlX]; exact (Nat.min_eq_left hX1).symm)
  have H1 := Lib.hid (show ∀ v ∈ XS, v.oneCell' = true from by rw [HXS.out]; intro u hu; unfold cells at hu; obtain ⟨x, _, rfl⟩ := List.mem_map.1 hu; rfl)
  clear hCS hXS hlC hlX
  have HSZ := Lib.hid (show (w3.alloc (.cells CS.toArray 51)).heap[w3.heap.size]? = some (.cells CS.toArray 51 (0, 0)) from heap_alloc_new w3 _)
  have HPE := Lib.hid (show ∃ ad, A3 = some ad ∧ ∀ j v, XS[j]? = some v → (w3.alloc (.cells CS.toArray 51)).cell? (ad.add j) = some v from by
      have hd : Dg w3 A3 c3 X := L3.out.get (by simp)
      obtain ⟨b, off, hA, hb, hcx⟩ := hd.2.2 hX0
      refine ⟨⟨b, off, none⟩, hA, fun j v hv => ?_⟩
      rw [HXS.out] at hv
      subst hA
      rw [← dg_cell hd hv]
      exact World.cell?_alloc_lt w3 _ _ (by rw [Addr.add_lit]; exact hb))
  have hmk2 := run_make_row' (P := Tryd.prog) 22 51 (.int .u32 0) 4 Tryd.underlying22 elem_info rfl .i64 .i64 (K + 1) (by have := HK2.out; omega) (by have := HK2.out; omega)
  rw [show ((K + 1 : Nat) : Int) = (xs.length : Int) - (V.length : Int) + 1 by have := HK2.out; omega] at hmk2
  have hki : (0 : Int) ≤ (xs.length : Int) - (V.length : Int) := by omega
  go_wp2_with (refine wpList_copy_splice rfl _ _ 22 22 rfl 51 Tryd.underlying22 elem_size2 _ _ _ _ _ _ rfl rfl w3.heap.size 0 CS 51 HSZ.out XS HL.out (fun _ => ⟨rfl, HPE.out⟩) HF.out H1.out w3.heap.size w3 ((Below.refl _ _).alloc (Nat.le_refl _) _) (Nat.le_refl _) ?_; intro w5 HG5 hB5)
  have HB5 := Lib.hid hB5
  have R5 := Lib.hid (front_row HG5.out HCS.out HXS.out)
  have hne : w3.heap.size ≠ w5.heap.size := by have := R5.out.lt; omega
  have HSQ := Lib.hid R5.out.lt
  clear hB5
  obtain ⟨i0, hi0, hz0, hz1, hz2⟩ := info_parts elem_info
  have hv0 : 0 < v := by
    rcases Nat.eq_zero_or_pos v with h0 | h0
    · exfalso; have := T3.out; rw [h0, Nat.zero_mul] at this; omega
    · exact h0
  have HV0 := Lib.hid hv0
  have HVB := Lib.hid (show v < 4294967296 ^ V.length by rw [← VV.out]; exact val_lt OV.out)
  clear hmk hmk2 hz0 hz2 HF HL H1 HSZ HPE hv0 L0 L1 L2
  go_loopw [13] (fun i wr => ∃ (k : Nat) (z : Int) (zs qs : List Nat), k ≤ K + 1 ∧ i = .int .i64 z ∧ z = (k : Int) - 1 ∧ Row wr w3.heap.size zs ∧ Row wr w5.heap.size qs ∧ Hid (Dv M v K xs.length k zs qs) ∧ Hid (Below w3.heap.size w3 wr)) (fun i _ => (intOf i + 1).toNat)
  case atStart =>
    refine ⟨K + 1, _, X ++ List.replicate (xs.length + 1 - X.length) 0, List.replicate (K + 1) 0, Nat.le_refl _, rfl, by have := HK2.out; omega, R5.out.below_ ((Below.refl _ _).alloc (Nat.le_refl _) _), Row.made _ _, ?_, HB5.out.alloc (by have := HSQ.out; omega) _⟩
    refine ⟨by simp; omega, by simp, front_ok OM.out _, ok_zeros _, by rw [front_val, val_zeros, VM.out, Nat.mul_zero, Nat.add_zero], by rw [front_val, VM.out]; exact T3.out, fun i hi => ?_⟩
    rw [List.getElem?_replicate]; split <;> rfl
  case round =>
    obtain ⟨k, z, zs, qs, hk, rfl, hz, hrow, hq, HV, HBel⟩ := hrel
    rcases k with _ | k
    · obtain rfl : z = -1 := by omega
      have hd := div_done HV.out.eq (by have := HV.out.lt; simpa using this)
      have L6 := Lib.hid (((L3.out.step HBel.out).add (hq.dg HV.out.qo (c := K + 1) (by rw [HV.out.ql]; omega))).add (hrow.dg HV.out.zo (c := xs.length + 1) (by rw [HV.out.zl]; omega)))
      have HQ := Lib.hid hd
      have KB := Lib.hid (show K ≤ 1000000 by have := HK2.out; omega)
      clear hd hz hk hrow hq hki
      go_wp2_with fail
      refine Calls.mono (trim_l (xs := qs) (x := val xs / val ys) L6.out (by simp) HV.out.ql.symm (by rw [HQ.out.1]; exact HD.out) (by rw [HV.out.ql]; have := KB.out; omega)) ?_
      rintro e w7 ⟨A7, c7, rfl, h7⟩
      have L7 := Lib.hid h7
      clear h7
      go_wp2_with fail
      refine Calls.mono (shr_l (xs := zs) (x := M % v) (k := s) L7.out (by simp) HV.out.zl.symm HQ.out.2 (by rw [HV.out.zl]; omega) (by have := ES.out; omega) (by omega)) ?_
      rintro e w8 ⟨A8, c8, rfl, h8⟩
      rw [HM.out] at h8
      rw [HM.out]
      have L8 := Lib.hid h8
      clear h8
      go_wp2
      go_ret2
      exact ⟨A7, c7, A8, c8, rfl, L8.out.get (by simp), L8.out.get (by simp), L8.out.1⟩
    · obtain rfl : z = (k : Int) := by omega
      have HN := Lib.hid (show k + (V.length + 1) ≤ xs.length + 1 by have := HK2.out; omega)
      have hkb : k ≤ 1000000 := by have := HN.out; omega
      have hcut := fun W => run_cut1 (P := Tryd.prog) Tryd.underlying22 hi0 hz1 w3.heap.size (xs.length + 1) k V.length (by have := HN.out; omega) W
      have DV := Lib.hid (show Dg wr A2 c2 V from (L3.out.step HBel.out).get (by simp))
      have hAb : ∀ b o, A2 = some ⟨b, o, none⟩ → b < w3.heap.size := by
        intro b o e
        obtain ⟨b', o', e', hlt, _⟩ := (show Dg w3 A2 c2 V from L3.out.get (by simp)).2.2 (by omega)
        rw [e] at e'; injection e' with e'; injection e' with e1 _ _; omega
      have hlen : ((zs.drop k).take (V.length + 1)).length = V.length + 1 := by rw [List.length_take, List.length_drop, HV.out.zl]; have := HN.out; omega
      have HGS := Lib.hid (guess_any (some ⟨w3.heap.size, k, none⟩) A2 (xs.length + 1 - k) c2 (V.length - 2) V.length (V.length + 1) ((zs.drop k).take (V.length + 1)) V wr (hrow.window HV.out.zo (by rw [HV.out.zl]; exact HN.out) (by have := HN.out; omega)) DV.out rfl hlen.symm (by omega) (by omega) (by omega) (by rw [show V.length - 2 + 1 = V.length - 1 by omega]; exact T2.out) (by
        rw [val_window HV.out.zo (by rw [HV.out.zl]; exact HN.out) (HV.out.row HVB.out), VV.out, Nat.div_lt_iff_lt_mul (Nat.pow_pos (by omega)), Nat.mul_assoc, Nat.mul_comm 4294967296, ← Nat.pow_succ]
        exact HV.out.lt))
      have HAB := Lib.hid hAb
      have HR := Lib.hid hrow
      have HQ := Lib.hid hq
      clear hz hki hlen hAb hrow hq
      go_wp2_with fail
      refine HGS.out.mono ?_
      rintro e w6 ⟨⟨x, rfl, hx, hx1, hx2⟩, N6, rfl⟩
      have HX := Lib.hid (And.intro hx1 hx2)
      clear hx1 hx2
      go_wp2_with fail
      refine (takeoff_any A2 w3.heap.size k (V.length + 1) (xs.length + 1 - k) c2 x V zs (wr.drewN N6) (HR.out.drewN N6) HV.out.zo (DV.out.drewN N6) HAB.out rfl (by rw [HV.out.zl]; omega) (by rw [HV.out.zl]; have := HN.out; omega) hx).mono ?_
      rintro e w7 ⟨b, zs1, rfl, hb1, hrow1, zo1, zl1, zd1, he1, hbel1, hrest1⟩
      have HT := Lib.hid (HV.out.took (by omega) VV.out HV0.out HVB.out HN.out HX.out.1 HX.out.2 hx zo1 zl1 zd1 he1)
      have hq1 := hrest1.row (HQ.out.drewN N6) (Ne.symm hne)
      have HB1 := Lib.hid ((below_drewN HBel.out N6).trans hbel1)
      have ZO := Lib.hid zo1
      have ZL := Lib.hid zl1
      have hkq : k < qs.length := by rw [HV.out.ql]; omega
      have hkK : k < K + 1 := by omega
      have hkK' : (k : Int) < (K : Int) + 1 := by omega
      clear zo1 zl1 zd1 he1 hbel1 hrest1 hb1 hk
      rcases HT.out with ⟨rfl, hD⟩ | ⟨rfl, hx1, hD⟩
      · rw [show (((0 : Nat) : Int) == 1) = false from rfl]
        have HD1 := Lib.hid hD
        have hcell := hq1.cell (i := k) hkq
        have hfr := hq1.frozen k
        clear hD hkq
        go_wp2
        go_roundw
        case rel => exact ⟨k, (k : Int) - 1, zs1, qs.set k x, by omega, rfl, rfl, hrow1.other hne _ _, hq1.set_ k x, HD1, (HB1.out).setCell (by have := HSQ.out; simp; omega) _⟩
        case measure => simp [intOf]
      · rw [show (((1 : Nat) : Int) == 1) = true from rfl]
        have HD1 := Lib.hid hD
        have HR1 := Lib.hid hrow1
        have HQ1 := Lib.hid hq1
        clear hD hrow1 hq1
        go_wp2_with fail
        refine (giveback_any A2 w3.heap.size k (V.length + 1) (xs.length + 1 - k) c2 V zs1 w7 HR1.out ZO.out ((show Dg w7 A2 c2 V from (L3.out.step HB1.out).get (by simp))) HAB.out rfl (by rw [ZL.out, HV.out.zl]; omega) (by rw [ZL.out, HV.out.zl]; have := HN.out; omega)).mono ?_
        rintro e w8 ⟨c', zs2, rfl, hrow2, zo2, zl2, zd2, he2, hbel2, hrest2⟩
        have HD2 := Lib.hid (HD1.out c' zs2 zo2 zl2 zd2 he2)
        have hq2 := hrest2.row HQ1.out (Ne.symm hne)
        have HB2 := Lib.hid (HB1.out.trans hbel2)
        have hcell := hq2.cell (i := k) hkq
        have hfr := hq2.frozen k
        clear zo2 zl2 zd2 he2 hbel2 hrest2 hkq
        go_wp2
        go_roundw
        case rel => exact ⟨k, (k : Int) - 1, zs2, qs.set k (x - 1), by omega, rfl, rfl, hrow2.other hne _ _, hq2.set_int (by omega), HD2, (HB2.out).setCell (by have := HSQ.out; simp; omega) _⟩
        case measure => simp [intOf]
end Go.Proofs.YtcciibejachjkaaDoor
end

section
/-
  quo.DivMod.
-/
namespace Go.Proofs.YtcciibejachjkaaDoor
open Go.RowKit
set_option maxHeartbeats 2000000 in
set_option maxRecDepth 100000 in
theorem divmod_no (A B : Option Addr) (c d : Nat) (xs ys : List Nat) (w : World) (h : Dg w A c xs) (h' : Dg w B d ys) (hl : xs.length ≤ 1000000) (hl' : ys.length ≤ 1000000) (hy : val ys = 0) :
    Calls Tryd.prog 22 #[.slice A xs.length c, .slice B ys.length d] w fun e w' => e = .returned (.tuple #[.slice none 0 0, .slice none 0 0, .bool false]) ∧ Below w.heap.size w w' := by
  have L0 := Lib.hid (((live_start w).add h).add h')
  have HY := Lib.hid hy
  clear h h' hy
  go_enter Tryd.func22, Tryd.ntmps22
  go_wp2_with fail
  refine Calls.mono (trim_l (xs := xs) (x := val xs) L0.out (by simp) rfl rfl (by omega)) ?_
  rintro e w1 ⟨A1, c1, rfl, h1⟩
  have L1 := Lib.hid h1
  clear h1
  go_wp2_with fail
  refine Calls.mono (trim_l (xs := ys) (x := 0) L1.out (by simp) rfl HY.out (by omega)) ?_
  rw [digs_zero]
  rintro e w2 ⟨A2, c2, rfl, h1⟩
  have L2 := Lib.hid h1
  clear h1
  go_wp2
  go_ret3
  exact ⟨rfl, L2.out.1⟩
set_option maxHeartbeats 4000000 in
set_option maxRecDepth 100000 in
theorem divmod_any (A B : Option Addr) (c d : Nat) (xs ys : List Nat) (w : World) (h : Dg w A c xs) (h' : Dg w B d ys) (hl : xs.length ≤ 1000000) (hl' : ys.length ≤ 1000000) (hy : val ys ≠ 0) :
    Calls Tryd.prog 22 #[.slice A xs.length c, .slice B ys.length d] w fun e w' => ∃ A' c' B' d', e = .returned (.tuple #[.slice A' (digs (val xs / val ys)).length c', .slice B' (digs (val xs % val ys)).length d', .bool true]) ∧ Dg w' A' c' (digs (val xs / val ys)) ∧ Dg w' B' d' (digs (val xs % val ys)) ∧ Below w.heap.size w w' := by
  have L0 := Lib.hid (((live_start w).add h).add h')
  have l1 := digs_len_le h.2.1
  have l2 := digs_len_le h'.2.1
  have y0 : 0 < (digs (val ys)).length := by
    rcases Nat.eq_zero_or_pos (digs (val ys)).length with h0 | h0
    · exact absurd (digs_nil.1 h0) hy
    · exact h0
  have t0 : (((digs (val ys)).length : Int) == 0) = false := beq_eq_false_iff_ne.2 (by omega)
  have HY := Lib.hid hy
  clear h h' hy
  go_enter Tryd.func22, Tryd.ntmps22
  go_wp2_with fail
  refine Calls.mono (trim_l (xs := xs) (x := val xs) L0.out (by simp) rfl rfl (by omega)) ?_
  rintro e w1 ⟨A1, c1, rfl, h1⟩
  have L1 := Lib.hid h1
  clear h1
  go_wp2_with fail
  refine Calls.mono (trim_l (xs := ys) (x := val ys) L1.out (by simp) rfl rfl (by omega)) ?_
  rintro e w2 ⟨A2, c2, rfl, h1⟩
  have L2 := Lib.hid h1
  clear h1
  have vx := Lib.hid (val_digs (val xs))
  have vy := Lib.hid (val_digs (val ys))
  obtain ⟨q, hq⟩ : ∃ q : Int, cmpi (val xs) (val ys) = q := ⟨_, rfl⟩
  have HC := Lib.hid hq
  go_wp2_with fail
  refine Calls.mono (cmp_l (xs := digs (val xs)) (ys := digs (val ys)) (x := val xs) (y := val ys) L2.out (by simp) (by simp) rfl rfl vx.out vy.out (by omega) (by omega) HC.out) ?_
  rintro e w3 ⟨rfl, h1⟩
  have L3 := Lib.hid h1
  clear h1
  rcases Nat.lt_or_ge (val xs) (val ys) with hlt | hge
  · have d0 : decide (q < 0) = true := by rw [← hq, cmpi_lt hlt]; rfl
    have e0 : val xs / val ys = 0 := Nat.div_eq_of_lt hlt
    have e1 : val xs % val ys = val xs := Nat.mod_eq_of_lt hlt
    have E0 := Lib.hid e0
    have E1 := Lib.hid e1
    clear e0 e1 hlt hq
    go_wp2
    go_ret3
    rw [E0.out, E1.out, digs_zero]
    exact ⟨none, 0, A1, c1, rfl, Dg.nil_ _ _, L3.out.get (by simp), L3.out.1⟩
  · have d0 : decide (q < 0) = false := by
      rw [← hq]
      rcases Nat.eq_or_lt_of_le hge with e | e
      · rw [cmpi_eq e.symm]; rfl
      · rw [cmpi_gt e]; rfl
    have hle := Lib.hid (digs_len_mono _ _ hge)
    clear hq
    by_cases h1 : (digs (val ys)).length = 1
    · have t1 : (((digs (val ys)).length : Int) == 1) = true := by rw [h1]; rfl
      have hY : Dg w3 A2 c2 (digs (val ys)) := L3.out.get (by simp)
      obtain ⟨b, off, hB, hb, hcy⟩ := hY.2.2 y0
      have hc0 := hcy 0 y0
      rw [Nat.add_zero] at hc0
      have e2 : val ys = (digs (val ys))[0]?.getD 0 := by
        rcases hd : digs (val ys) with _ | ⟨z, _ | ⟨z', r⟩⟩
        · rw [hd] at h1; simp at h1
        · have := vy.out; rw [hd] at this; simp only [val] at this; simp; omega
        · rw [hd] at h1; simp at h1
      have b2 : val ys < 4294967296 := by rw [e2]; exact getD_lt (ok_digs _) 0
      rw [← e2] at hc0
      have HG := Lib.hid (divdigit_any A1 c1 (val ys) (digs (val xs)) w3 (L3.out.get (by simp)) (by omega) (by have := HY.out; omega) b2)
      rw [vx.out] at HG
      subst hB
      clear hY hcy e2 h1 hge
      go_wp2_with fail
      refine HG.out.mono ?_
      rintro e w4 ⟨A4, c4, A5, c5, rfl, g4, g5, hb5⟩
      have G4 := Lib.hid g4
      have G5 := Lib.hid g5
      have HB := Lib.hid (L3.out.step hb5)
      clear g4 g5 hb5
      go_wp2
      go_ret3
      exact ⟨A4, c4, A5, c5, rfl, G4.out, G5.out, HB.out.1⟩
    · have t1 : (((digs (val ys)).length : Int) == 1) = false := beq_eq_false_iff_ne.2 (by omega)
      have HG := Lib.hid (divlong_any A1 A2 c1 c2 (digs (val xs)) (digs (val ys)) w3 (L3.out.get (by simp)) (L3.out.get (by simp)) (by omega) (by omega) hle.out (by rw [vx.out]) (by rw [vy.out]))
      rw [vx.out, vy.out] at HG
      clear h1 hge
      go_wp2_with fail
      refine HG.out.mono ?_
      rintro e w4 ⟨A4, c4, A5, c5, rfl, g4, g5, hb5⟩
      have G4 := Lib.hid g4
      have G5 := Lib.hid g5
      have HB := Lib.hid (L3.out.step hb5)
      clear g4 g5 hb5
      go_wp2
      go_ret3
      exact ⟨A4, c4, A5, c5, rfl, G4.out, G5.out, HB.out.1⟩
section
variable {w0 w w' : World} {L : List (Option Addr × Nat × List Nat)} {A B : Option Addr} {c d n m : Nat} {xs ys : List Nat} {x y : Nat}
theorem divmod_l (hL : Live w0 w L) (h1 : (A, c, xs) ∈ L) (h2 : (B, d, ys) ∈ L) (hn : n = xs.length) (hm : m = ys.length) (hx : val xs = x) (hy : val ys = y) (b1 : xs.length ≤ 1000000) (b2 : ys.length ≤ 1000000) (y0 : y ≠ 0) :
    Calls Tryd.prog 22 #[.slice A n c, .slice B m d] w fun e w' => ∃ A' c' B' d', e = .returned (.tuple #[.slice A' (digs (x / y)).length c', .slice B' (digs (x % y)).length d', .bool true]) ∧ Live w0 w' ((B', d', digs (x % y)) :: (A', c', digs (x / y)) :: L) := by
  subst hn hm hx hy
  exact (divmod_any A B c d xs ys w (hL.get h1) (hL.get h2) b1 b2 y0).mono fun e w' ⟨A', c', B', d', he, hd, hd', hb⟩ => ⟨A', c', B', d', he, ((hL.step hb).add hd).add hd'⟩
theorem divmod_l_no (hL : Live w0 w L) (h1 : (A, c, xs) ∈ L) (h2 : (B, d, ys) ∈ L) (hn : n = xs.length) (hm : m = ys.length) (hy : val ys = 0) (b1 : xs.length ≤ 1000000) (b2 : ys.length ≤ 1000000) :
    Calls Tryd.prog 22 #[.slice A n c, .slice B m d] w fun e w' => e = .returned (.tuple #[.slice none 0 0, .slice none 0 0, .bool false]) ∧ Live w0 w' L := by
  subst hn hm
  exact (divmod_no A B c d xs ys w (hL.get h1) (hL.get h2) b1 b2 hy).mono fun e w' ⟨he, hb⟩ => ⟨he, hL.step hb⟩
end
end Go.Proofs.YtcciibejachjkaaDoor
end

section
/-
  zint.Div.
-/
namespace Go.Proofs.YtcciibejachjkaaDoor
open Go.RowKit
theorem cells_of {w : World} {g : Nat} {cs : Array Value} {t : TypeId} {fr : Nat × Nat} (hg : w.heap[g]? = some (.cells cs t fr)) {w' : World} (hb : Below w.heap.size w w') : w'.heap[g]? = some (.cells cs t fr) := (hb.block g (heap_lt hg)).trans hg
/-- Quotient and rest, rounded down. -/
theorem fd_same {t : Bool} {x y : Nat} : sg false (x / y) = Int.fdiv (sg t x) (sg t y) ∧ sg t (x % y) = Int.fmod (sg t x) (sg t y) := by
  have e1 : Int.fdiv (x : Int) (y : Int) = ((x / y : Nat) : Int) := by rw [Int.fdiv_eq_ediv_of_nonneg _ (by omega)]; exact (Int.natCast_ediv x y).symm
  have e2 : Int.fmod (x : Int) (y : Int) = ((x % y : Nat) : Int) := by rw [Int.fmod_eq_emod_of_nonneg _ (by omega)]; exact (Int.natCast_emod x y).symm
  cases t
  · exact ⟨e1.symm, e2.symm⟩
  · simp only [sg, if_true, Bool.false_eq_true, if_false]
    have f1 : Int.fdiv (-(x : Int)) (-(y : Int)) = Int.fdiv x y := by rw [Int.neg_fdiv_neg]
    have f2 := Int.mul_fdiv_add_fmod (-(x : Int)) (-(y : Int))
    have f3 := Int.mul_fdiv_add_fmod (x : Int) (y : Int)
    rw [f1, e1] at f2
    rw [e1, e2] at f3
    rw [f1, e1]
    refine ⟨rfl, ?_⟩
    rw [Int.neg_mul] at f2
    omega
theorem fd_exact {t1 t2 : Bool} (h : (t1 != t2) = true) {x y : Nat} (hy : y ≠ 0) (hk : x % y = 0) : sg true (x / y) = Int.fdiv (sg t1 x) (sg t2 y) ∧ sg t2 (x % y) = Int.fmod (sg t1 x) (sg t2 y) := by
  obtain ⟨k, rfl⟩ : ∃ k, x = y * k := ⟨x / y, by have := Nat.div_add_mod x y; omega⟩
  rw [Nat.mul_div_cancel_left _ (by omega), Nat.mul_mod_right]
  have hy' : (y : Int) ≠ 0 := by omega
  have hy2 : -(y : Int) ≠ 0 := by omega
  have s0 : sg t2 0 = 0 := by unfold sg; cases t2 <;> rfl
  rw [s0]
  have key : sg t1 (y * k) = sg t2 y * (-(k : Int)) := by
    unfold sg; cases t1 <;> cases t2 <;> simp at h ⊢ <;> simp [Int.mul_neg, Int.neg_mul]
  have hne : sg t2 y ≠ 0 := by unfold sg; cases t2 <;> simp <;> omega
  rw [key, Int.mul_fdiv_cancel_left _ hne]
  refine ⟨by unfold sg; simp, ?_⟩
  have := Int.mul_fdiv_add_fmod (sg t2 y * (-(k : Int))) (sg t2 y)
  rw [Int.mul_fdiv_cancel_left _ hne] at this
  omega
theorem fd_more {t1 t2 : Bool} (h : (t1 != t2) = true) {x y : Nat} (hy : y ≠ 0) (hk : x % y ≠ 0) : sg true (x / y + 1) = Int.fdiv (sg t1 x) (sg t2 y) ∧ sg t2 (y - x % y) = Int.fmod (sg t1 x) (sg t2 y) := by
  have hd := Nat.div_add_mod x y
  have hlt := Nat.mod_lt x (Nat.pos_of_ne_zero hy)
  generalize x / y = q at *
  generalize x % y = r at *
  subst hd
  have key : ∀ (a b qq rr : Int), b ≠ 0 → a = b * qq + rr → ((0 ≤ rr ∧ rr < b) ∨ (b < rr ∧ rr ≤ 0)) → qq = Int.fdiv a b ∧ rr = Int.fmod a b := by
    intro a b qq rr hb e hr
    subst e
    have e1 : Int.fdiv (b * qq + rr) b = qq + Int.fdiv rr b := by rw [Int.add_comm, Int.add_mul_fdiv_left _ _ hb, Int.add_comm]
    have e2 : Int.fdiv rr b = 0 := by
      rcases hr with ⟨h1, h2⟩ | ⟨h1, h2⟩
      · rw [Int.fdiv_eq_ediv_of_nonneg _ (by omega)]; exact Int.ediv_eq_zero_of_lt h1 h2
      · rw [← Int.neg_fdiv_neg, Int.fdiv_eq_ediv_of_nonneg _ (by omega)]; exact Int.ediv_eq_zero_of_lt (by omega) (by omega)
    have e3 := Int.mul_fdiv_add_fmod (b * qq + rr) b
    rw [e1, e2, Int.add_zero] at e3
    exact ⟨by rw [e1, e2, Int.add_zero], by omega⟩
  have hr1 : ((y - r : Nat) : Int) = (y : Int) - (r : Int) := by omega
  cases t1 <;> cases t2 <;> simp at h
  · simp only [sg, if_true, Bool.false_eq_true, if_false]
    refine key _ _ _ _ (by omega) ?_ (by omega)
    rw [hr1]; push_cast; rw [Int.neg_mul_neg, Int.mul_add]; omega
  · simp only [sg, if_true, Bool.false_eq_true, if_false]
    refine key _ _ _ _ (by omega) ?_ (by omega)
    rw [hr1]; push_cast; rw [Int.mul_neg, Int.mul_add]; omega
theorem len_ne {n : Nat} (h : n ≠ 0) : ((n : Int) == 0) = false := by simp [h]
theorem below4 (w : World) (o1 o2 o3 o4 : Obj) : Below w.heap.size w ((((w.alloc o1).alloc o2).alloc o3).alloc o4) := (below3 w o1 o2 o3).alloc (by simp; omega) _
/-- Two whole numbers, and true. -/
def Zr2 (q r : Int) (w : World) (e : Ending) (w' : World) : Prop := ∃ A c B d, e = .returned (.tuple #[.agg #[.bool (decide (q < 0)), .slice A (digs q.natAbs).length c], .agg #[.bool (decide (r < 0)), .slice B (digs r.natAbs).length d], .bool true]) ∧ Dg w' A c (digs q.natAbs) ∧ Dg w' B d (digs r.natAbs) ∧ Below w.heap.size w w'
theorem zr2_give {w w' : World} {A B : Option Addr} {c d m k : Nat} {t u : Bool} {q r : Int} (hq : sg t m = q) (hr : sg u k = r) (hd : Dg w' A c (digs m)) (hd' : Dg w' B d (digs k)) (hb : Below w.heap.size w w') :
    Zr2 q r w (.returned (.tuple #[.agg #[.bool (t && decide (m ≠ 0)), .slice A (digs m).length c], .agg #[.bool (u && decide (k ≠ 0)), .slice B (digs k).length d], .bool true])) w' := by
  have e1 := sg_neg t m
  have e2 := sg_abs t m
  have e3 := sg_neg u k
  have e4 := sg_abs u k
  rw [hq] at e1 e2
  rw [hr] at e3 e4
  rw [e1, e3]
  subst e2 e4
  exact ⟨A, c, B, d, rfl, hd, hd', hb⟩
set_option maxHeartbeats 4000000 in
set_option maxRecDepth 100000 in
theorem zdiv_no (A B : Option Addr) (c d : Nat) (s r : Bool) (xs ys : List Nat) (w : World) (h : Dg w A c xs) (h' : Dg w B d ys) (hl : xs.length ≤ 500000) (hl' : ys.length ≤ 500000) (hy : val ys = 0) :
    Calls Tryd.prog 14 #[.agg #[.bool s, .slice A xs.length c], .agg #[.bool r, .slice B ys.length d]] w fun e w' => e = .returned (.tuple #[.agg #[.bool false, .slice none 0 0], .agg #[.bool false, .slice none 0 0], .bool false]) ∧ Below w.heap.size w w' := by
  have HY := Lib.hid hy
  clear hy
  have l1 := digs_len_le h.2.1
  have l2 := digs_len_le h'.2.1
  obtain ⟨t1, ht1⟩ : ∃ t, (s && decide (0 < val xs)) = t := ⟨_, rfl⟩
  obtain ⟨t2, ht2⟩ : ∃ t, (r && decide (0 < val ys)) = t := ⟨_, rfl⟩
  have TA := Lib.hid (fun W h => take_any A c s xs W h (by omega))
  have TB := Lib.hid (fun W h => take_any B d r ys W h (by omega))
  have E1 := Lib.hid (sg_take s (val xs))
  have E2 := Lib.hid (sg_take r (val ys))
  rw [ht1] at TA E1
  rw [ht2] at TB E2
  have HT1 := Lib.hid ht1
  have HT2 := Lib.hid ht2
  clear ht1 ht2
  go_enter Tryd.func14, Tryd.ntmps14
  go_upto_region 1 with fail
  have HB0 := Lib.hid (below4 w (.cells #[.bool s, .slice A xs.length c] 24) (.cells #[.bool r, .slice B ys.length d] 24) (.cells #[.bool false, .slice none 0 0] 24) (.cells #[.bool false, .slice none 0 0] 24))
  obtain ⟨W, hW⟩ : ∃ W : World, W = ((((w.alloc (.cells #[.bool s, .slice A xs.length c] 24)).alloc (.cells #[.bool r, .slice B ys.length d] 24)).alloc (.cells #[.bool false, .slice none 0 0] 24)).alloc (.cells #[.bool false, .slice none 0 0] 24)) := ⟨_, rfl⟩
  have F0 : W.cell? ⟨w.heap.size, 0, none⟩ = some (.bool s) ∧ W.cell? ⟨w.heap.size, 1, none⟩ = some (.slice A xs.length c) ∧ W.cell? ⟨w.heap.size + 1, 0, none⟩ = some (.bool r) ∧ W.cell? ⟨w.heap.size + 1, 1, none⟩ = some (.slice B ys.length d) := by
    rw [hW]
    refine ⟨?_, ?_, ?_, ?_⟩ <;> go_simp
  rw [← hW] at HB0
  rw [← hW]
  have H1 := Lib.hid (h.below HB0.out)
  have H2 := Lib.hid (h'.below HB0.out)
  have hsz : W.heap.size = w.heap.size + 4 := by rw [hW]; simp
  have HR0 := Lib.hid (show W.heap[w.heap.size + 1 + 1]? = some (.cells #[.bool false, .slice none 0 0] 24 (0, 0)) by rw [hW]; have := heap_alloc_new ((w.alloc (.cells #[.bool s, .slice A xs.length c] 24)).alloc (.cells #[.bool r, .slice B ys.length d] 24)) (.cells #[.bool false, .slice none 0 0] 24); rw [heap_alloc_old _ _ (by simp)]; simpa using this)
  have HR1 := Lib.hid (show W.heap[w.heap.size + 1 + 1 + 1]? = some (.cells #[.bool false, .slice none 0 0] 24 (0, 0)) by rw [hW]; have := heap_alloc_new (((w.alloc (.cells #[.bool s, .slice A xs.length c] 24)).alloc (.cells #[.bool r, .slice B ys.length d] 24)).alloc (.cells #[.bool false, .slice none 0 0] 24)) (.cells #[.bool false, .slice none 0 0] 24); simpa using this)
  have HW := Lib.hid hW
  clear hW h h'
  have S0 : w.heap.size < W.heap.size := by omega
  have S1 : w.heap.size + 1 < W.heap.size := by omega
  have HZ := Lib.hid hsz
  clear hsz
  refine two_calls (W := W) rfl 13 14 15 16 7 8 (.agg #[.bool s, .slice A xs.length c]) (.agg #[.bool r, .slice B ys.length d])
    (fun u w' => ∃ A' c', u = .agg #[.slice A' (digs (val xs)).length c', .bool t1] ∧ Dg w' A' c' (digs (val xs)))
    (fun u w' => ∃ A' c', u = .agg #[.slice A' (digs (val ys)).length c', .bool t2] ∧ Dg w' A' c' (digs (val ys)))
    #[.slice none 0 0, .bool false] 46 (fun | .agg us => us | _ => #[])
    rfl (by kernel_rfl) (by kernel_rfl) (by decide) (by kernel_rfl) noint2 ?_ ?_ ?_ ?_ ?_ ?_ ?_ ?_ ?_ ?_ (bd0 W) ?_
  · rintro u w1 w2 ⟨A', c', rfl, hd⟩ hk; exact ⟨A', c', rfl, hd.kept hk⟩
  · rintro u w1 w2 ⟨A', c', rfl, hd⟩ hk; exact ⟨A', c', rfl, hd.kept hk⟩
  · intro a v K hF hb hK
    simp only [wpOp, List.getElem?_toArray, List.getElem?_cons_zero, Region.wanted, if_true]
    refine Or.inl ?_
    have e : a.eval (.tmp 2) = .pointer (some ⟨w.heap.size, 0, none⟩) := hF.2.2 2 (by decide)
    obtain ⟨hc, _⟩ := bcell hb
    simp only [Oper.wp, execOp]
    rw [e]
    go_simp
    exact hK
  · intro a v K hF hb hK
    simp only [wpOp, List.getElem?_toArray, List.getElem?_cons_succ, List.getElem?_cons_zero, Region.wanted, if_true]
    refine Or.inl ?_
    have e : a.eval (.tmp 3) = .pointer (some ⟨w.heap.size + 1, 0, none⟩) := hF.2.2 3 (by decide)
    obtain ⟨hc, _⟩ := bcell hb
    simp only [Oper.wp, execOp]
    rw [e]
    go_simp
    exact hK
  · intro a v K hF hb h1 hK
    simp only [wpOp, List.getElem?_toArray, List.getElem?_cons_succ, List.getElem?_cons_zero, Region.wanted, if_true]
    refine Or.inl ?_
    have e : a.eval (.tmp 13) = .agg #[.bool s, .slice A xs.length c] := h1
    simp only [Oper.wp, execOp]
    go_simp
    refine (TA.out v (H1.out.below hb)).mono ?_
    rintro e w1 ⟨A', c', rfl, hd, hbb⟩
    exact hK _ _ ⟨A', c', rfl, hd⟩ hbb
  · intro a v K hF hb h1 hK
    simp only [wpOp, List.getElem?_toArray, List.getElem?_cons_succ, List.getElem?_cons_zero, Region.wanted, if_true]
    refine Or.inl ?_
    have e : a.eval (.tmp 15) = .agg #[.bool r, .slice B ys.length d] := h1
    simp only [Oper.wp, execOp]
    go_simp
    refine (TB.out v (H2.out.below hb)).mono ?_
    rintro e w1 ⟨A', c', rfl, hd, hbb⟩
    exact hK _ _ ⟨A', c', rfl, hd⟩ hbb
  · intro a v K hF hK
    simp only [wpOp, List.getElem?_toArray, List.getElem?_cons_succ, List.getElem?_cons_zero, Region.wanted, if_true]
    refine Or.inl ?_
    simp only [Oper.wp, execOp]
    go_simp
    exact hK
  · intro a v K hF hK
    simp only [wpOp, List.getElem?_toArray, List.getElem?_cons_succ, List.getElem?_cons_zero, Region.wanted, if_true]
    refine Or.inl ?_
    simp only [Oper.wp, execOp]
    go_simp
    exact hK
  · intro a v K g u hF hx hc hR hg hK
    simp only [wpOp, List.getElem?_toArray, List.getElem?_cons_succ, List.getElem?_cons_zero, Region.wanted, if_true]
    refine Or.inl ?_
    obtain ⟨A', c', rfl, hd⟩ := hR
    have e : a.eval (.tmp 7) = .pointer (some ⟨g, 0, none⟩) := hx
    have e' : a.eval (.tmp 14) = _ := hc
    simp only [Oper.wp, execOp]
    rw [e, e']
    have f0 := cell_of_row v g 0 _ _ _ hg
    have f1 := cell_of_row v g 1 _ _ _ hg
    have z0 := frozen_of_row v g 0 _ _ hg
    have z1 := frozen_of_row v g 1 _ _ hg
    go_simp
    exact hK _ (heap_setCell_same _ _ 1 _ _ _ (heap_setCell_same _ _ 0 _ _ _ hg)) (((Only.refl g v).setCell 0 _).setCell 1 _)
  · intro a v K g u hF hx hc hR hg hK
    simp only [wpOp, List.getElem?_toArray, List.getElem?_cons_succ, List.getElem?_cons_zero, Region.wanted, if_true]
    refine Or.inl ?_
    obtain ⟨A', c', rfl, hd⟩ := hR
    have e : a.eval (.tmp 8) = .pointer (some ⟨g, 0, none⟩) := hx
    have e' : a.eval (.tmp 16) = _ := hc
    simp only [Oper.wp, execOp]
    rw [e, e']
    have f0 := cell_of_row v g 0 _ _ _ hg
    have f1 := cell_of_row v g 1 _ _ _ hg
    have z0 := frozen_of_row v g 0 _ _ hg
    have z1 := frozen_of_row v g 1 _ _ hg
    go_simp
    exact hK _ (heap_setCell_same _ _ 1 _ _ _ (heap_setCell_same _ _ 0 _ _ _ hg)) (((Only.refl g v).setCell 0 _).setCell 1 _)
  · intro a v g1 g2 u1 u2 hF hb h1 h2 hne
    obtain ⟨hl1, hc1, hx1⟩ := h1
    obtain ⟨hl2, hc2, hx2⟩ := h2
    obtain ⟨ec1, A1, c1, rfl, hd1⟩ := hc1 rfl
    obtain ⟨ec2, A2, c2, rfl, hd2⟩ := hc2 rfl
    obtain ⟨ex1, hg1, hs1, hh1⟩ := hx1 rfl
    obtain ⟨ex2, hg2, hs2, hh2⟩ := hx2 rfl
    rw [hF.eq (by kernel_rfl) (hl1 rfl) ec1 (hl2 rfl) ec2 ex1 ex2]
    simp only [if_true] at hh1 hh2
    have HH := Lib.hid (And.intro hh1 hh2)
    have HF := Lib.hid (And.intro (cell_of_row v g1 0 _ _ _ hh1) (And.intro (cell_of_row v g1 1 _ _ _ hh1) (And.intro (cell_of_row v g2 0 _ _ _ hh2) (cell_of_row v g2 1 _ _ _ hh2))))
    have KB := Lib.hid hb
    have D1 := Lib.hid hd1
    have D2 := Lib.hid hd2
    clear hF hb hl1 hc1 hx1 hl2 hc2 hx2 ec1 ec2 ex1 ex2 hh1 hh2 hd1 hd2 hne
    simp only [Act.put, List.setIfInBounds_toArray, List.set_cons_zero, List.set_cons_succ]
    clear TA TB
    have KC := Lib.hid (HB0.out.trans (KB.out.mono HB0.out.size))
    have z1 : (w.heap.size + 1 + 1 : Nat) < v.heap.size := by have := HZ.out; have := KB.out.size; omega
    have z2 : (w.heap.size + 1 + 1 + 1 : Nat) < v.heap.size := by have := HZ.out; have := KB.out.size; omega
    have f1 := HF.out.1
    have f2 := HF.out.2.1
    have f3 := HF.out.2.2.1
    have f4 := HF.out.2.2.2
    simp only [List.getElem?_toArray, List.getElem?_cons_zero, List.getElem?_cons_succ] at f1 f2 f3 f4
    go_wp2_with fail
    refine (divmod_no A1 A2 c1 c2 (digs (val xs)) (digs (val ys)) _ D1.out D2.out (by omega) (by omega) (by rw [val_digs]; exact HY.out)).mono ?_
    rintro e v1 ⟨rfl, hb⟩
    have K1 := Lib.hid (KB.out.trans (hb.mono KB.out.size))
    clear hb f1 f2 f3 f4
    have q0 := row_cell HR0.out K1.out 0
    have q1 := row_cell HR0.out K1.out 1
    have q2 := row_cell HR1.out K1.out 0
    have q3 := row_cell HR1.out K1.out 1
    have p0 := row_frozen HR0.out K1.out 0
    have p1 := row_frozen HR0.out K1.out 1
    have p2 := row_frozen HR1.out K1.out 0
    have p3 := row_frozen HR1.out K1.out 1
    simp only [List.getElem?_toArray, List.getElem?_cons_zero, List.getElem?_cons_succ] at q0 q1 q2 q3
    go_wp2
    refine bodyPost_ret (v := .tuple #[.agg #[.bool false, .slice none 0 0], .agg #[.bool false, .slice none 0 0], .bool false]) (by simp [results, Tryd.results14, go_sem, q0, q1, q2, q3]) rfl ⟨rfl, ?_⟩
    exact (((((HB0.out.trans (K1.out.mono HB0.out.size)).setCell (by simp; omega) _).setCell (by simp; omega) _).setCell (by simp; omega) _).setCell (by simp; omega) _)
end Go.Proofs.YtcciibejachjkaaDoor
end

section
/-
  A row of one's own, later.
-/
namespace Go.Proofs.YtcciibejachjkaaDoor
open Go.RowKit
theorem own_later {w w' : World} {base size n : Nat} {e : TypeId} {v : Value} {xs : List Value} (h : w.ownsRow base e size v n xs) (hb : Below w.heap.size w w') : w'.ownsRow base e size v n xs := by
  refine ⟨h.1, ?_⟩
  rcases h.2 with h1 | ⟨g, cap, cur, hv, hg, hc, rest⟩
  · exact .inl h1
  · exact .inr ⟨g, cap, cur, hv, hg, (hb.block g (heap_lt hc)).trans hc, rest⟩
end Go.Proofs.YtcciibejachjkaaDoor
end

section
/-
  zint.Take.
-/
namespace Go.Proofs.YtcciibejachjkaaDoor
open Go.RowKit
/-- A byte of a text. -/
def Bt (l : List UInt8) (i : Nat) : Nat := (l[i]?.getD 0).toNat
theorem bt_lt (l : List UInt8) (i : Nat) : Bt l i < 256 := UInt8.toNat_lt _
theorem bt_get (s : ByteArray) (i : Nat) (h : i < s.size) : (s[i]'h).toNat = Bt s.data.toList i := by
  have h' : i < s.data.toList.length := by simpa using h
  unfold Bt
  rw [List.getElem?_eq_getElem h']
  rfl
theorem bt_drop (l : List UInt8) (n i : Nat) : Bt (l.drop n) i = Bt l (n + i) := by unfold Bt; rw [List.getElem?_drop]
def hd2 (l : List UInt8) : Nat := Bt l 0 * 256 + Bt l 1
def u4 (l : List UInt8) (k : Nat) : Nat := Bt l k + 256 * Bt l (k + 1) + 65536 * Bt l (k + 2) + 16777216 * Bt l (k + 3)
def rdn (l : List UInt8) : Nat → List Nat
  | 0 => []
  | n + 1 => rdn l n ++ [u4 l (2 + 4 * n)]
theorem rdn_len (l : List UInt8) : ∀ n, (rdn l n).length = n
  | 0 => rfl
  | n + 1 => by simp [rdn, rdn_len l n]
theorem u4_lt (l : List UInt8) (k : Nat) : u4 l k < 4294967296 := by
  have h0 := bt_lt l k
  have h1 := bt_lt l (k + 1)
  have h2 := bt_lt l (k + 2)
  have h3 := bt_lt l (k + 3)
  unfold u4; omega
theorem rdn_ok (l : List UInt8) : ∀ n, ok32 (rdn l n)
  | 0 => fun _ h => by simp [rdn] at h
  | n + 1 => fun x h => by
    rcases List.mem_append.1 h with h | h
    · exact rdn_ok l n x h
    · rw [List.mem_singleton.1 h]; exact u4_lt _ _
theorem i64_or_nat (a b : Nat) (ha : a < 4294967296) (hb : b < 4294967296) : bits .or .i64 (a : Int) (b : Int) = ((a ||| b : Nat) : Int) := by
  have hx : a ||| b < 2 ^ 32 := Nat.or_lt_two_pow (by omega) (by omega)
  show IntKind.i64.wrap ((BitVec.ofInt 64 (a : Int) ||| BitVec.ofInt 64 (b : Int)).toNat : Int) = _
  rw [BitVec.toNat_or, ofInt_u64 a (by omega), ofInt_u64 b (by omega)]
  exact IntWalk.i64_in _ ⟨by omega, by omega⟩
theorem ext_drop (s : ByteArray) (n : Nat) : s.extract n s.size = ⟨(s.data.toList.drop n).toArray⟩ := by
  apply ByteArray.ext
  apply Array.toList_inj.1
  rw [Lib.extract_data]
  simp
  rw [List.take_of_length_le]
  simp
theorem head_or {b0 b1 h : Nat} (l0 : b0 < 256) (l1 : b1 < 256) (hH : b0 * 256 + b1 = h) : bits BinOp.or IntKind.i64 ((b0 : Int) * 256) (b1 : Int) = (h : Int) := by
  have e : (b0 : Int) * 256 = ((b0 * 256 : Nat) : Int) := by omega
  have e2 : b0 * 256 ||| b1 = h := by rw [← hH]; exact nat_join 8 _ _ (by omega) (by omega)
  rw [e, i64_or_nat _ _ (by omega) (by omega), e2]
theorem head_facts {b0 b1 h n : Nat} {neg : Bool} (l0 : b0 < 256) (l1 : b1 < 256) (hH : b0 * 256 + b1 = h) (hn : h / 2 = n) (hneg : decide (h % 2 = 1) = neg) :
    bits BinOp.or IntKind.i64 ((b0 : Int) * 256) (b1 : Int) = (h : Int) ∧ wrap64 ((h : Int).tdiv 2) = (n : Int) ∧ wrap64 ((h : Int) / 2) = (n : Int) ∧ ((h : Int).tmod 2 == 1) = neg ∧ ((h : Int) % 2 == 1) = neg := by
  have h0 : (0 : Int) ≤ (h : Int) := by omega
  have q : wrap64 ((h : Int) / 2) = (n : Int) := by rw [IntWalk.wrap64_in _ ⟨by omega, by omega⟩]; omega
  have r : ((h : Int) % 2 == 1) = neg := by
    rw [← hneg]
    rcases Nat.mod_two_eq_zero_or_one h with e | e
    · have e1 : (h : Int) % 2 = 0 := by omega
      rw [e1, e]; rfl
    · have e1 : (h : Int) % 2 = 1 := by omega
      rw [e1, e]; rfl
  refine ⟨head_or l0 l1 hH, ?_, q, ?_, r⟩
  · rw [Int.tdiv_eq_ediv_of_nonneg h0]; exact q
  · rw [Int.tmod_eq_emod_of_nonneg h0]; exact r
theorem wrap4f {n : Nat} (h : n ≤ 32767) : wrap64 ((n : Int) * 4) = (n : Int) * 4 := IntWalk.wrap64_in _ ⟨by omega, by omega⟩
theorem right_rd {A : Option Addr} {c n : Nat} {neg q : Bool} {l : List UInt8} {W : World} (hd : Dg W A c (rdn l n)) (hq : rightB neg (rdn l n) = q) (h4 : n ≤ 400) :
    Calls Tryd.prog 13 #[.agg #[.bool neg, .slice A n c]] W fun e w' => e = .returned (.bool q) ∧ Below W.heap.size W w' := by
  have h := right_any A c neg (rdn l n) W hd q hq (by rw [rdn_len]; omega)
  rw [rdn_len] at h
  exact h
theorem u32_v {x : Int} (h0 : 0 ≤ x) (h1 : x < 4294967296) : Value.int .u32 (IntKind.u32.wrap x) = Value.int .u32 x := by rw [IntWalk.u32_in _ ⟨h0, by omega⟩]
theorem own_set {w : World} {base size n g : Nat} {e : TypeId} {v : Value} {xs : List Value} (h : w.ownsRow base e size v n xs) (hg : g < base) (i : Nat) (u : Value) : (w.setCell ⟨g, i, none⟩ u).ownsRow base e size v n xs := by
  refine ⟨h.1, ?_⟩
  rcases h.2 with h1 | ⟨b, cap, cur, hv, hb, hc, rest⟩
  · exact .inl h1
  · exact .inr ⟨b, cap, cur, hv, hb, (heap_setCell_other w ⟨g, i, none⟩ b u (by simp; omega)).trans hc, rest⟩
theorem wrap4 {n : Nat} (h : n ≤ 400) : wrap64 ((n : Int) * 4) = (n : Int) * 4 := IntWalk.wrap64_in _ ⟨by omega, by omega⟩
theorem box_neg (w : World) (k : Nat) (neg : Bool) : (((((w.alloc (.cells #[.bool false, .slice none 0 0] 24)).drewN k).setCell ⟨w.heap.size, 0, none⟩ (.bool neg)).setCell ⟨w.heap.size, 1, none⟩ (.slice none 0 0)).heap[w.heap.size]? = some (.cells #[.bool neg, .slice none 0 0] 24 (0, 0))) ∧
    Below w.heap.size w ((((w.alloc (.cells #[.bool false, .slice none 0 0] 24)).drewN k).setCell ⟨w.heap.size, 0, none⟩ (.bool neg)).setCell ⟨w.heap.size, 1, none⟩ (.slice none 0 0)) := by
  constructor
  · have h0 : ((w.alloc (.cells #[.bool false, .slice none 0 0] 24)).drewN k).heap[w.heap.size]? = some (.cells #[.bool false, .slice none 0 0] 24 (0, 0)) := heap_alloc_new w _
    exact heap_setCell_same _ _ 1 _ _ (.slice none 0 0) (heap_setCell_same _ _ 0 _ _ (.bool neg) h0)
  · exact ((below_drewN (below1 w _) k).setCell (by simp) _).setCell (by simp) _
theorem cells_snoc (xs : List Nat) (x : Nat) : cells (xs ++ [x]) = cells xs ++ [.int .u32 (x : Int)] := by simp [cells]
theorem or3 {a b c d : Nat} (ha : a < 256) (hb : b < 256) (hc : c < 256) (hd : d < 256) :
    bits BinOp.or IntKind.u32 (a : Int) ((b : Int) * 256) = ((a + 256 * b : Nat) : Int) ∧ bits BinOp.or IntKind.u32 ((a + 256 * b : Nat) : Int) ((c : Int) * 65536) = ((a + 256 * b + 65536 * c : Nat) : Int) ∧
    bits BinOp.or IntKind.u32 ((a + 256 * b + 65536 * c : Nat) : Int) ((d : Int) * 16777216) = ((a + 256 * b + 65536 * c + 16777216 * d : Nat) : Int) := by
  refine ⟨?_, ?_, ?_⟩
  · rw [show (b : Int) * 256 = ((256 * b : Nat) : Int) by omega, u32_or_nat _ _ (by omega) (by omega), Nat.or_comm, nat_join 8 _ _ (by omega) (by omega)]; congr 1; omega
  · rw [show (c : Int) * 65536 = ((65536 * c : Nat) : Int) by omega, u32_or_nat _ _ (by omega) (by omega), Nat.or_comm, nat_join 16 _ _ (by omega) (by omega)]; congr 1; omega
  · rw [show (d : Int) * 16777216 = ((16777216 * d : Nat) : Int) by omega, u32_or_nat _ _ (by omega) (by omega), Nat.or_comm, nat_join 24 _ _ (by omega) (by omega)]; congr 1; omega
set_option maxHeartbeats 8000000 in
set_option maxRecDepth 100000 in
theorem ztake_go (s : ByteArray) (w : World) (l : List UInt8) (hl : s.data.toList = l) (h2 : 2 ≤ l.length) (n : Nat) (hn : hd2 l / 2 = n) (h4 : n ≤ 400) (h5 : 4 * n + 2 ≤ l.length) (hmax : l.length ≤ 9223372036854775807) (neg : Bool) (hneg : decide (hd2 l % 2 = 1) = neg) (q : Bool) (hq : rightB neg (rdn l n) = q) :
    Calls Tryd.prog 7 #[.string s] w fun e w' => Below w.heap.size w w' ∧ (q = false → e = .returned (.tuple #[.agg #[.bool false, .slice none 0 0], .string ⟨#[]⟩, .int .i64 2])) ∧
      (q = true → ∃ A c, e = .returned (.tuple #[.agg #[.bool neg, .slice A n c], .string ⟨(l.drop (2 + 4 * n)).toArray⟩, .int .i64 0]) ∧ Dg w' A c (rdn l n)) := by
  have hs : s.size = l.length := by rw [← hl]; simp
  have d0 : decide ((s.size : Int) < 2) = false := by simp; omega
  have n0 : 0 < s.size := by omega
  have n1 : 1 < s.size := by omega
  have e0 : (0 : Int) < (s.size : Int) := by omega
  have e1 : (1 : Int) < (s.size : Int) := by omega
  have e2 : (2 : Int) ≤ (s.size : Int) := by omega
  obtain ⟨b0, hb0⟩ : ∃ b0 : Nat, (s[0]'n0).toNat = b0 := ⟨_, rfl⟩
  obtain ⟨b1, hb1⟩ : ∃ b1 : Nat, (s[1]'n1).toNat = b1 := ⟨_, rfl⟩
  have l0 : b0 < 256 := by rw [← hb0]; exact UInt8.toNat_lt _
  have l1 : b1 < 256 := by rw [← hb1]; exact UInt8.toNat_lt _
  have hH : b0 * 256 + b1 = hd2 l := by unfold hd2; rw [← hl, ← bt_get s 0 n0, ← bt_get s 1 n1, hb0, hb1]
  obtain ⟨h, hh⟩ : ∃ h : Nat, hd2 l = h := ⟨_, rfl⟩
  rw [hh] at hH hn hneg
  have HF := Lib.hid (head_facts l0 l1 hH hn hneg)
  have HW4 := Lib.hid (wrap4 h4)
  have hbd := ext_drop s 2
  rw [hl] at hbd
  obtain ⟨bd, hbe⟩ : ∃ bd : ByteArray, s.extract 2 s.size = bd := ⟨_, rfl⟩
  rw [hbe] at hbd
  have hbl : bd.data.toList = l.drop 2 := by rw [hbd]
  have hbs : bd.size = l.length - 2 := by
    have : bd.data.toList.length = l.length - 2 := by rw [hbl]; simp
    simpa using this
  have d4 : decide ((400 : Int) < (n : Int)) = false := decide_eq_false (by omega)
  have d5 : decide ((bd.size : Int) < (n : Int) * 4) = false := decide_eq_false (by omega)
  have HBL := Lib.hid hbl
  have HBS := Lib.hid hbs
  have HQ := Lib.hid hq
  have HL := Lib.hid (And.intro h2 (And.intro h4 (And.intro h5 hmax)))
  obtain ⟨i0, hi, hz0, hz1, hz2⟩ := info_parts elem_info
  have RA := Lib.hid (fun A c W (hd : Dg W A c (rdn l n)) => right_rd hd hq h4)
  clear hs hH hh hn hneg hbd hbl hbs hq h2 h4 h5 hmax hl
  go_enter Tryd.func7, Tryd.ntmps7
  have hO := HF.out.1
  go_wp2_with fail
  go_quiet (fail)
  clear hO
  have hQ := HF.out.2.1
  have hQ2 := HF.out.2.2.1
  have hR2 := HF.out.2.2.2.1
  have hR3 := HF.out.2.2.2.2
  go_wp2_with fail
  go_quiet (fail)
  rw [hQ2]
  try rw [hR3]
  clear hQ hQ2 hR2 hR3
  have hW4 := HW4.out
  go_upto_region 9 with fail
  clear hW4
  go_loopw [43] (fun i wr => ∃ (k : Nat) (v : Value), k ≤ n ∧ i = .int .i64 k ∧ Hid (wr.heap[w.heap.size]? = some (.cells #[.bool neg, v] 24 (0, 0))) ∧ Hid (wr.ownsRow (w.heap.size + 1) 51 1 v k (cells (rdn l k))) ∧ Hid (Below w.heap.size w wr)) (fun i _ => n - (intOf i).toNat)
  case atStart => exact ⟨0, .slice none 0 0, Nat.zero_le _, rfl, Lib.hid (box_neg w _ neg).1, Lib.hid (World.ownsRow_nil _ _ _ _), Lib.hid (box_neg w _ neg).2⟩
  case round =>
    obtain ⟨k, v, hk, rfl, HC, HO, HB⟩ := hrel
    by_cases hlt : k < n
    · have hL := HL.out
      have hbs := HBS.out
      have hk400 : k ≤ 400 := by omega
      have hin : (k : Int) * 4 ≤ (bd.size : Int) := by omega
      have hde := ext_drop bd (4 * k)
      rw [HBL.out, List.drop_drop] at hde
      have hde2 : bd.extract (k * 4) bd.size = ⟨(l.drop (2 + 4 * k)).toArray⟩ := by rw [Nat.mul_comm]; exact hde
      have HDE := Lib.hid hde2
      obtain ⟨d, hd⟩ : ∃ d : ByteArray, bd.extract (k * 4) bd.size = d := ⟨_, rfl⟩
      have hdl : d.data.toList = l.drop (2 + 4 * k) := by rw [← hd, HDE.out]
      have hds : d.size = l.length - (2 + 4 * k) := by
        have : d.data.toList.length = l.length - (2 + 4 * k) := by rw [hdl]; simp
        simpa using this
      have k0 : 0 < d.size := by omega
      have k1 : 1 < d.size := by omega
      have k2 : 2 < d.size := by omega
      have k3 : 3 < d.size := by omega
      obtain ⟨c0, hc0⟩ : ∃ c : Nat, (d[0]'k0).toNat = c := ⟨_, rfl⟩
      obtain ⟨c1, hc1⟩ : ∃ c : Nat, (d[1]'k1).toNat = c := ⟨_, rfl⟩
      obtain ⟨c2, hc2⟩ : ∃ c : Nat, (d[2]'k2).toNat = c := ⟨_, rfl⟩
      obtain ⟨c3, hc3⟩ : ∃ c : Nat, (d[3]'k3).toNat = c := ⟨_, rfl⟩
      have m0 : c0 < 256 := by rw [← hc0]; exact UInt8.toNat_lt _
      have m1 : c1 < 256 := by rw [← hc1]; exact UInt8.toNat_lt _
      have m2 : c2 < 256 := by rw [← hc2]; exact UInt8.toNat_lt _
      have m3 : c3 < 256 := by rw [← hc3]; exact UInt8.toNat_lt _
      have OO := Lib.hid (or3 m0 m1 m2 m3)
      have RD := Lib.hid (show cells (rdn l (k + 1)) = cells (rdn l k) ++ [.int .u32 ((c0 + 256 * c1 + 65536 * c2 + 16777216 * c3 : Nat) : Int)] by
        have e : u4 l (2 + 4 * k) = c0 + 256 * c1 + 65536 * c2 + 16777216 * c3 := by
          unfold u4; rw [← Nat.add_zero (2 + 4 * k), Nat.add_assoc (2 + 4 * k) 0 1, Nat.add_assoc (2 + 4 * k) 0 2, Nat.add_assoc (2 + 4 * k) 0 3, Nat.zero_add, Nat.zero_add, Nat.zero_add, ← bt_drop, ← bt_drop, ← bt_drop, ← bt_drop, ← hdl, ← bt_get d 0 k0, ← bt_get d 1 k1, ← bt_get d 2 k2, ← bt_get d 3 k3, hc0, hc1, hc2, hc3]
        show cells (rdn l k ++ [u4 l (2 + 4 * k)]) = _
        rw [cells_snoc, e])
      generalize c0 + 256 * c1 + 65536 * c2 + 16777216 * c3 = X at *
      generalize c0 + 256 * c1 + 65536 * c2 = o2 at *
      generalize c0 + 256 * c1 = o1 at *
      have q0 : (0 : Int) < (d.size : Int) := by omega
      have q1 : (1 : Int) < (d.size : Int) := by omega
      have q2 : (2 : Int) < (d.size : Int) := by omega
      have q3 : (3 : Int) < (d.size : Int) := by omega
      have HK := Lib.hid (And.intro hL (And.intro hbs hds))
      clear hL hbs hde hde2 hdl hds
      have hk4 := wrap4 hk400
      go_upto_region 12 with fail
      rw [hd]
      clear hk4 hd
      refine wp_operands (W := wr) rfl 21 [50, 51, 52, 53, 54, 55, 56, 57, 58, 59, 60, 61, 62, 63, 64, 65, 66, 67, 68, 69, 70] (fun i u x => match i with | 0 => u = .pointer (some ⟨w.heap.size, 1, none⟩) | 1 => u = v | 2 => u = .string d | 3 => u = .int .u8 (c0 : Int) | 4 => u = .int .u32 (c0 : Int) | 5 => u = .string d | 6 => u = .int .u8 (c1 : Int) | 7 => u = .int .u32 (c1 : Int) | 8 => u = .int .u32 ((c1 : Int) * 256) | 9 => u = .int .u32 (o1 : Int) | 10 => u = .string d | 11 => u = .int .u8 (c2 : Int) | 12 => u = .int .u32 (c2 : Int) | 13 => u = .int .u32 ((c2 : Int) * 65536) | 14 => u = .int .u32 (o2 : Int) | 15 => u = .string d | 16 => u = .int .u8 (c3 : Int) | 17 => u = .int .u32 (c3 : Int) | 18 => u = .int .u32 ((c3 : Int) * 16777216) | 19 => u = .int .u32 (X : Int) | 20 => ∃ g, u = .slice (some ⟨g, 0, none⟩) 1 1 ∧ x.heap[g]? = some (.cells #[.int .u32 (X : Int)] 51 (0, 0)) | _ => True) (fun _ => false)
        (by decide) rfl (by kernel_rfl) (by kernel_rfl) (by decide) (by kernel_rfl) ?_ (fun _ _ _ h => by cases h) ?_ ?_
      · intro i u x x' hi hR hb'
        have hi' : i = 0 ∨ i = 1 ∨ i = 2 ∨ i = 3 ∨ i = 4 ∨ i = 5 ∨ i = 6 ∨ i = 7 ∨ i = 8 ∨ i = 9 ∨ i = 10 ∨ i = 11 ∨ i = 12 ∨ i = 13 ∨ i = 14 ∨ i = 15 ∨ i = 16 ∨ i = 17 ∨ i = 18 ∨ i = 19 ∨ i = 20 := by omega
        rcases hi' with rfl | rfl | rfl | rfl | rfl | rfl | rfl | rfl | rfl | rfl | rfl | rfl | rfl | rfl | rfl | rfl | rfl | rfl | rfl | rfl | rfl
        · exact hR
        · exact hR
        · exact hR
        · exact hR
        · exact hR
        · exact hR
        · exact hR
        · exact hR
        · exact hR
        · exact hR
        · exact hR
        · exact hR
        · exact hR
        · exact hR
        · exact hR
        · exact hR
        · exact hR
        · exact hR
        · exact hR
        · exact hR
        · obtain ⟨g, e, hg⟩ := hR; exact ⟨g, e, (hb'.block g (heap_lt hg)).trans hg⟩
      · intro i a x K hi hF hb' hw hK
        have hi' : i = 0 ∨ i = 1 ∨ i = 2 ∨ i = 3 ∨ i = 4 ∨ i = 5 ∨ i = 6 ∨ i = 7 ∨ i = 8 ∨ i = 9 ∨ i = 10 ∨ i = 11 ∨ i = 12 ∨ i = 13 ∨ i = 14 ∨ i = 15 ∨ i = 16 ∨ i = 17 ∨ i = 18 ∨ i = 19 ∨ i = 20 := by omega
        rcases hi' with rfl | rfl | rfl | rfl | rfl | rfl | rfl | rfl | rfl | rfl | rfl | rfl | rfl | rfl | rfl | rfl | rfl | rfl | rfl | rfl | rfl
        · simp only [wpOp, List.getElem?_toArray, List.getElem?_cons_zero, Region.wanted, if_true]
          refine Or.inl ?_
          have e0 : a.eval (.tmp 2) = .pointer (some ⟨w.heap.size, 0, none⟩) := hF.2.2 2 (by decide)
          clear hw hF
          simp only [Oper.wp, execOp]
          rw [e0]
          go_simp
          exact hK _ x (by first | rfl | exact u32_v (by omega) (by omega) | (rw [O]; done) | (congr 1; omega)) (Below.refl _ _) (fun h => by cases h)
        · simp only [wpOp, List.getElem?_toArray, List.getElem?_cons_succ, List.getElem?_cons_zero, Region.wanted, if_true]
          refine Or.inl ?_
          have e0 : a.tmps.getD 50 undef = .pointer (some ⟨w.heap.size, 1, none⟩) := hw 0 (by kernel_rfl)
          have f := row_cell HC.out hb' 1
          simp only [List.getElem?_toArray, List.getElem?_cons_succ, List.getElem?_cons_zero] at f
          clear hw hF
          simp only [Oper.wp, execOp]
          go_simp
          exact hK _ x (by first | rfl | exact u32_v (by omega) (by omega) | (rw [O]; done) | (congr 1; omega)) (Below.refl _ _) (fun h => by cases h)
        · simp only [wpOp, List.getElem?_toArray, List.getElem?_cons_succ, List.getElem?_cons_zero, Region.wanted, if_true]
          refine Or.inl ?_
          have e0 : a.eval (.tmp 10) = .string d := hF.2.2 10 (by decide)
          clear hw hF
          simp only [Oper.wp, execOp]
          rw [e0]
          go_simp
          exact hK _ x (by first | rfl | exact u32_v (by omega) (by omega) | (rw [O]; done) | (congr 1; omega)) (Below.refl _ _) (fun h => by cases h)
        · simp only [wpOp, List.getElem?_toArray, List.getElem?_cons_succ, List.getElem?_cons_zero, Region.wanted, if_true]
          refine Or.inl ?_
          have e0 : a.tmps.getD 52 undef = .string d := hw 2 (by kernel_rfl)
          clear hw hF
          simp only [Oper.wp, execOp]
          go_simp
          exact hK _ x (by first | rfl | exact u32_v (by omega) (by omega) | (rw [O]; done) | (congr 1; omega)) (Below.refl _ _) (fun h => by cases h)
        · simp only [wpOp, List.getElem?_toArray, List.getElem?_cons_succ, List.getElem?_cons_zero, Region.wanted, if_true]
          refine Or.inl ?_
          have e0 : a.tmps.getD 53 undef = .int .u8 (c0 : Int) := hw 3 (by kernel_rfl)
          clear hw hF
          simp only [Oper.wp, execOp]
          go_simp
          exact hK _ x (by first | rfl | exact u32_v (by omega) (by omega) | (rw [O]; done) | (congr 1; omega)) (Below.refl _ _) (fun h => by cases h)
        · simp only [wpOp, List.getElem?_toArray, List.getElem?_cons_succ, List.getElem?_cons_zero, Region.wanted, if_true]
          refine Or.inl ?_
          have e0 : a.eval (.tmp 10) = .string d := hF.2.2 10 (by decide)
          clear hw hF
          simp only [Oper.wp, execOp]
          rw [e0]
          go_simp
          exact hK _ x (by first | rfl | exact u32_v (by omega) (by omega) | (rw [O]; done) | (congr 1; omega)) (Below.refl _ _) (fun h => by cases h)
        · simp only [wpOp, List.getElem?_toArray, List.getElem?_cons_succ, List.getElem?_cons_zero, Region.wanted, if_true]
          refine Or.inl ?_
          have e0 : a.tmps.getD 55 undef = .string d := hw 5 (by kernel_rfl)
          clear hw hF
          simp only [Oper.wp, execOp]
          go_simp
          exact hK _ x (by first | rfl | exact u32_v (by omega) (by omega) | (rw [O]; done) | (congr 1; omega)) (Below.refl _ _) (fun h => by cases h)
        · simp only [wpOp, List.getElem?_toArray, List.getElem?_cons_succ, List.getElem?_cons_zero, Region.wanted, if_true]
          refine Or.inl ?_
          have e0 : a.tmps.getD 56 undef = .int .u8 (c1 : Int) := hw 6 (by kernel_rfl)
          clear hw hF
          simp only [Oper.wp, execOp]
          go_simp
          exact hK _ x (by first | rfl | exact u32_v (by omega) (by omega) | (rw [O]; done) | (congr 1; omega)) (Below.refl _ _) (fun h => by cases h)
        · simp only [wpOp, List.getElem?_toArray, List.getElem?_cons_succ, List.getElem?_cons_zero, Region.wanted, if_true]
          refine Or.inl ?_
          have e0 : a.tmps.getD 57 undef = .int .u32 (c1 : Int) := hw 7 (by kernel_rfl)
          clear hw hF
          simp only [Oper.wp, execOp]
          go_simp
          exact hK _ x (by first | rfl | exact u32_v (by omega) (by omega) | (rw [O]; done) | (congr 1; omega)) (Below.refl _ _) (fun h => by cases h)
        · simp only [wpOp, List.getElem?_toArray, List.getElem?_cons_succ, List.getElem?_cons_zero, Region.wanted, if_true]
          refine Or.inl ?_
          have e0 : a.tmps.getD 54 undef = .int .u32 (c0 : Int) := hw 4 (by kernel_rfl)
          have e1 : a.tmps.getD 58 undef = .int .u32 ((c1 : Int) * 256) := hw 8 (by kernel_rfl)
          have O := OO.out.1
          clear hw hF
          simp only [Oper.wp, execOp]
          go_simp
          exact hK _ x (by first | rfl | exact u32_v (by omega) (by omega) | (rw [O]; done) | (congr 1; omega)) (Below.refl _ _) (fun h => by cases h)
        · simp only [wpOp, List.getElem?_toArray, List.getElem?_cons_succ, List.getElem?_cons_zero, Region.wanted, if_true]
          refine Or.inl ?_
          have e0 : a.eval (.tmp 10) = .string d := hF.2.2 10 (by decide)
          clear hw hF
          simp only [Oper.wp, execOp]
          rw [e0]
          go_simp
          exact hK _ x (by first | rfl | exact u32_v (by omega) (by omega) | (rw [O]; done) | (congr 1; omega)) (Below.refl _ _) (fun h => by cases h)
        · simp only [wpOp, List.getElem?_toArray, List.getElem?_cons_succ, List.getElem?_cons_zero, Region.wanted, if_true]
          refine Or.inl ?_
          have e0 : a.tmps.getD 60 undef = .string d := hw 10 (by kernel_rfl)
          clear hw hF
          simp only [Oper.wp, execOp]
          go_simp
          exact hK _ x (by first | rfl | exact u32_v (by omega) (by omega) | (rw [O]; done) | (congr 1; omega)) (Below.refl _ _) (fun h => by cases h)
        · simp only [wpOp, List.getElem?_toArray, List.getElem?_cons_succ, List.getElem?_cons_zero, Region.wanted, if_true]
          refine Or.inl ?_
          have e0 : a.tmps.getD 61 undef = .int .u8 (c2 : Int) := hw 11 (by kernel_rfl)
          clear hw hF
          simp only [Oper.wp, execOp]
          go_simp
          exact hK _ x (by first | rfl | exact u32_v (by omega) (by omega) | (rw [O]; done) | (congr 1; omega)) (Below.refl _ _) (fun h => by cases h)
        · simp only [wpOp, List.getElem?_toArray, List.getElem?_cons_succ, List.getElem?_cons_zero, Region.wanted, if_true]
          refine Or.inl ?_
          have e0 : a.tmps.getD 62 undef = .int .u32 (c2 : Int) := hw 12 (by kernel_rfl)
          clear hw hF
          simp only [Oper.wp, execOp]
          go_simp
          exact hK _ x (by first | rfl | exact u32_v (by omega) (by omega) | (rw [O]; done) | (congr 1; omega)) (Below.refl _ _) (fun h => by cases h)
        · simp only [wpOp, List.getElem?_toArray, List.getElem?_cons_succ, List.getElem?_cons_zero, Region.wanted, if_true]
          refine Or.inl ?_
          have e0 : a.tmps.getD 59 undef = .int .u32 (o1 : Int) := hw 9 (by kernel_rfl)
          have e1 : a.tmps.getD 63 undef = .int .u32 ((c2 : Int) * 65536) := hw 13 (by kernel_rfl)
          have O := OO.out.2.1
          clear hw hF
          simp only [Oper.wp, execOp]
          go_simp
          exact hK _ x (by first | rfl | exact u32_v (by omega) (by omega) | (rw [O]; done) | (congr 1; omega)) (Below.refl _ _) (fun h => by cases h)
        · simp only [wpOp, List.getElem?_toArray, List.getElem?_cons_succ, List.getElem?_cons_zero, Region.wanted, if_true]
          refine Or.inl ?_
          have e0 : a.eval (.tmp 10) = .string d := hF.2.2 10 (by decide)
          clear hw hF
          simp only [Oper.wp, execOp]
          rw [e0]
          go_simp
          exact hK _ x (by first | rfl | exact u32_v (by omega) (by omega) | (rw [O]; done) | (congr 1; omega)) (Below.refl _ _) (fun h => by cases h)
        · simp only [wpOp, List.getElem?_toArray, List.getElem?_cons_succ, List.getElem?_cons_zero, Region.wanted, if_true]
          refine Or.inl ?_
          have e0 : a.tmps.getD 65 undef = .string d := hw 15 (by kernel_rfl)
          clear hw hF
          simp only [Oper.wp, execOp]
          go_simp
          exact hK _ x (by first | rfl | exact u32_v (by omega) (by omega) | (rw [O]; done) | (congr 1; omega)) (Below.refl _ _) (fun h => by cases h)
        · simp only [wpOp, List.getElem?_toArray, List.getElem?_cons_succ, List.getElem?_cons_zero, Region.wanted, if_true]
          refine Or.inl ?_
          have e0 : a.tmps.getD 66 undef = .int .u8 (c3 : Int) := hw 16 (by kernel_rfl)
          clear hw hF
          simp only [Oper.wp, execOp]
          go_simp
          exact hK _ x (by first | rfl | exact u32_v (by omega) (by omega) | (rw [O]; done) | (congr 1; omega)) (Below.refl _ _) (fun h => by cases h)
        · simp only [wpOp, List.getElem?_toArray, List.getElem?_cons_succ, List.getElem?_cons_zero, Region.wanted, if_true]
          refine Or.inl ?_
          have e0 : a.tmps.getD 67 undef = .int .u32 (c3 : Int) := hw 17 (by kernel_rfl)
          clear hw hF
          simp only [Oper.wp, execOp]
          go_simp
          exact hK _ x (by first | rfl | exact u32_v (by omega) (by omega) | (rw [O]; done) | (congr 1; omega)) (Below.refl _ _) (fun h => by cases h)
        · simp only [wpOp, List.getElem?_toArray, List.getElem?_cons_succ, List.getElem?_cons_zero, Region.wanted, if_true]
          refine Or.inl ?_
          have e0 : a.tmps.getD 64 undef = .int .u32 (o2 : Int) := hw 14 (by kernel_rfl)
          have e1 : a.tmps.getD 68 undef = .int .u32 ((c3 : Int) * 16777216) := hw 18 (by kernel_rfl)
          have O := OO.out.2.2
          clear hw hF
          simp only [Oper.wp, execOp]
          go_simp
          exact hK _ x (by first | rfl | exact u32_v (by omega) (by omega) | (rw [O]; done) | (congr 1; omega)) (Below.refl _ _) (fun h => by cases h)
        · simp only [wpOp, List.getElem?_toArray, List.getElem?_cons_succ, List.getElem?_cons_zero, Region.wanted, if_true]
          refine Or.inl ?_
          have e0 : a.tmps.getD 69 undef = .int .u32 (X : Int) := hw 19 (by kernel_rfl)
          clear hw hF
          simp only [Oper.wp, execOp]
          have e1 : a.tmps[69]?.getD undef = .int .u32 (X : Int) := by simpa using e0
          clear e0
          go_simp
          exact hK _ _ ⟨_, rfl, heap_alloc_new _ _⟩ (below1 _ _) (fun h => by cases h)
      · intro a x hF hb' hR _
        obtain ⟨gN, e20, hgN⟩ := hR 20 (by decide)
        have e0 : a.tmps.getD 50 undef = .pointer (some ⟨w.heap.size, 1, none⟩) := hR 0 (by decide)
        have e1 : a.tmps.getD 51 undef = v := hR 1 (by decide)
        have e2 : a.tmps.getD 52 undef = .string d := hR 2 (by decide)
        have e3 : a.tmps.getD 53 undef = .int .u8 (c0 : Int) := hR 3 (by decide)
        have e4 : a.tmps.getD 54 undef = .int .u32 (c0 : Int) := hR 4 (by decide)
        have e5 : a.tmps.getD 55 undef = .string d := hR 5 (by decide)
        have e6 : a.tmps.getD 56 undef = .int .u8 (c1 : Int) := hR 6 (by decide)
        have e7 : a.tmps.getD 57 undef = .int .u32 (c1 : Int) := hR 7 (by decide)
        have e8 : a.tmps.getD 58 undef = .int .u32 ((c1 : Int) * 256) := hR 8 (by decide)
        have e9 : a.tmps.getD 59 undef = .int .u32 (o1 : Int) := hR 9 (by decide)
        have e10 : a.tmps.getD 60 undef = .string d := hR 10 (by decide)
        have e11 : a.tmps.getD 61 undef = .int .u8 (c2 : Int) := hR 11 (by decide)
        have e12 : a.tmps.getD 62 undef = .int .u32 (c2 : Int) := hR 12 (by decide)
        have e13 : a.tmps.getD 63 undef = .int .u32 ((c2 : Int) * 65536) := hR 13 (by decide)
        have e14 : a.tmps.getD 64 undef = .int .u32 (o2 : Int) := hR 14 (by decide)
        have e15 : a.tmps.getD 65 undef = .string d := hR 15 (by decide)
        have e16 : a.tmps.getD 66 undef = .int .u8 (c3 : Int) := hR 16 (by decide)
        have e17 : a.tmps.getD 67 undef = .int .u32 (c3 : Int) := hR 17 (by decide)
        have e18 : a.tmps.getD 68 undef = .int .u32 ((c3 : Int) * 16777216) := hR 18 (by decide)
        have e19 : a.tmps.getD 69 undef = .int .u32 (X : Int) := hR 19 (by decide)
        rw [hF.fold (by kernel_rfl)]
        have e20b : a.tmps.getD 70 undef = .slice (some ⟨gN, 0, none⟩) 1 1 := e20
        simp only [List.foldl_cons, List.foldl_nil, e0, e1, e2, e3, e4, e5, e6, e7, e8, e9, e10, e11, e12, e13, e14, e15, e16, e17, e18, e19, e20b]
        simp only [Act.put, List.setIfInBounds_toArray, List.set_cons_zero, List.set_cons_succ]
        change wpOps _ _ _ [21, 22, 23] _ _
        simp only [wpOps_cons]
        clear e0 e1 e2 e3 e4 e5 e6 e7 e8 e9 e10 e11 e12 e13 e14 e15 e16 e17 e18 e19 e20 e20b hR hF
        have HCx := Lib.hid (cells_of HC.out hb')
        have HOx := Lib.hid (own_later HO.out hb')
        have HBx := Lib.hid (HB.out.trans (hb'.mono HB.out.size))
        have HGN := Lib.hid hgN
        have zx := hb'.size
        have zw := HB.out.size
        have zg := heap_lt HC.out
        clear hb' hgN
        simp only [wpOp, List.getElem?_toArray, List.getElem?_cons_succ, List.getElem?_cons_zero, Region.wanted, if_true]
        refine Or.inl ?_
        refine wp_append_lies _ (.tmp 51) (.tmp 70) 22 rfl (w.heap.size + 1) 51 i0 (.int .u32 0) 1 4 Tryd.underlying22 hi hz0 hz1 hz2 rfl (by decide) v k (cells (rdn l k)) rfl HOx.out ⟨gN, 0, none⟩ 1 1 [.int .u32 (X : Int)] rfl rfl (World.news_of_block HGN.out) (by intro u hu; simp at hu; subst hu; rfl) (by omega) (by unfold maxLen; omega) (by omega) (by omega) _ rfl ?_
        intro g' cap w9 hown hgrow hat hlt9
        have HC9 := Lib.hid ((hgrow.block w.heap.size (by omega) (fun e => by have := (HOx.out.lt _ e.symm).1; omega)).trans HCx.out)
        have HB9 := Lib.hid (HBx.out.grown hgrow (by omega) (fun k hk => by have := (HOx.out.lt k hk).1; omega))
        have HO9 := Lib.hid (show w9.ownsRow (w.heap.size + 1) 51 1 (.slice (some ⟨g', 0, none⟩) (k + 1) cap) (k + 1) (cells (rdn l (k + 1))) by rw [RD.out]; exact hown)
        clear hown hgrow hat hlt9
        have f0 := cell_of_row w9 _ 0 _ _ _ HC9.out
        have f1 := cell_of_row w9 _ 1 _ _ _ HC9.out
        simp only [List.getElem?_toArray, List.getElem?_cons_succ, List.getElem?_cons_zero] at f0 f1
        have q1 := frozen_of_row w9 _ 1 _ _ HC9.out
        have z9 := heap_lt HC9.out
        go_simp
        rw [wpOps_cons]
        simp only [wpOp, List.getElem?_toArray, List.getElem?_cons_succ, List.getElem?_cons_zero, Region.wanted, if_true]
        refine Or.inl ?_
        simp only [Oper.wp, execOp]
        go_simp
        try rw [wpOps_cons]
        simp only [wpOp, List.getElem?_toArray, List.getElem?_cons_succ, List.getElem?_cons_zero, Region.wanted, if_true]
        refine Or.inl ?_
        simp only [Oper.wp, execOp]
        go_simp
        try simp only [wpOps]
        have HK9 := Lib.hid (And.intro HC9.out (And.intro HO9.out HB9.out))
        clear f0 f1 q1 z9 HC9 HO9 HB9 HCx HOx HBx HGN zx zw zg
        go_wp2
        go_roundw
        case rel => exact ⟨k + 1, _, by omega, by go_num, Lib.hid (heap_setCell_same _ _ 1 _ _ _ HK9.out.1), Lib.hid (own_set HK9.out.2.1 (by omega) _ _), Lib.hid (HK9.out.2.2.setCell (by simp) _)⟩
        case measure => simp [intOf]; omega
    · obtain rfl : k = n := by omega
      obtain ⟨A, c, hv, hdg⟩ := dg_of_own HO.out (rdn_ok l k)
      rw [rdn_len] at hv
      subst hv
      have HDG := Lib.hid hdg
      clear hdg
      have f0 := cell_of_row wr _ 0 _ _ _ HC.out
      have f1 := cell_of_row wr _ 1 _ _ _ HC.out
      simp only [List.getElem?_toArray, List.getElem?_cons_succ, List.getElem?_cons_zero] at f0 f1
      have zg := heap_lt HC.out
      go_wp2_with fail
      refine (RA.out A c _ HDG.out).mono ?_
      rintro e w5 ⟨rfl, hb⟩
      have HC5 := Lib.hid (cells_of HC.out hb)
      have HB5 := Lib.hid (HB.out.trans (hb.mono HB.out.size))
      have HD5 := Lib.hid (HDG.out.below hb)
      clear hb f0 f1 zg
      have f0 := cell_of_row w5 _ 0 _ _ _ HC5.out
      have f1 := cell_of_row w5 _ 1 _ _ _ HC5.out
      simp only [List.getElem?_toArray, List.getElem?_cons_succ, List.getElem?_cons_zero] at f0 f1
      have q0 := frozen_of_row w5 _ 0 _ _ HC5.out
      have q1 := frozen_of_row w5 _ 1 _ _ HC5.out
      have zg := heap_lt HC5.out
      cases q
      · go_wp2
        obtain ⟨w6, hw6⟩ : ∃ w6 : World, w6 = (w5.setCell ⟨w.heap.size, 0, none⟩ (.bool false)).setCell ⟨w.heap.size, 1, none⟩ (.slice none 0 0) := ⟨_, rfl⟩
        rw [← hw6]
        have HC6 : w6.heap[w.heap.size]? = some (.cells #[.bool false, .slice none 0 0] 24 (0, 0)) := by
          rw [hw6]; exact heap_setCell_same _ _ 1 _ _ (.slice none 0 0) (heap_setCell_same _ _ 0 _ _ (.bool false) HC5.out)
        have HB6 : Below w.heap.size w w6 := by rw [hw6]; exact (HB5.out.setCell (by simp) _).setCell (by simp) _
        have r0 := cell_of_row w6 _ 0 _ _ _ HC6
        have r1 := cell_of_row w6 _ 1 _ _ _ HC6
        simp only [List.getElem?_toArray, List.getElem?_cons_succ, List.getElem?_cons_zero] at r0 r1
        refine bodyPost_ret (v := .tuple #[.agg #[.bool false, .slice none 0 0], .string ⟨#[]⟩, .int .i64 2]) (by simp [results, Tryd.results7, go_sem, r0, r1]) rfl ?_
        exact ⟨HB6, rfl⟩
      · have hin : (k : Int) * 4 ≤ (bd.size : Int) := by have := HL.out; have := HBS.out; omega
        have hk4 := wrap4 (n := k) HL.out.2.1
        go_wp2_with fail
        go_region
        go_wp2
        obtain ⟨w6, hw6⟩ : ∃ w6 : World, w6 = ((w5.setCell ⟨w.heap.size, 0, none⟩ (.bool neg)).setCell ⟨w.heap.size, 1, none⟩ (.slice A k c)).drew := ⟨_, rfl⟩
        rw [← hw6]
        have HC6 : w6.heap[w.heap.size]? = some (.cells #[.bool neg, .slice A k c] 24 (0, 0)) := by
          rw [hw6]; exact heap_setCell_same _ _ 1 _ _ (.slice A k c) (heap_setCell_same _ _ 0 _ _ (.bool neg) HC5.out)
        have HB6 : Below w.heap.size w w6 := by rw [hw6]; exact below_drewN ((HB5.out.setCell (by simp) _).setCell (by simp) _) 1
        have KP : Kept w5 w6 := by
          rw [hw6]
          exact ((((Only.refl _ w5).setCell 0 _).kept HC5.out noint2').trans (((Only.refl _ _).setCell 1 _).kept (heap_setCell_same _ _ 0 _ _ (.bool neg) HC5.out) noint2')).trans (Kept.below (below_drewN (Below.refl _ _) 1))
        have r0 := cell_of_row w6 _ 0 _ _ _ HC6
        have r1 := cell_of_row w6 _ 1 _ _ _ HC6
        simp only [List.getElem?_toArray, List.getElem?_cons_succ, List.getElem?_cons_zero] at r0 r1
        have hx : bd.extract (k * 4) bd.size = ⟨(l.drop (2 + 4 * k)).toArray⟩ := by
          rw [Nat.mul_comm, ext_drop bd (4 * k), HBL.out, List.drop_drop]
        rw [hx]
        refine bodyPost_ret (v := .tuple #[.agg #[.bool neg, .slice A k c], .string ⟨(l.drop (2 + 4 * k)).toArray⟩, .int .i64 0]) (by simp [results, Tryd.results7, go_sem, r0, r1]) rfl ?_
        exact ⟨HB6, A, c, rfl, HD5.out.kept KP⟩
/-- What Take reads. -/
def tkOk (l : List UInt8) : Prop := 2 ≤ l.length ∧ hd2 l / 2 ≤ 400 ∧ 4 * (hd2 l / 2) + 2 ≤ l.length ∧ rightB (decide (hd2 l % 2 = 1)) (rdn l (hd2 l / 2)) = true
set_option maxHeartbeats 2000000 in
set_option maxRecDepth 100000 in
theorem ztake_short (s : ByteArray) (w : World) (h2 : s.size < 2) :
    Calls Tryd.prog 7 #[.string s] w fun e w' => Below w.heap.size w w' ∧ e = .returned (.tuple #[.agg #[.bool false, .slice none 0 0], .string ⟨#[]⟩, .int .i64 2]) := by
  have d0 : decide ((s.size : Int) < 2) = true := decide_eq_true (by omega)
  clear h2
  go_enter Tryd.func7, Tryd.ntmps7
  go_wp2
  refine bodyPost_ret (v := .tuple #[.agg #[.bool false, .slice none 0 0], .string ⟨#[]⟩, .int .i64 2]) (by simp [results, Tryd.results7, go_sem]) rfl ?_
  exact ⟨below1 w _, rfl⟩
set_option maxHeartbeats 8000000 in
set_option maxRecDepth 100000 in
theorem ztake_far (s : ByteArray) (w : World) (l : List UInt8) (hl : s.data.toList = l) (h2 : 2 ≤ l.length) (n : Nat) (hn : hd2 l / 2 = n) (hno : 400 < n ∨ l.length < 4 * n + 2) (hmax : l.length ≤ 9223372036854775807) :
    Calls Tryd.prog 7 #[.string s] w fun e w' => Below w.heap.size w w' ∧ e = .returned (.tuple #[.agg #[.bool false, .slice none 0 0], .string ⟨#[]⟩, .int .i64 2]) := by
  have hs : s.size = l.length := by rw [← hl]; simp
  have d0 : decide ((s.size : Int) < 2) = false := by simp; omega
  have n0 : 0 < s.size := by omega
  have n1 : 1 < s.size := by omega
  have e0 : (0 : Int) < (s.size : Int) := by omega
  have e1 : (1 : Int) < (s.size : Int) := by omega
  have e2 : (2 : Int) ≤ (s.size : Int) := by omega
  obtain ⟨b0, hb0⟩ : ∃ b0 : Nat, (s[0]'n0).toNat = b0 := ⟨_, rfl⟩
  obtain ⟨b1, hb1⟩ : ∃ b1 : Nat, (s[1]'n1).toNat = b1 := ⟨_, rfl⟩
  have l0 : b0 < 256 := by rw [← hb0]; exact UInt8.toNat_lt _
  have l1 : b1 < 256 := by rw [← hb1]; exact UInt8.toNat_lt _
  have hH : b0 * 256 + b1 = hd2 l := by unfold hd2; rw [← hl, ← bt_get s 0 n0, ← bt_get s 1 n1, hb0, hb1]
  obtain ⟨h, hh⟩ : ∃ h : Nat, hd2 l = h := ⟨_, rfl⟩
  rw [hh] at hH hn
  have hnb : n ≤ 32767 := by omega
  have HF := Lib.hid (head_facts (neg := decide (h % 2 = 1)) l0 l1 hH hn rfl)
  have HW4 := Lib.hid (wrap4f hnb)
  have hbd := ext_drop s 2
  rw [hl] at hbd
  obtain ⟨bd, hbe⟩ : ∃ bd : ByteArray, s.extract 2 s.size = bd := ⟨_, rfl⟩
  rw [hbe] at hbd
  have hbl : bd.data.toList = l.drop 2 := by rw [hbd]
  have hbs : bd.size = l.length - 2 := by
    have : bd.data.toList.length = l.length - 2 := by rw [hbl]; simp
    simpa using this
  by_cases hf : 400 < n
  · have d4 : decide ((400 : Int) < (n : Int)) = true := decide_eq_true (by omega)
    clear hs hH hh hn hno hbd hbl hbs hmax hl hf hnb
    go_enter Tryd.func7, Tryd.ntmps7
    have hO := HF.out.1
    go_wp2_with fail
    go_quiet (fail)
    clear hO
    have hQ := HF.out.2.1
    have hQ2 := HF.out.2.2.1
    go_wp2_with fail
    go_quiet (fail)
    try rw [hQ2]
    clear hQ hQ2
    go_wp2
    refine bodyPost_ret (v := .tuple #[.agg #[.bool false, .slice none 0 0], .string ⟨#[]⟩, .int .i64 2]) (by simp [results, Tryd.results7, go_sem]) rfl ?_
    exact ⟨((below_drewN (below1 w _) _).setCell (by simp) _).setCell (by simp) _, rfl⟩
  · have d4 : decide ((400 : Int) < (n : Int)) = false := decide_eq_false (by omega)
    have d5 : decide ((bd.size : Int) < (n : Int) * 4) = true := decide_eq_true (by omega)
    clear hs hH hh hn hno hbd hbl hbs hmax hl hf hnb
    go_enter Tryd.func7, Tryd.ntmps7
    have hO := HF.out.1
    go_wp2_with fail
    go_quiet (fail)
    clear hO
    have hQ := HF.out.2.1
    have hQ2 := HF.out.2.2.1
    go_wp2_with fail
    go_quiet (fail)
    try rw [hQ2]
    clear hQ hQ2
    have hW4 := HW4.out
    go_wp2
    refine bodyPost_ret (v := .tuple #[.agg #[.bool false, .slice none 0 0], .string ⟨#[]⟩, .int .i64 2]) (by simp [results, Tryd.results7, go_sem]) rfl ?_
    exact ⟨((below_drewN (below1 w _) _).setCell (by simp) _).setCell (by simp) _, rfl⟩
/-- WHAT TAKE READS, and what stands behind it. -/
theorem ztake_any (s : ByteArray) (w : World) (l : List UInt8) (hl : s.data.toList = l) (hmax : l.length ≤ 9223372036854775807) :
    Calls Tryd.prog 7 #[.string s] w fun e w' => Below w.heap.size w w' ∧ (¬ tkOk l → e = .returned (.tuple #[.agg #[.bool false, .slice none 0 0], .string ⟨#[]⟩, .int .i64 2])) ∧
      (tkOk l → ∃ A c, e = .returned (.tuple #[.agg #[.bool (decide (hd2 l % 2 = 1)), .slice A (hd2 l / 2) c], .string ⟨(l.drop (2 + 4 * (hd2 l / 2))).toArray⟩, .int .i64 0]) ∧ Dg w' A c (rdn l (hd2 l / 2))) := by
  have hs : s.size = l.length := by rw [← hl]; simp
  by_cases h2 : l.length < 2
  · exact (ztake_short s w (by omega)).mono fun e w' ⟨hb, he⟩ => ⟨hb, fun _ => he, fun h => by have := h.1; omega⟩
  · by_cases h3 : 400 < hd2 l / 2 ∨ l.length < 4 * (hd2 l / 2) + 2
    · exact (ztake_far s w l hl (by omega) _ rfl h3 hmax).mono fun e w' ⟨hb, he⟩ => ⟨hb, fun _ => he, fun h => by have := h.2.1; have := h.2.2.1; omega⟩
    · refine (ztake_go s w l hl (by omega) _ rfl (by omega) (by omega) hmax _ rfl _ rfl).mono ?_
      rintro e w' ⟨hb, h4, h5⟩
      refine ⟨hb, fun h => h4 ?_, fun h => h5 h.2.2.2⟩
      by_cases hr : rightB (decide (hd2 l % 2 = 1)) (rdn l (hd2 l / 2)) = true
      · exact absurd ⟨by omega, by omega, by omega, hr⟩ h
      · simpa using hr
end Go.Proofs.YtcciibejachjkaaDoor
end

section
/-
  zint.Bytes.
-/
namespace Go.Proofs.YtcciibejachjkaaDoor
open Go.RowKit
/-- The two bytes ahead: how many digits, and the sign. -/
def headN (s : Bool) (n : Nat) : Nat := 2 * n + (if s then 1 else 0)
def zbytes (s : Bool) (xs : List Nat) : List UInt8 := UInt8.ofNat (headN s xs.length / 256) :: UInt8.ofNat (headN s xs.length) :: lay4 xs
theorem zbytes_len (s : Bool) (xs : List Nat) : (zbytes s xs).length = 2 + 4 * xs.length := by simp [zbytes, lay4_len]; omega
theorem two_new {w : World} {a b : Value} {T : TypeId} {j : Nat} {u : Value} (hj : [a, b][j]? = some u) : (w.alloc (.cells #[a, b] T)).cell? ((⟨w.heap.size, 0, none⟩ : Addr).add j) = some u := by
  rw [Addr.add_lit, Nat.zero_add, cell_of_row _ _ _ _ _ _ (heap_alloc_new w _)]
  simpa using hj
theorem head_cells {H : Int} {h : Nat} (e : (h : Int) = H) (hh : H ≤ 801) : Lib.byteCells [UInt8.ofNat (h / 256), UInt8.ofNat h] = [.int .u8 (H / 256), .int .u8 (H % 256)] := by
  subst e
  unfold Lib.byteCells
  simp
  omega
theorem own_string {w : World} {base : Nat} {v : Value} {n : Nat} {l : List UInt8} (hown : w.ownsRow base 5 1 v n (Lib.byteCells l)) (hn : n = l.length) (h0 : 0 < n) :
    (convert 48 9 v).run Tryd.prog w = .ok (.string ⟨l.toArray⟩) w := by
  subst hn
  rcases hown.2 with ⟨rfl, h1⟩ | ⟨g, cap, cur, rfl, _, _, _, _, _, _⟩
  · omega
  · refine run_convert_bytes_back w 48 9 5 ⟨g, 0, none⟩ cap l Tryd.underlying48 Tryd.underlying5 Tryd.underlying9 (fun j hj => ?_)
    have := hown.cells (g := g) rfl j (.int .u8 (l[j].toNat : Int)) (by unfold Lib.byteCells; simp [hj])
    exact this
set_option maxHeartbeats 2000000 in
set_option maxRecDepth 100000 in
theorem zbytes_no (A : Option Addr) (c : Nat) (s : Bool) (xs : List Nat) (w : World) (h : Dg w A c xs) (hl : xs.length ≤ 9223372036854775807) (hno : rightB s xs = false ∨ 400 < xs.length) :
    Calls Tryd.prog 6 #[.agg #[.bool s, .slice A xs.length c]] w fun e w' => e = .returned (.tuple #[.string ⟨#[]⟩, .int .i64 1]) ∧ Below w.heap.size w w' := by
  have RA := Lib.hid (fun W h q hq => right_any A c s xs W h q hq hl)
  cases hr : rightB s xs
  · have HR := Lib.hid hr
    clear hno hr
    go_enter Tryd.func6, Tryd.ntmps6
    go_wp2_with fail
    refine (RA.out _ (h.below (below1 _ _)) false HR.out).mono ?_
    rintro e w1 ⟨rfl, hb⟩
    have K1 := Lib.hid ((below1 w _).trans (hb.mono (by simp)))
    clear hb
    go_wp2
    go_ret2
    exact ⟨rfl, K1.out⟩
  · have HR := Lib.hid hr
    have h4 : 400 < xs.length := hno.resolve_left (by rw [hr]; simp)
    have d4 : decide ((400 : Int) < (xs.length : Int)) = true := by simp; omega
    clear hno hr h4
    go_enter Tryd.func6, Tryd.ntmps6
    go_wp2_with fail
    refine (RA.out _ (h.below (below1 _ _)) true HR.out).mono ?_
    rintro e w1 ⟨rfl, hb⟩
    have K1 := Lib.hid ((below1 w _).trans (hb.mono (by simp)))
    obtain ⟨hc, hf⟩ := bcell hb
    clear hb
    go_wp2
    go_ret2
    exact ⟨rfl, K1.out⟩
set_option maxHeartbeats 2000000 in
set_option maxRecDepth 100000 in
theorem zbytes_any (A : Option Addr) (c : Nat) (s : Bool) (xs : List Nat) (w : World) (h : Dg w A c xs) (hl : xs.length ≤ 400) (hr : rightB s xs = true) :
    Calls Tryd.prog 6 #[.agg #[.bool s, .slice A xs.length c]] w fun e w' => e = .returned (.tuple #[.string ⟨(zbytes s xs).toArray⟩, .int .i64 0]) ∧ Below w.heap.size w w' := by
  have RA := Lib.hid (fun W h => right_any A c s xs W h true hr (by omega))
  obtain ⟨i0, hi, hz0, hz1, hz2⟩ := info_parts elem8_info
  have d4 : decide ((400 : Int) < (xs.length : Int)) = false := by simp; omega
  clear hr
  have HD := Lib.hid h
  have hbase : 0 < xs.length → ∀ b o, A = some ⟨b, o, none⟩ → b < w.heap.size + 1 := fun h0 b o e => by
    obtain ⟨b1, o1, e1, hb1, _⟩ := h.2.2 h0
    rw [e] at e1; simp only [Option.some.injEq, Addr.mk.injEq] at e1; omega
  have HBASE := Lib.hid hbase
  clear hbase h
  obtain ⟨H, hH⟩ : ∃ H : Int, ((headN s xs.length : Nat) : Int) = H := ⟨_, rfl⟩
  have HH := Lib.hid hH
  have hH2 : H = 2 * (xs.length : Int) + (if s then 1 else 0) := by rw [← hH]; unfold headN; cases s <;> simp
  clear hH
  cases s
  · have hH3 : 2 * (xs.length : Int) = H := by simpa using hH2.symm
    have hHb : 0 ≤ H ∧ H ≤ 801 := by omega
    obtain ⟨hHb0, hHb1⟩ := hHb
    have HEQ := Lib.hid hH3
    clear hH2 hH3
    go_enter Tryd.func6, Tryd.ntmps6
    go_wp2_with fail
    refine (RA.out _ (HD.out.below (below1 _ _))).mono ?_
    rintro e w1 ⟨rfl, hb⟩
    have K1 := Lib.hid (show Below (w.heap.size + 1) (w.alloc (.cells #[.bool false, .slice A xs.length c] 24)) w1 by simpa using hb)
    obtain ⟨hc, hf⟩ := bcellB K1.out
    have hsz : w.heap.size + 1 ≤ w1.heap.size := by have := K1.out.size; simpa using this
    clear hb
    go_upto_region 6 with fail
    rw [HEQ.out]
    have hlen : xs.length ≤ 400 := hl
    go_wp2_with (refine wpList_make_own _ rfl (.const (.int .i64 0)) (.tmp 27) 48 rfl (w.heap.size + 1) 5 i0 (.int .u8 0) 1 Tryd.underlying48 hi hz0 hz1 .i64 .i64 _ (2 + 4 * xs.length) rfl rfl (by push_cast; omega) (by rw [hz2]; omega) (by unfold maxLen; omega) hsz ?_; intro w2 hown2 hgrow2; refine Hid.out ?_)
    refine Lib.hid ?_
    have HO2 := Lib.hid hown2
    have KG := Lib.hid (K1.out.grown hgrow2 hsz (fun k hk => by cases hk))
    obtain ⟨hc2, hf2⟩ := bcellB KG.out
    have hsz2 : w.heap.size + 1 ≤ w2.heap.size := by have := KG.out.size; simpa using this
    clear hown2 hgrow2 hc hf
    go_wp2_with (at_builtin; refine wpList_append_own _ rfl (.tmp 29) (.tmp 35) 48 rfl (w.heap.size + 1) 5 i0 (.int .u8 0) 1 1 Tryd.underlying48 hi hz0 hz1 hz2 rfl (by decide) _ _ _ rfl (HO2.out.alloc _) ⟨w2.heap.size, 0, none⟩ 2 2 [.int .u8 (H / 256), .int .u8 (H % 256)] rfl rfl (fun j u hj => two_new hj) (by intro u hu; simp at hu; rcases hu with rfl | rfl <;> rfl) (by unfold maxLen; omega) (by omega) (by simp; omega) ?_; intro v3 w3 hown3 hgrow3 _; refine Hid.out ?_)
    refine Lib.hid ?_
    have HO3 := Lib.hid (show w3.ownsRow (w.heap.size + 1) 5 1 v3 2 (Lib.byteCells [UInt8.ofNat (headN false xs.length / 256), UInt8.ofNat (headN false xs.length)]) by rw [head_cells HH.out hHb1]; simpa using hown3)
    have K3 := Lib.hid ((KG.out.alloc hsz2 _).grown hgrow3 (by simp; omega) (fun k hk => (HO2.out.lt k hk).1))
    obtain ⟨hc3, hf3⟩ := bcellB K3.out
    clear hown3 hgrow3 hc2 hf2
    go_wp2_with fail
    refine (lay_any (w.heap.size + 1) v3 2 _ A c xs _ HO3.out ((HD.out.below (below1 _ _)).below (show Below (w.alloc _).heap.size _ _ by simpa using K3.out)) HBASE.out (by have := K3.out.size; simpa using this) (by omega)).mono ?_
    rintro e w4 ⟨v4, rfl, hown4, hb4⟩
    have hcv := own_string hown4 (by simp [lay4_len]; omega) (by omega)
    have K4 := Lib.hid (K3.out.trans hb4)
    clear hown4 hb4 hc3 hf3
    go_wp2
    go_ret2
    exact ⟨rfl, (below1 w _).trans (K4.out.mono (by omega))⟩
  · have hH3 : 2 * (xs.length : Int) + 1 = H := by simpa using hH2.symm
    have hHb : 0 ≤ H ∧ H ≤ 801 := by omega
    obtain ⟨hHb0, hHb1⟩ := hHb
    have HEQ := Lib.hid hH3
    clear hH2 hH3
    go_enter Tryd.func6, Tryd.ntmps6
    go_wp2_with fail
    refine (RA.out _ (HD.out.below (below1 _ _))).mono ?_
    rintro e w1 ⟨rfl, hb⟩
    have K1 := Lib.hid (show Below (w.heap.size + 1) (w.alloc (.cells #[.bool true, .slice A xs.length c] 24)) w1 by simpa using hb)
    obtain ⟨hc, hf⟩ := bcellB K1.out
    have hsz : w.heap.size + 1 ≤ w1.heap.size := by have := K1.out.size; simpa using this
    clear hb
    go_upto_region 6 with fail
    rw [HEQ.out]
    have hlen : xs.length ≤ 400 := hl
    go_wp2_with (refine wpList_make_own _ rfl (.const (.int .i64 0)) (.tmp 27) 48 rfl (w.heap.size + 1) 5 i0 (.int .u8 0) 1 Tryd.underlying48 hi hz0 hz1 .i64 .i64 _ (2 + 4 * xs.length) rfl rfl (by push_cast; omega) (by rw [hz2]; omega) (by unfold maxLen; omega) hsz ?_; intro w2 hown2 hgrow2; refine Hid.out ?_)
    refine Lib.hid ?_
    have HO2 := Lib.hid hown2
    have KG := Lib.hid (K1.out.grown hgrow2 hsz (fun k hk => by cases hk))
    obtain ⟨hc2, hf2⟩ := bcellB KG.out
    have hsz2 : w.heap.size + 1 ≤ w2.heap.size := by have := KG.out.size; simpa using this
    clear hown2 hgrow2 hc hf
    go_wp2_with (at_builtin; refine wpList_append_own _ rfl (.tmp 29) (.tmp 35) 48 rfl (w.heap.size + 1) 5 i0 (.int .u8 0) 1 1 Tryd.underlying48 hi hz0 hz1 hz2 rfl (by decide) _ _ _ rfl (HO2.out.alloc _) ⟨w2.heap.size, 0, none⟩ 2 2 [.int .u8 (H / 256), .int .u8 (H % 256)] rfl rfl (fun j u hj => two_new hj) (by intro u hu; simp at hu; rcases hu with rfl | rfl <;> rfl) (by unfold maxLen; omega) (by omega) (by simp; omega) ?_; intro v3 w3 hown3 hgrow3 _; refine Hid.out ?_)
    refine Lib.hid ?_
    have HO3 := Lib.hid (show w3.ownsRow (w.heap.size + 1) 5 1 v3 2 (Lib.byteCells [UInt8.ofNat (headN true xs.length / 256), UInt8.ofNat (headN true xs.length)]) by rw [head_cells HH.out hHb1]; simpa using hown3)
    have K3 := Lib.hid ((KG.out.alloc hsz2 _).grown hgrow3 (by simp; omega) (fun k hk => (HO2.out.lt k hk).1))
    obtain ⟨hc3, hf3⟩ := bcellB K3.out
    clear hown3 hgrow3 hc2 hf2
    go_wp2_with fail
    refine (lay_any (w.heap.size + 1) v3 2 _ A c xs _ HO3.out ((HD.out.below (below1 _ _)).below (show Below (w.alloc _).heap.size _ _ by simpa using K3.out)) HBASE.out (by have := K3.out.size; simpa using this) (by omega)).mono ?_
    rintro e w4 ⟨v4, rfl, hown4, hb4⟩
    have hcv := own_string hown4 (by simp [lay4_len]; omega) (by omega)
    have K4 := Lib.hid (K3.out.trans hb4)
    clear hown4 hb4 hc3 hf3
    go_wp2
    go_ret2
    exact ⟨rfl, (below1 w _).trans (K4.out.mono (by omega))⟩
end Go.Proofs.YtcciibejachjkaaDoor
end

section
/-
  What Take reads is what Bytes writes: plain words.
-/
namespace Go.Proofs.YtcciibejachjkaaDoor
open Go.RowKit
theorem byte_mod {a b : Nat} (h : a % 256 = b % 256) : UInt8.ofNat a = UInt8.ofNat b := by
  apply UInt8.toNat_inj.1
  simpa using h
theorem lay4_rdn (l : List UInt8) : ∀ n, 4 * n + 2 ≤ l.length → lay4 (rdn l n) = (l.drop 2).take (4 * n)
  | 0, _ => by simp [rdn, lay4]
  | n + 1, h => by
    have ih := lay4_rdn l n (by omega)
    have e : rdn l (n + 1) = rdn l n ++ [u4 l (2 + 4 * n)] := rfl
    have e2 : lay4 (rdn l (n + 1)) = lay4 (rdn l n) ++ d4 (u4 l (2 + 4 * n)) := by rw [e]; unfold lay4; simp
    have hb : ∀ j, j < 4 → (l.drop 2)[4 * n + j]? = some (UInt8.ofNat (Bt l (2 + 4 * n + j))) := by
      intro j hj
      rw [List.getElem?_drop]
      have hlt : 2 + (4 * n + j) < l.length := by omega
      have e3 : 2 + 4 * n + j = 2 + (4 * n + j) := by omega
      rw [List.getElem?_eq_getElem hlt, e3]
      unfold Bt
      rw [List.getElem?_eq_getElem hlt]
      simp
    have b0 := bt_lt l (2 + 4 * n)
    have b1 := bt_lt l (2 + 4 * n + 1)
    have b2 := bt_lt l (2 + 4 * n + 2)
    have b3 := bt_lt l (2 + 4 * n + 3)
    have ed : d4 (u4 l (2 + 4 * n)) = [UInt8.ofNat (Bt l (2 + 4 * n)), UInt8.ofNat (Bt l (2 + 4 * n + 1)), UInt8.ofNat (Bt l (2 + 4 * n + 2)), UInt8.ofNat (Bt l (2 + 4 * n + 3))] := by
      unfold d4 u4
      generalize Bt l (2 + 4 * n) = a0 at *
      generalize Bt l (2 + 4 * n + 1) = a1 at *
      generalize Bt l (2 + 4 * n + 2) = a2 at *
      generalize Bt l (2 + 4 * n + 3) = a3 at *
      rw [byte_mod (show (a0 + 256 * a1 + 65536 * a2 + 16777216 * a3) % 256 = a0 % 256 by omega), byte_mod (show (a0 + 256 * a1 + 65536 * a2 + 16777216 * a3) / 256 % 256 = a1 % 256 by omega), byte_mod (show (a0 + 256 * a1 + 65536 * a2 + 16777216 * a3) / 65536 % 256 = a2 % 256 by omega), byte_mod (show (a0 + 256 * a1 + 65536 * a2 + 16777216 * a3) / 16777216 % 256 = a3 % 256 by omega)]
    rw [e2, ih, ed]
    apply List.ext_getElem?
    intro j
    rcases Nat.lt_or_ge j (4 * n) with hj | hj
    · rw [List.getElem?_append_left (by simp; omega), List.getElem?_take, List.getElem?_take, if_pos hj, if_pos (by omega)]
    · rw [List.getElem?_append_right (by simp; omega), List.getElem?_take]
      have el : (List.take (4 * n) (List.drop 2 l)).length = 4 * n := by simp; omega
      rw [el]
      rcases Nat.lt_or_ge j (4 * n + 4) with hj4 | hj4
      · rw [if_pos (by omega)]
        obtain ⟨i, rfl, hi⟩ : ∃ i, j = 4 * n + i ∧ i < 4 := ⟨j - 4 * n, by omega, by omega⟩
        rw [hb i hi, Nat.add_sub_cancel_left]
        have h4 : i = 0 ∨ i = 1 ∨ i = 2 ∨ i = 3 := by omega
        rcases h4 with rfl | rfl | rfl | rfl <;> rfl
      · rw [if_neg (by omega), List.getElem?_eq_none (by simp; omega)]
theorem zb_take {l : List UInt8} {n : Nat} {neg : Bool} (hn : hd2 l / 2 = n) (hneg : decide (hd2 l % 2 = 1) = neg) (h : 4 * n + 2 ≤ l.length) : zbytes neg (rdn l n) = l.take (2 + 4 * n) := by
  have hl := lay4_rdn l n h
  have hh : headN neg (rdn l n).length = hd2 l := by
    rw [rdn_len, ← hn, ← hneg]
    unfold headN
    by_cases h1 : hd2 l % 2 = 1
    · rw [decide_eq_true h1]; simp; omega
    · rw [decide_eq_false h1]; simp; omega
  unfold zbytes
  rw [hh, hl]
  rcases l with _ | ⟨a, _ | ⟨b, r⟩⟩
  · simp at h
  · simp at h
  · have ha : Bt (a :: b :: r) 0 = a.toNat := rfl
    have hb : Bt (a :: b :: r) 1 = b.toNat := rfl
    have la := UInt8.toNat_lt a
    have lb := UInt8.toNat_lt b
    have e1 : UInt8.ofNat (hd2 (a :: b :: r) / 256) = a := by
      apply UInt8.toNat_inj.1
      unfold hd2
      rw [ha, hb]
      simp <;> omega
    have e2 : UInt8.ofNat (hd2 (a :: b :: r)) = b := by
      apply UInt8.toNat_inj.1
      unfold hd2
      rw [ha, hb]
      simp <;> omega
    rw [e1, e2, show 2 + 4 * n = 4 * n + 1 + 1 by omega]
    simp [List.take_succ_cons]
end Go.Proofs.YtcciibejachjkaaDoor
end

section
/-
  Words for walks by program: boxes and what is alive.
-/
namespace Go.Proofs.YtcciibejachjkaaDoor
open Go.RowKit
theorem row_c {w : World} {g i : Nat} {cs : Array Value} {T : TypeId} {fr : Nat × Nat} {v : Value} (h : w.heap[g]? = some (.cells cs T fr)) (hv : cs[i]? = some v) : w.cell? ⟨g, i, none⟩ = some v := (cell_of_row _ _ _ _ _ _ h).trans hv
theorem live_only {w0 w w' : World} {L : List (Option Addr × Nat × List Nat)} {g : Nat} {zs : Array Value} {T : TypeId} {fr : Nat × Nat} (hL : Live w0 w L) (ho : Only g w w') (hg : w.heap[g]? = some (.cells zs T fr)) (hz : ∀ (i : Nat) (n : Int), zs[i]? ≠ some (.int .u32 n)) (h0 : w0.heap.size ≤ g) : Live w0 w' L :=
  ⟨ho.below hL.1 h0, fun t ht => (hL.2 t ht).kept (ho.kept hg hz)⟩
theorem noint_int {A : Option Addr} {n c : Nat} {b : Bool} : ∀ (o : Nat) (m : Int), (#[Value.bool b, .slice A n c])[o]? ≠ some (.int .u32 m) := noint2'
theorem noint_re {x : Int} : ∀ (o : Nat) (m : Int), (#[Value.int .i64 x])[o]? ≠ some (.int .u32 m) := by
  intro o m; rcases o with _ | o <;> simp
theorem fin3 {w0 w : World} {L : List (Option Addr × Nat × List Nat)} {g : Nat} {zs : Array Value} {T : TypeId} {a b c : Value} (hL : Live w0 w L) (hg : w.heap[g]? = some (.cells zs T (0, 0))) (hz : ∀ (i : Nat) (n : Int), zs[i]? ≠ some (.int .u32 n)) (h0 : w0.heap.size ≤ g) :
    Live w0 (((w.setCell ⟨g, 0, none⟩ a).setCell ⟨g, 1, none⟩ b).setCell ⟨g, 2, none⟩ c) L := live_only hL ((((Only.refl g w).setCell 0 _).setCell 1 _).setCell 2 _) hg hz h0
theorem fin2 {w0 w : World} {L : List (Option Addr × Nat × List Nat)} {g : Nat} {zs : Array Value} {T : TypeId} {a b : Value} (hL : Live w0 w L) (hg : w.heap[g]? = some (.cells zs T (0, 0))) (hz : ∀ (i : Nat) (n : Int), zs[i]? ≠ some (.int .u32 n)) (h0 : w0.heap.size ≤ g) :
    Live w0 ((w.setCell ⟨g, 0, none⟩ a).setCell ⟨g, 1, none⟩ b) L := live_only hL (((Only.refl g w).setCell 0 _).setCell 1 _) hg hz h0
theorem keep_b {W w' : World} {g : Nat} (hb : Below W.heap.size W w') (hg : g < W.heap.size) : ∀ o, w'.cell? ⟨g, o, none⟩ = W.cell? ⟨g, o, none⟩ := fun o => hb.cell (p := ⟨g, o, none⟩) hg
theorem keep_set {W w' : World} {g r i : Nat} {v : Value} (h : ∀ o, w'.cell? ⟨g, o, none⟩ = W.cell? ⟨g, o, none⟩) (hne : g ≠ r) : ∀ o, (w'.setCell ⟨r, i, none⟩ v).cell? ⟨g, o, none⟩ = W.cell? ⟨g, o, none⟩ := fun o => by
  rw [World.cell?_setCell_other _ _ _ _ (by intro e; simp only [Addr.mk.injEq] at e; omega)]; exact h o
theorem sg_abs2 (z : Int) : sg (decide (z < 0)) z.natAbs = z := by
  unfold sg
  by_cases h : z < 0
  · rw [if_pos (by simpa using h)]; omega
  · rw [if_neg (by simpa using h)]; omega
theorem sg_dz (z : Int) : sg (decide (z < 0)) (val (digs z.natAbs)) = z := by rw [val_digs]; exact sg_abs2 z
end Go.Proofs.YtcciibejachjkaaDoor
end
