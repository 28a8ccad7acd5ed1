import Derived.Test.YtmgdpchjimlmeaaProg
import Derived.WalkKit
import Derived.WalkSpells
import Derived.WalkLawsBesides
import Derived.Outline
import Derived.Lib.Hide
import Derived.Lib.Strings
import Derived.Laws.IdiomStrings
import Derived.Laws.BitsAllLaws
import Derived.Laws.BitsLemmas
import Derived.Laws.Rows
import Derived.Laws.NewBlocks
import Derived.Laws.OwnMore
import Derived.IntWalk
import Derived.Deep.QuietTactic
import Derived.BigQuiet
import Derived.StillTailTactics
import Derived.Deep.RegionHeld3
import Derived.Deep.OwnRows
import Derived.Deep.DeepCutAuto
import Derived.Deep.LoopGhost
import Derived.Deep.AppendLies
import Derived.Lib.AppendZeros
import Derived.Deep.RegionLaw
section
/-
  Versions: plain words, and a slice of them in a world.
-/
namespace Go.Proofs.Ytmgdpchjimlmeaa.Cat
open Go.RowKit
def rootB (n : Int) : Bool := n == 0 || (decide (2 ≤ n) && decide (n ≤ 511))
def chainB (next last : Int) : List (Int × Int) → Bool
  | [] => true
  | v :: r => decide (last < v.1) && decide (v.1 < next) && rootB v.2 && chainB next v.1 r
def rightB (next : Int) (vs : List (Int × Int)) : Bool := decide (1 ≤ next) && decide (next ≤ 16777216) && decide (vs.length ≤ 12) && chainB next 0 vs
def at2 (vs : List (Int × Int)) (j : Nat) : Int × Int := vs[j]?.getD (0, 0)
theorem drop_at {vs : List (Int × Int)} {k : Nat} (h : k < vs.length) : vs.drop k = at2 vs k :: vs.drop (k + 1) := by
  unfold at2
  rw [List.drop_eq_getElem_cons h, List.getElem?_eq_getElem h]
  rfl
/-- The slice '.slice A vs.length c' holds the versions vs. -/
def Vs (w : World) (A : Option Addr) (c : Nat) (vs : List (Int × Int)) : Prop :=
  vs.length ≤ c ∧ (0 < vs.length → ∃ b off, A = some ⟨b, off, none⟩ ∧ b < w.heap.size ∧ ∀ j, j < vs.length → w.cell? ⟨b, off + j * 2, none⟩ = some (.int .i64 (at2 vs j).1) ∧ w.cell? ⟨b, off + j * 2 + 1, none⟩ = some (.int .i64 (at2 vs j).2))
section
variable {w w' : World} {A : Option Addr} {c : Nat} {vs : List (Int × Int)}
theorem Vs.below (h : Vs w A c vs) (hb : Below w.heap.size w w') : Vs w' A c vs :=
  ⟨h.1, fun h0 => by
    obtain ⟨b, off, e, hlt, hc⟩ := h.2 h0
    exact ⟨b, off, e, Nat.lt_of_lt_of_le hlt hb.size, fun j hj => ⟨(hb.cell (p := ⟨b, _, none⟩) hlt).trans (hc j hj).1, (hb.cell (p := ⟨b, _, none⟩) hlt).trans (hc j hj).2⟩⟩⟩
theorem Vs.nil_ (A : Option Addr) (c : Nat) : Vs w A c [] := ⟨Nat.zero_le _, fun h => absurd h (by simp)⟩
end
theorem bcell {W w1 : World} (hb : Below W.heap.size W w1) : (∀ b o, b < W.heap.size → w1.cell? ⟨b, o, none⟩ = W.cell? ⟨b, o, none⟩) :=
  fun b o h => hb.cell (p := ⟨b, o, none⟩) h
theorem bd0 (W : World) : Below W.heap.size W W.drew := ⟨rfl, rfl, rfl, Nat.le_refl _, fun _ _ => rfl⟩
theorem bda (W : World) (o : Obj) : Below W.heap.size W (W.alloc o) := (Below.refl _ _).alloc (Nat.le_refl _) _
theorem below_drewN {B : Nat} {a w : World} (h : Below B a w) (n : Nat) : Below B a (w.drewN n) := ⟨h.os, h.tape, h.output, h.size, h.block⟩
theorem below_drew {B : Nat} {a w : World} (h : Below B a w) : Below B a w.drew := ⟨h.os, h.tape, h.output, h.size, h.block⟩
theorem bon {a b c : World} (h : Below a.heap.size a b) (k : Below b.heap.size b c) : Below a.heap.size a c := h.trans (k.mono h.size)
theorem heap_lt {w : World} {g : Nat} {o : Obj} (h : w.heap[g]? = some o) : g < w.heap.size := by
  rcases Nat.lt_or_ge g w.heap.size with h' | h'
  · exact h'
  · rw [Array.getElem?_eq_none h'] at h; cases h
theorem row_on {w w' : World} {g : Nat} {o : Obj} (h : w.heap[g]? = some o) (hb : Below w.heap.size w w') : w'.heap[g]? = some o := (hb.block g (heap_lt h)).trans h
theorem row_c {w : World} {g i : Nat} {cs : Array Value} {T : TypeId} {fr : Nat × Nat} {v : Value} (h : w.heap[g]? = some (.cells cs T fr)) (hv : cs[i]? = some v) : w.cell? ⟨g, i, none⟩ = some v := by
  rw [cell_of_row _ _ _ _ _ _ h]; exact hv
theorem ret_b {a b : Bool} (h : a = b) : Ending.returned (.bool a) = .returned (.bool b) := by rw [h]
set_option maxHeartbeats 400000 in
theorem rooted_any (n : Int) (w : World) : Calls Try.prog 30 #[.int .i64 n] w fun e w' => e = .returned (.bool (rootB n)) ∧ w = w' := by
  unfold rootB
  by_cases h0 : n = 0
  · subst h0
    go_enter Try.func30, Try.ntmps30
    go_wp2
    go_ret
    exact ⟨rfl, rfl⟩
  · have d0 : (n == 0) = false := by simpa using h0
    rw [d0]
    by_cases h2 : 2 ≤ n
    · have d2 : decide (2 ≤ n) = true := decide_eq_true h2
      rw [d2]
      cases d3 : decide (n ≤ 511)
      all_goals
        go_enter Try.func30, Try.ntmps30
        go_wp2
        go_ret
        exact ⟨rfl, rfl⟩
    · have d2 : decide (2 ≤ n) = false := decide_eq_false h2
      rw [d2]
      go_enter Try.func30, Try.ntmps30
      go_wp2
      go_ret
      exact ⟨rfl, rfl⟩
set_option maxHeartbeats 1000000 in
set_option maxRecDepth 100000 in
theorem right_any (next : Int) (A : Option Addr) (c : Nat) (vs : List (Int × Int)) (w : World) (h : Vs w A c vs) (hl : vs.length ≤ 1000000) :
    Calls Try.prog 15 #[.agg #[.int .i64 next, .slice A vs.length c]] w fun e w' => e = .returned (.bool (rightB next vs)) ∧ Below w.heap.size w w' := by
  by_cases hh : 1 ≤ next ∧ next ≤ 16777216 ∧ vs.length ≤ 12
  · obtain ⟨h1, h2, h3⟩ := hh
    have hr : rightB next vs = chainB next 0 vs := by unfold rightB; rw [decide_eq_true h1, decide_eq_true h2, decide_eq_true h3]; rfl
    rw [hr]
    clear hr
    have d1 : decide (next < 1) = false := by simp; omega
    have d2 : decide (16777216 < next) = false := by simp; omega
    have d3 : decide (12 < vs.length) = false := by simp; omega
    have d4 : decide ((12 : Int) < (vs.length : Int)) = false := by simp; omega
    have H := Lib.hid h
    clear h
    have RW := Lib.hid (heap_alloc_new w (.cells #[.int .i64 next, .slice A vs.length c] 24))
    go_enter Try.func15, Try.ntmps15
    go_wp2_with fail
    obtain ⟨W, hW⟩ : ∃ W : World, W = w.alloc (.cells #[.int .i64 next, .slice A vs.length c] 24) := ⟨_, rfl⟩
    rw [← hW] at RW ⊢
    have B1 := Lib.hid (show Below w.heap.size w W by rw [hW]; exact bda _ _)
    clear hW
    go_loopw [3, 23] (fun l i wr => ∃ (k : Nat) (L : Int), k ≤ vs.length ∧ i = .int .i64 k ∧ l = .int .i64 L ∧ Hid (chainB next 0 vs = chainB next L (vs.drop k)) ∧ Hid (Below W.heap.size W wr)) (fun _ i _ => vs.length - (intOf i).toNat)
    case atStart => exact ⟨0, 0, Nat.zero_le _, rfl, rfl, Lib.hid rfl, Lib.hid (Below.refl _ _)⟩
    case round =>
      obtain ⟨k, L, hk, rfl, rfl, hch, hb⟩ := hrel
      by_cases hlt : k < vs.length
      · obtain ⟨b, off, hA, hbl, hcell⟩ := (H.out.below B1.out).2 (by omega)
        have f1 := (hb.out.cell (p := ⟨b, off + k * 2, none⟩) hbl).trans (hcell k hlt).1
        have f2 := (hb.out.cell (p := ⟨b, off + k * 2 + 1, none⟩) hbl).trans (hcell k hlt).2
        have f3 := row_c (row_on RW.out hb.out) (i := 0) rfl
        have s1 : w.heap.size < wr.heap.size := heap_lt (row_on RW.out hb.out)
        have CH := Lib.hid (show chainB next 0 vs = (decide (L < (at2 vs k).1) && decide ((at2 vs k).1 < next) && rootB (at2 vs k).2 && chainB next (at2 vs k).1 (vs.drop (k + 1))) by rw [hch.out, drop_at hlt]; rfl)
        have HLT := Lib.hid hlt
        clear hcell hch
        generalize at2 vs k = v at *
        obtain ⟨n, r⟩ := v
        simp only at f1 f2 CH
        have k0 : (0 : Int) ≤ (k : Int) := by omega
        have k1 : (k : Int) < (vs.length : Int) := by omega
        subst hA
        by_cases c1 : L < n
        · have e1 : decide (n ≤ L) = false := by simp; omega
          by_cases c2 : n < next
          · have e2 : decide (next ≤ n) = false := by simp; omega
            have RB := Lib.hid (fun V => rooted_any r V)
            cases c3 : rootB r
            · rw [c3] at RB CH
              have CF := Lib.hid (show chainB next 0 vs = false by rw [CH.out]; simp)
              clear c3 CH c1 c2
              go_wp2_with ((with_reducible refine (RB.out _).mono ?_); rintro e w2 ⟨rfl, rfl⟩)
              go_ret
              exact ⟨ret_b CF.out.symm, bon B1.out (bon hb.out (bda _ _))⟩
            · rw [c3] at RB CH
              have CF := Lib.hid (show chainB next 0 vs = chainB next n (vs.drop (k + 1)) by rw [CH.out, decide_eq_true c1, decide_eq_true c2]; rfl)
              clear c3 CH c1 c2
              go_wp2_with ((with_reducible refine (RB.out _).mono ?_); rintro e w2 ⟨rfl, rfl⟩)
              go_roundw
              case rel => exact ⟨k + 1, n, HLT.out, by go_num, rfl, CF, Lib.hid (bon hb.out (bda _ _))⟩
              case measure => simp [intOf]; omega
          · have e2 : decide (next ≤ n) = true := by simp; omega
            have CF := Lib.hid (show chainB next 0 vs = false by rw [CH.out, decide_eq_false c2]; simp)
            clear CH c1 c2
            go_wp2
            go_ret
            exact ⟨ret_b CF.out.symm, bon B1.out (bon hb.out (bda _ _))⟩
        · have e1 : decide (n ≤ L) = true := by simp; omega
          have CF := Lib.hid (show chainB next 0 vs = false by rw [CH.out, decide_eq_false c1]; rfl)
          clear CH c1
          go_wp2
          go_ret
          exact ⟨ret_b CF.out.symm, bon B1.out (bon hb.out (bda _ _))⟩
      · have hkl : k = vs.length := by omega
        subst hkl
        have CF := Lib.hid (show chainB next 0 vs = true by rw [hch.out, List.drop_length]; rfl)
        clear hch
        go_wp2
        go_ret
        exact ⟨ret_b CF.out.symm, bon B1.out hb.out⟩
  · have hr : rightB next vs = false := by
      unfold rightB
      by_cases a1 : 1 ≤ next
      · by_cases a2 : next ≤ 16777216
        · have a3 : ¬ vs.length ≤ 12 := fun a3 => hh ⟨a1, a2, a3⟩
          rw [decide_eq_false a3]; simp
        · rw [decide_eq_false a2]; simp
      · rw [decide_eq_false a1]; simp
    rw [hr]
    clear hr
    by_cases a1 : 1 ≤ next
    · have d1 : decide (next < 1) = false := by simp; omega
      by_cases a2 : next ≤ 16777216
      · have d2 : decide (16777216 < next) = false := by simp; omega
        have a3 : ¬ vs.length ≤ 12 := fun a3 => hh ⟨a1, a2, a3⟩
        have d3 : decide (12 < vs.length) = true := by simp; omega
        have d4 : decide ((12 : Int) < (vs.length : Int)) = true := by simp; omega
        clear hh
        go_enter Try.func15, Try.ntmps15
        go_wp2
        go_ret
        exact ⟨rfl, bda _ _⟩
      · have d2 : decide (16777216 < next) = true := by simp; omega
        clear hh
        go_enter Try.func15, Try.ntmps15
        go_wp2
        go_ret
        exact ⟨rfl, bda _ _⟩
    · have d1 : decide (next < 1) = true := by simp; omega
      clear hh
      go_enter Try.func15, Try.ntmps15
      go_wp2
      go_ret
      exact ⟨rfl, bda _ _⟩
end Go.Proofs.Ytmgdpchjimlmeaa.Cat
end

section
/-
  cat.lay: a number's bytes behind a row of the call's own, the greatest one first.
-/
namespace Go.Proofs.Ytmgdpchjimlmeaa.Cat
open Go.RowKit
theorem elem8_info : (Try.prog.info? 5).map (fun i => (i.zero, i.size, i.bytes)) = some (some (.int .u8 0), 1, 1) := by kernel_rfl
theorem byteCells_add (a b : List UInt8) : Lib.byteCells (a ++ b) = Lib.byteCells a ++ Lib.byteCells b := by simp [Lib.byteCells]
/-- A row of the call's own may have grown; nothing else has turned. -/
def Gr (w w' : World) (v v' : Value) : Prop := w.grownBy w' v.ownBlock ∧ ∀ k, v'.ownBlock = some k → v.ownBlock = some k ∨ w.heap.size ≤ k
theorem Gr.refl (w : World) (v : Value) : Gr w w v v := ⟨⟨rfl, rfl, rfl, Nat.le_refl _, fun _ _ _ => rfl⟩, fun _ h => .inl h⟩
theorem Gr.trans {a b c : World} {u v x : Value} (h : Gr a b u v) (k : Gr b c v x) : Gr a c u x := by
  refine ⟨⟨k.1.os.trans h.1.os, k.1.tape.trans h.1.tape, k.1.output.trans h.1.output, Nat.le_trans h.1.size k.1.size, fun i hi hne => ?_⟩, fun i hi => ?_⟩
  · refine (k.1.block i (Nat.lt_of_lt_of_le hi h.1.size) (fun e => ?_)).trans (h.1.block i hi hne)
    rcases h.2 i e.symm with h1 | h1
    · exact hne h1.symm
    · omega
  · rcases k.2 i hi with h1 | h1
    · exact h.2 i h1
    · exact .inr (Nat.le_trans h.1.size h1)
theorem Gr.alloc (w : World) (v : Value) (o : Obj) : Gr w (w.alloc o) v v := ⟨World.grownBy_alloc w o _, fun _ h => .inl h⟩
theorem Gr.below {a b : World} {v : Value} (h : Below a.heap.size a b) : Gr a b v v := ⟨⟨h.os, h.tape, h.output, h.size, fun i hi _ => h.block i hi⟩, fun _ h => .inl h⟩
theorem Gr.cell {a b : World} {u v : Value} (h : Gr a b u v) {g o : Nat} {x : Value} (hc : a.cell? ⟨g, o, none⟩ = some x) (hne : u.ownBlock ≠ some g) : b.cell? ⟨g, o, none⟩ = some x :=
  h.1.cell hc (fun e => hne e.symm)
/-- A number's bytes, so many, the greatest one first. -/
def be (m n : Nat) : List UInt8 := (List.range m).map fun i => UInt8.ofNat (n / 2 ^ (8 * (m - 1 - i)))
theorem be_len (m n : Nat) : (be m n).length = m := by unfold be; simp
theorem be_take {m n i : Nat} (h : i < m) : (be m n).take (i + 1) = (be m n).take i ++ [UInt8.ofNat (n / 2 ^ (8 * (m - 1 - i)))] := by
  rw [List.take_succ_eq_append_getElem (by rw [be_len]; exact h)]
  unfold be
  simp
theorem be_take_all (m n : Nat) : (be m n).take m = be m n := List.take_of_length_le (by rw [be_len]; omega)
theorem byte_cell (X : Nat) : Lib.byteCells [UInt8.ofNat X] = [.int .u8 ((X : Int) % 256)] := by
  unfold Lib.byteCells
  simp
theorem one_new {w : World} {a : Value} {T : TypeId} {j : Nat} {u : Value} (hj : [a][j]? = some u) : (w.alloc (.cells #[a] T)).cell? ((⟨w.heap.size, 0, none⟩ : Addr).add j) = some u := by
  rw [Addr.add_lit, Nat.zero_add, cell_of_row _ _ _ _ _ _ (heap_alloc_new w _)]
  simpa using hj
set_option maxHeartbeats 4000000 in
set_option maxRecDepth 100000 in
theorem lay_any (m n base : Nat) (v : Value) (k0 : Nat) (bs : List UInt8) (g c : Nat) (w : World) (hm : m = 4 ∨ m = 2) (hown : w.ownsRow base 5 1 v k0 (Lib.byteCells bs))
    (hg : w.cell? ⟨g, 0, none⟩ = some (.int .i64 n)) (hbase : base ≤ w.heap.size) (hl : k0 ≤ 1000000) :
    Calls Try.prog 21 #[v, .int .i64 m, .slice (some ⟨g, 0, none⟩) 1 c] w fun e w' => ∃ v', e = .returned v' ∧ w'.ownsRow base 5 1 v' (k0 + m) (Lib.byteCells (bs ++ be m n)) ∧ Below base w w' ∧ Gr w w' v v' := by
  obtain ⟨i0, hi, hz0, hz1, hz2⟩ := info_parts elem8_info
  have HO := Lib.hid hown
  have HM := Lib.hid hm
  have ml : m ≤ 4 := by omega
  clear hown hm
  go_enter Try.func21, Try.ntmps21
  go_wp2
  go_loopw [0, 12] (fun x i wr => ∃ q : Int, 0 ≤ q ∧ q ≤ 1 ∧ i = .int .i64 q ∧ Hid (q = 0 → w = wr ∧ v = x) ∧ Hid (q = 1 → wr.ownsRow base 5 1 x (k0 + m) (Lib.byteCells (bs ++ be m n)) ∧ Below base w wr ∧ Gr w wr v x)) (fun _ i _ => 1 - (intOf i).toNat)
  case atStart => exact ⟨0, by omega, by omega, rfl, Lib.hid (fun _ => ⟨rfl, rfl⟩), Lib.hid (fun h => by omega)⟩
  case round =>
    obtain ⟨q, hq1, hq, rfl, hA, hB⟩ := hrel
    by_cases hq0 : q = 0
    · subst hq0
      obtain ⟨rfl, rfl⟩ := hA.out rfl
      clear hA hB
      go_wp2
      go_loopw [0, 17] (fun x i wr => ∃ i1 : Nat, i1 ≤ m ∧ i = .int .i64 i1 ∧ Hid (wr.ownsRow base 5 1 x (k0 + i1) (Lib.byteCells (bs ++ (be m n).take i1)) ∧ Below base w wr ∧ Gr w wr v x)) (fun _ i _ => m - (intOf i).toNat)
      case atStart => exact ⟨0, by omega, rfl, Lib.hid ⟨by simpa using HO.out, Below.refl _ _, Gr.refl _ _⟩⟩
      case round =>
        obtain ⟨i, him, rfl, hr⟩ := hrel
        by_cases hlt : i < m
        · have BT := Lib.hid (be_take (n := n) hlt)
          have hS : ∃ X : Nat, (8 * (m - 1 - i) = 24 ∨ 8 * (m - 1 - i) = 16 ∨ 8 * (m - 1 - i) = 8 ∨ 8 * (m - 1 - i) = 0) ∧ n / 2 ^ (8 * (m - 1 - i)) = X := ⟨_, by have := HM.out; omega, rfl⟩
          obtain ⟨X, hS, hX⟩ := hS
          have e1 : (8 : Int) * ((m : Int) - 1 - (i : Int)) = ((8 * (m - 1 - i) : Nat) : Int) := by omega
          obtain ⟨S, hSS⟩ : ∃ S, 8 * (m - 1 - i) = S := ⟨_, rfl⟩
          rw [hSS] at e1 hX hS
          have EX := Lib.hid (show ((n : Int) / 2 ^ S % 256) = ((X : Int) % 256) by rw [← hX]; simp)
          have HSS := Lib.hid (And.intro hSS hX)
          have o1 := Lib.hid hr.out.1
          have o2 := Lib.hid hr.out.2
          have bz : base ≤ wr.heap.size := Nat.le_trans hbase hr.out.2.1.size
          clear hSS hX hr
          go_wp2_with (at_builtin; refine wpList_append_lies _ rfl _ _ 68 rfl base 5 i0 (.int .u8 0) 1 1 Try.underlying68 hi hz0 hz1 hz2 rfl (by decide) _ _ _ rfl (o1.out.alloc _) ⟨wr.heap.size, 0, none⟩ 1 1 [.int .u8 ((n : Int) / 2 ^ S % 256)] rfl rfl (fun j u hj => one_new hj) (by intro u hu; simp at hu; subst hu; rfl) (by omega) (by unfold maxLen; omega) (by omega) (by simp; omega) (wr.heap.size + 1) (by simp) ?_)
          intro g1 cap w1 hown1 hgrow hat hgl1
          have NB := Lib.hid (show Below base w w1 from (o2.out.1.alloc bz _).grown hgrow (by simp; omega) (fun k hk => (o1.out.lt k hk).1))
          have NG := Lib.hid (show Gr w w1 v (.slice (some ⟨g1, 0, none⟩) (k0 + i + 1) cap) from (o2.out.2.trans (Gr.alloc _ _ _)).trans ⟨hgrow, fun k hk => by
            have hkg : g1 = k := by simpa [Value.ownBlock] using hk
            subst hkg
            rcases hat with h1 | h1
            · exact .inl h1
            · exact .inr (by simp; omega)⟩)
          have NO := Lib.hid hown1
          clear hown1 hgrow hat
          go_wp2
          go_roundw
          case rel =>
            refine ⟨i + 1, hlt, by go_num, Lib.hid ⟨?_, NB.out, NG.out⟩⟩
            have h1 := NO.out
            have h2 := HSS.out
            rw [EX.out] at h1
            rw [BT.out, h2.1, h2.2, ← List.append_assoc, byteCells_add, byte_cell]
            exact h1
          case measure => simp [intOf]; omega
        · obtain rfl : i = m := by omega
          have HH := Lib.hid hr.out
          rw [be_take_all] at HH
          clear hr
          go_wp2
          go_roundw
          case rel => exact ⟨1, by omega, by omega, rfl, Lib.hid (fun h => by omega), Lib.hid (fun _ => HH.out)⟩
          case measure => simp [intOf]
    · obtain rfl : q = 1 := by omega
      obtain ⟨b1, b2, b3⟩ := hB.out rfl
      have HH := Lib.hid (And.intro b1 (And.intro b2 b3))
      clear hA hB b1 b2 b3
      go_wp2
      go_ret
      exact ⟨_, rfl, HH.out⟩
end Go.Proofs.Ytmgdpchjimlmeaa.Cat
end

section
/-
  cat.Encode.
-/
namespace Go.Proofs.Ytmgdpchjimlmeaa.Cat
open Go.RowKit
def encV (v : Int × Int) : List UInt8 := be 4 v.1.toNat ++ be 2 v.2.toNat
def encL (next : Int) (vs : List (Int × Int)) : List UInt8 := be 4 next.toNat ++ vs.flatMap encV
theorem encV_len (v : Int × Int) : (encV v).length = 6 := by unfold encV; rw [List.length_append, be_len, be_len]
theorem enc_len (next : Int) (vs : List (Int × Int)) : (encL next vs).length = 4 + 6 * vs.length := by
  unfold encL
  rw [List.length_append, be_len]
  congr 1
  induction vs with
  | nil => rfl
  | cons v r ih => rw [List.flatMap_cons, List.length_append, encV_len, ih, List.length_cons]; omega
theorem enc_take {next : Int} {vs : List (Int × Int)} {k : Nat} (h : k < vs.length) : encL next (vs.take (k + 1)) = encL next (vs.take k) ++ be 4 (at2 vs k).1.toNat ++ be 2 (at2 vs k).2.toNat := by
  unfold encL
  rw [List.take_succ_eq_append_getElem h, List.flatMap_append]
  unfold at2
  rw [List.getElem?_eq_getElem h]
  simp [encV, List.append_assoc]
theorem root_bd {n : Int} (h : rootB n = true) : 0 ≤ n ∧ n ≤ 511 := by
  unfold rootB at h
  simp only [Bool.or_eq_true, beq_iff_eq, Bool.and_eq_true, decide_eq_true_eq] at h
  omega
theorem chain_all {next : Int} : ∀ {vs : List (Int × Int)} {last : Int}, chainB next last vs = true → ∀ v ∈ vs, last < v.1 ∧ v.1 < next ∧ rootB v.2 = true
  | [], _, _ => fun v h => by cases h
  | u :: r, last, h => fun v hv => by
    unfold chainB at h
    simp only [Bool.and_eq_true, decide_eq_true_eq] at h
    obtain ⟨⟨⟨h1, h2⟩, h3⟩, h4⟩ := h
    rcases List.mem_cons.1 hv with rfl | hv
    · exact ⟨h1, h2, h3⟩
    · obtain ⟨a, b, c⟩ := chain_all h4 v hv
      exact ⟨by omega, b, c⟩
theorem right_all {next : Int} {vs : List (Int × Int)} (h : rightB next vs = true) : 1 ≤ next ∧ next ≤ 16777216 ∧ vs.length ≤ 12 ∧ ∀ v ∈ vs, 0 < v.1 ∧ v.1 < next ∧ rootB v.2 = true := by
  unfold rightB at h
  simp only [Bool.and_eq_true, decide_eq_true_eq] at h
  exact ⟨h.1.1.1, h.1.1.2, h.1.2, chain_all h.2⟩
theorem at2_mem {vs : List (Int × Int)} {k : Nat} (h : k < vs.length) : at2 vs k ∈ vs := by
  unfold at2
  rw [List.getElem?_eq_getElem h]
  exact List.getElem_mem h
theorem new_c0 (w : World) (a : Value) (T : TypeId) : (w.alloc (.cells #[a] T)).cell? ⟨w.heap.size, 0, none⟩ = some a := by
  rw [cell_of_row _ _ _ _ _ _ (heap_alloc_new w _)]; rfl
theorem old_c {w : World} {g o : Nat} {v : Value} (h : w.cell? ⟨g, o, none⟩ = some v) (ob : Obj) : (w.alloc ob).cell? ⟨g, o, none⟩ = some v := by
  rw [World.cell?_alloc_lt w ob ⟨g, o, none⟩ (World.block_lt_of_cell? w _ h)]; exact h
theorem lay4_any (n base : Nat) (v : Value) (k0 : Nat) (bs : List UInt8) (g c : Nat) (w : World) (hown : w.ownsRow base 5 1 v k0 (Lib.byteCells bs))
    (hg : w.cell? ⟨g, 0, none⟩ = some (.int .i64 n)) (hbase : base ≤ w.heap.size) (hl : k0 ≤ 1000000) :
    Calls Try.prog 21 #[v, .int .i64 4, .slice (some ⟨g, 0, none⟩) 1 c] w fun e w' => ∃ v', e = .returned v' ∧ w'.ownsRow base 5 1 v' (k0 + 4) (Lib.byteCells (bs ++ be 4 n)) ∧ Below base w w' ∧ Gr w w' v v' :=
  lay_any 4 n base v k0 bs g c w (.inl rfl) hown hg hbase hl
theorem lay2_any (n base : Nat) (v : Value) (k0 : Nat) (bs : List UInt8) (g c : Nat) (w : World) (hown : w.ownsRow base 5 1 v k0 (Lib.byteCells bs))
    (hg : w.cell? ⟨g, 0, none⟩ = some (.int .i64 n)) (hbase : base ≤ w.heap.size) (hl : k0 ≤ 1000000) :
    Calls Try.prog 21 #[v, .int .i64 2, .slice (some ⟨g, 0, none⟩) 1 c] w fun e w' => ∃ v', e = .returned v' ∧ w'.ownsRow base 5 1 v' (k0 + 2) (Lib.byteCells (bs ++ be 2 n)) ∧ Below base w w' ∧ Gr w w' v v' :=
  lay_any 2 n base v k0 bs g c w (.inr rfl) hown hg hbase hl
/-- A row of the call's own, as a string. -/
theorem own_conv {w : World} {base : Nat} {x : Value} {n : Nat} {l : List UInt8} (h : w.ownsRow base 5 1 x n (Lib.byteCells l)) (h0 : 0 < l.length) :
    ∃ y, x = y ∧ (convert 68 9 y).run Try.prog w = .ok (.string ⟨l.toArray⟩) w := by
  have hl : l.length = n := by have := h.1; simpa [Lib.byteCells] using this
  obtain ⟨g, cap, hv, _, _⟩ := World.ownsRow.form h (by omega)
  refine ⟨x, rfl, ?_⟩
  subst hv
  rw [← hl]
  refine run_convert_bytes_back w 68 9 5 ⟨g, 0, none⟩ cap l Try.underlying68 Try.underlying5 Try.underlying9 (fun j hj => ?_)
  refine h.cells (g := g) rfl j _ ?_
  unfold Lib.byteCells
  rw [List.getElem?_map, List.getElem?_eq_getElem hj]
  rfl
set_option maxHeartbeats 400000 in
set_option maxRecDepth 100000 in
theorem encode_no (next : Int) (A : Option Addr) (c : Nat) (vs : List (Int × Int)) (w : World) (h : Vs w A c vs) (hl : vs.length ≤ 1000000) (hr : rightB next vs = false) :
    Calls Try.prog 8 #[.agg #[.int .i64 next, .slice A vs.length c]] w fun e w' => e = .returned (.tuple #[.string ⟨#[]⟩, .int .i64 1]) ∧ Below w.heap.size w w' := by
  have RG := Lib.hid (fun V hV => right_any next A c vs V hV hl)
  rw [hr] at RG
  have H := Lib.hid h
  clear h hr
  go_enter Try.func8, Try.ntmps8
  go_wp2_with fail
  refine (RG.out _ (H.out.below (bda _ _))).mono ?_
  rintro e w2 ⟨rfl, hb⟩
  have K := Lib.hid (bon (bda w _) hb)
  clear hb
  go_wp2
  go_ret2
  exact ⟨rfl, K.out⟩
set_option maxHeartbeats 4000000 in
set_option maxRecDepth 100000 in
theorem encode_yes (next : Int) (A : Option Addr) (c : Nat) (vs : List (Int × Int)) (w : World) (h : Vs w A c vs) (hr : rightB next vs = true) :
    Calls Try.prog 8 #[.agg #[.int .i64 next, .slice A vs.length c]] w fun e w' => e = .returned (.tuple #[.string ⟨(encL next vs).toArray⟩, .int .i64 0]) ∧ Below w.heap.size w w' := by
  have RA := Lib.hid (right_all hr)
  have hl : vs.length ≤ 12 := RA.out.2.2.1
  have RG := Lib.hid (fun V hV => right_any next A c vs V hV (by omega))
  rw [hr] at RG
  clear hr
  have H := Lib.hid h
  clear h
  obtain ⟨N, hN⟩ : ∃ N : Nat, next = (N : Int) := ⟨next.toNat, by have := RA.out.1; omega⟩
  subst hN
  go_enter Try.func8, Try.ntmps8
  go_wp2_with fail
  refine (RG.out _ (H.out.below (bda _ _))).mono ?_
  rintro e w2 ⟨rfl, hb⟩
  have RW := Lib.hid (row_on (heap_alloc_new w (.cells #[.int .i64 N, .slice A vs.length c] 24)) hb)
  have K2 := Lib.hid (bon (bda w _) hb)
  have H2 := Lib.hid ((H.out.below (bda w _)).below hb)
  clear hb
  have s1 := heap_lt RW.out
  have b0 := row_c RW.out (i := 0) rfl
  have b1 := row_c RW.out (i := 1) rfl
  have C0 := Lib.hid (new_c0 w2 (.int .i64 (N : Int)) 3)
  go_wp2_with fail
  refine (lay4_any N w2.heap.size (.slice none 0 0) 0 [] w2.heap.size 1 _ (World.ownsRow_nil _ _ _ _) C0.out (by simp) (by omega)).mono ?_
  rintro e w3 ⟨x3, rfl, ho, hb, _⟩
  have K3 := Lib.hid (show Below w2.heap.size w2 w3 from (bda w2 _).trans hb)
  have O3 := Lib.hid ho
  clear ho hb b0
  have s3 : w.heap.size < w3.heap.size := Nat.lt_of_lt_of_le s1 K3.out.size
  have b1' := row_c (row_on RW.out K3.out) (i := 1) rfl
  clear b1
  go_wp2_with fail
  go_loopw [4, 17] (fun x i wr => ∃ k : Nat, k ≤ vs.length ∧ i = .int .i64 k ∧ Hid (wr.ownsRow w2.heap.size 5 1 x (4 + 6 * k) (Lib.byteCells (encL N (vs.take k)))) ∧ Hid (Below w2.heap.size w2 wr)) (fun _ i _ => vs.length - (intOf i).toNat)
  case atStart => exact ⟨0, Nat.zero_le _, rfl, Lib.hid (by simpa [encL] using O3.out), K3⟩
  case round =>
    obtain ⟨k, hk, rfl, ho, hb⟩ := hrel
    by_cases hlt : k < vs.length
    · obtain ⟨bb, off, hA, hbl, hcell⟩ := H2.out.2 (by omega)
      have f1 := (hb.out.cell (p := ⟨bb, off + k * 2, none⟩) hbl).trans (hcell k hlt).1
      have f2 := (hb.out.cell (p := ⟨bb, off + k * 2 + 1, none⟩) hbl).trans (hcell k hlt).2
      have ET := Lib.hid (enc_take (next := (N : Int)) hlt)
      obtain ⟨v1, v2, v3⟩ := RA.out.2.2.2 _ (at2_mem hlt)
      obtain ⟨v4, v5⟩ := root_bd v3
      have HLT := Lib.hid hlt
      clear hcell v2 v3
      generalize at2 vs k = v at *
      obtain ⟨n, r⟩ := v
      simp only at f1 f2 v1 v4 v5 ET
      obtain ⟨a, rfl⟩ := Int.eq_ofNat_of_zero_le (show 0 ≤ n by omega)
      obtain ⟨q, rfl⟩ := Int.eq_ofNat_of_zero_le v4
      simp only [Int.toNat_natCast] at ET
      have k0 : (0 : Int) ≤ (k : Int) := by omega
      have k1 : (k : Int) < (vs.length : Int) := by omega
      have bz : w2.heap.size ≤ wr.heap.size := hb.out.size
      have klen : 4 + 6 * k ≤ 1000 := by omega
      clear v1 v4 v5
      subst hA
      go_wp2_with fail
      obtain ⟨V, hV⟩ : ∃ V : World, V = wr.alloc (.cells #[.int .i64 (a : Int), .int .i64 (q : Int)] 54) := ⟨_, rfl⟩
      rw [← hV]
      have g0 : V.cell? ⟨wr.heap.size, 0, none⟩ = some (.int .i64 (a : Int)) := by rw [hV]; exact row_c (heap_alloc_new wr _) rfl
      have g1 : V.cell? ⟨wr.heap.size, 1, none⟩ = some (.int .i64 (q : Int)) := by rw [hV]; exact row_c (heap_alloc_new wr _) rfl
      have vsz : wr.heap.size < V.heap.size := by rw [hV]; simp
      have VB := Lib.hid (show Below wr.heap.size wr V by rw [hV]; exact bda _ _)
      clear hV
      have OX := Lib.hid (fun (w' : World) (hw : Below V.heap.size V w') => (show w'.ownsRow w2.heap.size 5 1 u4 (4 + 6 * k) (Lib.byteCells (encL N (vs.take k))) from
        World.ownsRow.kept ho.out (row := none) (let hh := bon VB.out hw; ⟨hh.os, hh.tape, hh.output, hh.size, fun i hi _ => hh.block i hi⟩) (by cases hvv : u4.ownBlock <;> simp)))
      have NX := Lib.hid (show u4.ownBlock ≠ some wr.heap.size from fun e => by have := (ho.out.lt _ e).2; omega)
      have C1 := Lib.hid (fun (w' : World) (hw : Below V.heap.size V w') (g : Nat) (hg : w'.cell? ⟨g, 0, none⟩ = some (.int .i64 (a : Int))) =>
        lay4_any a w2.heap.size u4 (4 + 6 * k) _ g 1 w' (OX.out w' hw) hg (Nat.le_trans (by omega) hw.size) (by omega))
      have C2 := Lib.hid (fun (x1 : Value) (w' : World) (h1 : w'.ownsRow w2.heap.size 5 1 x1 (4 + 6 * k + 4) (Lib.byteCells (encL N (vs.take k) ++ be 4 a))) (hs : w2.heap.size ≤ w'.heap.size) (g : Nat) (hg : w'.cell? ⟨g, 0, none⟩ = some (.int .i64 (q : Int))) =>
        lay2_any q w2.heap.size x1 (4 + 6 * k + 4) _ g 1 w' h1 hg hs (by omega))
      have KD := Lib.hid (bd0 V)
      have A1 := Lib.hid (C1.out (V.alloc (.cells #[.int .i64 (a : Int)] 3)).drew (below_drew (bda V _)) V.heap.size (new_c0 V _ _))
      have A2 := Lib.hid (C1.out ((V.alloc (.cells #[.int .i64 (a : Int)] 3)).alloc (.cells #[.int .i64 (q : Int)] 3)).drew (below_drew (bon (bda V _) (bda _ _))) V.heap.size (old_c (new_c0 V _ _) _))
      have A3 := Lib.hid (C1.out ((V.alloc (.cells #[.int .i64 (q : Int)] 3)).alloc (.cells #[.int .i64 (a : Int)] 3)).drew (below_drew (bon (bda V _) (bda _ _))) (V.heap.size + 1) (by simp))
      have R2 := Lib.hid (show (((V.alloc (.cells #[.int .i64 (a : Int)] 3)).alloc (.cells #[.int .i64 (q : Int)] 3)).drew).cell? ⟨V.heap.size + 1, 0, none⟩ = some (.int .i64 (q : Int)) by simp)
      have R3 := Lib.hid (show (((V.alloc (.cells #[.int .i64 (q : Int)] 3)).alloc (.cells #[.int .i64 (a : Int)] 3)).drew).cell? ⟨V.heap.size, 0, none⟩ = some (.int .i64 (q : Int)) from old_c (new_c0 V _ _) _)
      have NG0 := Lib.hid (show u4.ownBlock ≠ some V.heap.size from fun e => by have := (ho.out.lt _ e).2; omega)
      have NG1 := Lib.hid (show u4.ownBlock ≠ some (V.heap.size + 1) from fun e => by have := (ho.out.lt _ e).2; omega)
      have T0 := Lib.hid (And.intro g0 g1)
      go_region_held3 (fun w' => w'.cell? ⟨wr.heap.size, 0, none⟩ = some (.int .i64 (a : Int)) ∧ w'.cell? ⟨wr.heap.size, 1, none⟩ = some (.int .i64 (q : Int)))
        (first | with_reducible exact S2.out | with_reducible exact S1.out | with_reducible exact ⟨old_c S1.out.1 _, old_c S1.out.2 _⟩ | go_keep)
        (first
          | (go_at_call 21; (with_reducible refine A1.out.mono ?_); rintro e w4 ⟨x4, rfl, ho4, hb4, hg4⟩; (have S1 := Lib.hid (And.intro (hg4.cell (old_c T0.out.1 _) NX.out) (hg4.cell (old_c T0.out.2 _) NX.out))); (have O4 := Lib.hid ho4); (have KW := Lib.hid (show Below w2.heap.size w2 w4 from hb.out.trans ((VB.out.mono bz).trans (((below_drew (bda V _)).mono (by omega)).trans hb4)))); (have W4 := Lib.hid (show w2.heap.size ≤ (w4.alloc (.cells #[.int .i64 (q : Int)] 3)).heap.size by have := KW.out.size; simp; omega)); (have X4 := Lib.hid (show x4.ownBlock ≠ some wr.heap.size from fun e => (hg4.2 _ e).elim NX.out (fun h => by simp at h; omega))); clear ho4 hb4 hg4)
          | (go_at_call 21; (with_reducible refine A2.out.mono ?_); rintro e w4 ⟨x4, rfl, ho4, hb4, hg4⟩; (have S1 := Lib.hid (And.intro (hg4.cell (old_c (old_c T0.out.1 _) _) NX.out) (hg4.cell (old_c (old_c T0.out.2 _) _) NX.out))); (have O4 := Lib.hid ho4); (have KW := Lib.hid (show Below w2.heap.size w2 w4 from hb.out.trans ((VB.out.mono bz).trans (((below_drew (bon (bda V _) (bda _ _))).mono (by omega)).trans hb4)))); (have W4 := Lib.hid (show w2.heap.size ≤ (w4.alloc (.cells #[.int .i64 (q : Int)] 3)).heap.size by have := KW.out.size; simp; omega)); (have X4 := Lib.hid (show x4.ownBlock ≠ some wr.heap.size from fun e => (hg4.2 _ e).elim NX.out (fun h => by simp at h; omega))); (have RC := Lib.hid (hg4.cell R2.out NG1.out)); clear ho4 hb4 hg4)
          | (go_at_call 21; (with_reducible refine A3.out.mono ?_); rintro e w4 ⟨x4, rfl, ho4, hb4, hg4⟩; (have S1 := Lib.hid (And.intro (hg4.cell (old_c (old_c T0.out.1 _) _) NX.out) (hg4.cell (old_c (old_c T0.out.2 _) _) NX.out))); (have O4 := Lib.hid ho4); (have KW := Lib.hid (show Below w2.heap.size w2 w4 from hb.out.trans ((VB.out.mono bz).trans (((below_drew (bon (bda V _) (bda _ _))).mono (by omega)).trans hb4)))); (have W4 := Lib.hid (show w2.heap.size ≤ (w4.alloc (.cells #[.int .i64 (q : Int)] 3)).heap.size by have := KW.out.size; simp; omega)); (have X4 := Lib.hid (show x4.ownBlock ≠ some wr.heap.size from fun e => (hg4.2 _ e).elim NX.out (fun h => by simp at h; omega))); (have RC := Lib.hid (hg4.cell R3.out NG0.out)); clear ho4 hb4 hg4)
          | (go_at_call 21; (with_reducible refine (C2.out x4 w4 O4.out KW.out.size _ RC.out).mono ?_); rintro e w5 ⟨x5, rfl, ho5, hb5, hg5⟩; (have S2 := Lib.hid (And.intro (hg5.cell S1.out.1 X4.out) (hg5.cell S1.out.2 X4.out))); (have O5 := Lib.hid ho5); (have KF := Lib.hid (KW.out.trans hb5)); clear ho5 hb5 hg5)
          | (go_at_call 21; (with_reducible refine (C2.out x4 (w4.alloc _) (O4.out.alloc _) W4.out _ (new_c0 w4 _ _)).mono ?_); rintro e w5 ⟨x5, rfl, ho5, hb5, hg5⟩; (have S2 := Lib.hid (And.intro (hg5.cell (old_c S1.out.1 _) X4.out) (hg5.cell (old_c S1.out.2 _) X4.out))); (have O5 := Lib.hid ho5); (have KF := Lib.hid ((KW.out.alloc KW.out.size _).trans hb5)); clear ho5 hb5 hg5))
      all_goals
        go_wp2
        go_roundw
        case rel =>
          refine ⟨k + 1, HLT.out, by go_num, Lib.hid ?_, KF⟩
          rw [ET.out]
          exact O5.out
        case measure => simp [intOf]; omega
    · obtain rfl : k = vs.length := by omega
      have eT : vs.take vs.length = vs := List.take_length
      rw [eT] at ho
      obtain ⟨gr, hgr, hconv⟩ := own_conv ho.out (by rw [enc_len]; omega)
      subst hgr
      clear ho eT
      go_wp2
      go_ret2
      exact ⟨rfl, K2.out.trans (hb.out.mono (by have := K2.out.size; omega))⟩
end Go.Proofs.Ytmgdpchjimlmeaa.Cat
end

section
/-
  append(own, versions...), whatever memory holds them; slices.Grow, slices.Concat of two.
-/
namespace Go.Proofs.Ytmgdpchjimlmeaa.Cat
open Go.RowKit
def vcells (vs : List (Int × Int)) : List Value := vs.flatMap fun v => [.int .i64 v.1, .int .i64 v.2]
theorem vcells_len (vs : List (Int × Int)) : (vcells vs).length = vs.length * 2 := by
  unfold vcells
  induction vs with
  | nil => rfl
  | cons v r ih => rw [List.flatMap_cons, List.length_append, ih]; simp only [List.length_cons, List.length_nil]; omega
theorem vcells_app (a b : List (Int × Int)) : vcells (a ++ b) = vcells a ++ vcells b := by simp [vcells]
theorem vcells_at {vs : List (Int × Int)} : ∀ {j : Nat}, j < vs.length → (vcells vs)[j * 2]? = some (.int .i64 (at2 vs j).1) ∧ (vcells vs)[j * 2 + 1]? = some (.int .i64 (at2 vs j).2) := by
  induction vs with
  | nil => intro j h; simp at h
  | cons v r ih =>
    intro j h
    cases j with
    | zero => exact ⟨rfl, rfl⟩
    | succ j =>
      have := ih (j := j) (by simpa using h)
      have e : at2 (v :: r) (j + 1) = at2 r j := by unfold at2; simp
      rw [e]
      have e2 : vcells (v :: r) = .int .i64 v.1 :: .int .i64 v.2 :: vcells r := rfl
      rw [e2, show (j + 1) * 2 = j * 2 + 1 + 1 by omega]
      exact this
theorem vcells_get {vs : List (Int × Int)} {j : Nat} {u : Value} (h : (vcells vs)[j]? = some u) : ∃ i, i < vs.length ∧ ((j = i * 2 ∧ u = .int .i64 (at2 vs i).1) ∨ (j = i * 2 + 1 ∧ u = .int .i64 (at2 vs i).2)) := by
  have hl : j < vs.length * 2 := by rw [← vcells_len]; exact (List.getElem?_eq_some_iff.1 h).1
  refine ⟨j / 2, by omega, ?_⟩
  have := vcells_at (vs := vs) (j := j / 2) (by omega)
  rcases Nat.mod_two_eq_zero_or_one j with h2 | h2
  · refine .inl ⟨by omega, ?_⟩
    rw [show j / 2 * 2 = j by omega, h] at this
    exact Option.some.inj this.1
  · refine .inr ⟨by omega, ?_⟩
    rw [show j / 2 * 2 + 1 = j by omega, h] at this
    exact Option.some.inj this.2
theorem vcells_one {vs : List (Int × Int)} : ∀ u ∈ vcells vs, u.oneCell' = true := by
  intro u hu
  obtain ⟨j, hj⟩ := List.getElem?_of_mem hu
  obtain ⟨i, _, ⟨_, rfl⟩ | ⟨_, rfl⟩⟩ := vcells_get hj <;> rfl
theorem vs_cell {w : World} {A : Addr} {c : Nat} {vs : List (Int × Int)} (h : Vs w (some A) c vs) {j : Nat} {u : Value} (hu : (vcells vs)[j]? = some u) : w.cell? (A.add j) = some u := by
  obtain ⟨i, hi, hh⟩ := vcells_get hu
  obtain ⟨b, off, e, _, hc⟩ := h.2 (by omega)
  injection e with e
  subst e
  rw [Addr.add_lit]
  rcases hh with ⟨rfl, rfl⟩ | ⟨rfl, rfl⟩
  · exact (hc i hi).1
  · rw [← Nat.add_assoc]; exact (hc i hi).2
/-- What a call hands back lies behind block B, or nowhere. -/
def Fr (B : Nat) (A : Option Addr) : Prop := ∀ b o, A = some ⟨b, o, none⟩ → B ≤ b
theorem Vs.set {w : World} {A : Option Addr} {c B g : Nat} {vs : List (Int × Int)} (h : Vs w A c vs) (hf : Fr B A) (hg : g < B) (o : Nat) (x : Value) : Vs (w.setCell ⟨g, o, none⟩ x) A c vs :=
  ⟨h.1, fun h0 => by
    obtain ⟨b, off, e, hlt, hc⟩ := h.2 h0
    have hb := hf b off e
    refine ⟨b, off, e, by simpa using hlt, fun j hj => ⟨?_, ?_⟩⟩
    · exact (World.cell?_setCell_other _ _ _ _ (fun e => by have := congrArg Addr.block e; simp at this; omega)).trans (hc j hj).1
    · exact (World.cell?_setCell_other _ _ _ _ (fun e => by have := congrArg Addr.block e; simp at this; omega)).trans (hc j hj).2⟩
theorem vs_of_own {w : World} {base : Nat} {e : TypeId} {v : Value} {n : Nat} {vs : List (Int × Int)} (h : w.ownsRow base e 2 v n (vcells vs)) : ∃ A c, v = .slice A vs.length c ∧ Vs w A c vs ∧ Fr base A := by
  have hn : vs.length = n := by have := h.1; rw [vcells_len] at this; omega
  rcases h.2 with ⟨rfl, h0⟩ | ⟨g, cap, cur, rfl, hb, hh, hc, hm, hs, ht⟩
  · have : vs = [] := List.eq_nil_of_length_eq_zero (by omega)
    subst this
    exact ⟨none, 0, rfl, Vs.nil_ _ _, fun _ _ h => by cases h⟩
  · refine ⟨some ⟨g, 0, none⟩, cap, by rw [hn], ⟨by omega, fun h0 => ⟨g, 0, rfl, heap_lt hh, fun j hj => ?_⟩⟩, fun b o e => by injection e with e; injection e with e1; omega⟩
    have := vcells_at hj
    have a1 := h.cells (g := g) rfl _ _ this.1
    have a2 := h.cells (g := g) rfl _ _ this.2
    rw [Addr.add_lit] at a1 a2
    exact ⟨a1, by rw [← a2, Nat.add_assoc]⟩
theorem run_append_nilcap {P : Program} {w : World} (base : Nat) (t ty e : TypeId) (i : TypeInfo) (size c : Nat) (ht : P.underlying t = some (.slice e)) (hi : P.info? e = some i)
    (v : Value) (n : Nat) (xs : List Value) (hown : w.ownsRow base e size v n xs) : (Builtin.append_ #[t, t] ty #[v, .slice none 0 c]).run P w = .ok v w := by
  rcases hown.2 with ⟨rfl, rfl⟩ | ⟨g, cap, cur, rfl, _, _, hnc, _⟩
  · simp [Builtin.append_, run_underlying ht, sizeOf, typeInfo, hi, Builtin.lenOf, Builtin.firstCells]
  · simp [Builtin.append_, run_underlying ht, sizeOf, typeInfo, hi, Builtin.lenOf, Builtin.firstCells, hnc, storeCells]
/-- What a type of versions is. -/
def VT (T e : TypeId) : Prop := Try.prog.underlying T = some (.slice e) ∧ ∃ i z, Try.prog.info? e = some i ∧ i.zero = some z ∧ i.size = 2 ∧ i.bytes = 16 ∧ z.cells.size = 2
theorem vt1 : VT 22 54 := by
  obtain ⟨i0, hi, hz0, hz1, hz2⟩ := info_parts (show (Try.prog.info? 54).map (fun i => (i.zero, i.size, i.bytes)) = some (some (.agg #[.int .i64 0, .int .i64 0]), 2, 16) by kernel_rfl)
  exact ⟨Try.underlying22, i0, _, hi, hz0, hz1, hz2, rfl⟩
theorem vt2 : VT 39 72 := by
  obtain ⟨i0, hi, hz0, hz1, hz2⟩ := info_parts (show (Try.prog.info? 72).map (fun i => (i.zero, i.size, i.bytes)) = some (some (.agg #[.int .i64 0, .int .i64 0]), 2, 16) by kernel_rfl)
  exact ⟨Try.underlying39, i0, _, hi, hz0, hz1, hz2, rfl⟩
theorem wpList_append_vs {w : World} {ops : Array Oper} {rest : List Oper} {o : Oper} {a : Act} {Q : Exit → Act → World → Prop} {T e : TypeId} (hT : VT T e) (hgd : o.guard = none) (s x : Operand)
    (ho : o.op = .call { callee := .builtin .append, args := #[s, x], argTypes := #[T, T] }) (base : Nat) (v : Value) (n : Nat) (zs ys : List (Int × Int)) (B : Option Addr) (d m : Nat)
    (hs : a.eval s = v) (hown : w.ownsRow base e 2 v n (vcells zs)) (hD : Vs w B d ys) (hm : m = ys.length) (hx : a.eval x = .slice B m d) (hb : n + m ≤ 1000000) (hbase : base ≤ w.heap.size)
    (h : ∀ v' w', w'.ownsRow base e 2 v' (n + m) (vcells (zs ++ ys)) → w.grownBy w' v.ownBlock → wpList Try.prog ops Q rest (a.put o.dst v') w') : wpList Try.prog ops Q (o :: rest) a w := by
  obtain ⟨hu, i0, z, hi, hz0, hz1, hz2, hzc⟩ := hT
  subst hm
  rcases B with _ | A
  · have h0 : ys = [] := by
      rcases Nat.eq_zero_or_pos ys.length with h0 | h0
      · exact List.eq_nil_of_length_eq_zero h0
      · obtain ⟨b, off, e, _⟩ := hD.2 h0
        cases e
    subst h0
    refine wpList_plain hgd fun K hK => ?_
    have hrun := run_append_nilcap (P := Try.prog) (w := w) base T o.type e i0 2 d hu hi v n (vcells zs) hown
    unfold Oper.wp
    simp at hx
    simp [execOp, ho, resolve, invoke, builtin, hs, hx, hrun, Result.andThen]
    exact hK _ _ (h v w (by simpa using hown) (World.grownBy.refl _ _))
  · exact wpList_append_own _ hgd s x T ho base e i0 z 2 16 hu hi hz0 hz1 hz2 hzc (by decide) v n (vcells zs) hs hown A ys.length d (vcells ys) hx (by rw [vcells_len]) (fun j u hj => vs_cell hD hj) vcells_one (by unfold maxLen; omega) (by omega) hbase fun v' w' h1 h2 _ => h v' w' (by rw [vcells_app]; exact h1) h2
set_option maxHeartbeats 1000000 in
set_option maxRecDepth 100000 in
theorem grow_any (n : Nat) (w : World) (hn : n ≤ 1000000) :
    Calls Try.prog 46 #[.slice none 0 0, .int .i64 n] w fun e w' => ∃ v, e = .returned v ∧ w'.ownsRow w.heap.size 54 2 v 0 (vcells []) ∧ Below w.heap.size w w' := by
  obtain ⟨i0, hi, hz0, hz1, hz2⟩ := info_parts (show (Try.prog.info? 54).map (fun i => (i.zero, i.size, i.bytes)) = some (some (.agg #[.int .i64 0, .int .i64 0]), 2, 16) by kernel_rfl)
  by_cases h0 : n = 0
  · subst h0
    go_enter Try.func46, Try.ntmps46
    go_wp2
    go_ret
    exact ⟨_, rfl, World.ownsRow_nil _ _ _ _, Below.refl _ _⟩
  · have hap := fun (W : World) (ty : TypeId) => Lib.run_append_nil_zeros (P := Try.prog) W 22 3 ty 54 i0 _ .i64 .i64 Try.underlying22 Try.underlying3 hi hz0 n (by omega) (by rw [hz1]; omega) (by omega) (by rw [hz2]; omega)
    have e1 : decide ((n : Int) < 0) = false := by simp
    have e2 : decide ((0 : Int) < (n : Int)) = true := by simp; omega
    have e3 : decide (0 < n) = true := by simp; omega
    have cg := grownCap_ge w n 0 54
    obtain ⟨cap, hcap⟩ : ∃ cap, grownCap w n 0 54 = cap := ⟨_, rfl⟩
    have hap' := hap w
    rw [hcap] at hap' cg
    go_enter Try.func46, Try.ntmps46
    have cm := Lib.hid (grownCap_le_maxLen w n 0 54 (by unfold maxLen; omega))
    rw [hcap] at cm
    have HAP := Lib.hid hap'
    have CG := Lib.hid cg
    have cc0 : (0 : Int) ≤ (cap : Int) := by omega
    clear hap hap' cg hcap
    have OW := Lib.hid (World.ownsRow_made (e := 54) (base := w.heap.size) (size := 2) w.drew (Builtin.zeroCells (Value.cells (.agg #[.int .i64 0, .int .i64 0])) n ++ Builtin.zeroCells (Value.cells (.agg #[.int .i64 0, .int .i64 0])) (cap - n)) cap (by simp) cm.out (by rw [Array.size_append, size_zeroCells, size_zeroCells, show (Value.cells (.agg #[.int .i64 0, .int .i64 0])).size = 2 from rfl]; have := CG.out; omega))
    go_wp2_with (at_builtin; refine Lib.wpList_append_run _ rfl _ _ 22 3 rfl _ _ rfl rfl _ _ (HAP.out _) ?_)
    go_ret
    exact ⟨_, rfl, OW.out, (bd0 w).trans ((Below.refl _ _).alloc (by simp) _)⟩
end Go.Proofs.Ytmgdpchjimlmeaa.Cat
end

section
/-
  slices.Concat of two.
-/
namespace Go.Proofs.Ytmgdpchjimlmeaa.Cat
open Go.RowKit
set_option maxHeartbeats 4000000 in
set_option maxRecDepth 100000 in
theorem concat_any (A1 A2 : Option Addr) (c1 c2 : Nat) (us vs : List (Int × Int)) (g : Nat) (w : World) (h1 : Vs w A1 c1 us) (h2 : Vs w A2 c2 vs)
    (g0 : w.cell? ⟨g, 0, none⟩ = some (.slice A1 us.length c1)) (g1 : w.cell? ⟨g, 1, none⟩ = some (.slice A2 vs.length c2)) (l1 : us.length ≤ 1000) (l2 : vs.length ≤ 1000) :
    Calls Try.prog 31 #[.slice (some ⟨g, 0, none⟩) 2 2] w fun e w' => ∃ A c, e = .returned (.slice A (us ++ vs).length c) ∧ Vs w' A c (us ++ vs) ∧ Below w.heap.size w w' ∧ Fr w.heap.size A := by
  have G0 := Lib.hid g0
  have G1 := Lib.hid g1
  have H1 := Lib.hid h1
  have H2 := Lib.hid h2
  have HG := Lib.hid (World.block_lt_of_cell? w _ g0)
  clear h1 h2
  go_enter Try.func31, Try.ntmps31
  go_wp2
  go_loop [3, 11] (fun s i => ∃ q z : Int, i = .int .i64 q ∧ s = .int .i64 z ∧ (q = 0 ∧ z = 0 ∨ q = 1 ∧ z = us.length ∨ q = 2 ∧ z = us.length + vs.length)) (fun _ i => 2 - (intOf i).toNat)
  case atStart => exact ⟨0, 0, rfl, rfl, .inl ⟨rfl, rfl⟩⟩
  case round =>
    obtain ⟨q, z, rfl, rfl, ⟨rfl, rfl⟩ | ⟨rfl, rfl⟩ | ⟨rfl, rfl⟩⟩ := hrel
    · go_wp2
      go_round
      case rel => exact ⟨1, _, rfl, rfl, .inr (.inl ⟨rfl, rfl⟩)⟩
      case measure => simp [intOf]
    · have e1 : decide ((us.length : Int) + (vs.length : Int) < 0) = false := by simp; omega
      go_wp2
      go_round
      case rel => exact ⟨2, _, rfl, rfl, .inr (.inr ⟨rfl, rfl⟩)⟩
      case measure => simp [intOf]
    · have GA := Lib.hid (fun W => grow_any (us.length + vs.length) W (by omega))
      rw [Int.natCast_add] at GA
      go_wp2_with fail
      refine (GA.out _).mono ?_
      rintro e w2 ⟨x, rfl, ho, hb⟩
      have O2 := Lib.hid ho
      have K2 := Lib.hid hb
      have HG1 := HG.out
      have c0 := (hb.cell (p := ⟨g, 0, none⟩) HG1).trans g0
      have c1' := (hb.cell (p := ⟨g, 1, none⟩) HG1).trans g1
      clear ho hb g0 g1
      go_wp2_with fail
      go_loopw [6, 27] (fun x i wr => ∃ (q : Int) (zs : List (Int × Int)), i = .int .i64 q ∧ Hid (wr.ownsRow w.heap.size 54 2 x zs.length (vcells zs)) ∧ Hid (Below w.heap.size w wr) ∧ (q = 0 ∧ zs = [] ∨ q = 1 ∧ zs = us ∨ q = 2 ∧ zs = us ++ vs)) (fun _ i _ => 2 - (intOf i).toNat)
      case atStart => exact ⟨0, [], rfl, O2, K2, .inl ⟨rfl, rfl⟩⟩
      case round =>
        obtain ⟨q, zs, rfl, ho, hb, ⟨rfl, rfl⟩ | ⟨rfl, rfl⟩ | ⟨rfl, rfl⟩⟩ := hrel
        · have d0 := (hb.out.cell (p := ⟨g, 0, none⟩) HG1).trans G0.out
          have V1 := Lib.hid (H1.out.below hb.out)
          have bz := hb.out.size
          go_wp2_with (at_builtin; refine wpList_append_vs vt1 rfl _ _ rfl w.heap.size _ 0 [] us A1 c1 us.length rfl ho.out V1.out rfl rfl (by omega) bz ?_)
          intro v' w3 hown hgrow
          have O3 := Lib.hid hown
          have K3 := Lib.hid (hb.out.grown hgrow bz (fun k hk => (ho.out.lt k hk).1))
          clear hown hgrow
          go_wp2
          go_roundw
          case rel => exact ⟨1, us, rfl, Lib.hid (by simpa using O3.out), K3, .inr (.inl ⟨rfl, rfl⟩)⟩
          case measure => simp [intOf]
        · have d1 := (hb.out.cell (p := ⟨g, 1, none⟩) HG1).trans G1.out
          have V2 := Lib.hid (H2.out.below hb.out)
          have bz := hb.out.size
          go_wp2_with (at_builtin; refine wpList_append_vs vt1 rfl _ _ rfl w.heap.size _ _ _ vs A2 c2 vs.length rfl ho.out V2.out rfl rfl (by omega) bz ?_)
          intro v' w3 hown hgrow
          have O3 := Lib.hid hown
          have K3 := Lib.hid (hb.out.grown hgrow bz (fun k hk => (ho.out.lt k hk).1))
          clear hown hgrow
          go_wp2
          go_roundw
          case rel => exact ⟨2, _, rfl, Lib.hid (by rw [List.length_append]; exact O3.out), K3, .inr (.inr ⟨rfl, rfl⟩)⟩
          case measure => simp [intOf]
        · obtain ⟨A, c, hv, hV, hF⟩ := vs_of_own ho.out
          have HV := Lib.hid (And.intro hv hV)
          have HF := Lib.hid hF
          clear hv hV ho hF
          go_wp2
          go_ret
          exact ⟨A, c, congrArg Ending.returned HV.out.1, HV.out.2, hb.out, HF.out⟩
end Go.Proofs.Ytmgdpchjimlmeaa.Cat
end

section
/-
  cat.Find.
-/
namespace Go.Proofs.Ytmgdpchjimlmeaa.Cat
open Go.RowKit
/-- The first place of a number, if there is one. -/
def idxOf (n : Int) : List (Int × Int) → Nat → Option Nat
  | [], _ => none
  | v :: r, k => if v.1 = n then some k else idxOf n r (k + 1)
/-- What Find tells: the place, and whether there is one. -/
def findP (vs : List (Int × Int)) (n : Int) : Option Nat := if n = 0 then (if vs.length = 0 then none else some (vs.length - 1)) else idxOf n vs 0
def idxI : Option Nat → Int
  | none => -1
  | some k => (k : Int)
theorem idxOf_lt {n : Int} : ∀ {vs : List (Int × Int)} {k j : Nat}, idxOf n vs k = some j → k ≤ j ∧ j < k + vs.length
  | [], _, _, h => by cases h
  | v :: r, k, j, h => by
    unfold idxOf at h
    split at h
    · injection h with h; subst h; simp
    · have := idxOf_lt h; simp; omega
set_option maxHeartbeats 1000000 in
set_option maxRecDepth 100000 in
theorem find1_any (v : Int × Int) (n : Int) (g : Nat) (w : World) (hg : w.cell? ⟨g, 0, none⟩ = some (.int .i64 n)) :
    Calls Try.prog 33 #[.agg #[.int .i64 v.1, .int .i64 v.2], .pointer (some ⟨g, 0, none⟩)] w fun e w' => e = .returned (.bool (v.1 == n)) ∧ Below w.heap.size w w' := by
  obtain ⟨a, b⟩ := v
  have hlt := World.block_lt_of_cell? w _ hg
  go_enter Try.func33, Try.ntmps33
  go_wp2
  go_ret
  exact ⟨rfl, bda _ _⟩
set_option maxHeartbeats 2000000 in
set_option maxRecDepth 100000 in
theorem index_any (A : Option Addr) (c : Nat) (vs : List (Int × Int)) (n : Int) (g : Nat) (w : World) (h : Vs w A c vs) (hg : w.cell? ⟨g, 0, none⟩ = some (.int .i64 n)) (hl : vs.length ≤ 1000000) :
    Calls Try.prog 32 #[.slice A vs.length c, .func (.func 33) #[] #[.pointer (some ⟨g, 0, none⟩)]] w fun e w' => e = .returned (.int .i64 (idxI (idxOf n vs 0))) ∧ Below w.heap.size w w' := by
  have H := Lib.hid h
  have HG := Lib.hid hg
  clear h hg
  go_enter Try.func32, Try.ntmps32
  go_wp2
  go_loopw [8] (fun i wr => ∃ k : Nat, k ≤ vs.length ∧ i = .int .i64 k ∧ Hid (idxOf n vs 0 = idxOf n (vs.drop k) k) ∧ Hid (Below w.heap.size w wr)) (fun i _ => vs.length - (intOf i).toNat)
  case atStart => exact ⟨0, Nat.zero_le _, rfl, Lib.hid rfl, Lib.hid (Below.refl _ _)⟩
  case round =>
    obtain ⟨k, hk, rfl, hi, hb⟩ := hrel
    by_cases hlt : k < vs.length
    · obtain ⟨b, off, hA, hbl, hcell⟩ := H.out.2 (by omega)
      have f1 := (hb.out.cell (p := ⟨b, off + k * 2, none⟩) hbl).trans (hcell k hlt).1
      have f2 := (hb.out.cell (p := ⟨b, off + k * 2 + 1, none⟩) hbl).trans (hcell k hlt).2
      have HGW := Lib.hid ((hb.out.cell (p := ⟨g, 0, none⟩) (World.block_lt_of_cell? w _ HG.out)).trans HG.out)
      have ED := Lib.hid (show idxOf n vs 0 = if (at2 vs k).1 = n then some k else idxOf n (vs.drop (k + 1)) (k + 1) by rw [hi.out, drop_at hlt]; rfl)
      have HLT := Lib.hid hlt
      have FC := Lib.hid (fun V (hV : V.cell? ⟨g, 0, none⟩ = some (.int .i64 n)) => find1_any (at2 vs k) n g V hV)
      clear hcell hi
      generalize at2 vs k = v at *
      obtain ⟨a, q⟩ := v
      simp only at f1 f2 ED
      have k0 : (0 : Int) ≤ (k : Int) := by omega
      have k1 : (k : Int) < (vs.length : Int) := by omega
      subst hA
      by_cases he : a = n
      · have d1 : (a == n) = true := by simpa using he
        rw [d1] at FC
        have EE := Lib.hid (show idxOf n vs 0 = some k by rw [ED.out, if_pos he])
        clear ED he d1
        go_wp2_with fail
        refine (FC.out _ HGW.out).mono ?_
        rintro e w2 ⟨rfl, hb2⟩
        have K2 := Lib.hid (bon hb.out hb2)
        clear hb2
        go_wp2
        go_ret
        exact ⟨by rw [EE.out]; rfl, K2.out⟩
      · have d1 : (a == n) = false := by simpa using he
        rw [d1] at FC
        have EE := Lib.hid (show idxOf n vs 0 = idxOf n (vs.drop (k + 1)) (k + 1) by rw [ED.out, if_neg he])
        clear ED he d1
        go_wp2_with fail
        refine (FC.out _ HGW.out).mono ?_
        rintro e w2 ⟨rfl, hb2⟩
        have K2 := Lib.hid (bon hb.out hb2)
        clear hb2
        go_wp2
        go_roundw
        case rel => exact ⟨k + 1, HLT.out, by go_num, EE, K2⟩
        case measure => simp [intOf]; omega
    · obtain rfl : k = vs.length := by omega
      have EE := Lib.hid (show idxOf n vs 0 = none by rw [hi.out, List.drop_length]; rfl)
      clear hi
      go_wp2
      go_ret
      exact ⟨by rw [EE.out]; rfl, hb.out⟩
set_option maxHeartbeats 2000000 in
set_option maxRecDepth 100000 in
theorem find0_some (next : Int) (A : Option Addr) (c : Nat) (vs : List (Int × Int)) (n : Int) (w : World) (h : Vs w A c vs) (hl : vs.length ≤ 1000000) (hz : n = 0) (hp : 0 < vs.length) :
    Calls Try.prog 17 #[.agg #[.int .i64 next, .slice A vs.length c], .int .i64 n] w fun e w' => e = .returned (.tuple #[.int .i64 ((vs.length - 1 : Nat) : Int), .bool true]) ∧ Below w.heap.size w w' := by
  have IX := Lib.hid (fun V (hV : Vs V A c vs) g (hg : V.cell? ⟨g, 0, none⟩ = some (.int .i64 n)) => index_any A c vs n g V hV hg hl)
  have d0 : (n == 0) = true := by simpa using hz
  clear hz
  have e1 : decide ((vs.length : Int) - 1 < 0) = false := by simp; omega
  have e2 : ((vs.length : Int) - 1) = ((vs.length - 1 : Nat) : Int) := by omega
  have e3 : decide (((vs.length - 1 : Nat) : Int) < 0) = false := by simp
  have H := Lib.hid h
  clear h
  have hmf : ∀ (fn : Fn) (first cap : Array Value) (w : World), (Instr.makeFunc fn first cap).run Try.prog w = .ok (.func fn first cap) w := fun _ _ _ _ => rfl
  go_enter Try.func17, Try.ntmps17
  go_wp2_with fail
  obtain ⟨W, hW⟩ : ∃ W : World, W = (w.alloc (.cells #[.int .i64 next, .slice A vs.length c] 24)).alloc (.cells #[.int .i64 n] 3) := ⟨_, rfl⟩
  rw [← hW]
  have B1 := Lib.hid (show Below w.heap.size w W by rw [hW]; exact bon (bda _ _) (bda _ _))
  have r1 := row_on (heap_alloc_new w (.cells #[.int .i64 next, .slice A vs.length c] 24)) (bda _ (.cells #[.int .i64 n] 3))
  rw [← hW] at r1
  have R1 := Lib.hid r1
  have N1 := Lib.hid (show W.cell? ⟨w.heap.size + 1, 0, none⟩ = some (.int .i64 n) by rw [hW]; simp)
  clear hW r1 hmf
  refine (IX.out W (H.out.below B1.out) _ N1.out).mono ?_
  rintro e w2 ⟨rfl, hb⟩
  have K2 := Lib.hid (bon B1.out hb)
  have f1 := row_c (row_on R1.out hb) (i := 1) rfl
  have f2 := (hb.cell (p := ⟨w.heap.size + 1, 0, none⟩) (World.block_lt_of_cell? _ _ N1.out)).trans N1.out
  clear hb
  go_wp2
  go_ret2
  exact ⟨rfl, K2.out⟩
set_option maxHeartbeats 2000000 in
set_option maxRecDepth 100000 in
theorem find0_none (next : Int) (A : Option Addr) (c : Nat) (vs : List (Int × Int)) (n : Int) (w : World) (h : Vs w A c vs) (hl : vs.length ≤ 1000000) (hz : n = 0) (hp : vs.length = 0) :
    Calls Try.prog 17 #[.agg #[.int .i64 next, .slice A vs.length c], .int .i64 n] w fun e w' => e = .returned (.tuple #[.int .i64 0, .bool false]) ∧ Below w.heap.size w w' := by
  have d0 : (n == 0) = true := by simpa using hz
  clear hz
  have e1 : decide ((vs.length : Int) - 1 < 0) = true := decide_eq_true (by omega)
  have e1' : decide (vs.length < 1) = true := decide_eq_true (by omega)
  clear hp
  have IX := Lib.hid (fun V (hV : Vs V A c vs) g (hg : V.cell? ⟨g, 0, none⟩ = some (.int .i64 n)) => index_any A c vs n g V hV hg hl)
  have H := Lib.hid h
  clear h
  have hmf : ∀ (fn : Fn) (first cap : Array Value) (w : World), (Instr.makeFunc fn first cap).run Try.prog w = .ok (.func fn first cap) w := fun _ _ _ _ => rfl
  go_enter Try.func17, Try.ntmps17
  go_wp2_with fail
  obtain ⟨W, hW⟩ : ∃ W : World, W = (w.alloc (.cells #[.int .i64 next, .slice A vs.length c] 24)).alloc (.cells #[.int .i64 n] 3) := ⟨_, rfl⟩
  rw [← hW]
  have B1 := Lib.hid (show Below w.heap.size w W by rw [hW]; exact bon (bda _ _) (bda _ _))
  have r1 := row_on (heap_alloc_new w (.cells #[.int .i64 next, .slice A vs.length c] 24)) (bda _ (.cells #[.int .i64 n] 3))
  rw [← hW] at r1
  have R1 := Lib.hid r1
  have N1 := Lib.hid (show W.cell? ⟨w.heap.size + 1, 0, none⟩ = some (.int .i64 n) by rw [hW]; simp)
  clear hW r1 hmf
  refine (IX.out W (H.out.below B1.out) _ N1.out).mono ?_
  rintro e w2 ⟨rfl, hb⟩
  have K2 := Lib.hid (bon B1.out hb)
  have f1 := row_c (row_on R1.out hb) (i := 1) rfl
  have f2 := (hb.cell (p := ⟨w.heap.size + 1, 0, none⟩) (World.block_lt_of_cell? _ _ N1.out)).trans N1.out
  clear hb
  go_wp2
  go_ret2
  exact ⟨rfl, K2.out⟩
set_option maxHeartbeats 2000000 in
set_option maxRecDepth 100000 in
theorem findn_some (next : Int) (A : Option Addr) (c : Nat) (vs : List (Int × Int)) (n : Int) (w : World) (h : Vs w A c vs) (hl : vs.length ≤ 1000000) (hz : n ≠ 0) (k : Nat) (hp : idxOf n vs 0 = some k) :
    Calls Try.prog 17 #[.agg #[.int .i64 next, .slice A vs.length c], .int .i64 n] w fun e w' => e = .returned (.tuple #[.int .i64 k, .bool true]) ∧ Below w.heap.size w w' := by
  have IX := Lib.hid (fun V (hV : Vs V A c vs) g (hg : V.cell? ⟨g, 0, none⟩ = some (.int .i64 n)) => index_any A c vs n g V hV hg hl)
  rw [hp] at IX
  have e1 : (n == 0) = false := by simpa using hz
  clear hp hz
  unfold idxI at IX
  have e2 : decide ((k : Int) < 0) = false := by simp
  have H := Lib.hid h
  clear h
  have hmf : ∀ (fn : Fn) (first cap : Array Value) (w : World), (Instr.makeFunc fn first cap).run Try.prog w = .ok (.func fn first cap) w := fun _ _ _ _ => rfl
  go_enter Try.func17, Try.ntmps17
  go_wp2_with fail
  obtain ⟨W, hW⟩ : ∃ W : World, W = (w.alloc (.cells #[.int .i64 next, .slice A vs.length c] 24)).alloc (.cells #[.int .i64 n] 3) := ⟨_, rfl⟩
  rw [← hW]
  have B1 := Lib.hid (show Below w.heap.size w W by rw [hW]; exact bon (bda _ _) (bda _ _))
  have r1 := row_on (heap_alloc_new w (.cells #[.int .i64 next, .slice A vs.length c] 24)) (bda _ (.cells #[.int .i64 n] 3))
  rw [← hW] at r1
  have R1 := Lib.hid r1
  have N1 := Lib.hid (show W.cell? ⟨w.heap.size + 1, 0, none⟩ = some (.int .i64 n) by rw [hW]; simp)
  clear hW r1 hmf
  refine (IX.out W (H.out.below B1.out) _ N1.out).mono ?_
  rintro e w2 ⟨rfl, hb⟩
  have K2 := Lib.hid (bon B1.out hb)
  have f1 := row_c (row_on R1.out hb) (i := 1) rfl
  have f2 := (hb.cell (p := ⟨w.heap.size + 1, 0, none⟩) (World.block_lt_of_cell? _ _ N1.out)).trans N1.out
  clear hb
  go_wp2
  go_ret2
  exact ⟨rfl, K2.out⟩
set_option maxHeartbeats 2000000 in
set_option maxRecDepth 100000 in
theorem findn_none (next : Int) (A : Option Addr) (c : Nat) (vs : List (Int × Int)) (n : Int) (w : World) (h : Vs w A c vs) (hl : vs.length ≤ 1000000) (hz : n ≠ 0) (hp : idxOf n vs 0 = none) :
    Calls Try.prog 17 #[.agg #[.int .i64 next, .slice A vs.length c], .int .i64 n] w fun e w' => e = .returned (.tuple #[.int .i64 0, .bool false]) ∧ Below w.heap.size w w' := by
  have IX := Lib.hid (fun V (hV : Vs V A c vs) g (hg : V.cell? ⟨g, 0, none⟩ = some (.int .i64 n)) => index_any A c vs n g V hV hg hl)
  rw [hp] at IX
  have e1 : (n == 0) = false := by simpa using hz
  clear hp hz
  unfold idxI at IX
  have H := Lib.hid h
  clear h
  have hmf : ∀ (fn : Fn) (first cap : Array Value) (w : World), (Instr.makeFunc fn first cap).run Try.prog w = .ok (.func fn first cap) w := fun _ _ _ _ => rfl
  go_enter Try.func17, Try.ntmps17
  go_wp2_with fail
  obtain ⟨W, hW⟩ : ∃ W : World, W = (w.alloc (.cells #[.int .i64 next, .slice A vs.length c] 24)).alloc (.cells #[.int .i64 n] 3) := ⟨_, rfl⟩
  rw [← hW]
  have B1 := Lib.hid (show Below w.heap.size w W by rw [hW]; exact bon (bda _ _) (bda _ _))
  have r1 := row_on (heap_alloc_new w (.cells #[.int .i64 next, .slice A vs.length c] 24)) (bda _ (.cells #[.int .i64 n] 3))
  rw [← hW] at r1
  have R1 := Lib.hid r1
  have N1 := Lib.hid (show W.cell? ⟨w.heap.size + 1, 0, none⟩ = some (.int .i64 n) by rw [hW]; simp)
  clear hW r1 hmf
  refine (IX.out W (H.out.below B1.out) _ N1.out).mono ?_
  rintro e w2 ⟨rfl, hb⟩
  have K2 := Lib.hid (bon B1.out hb)
  have f1 := row_c (row_on R1.out hb) (i := 1) rfl
  have f2 := (hb.cell (p := ⟨w.heap.size + 1, 0, none⟩) (World.block_lt_of_cell? _ _ N1.out)).trans N1.out
  clear hb
  go_wp2
  go_ret2
  exact ⟨rfl, K2.out⟩
theorem find_some (next : Int) (A : Option Addr) (c : Nat) (vs : List (Int × Int)) (n : Int) (k : Nat) (w : World) (h : Vs w A c vs) (hl : vs.length ≤ 1000000) (hp : findP vs n = some k) :
    Calls Try.prog 17 #[.agg #[.int .i64 next, .slice A vs.length c], .int .i64 n] w fun e w' => e = .returned (.tuple #[.int .i64 k, .bool true]) ∧ Below w.heap.size w w' := by
  unfold findP at hp
  by_cases hz : n = 0
  · rw [if_pos hz] at hp
    by_cases h0 : vs.length = 0
    · rw [if_pos h0] at hp; cases hp
    · rw [if_neg h0] at hp
      injection hp with hp
      subst hp
      exact find0_some next A c vs n w h hl hz (by omega)
  · rw [if_neg hz] at hp
    exact findn_some next A c vs n w h hl hz k hp
theorem find_none (next : Int) (A : Option Addr) (c : Nat) (vs : List (Int × Int)) (n : Int) (w : World) (h : Vs w A c vs) (hl : vs.length ≤ 1000000) (hp : findP vs n = none) :
    Calls Try.prog 17 #[.agg #[.int .i64 next, .slice A vs.length c], .int .i64 n] w fun e w' => e = .returned (.tuple #[.int .i64 0, .bool false]) ∧ Below w.heap.size w w' := by
  unfold findP at hp
  by_cases hz : n = 0
  · rw [if_pos hz] at hp
    by_cases h0 : vs.length = 0
    · exact find0_none next A c vs n w h hl hz h0
    · rw [if_neg h0] at hp; cases hp
  · rw [if_neg hz] at hp
    exact findn_none next A c vs n w h hl hz hp
end Go.Proofs.Ytmgdpchjimlmeaa.Cat
end

section
/-
  cat.With.
-/
namespace Go.Proofs.Ytmgdpchjimlmeaa.Cat
open Go.RowKit
/-- May a version more be added? -/
def withB (next : Int) (vs : List (Int × Int)) (r : Int) : Bool := rightB next vs && !decide (vs.length = 12) && !decide (next = 16777216) && rootB r
set_option maxHeartbeats 2000000 in
set_option maxRecDepth 100000 in
theorem with_yes (next : Int) (A : Option Addr) (c : Nat) (vs : List (Int × Int)) (r : Int) (w : World) (h : Vs w A c vs) (hb : withB next vs r = true) :
    Calls Try.prog 16 #[.agg #[.int .i64 next, .slice A vs.length c], .int .i64 r] w fun e w' => ∃ A' c', e = .returned (.tuple #[.agg #[.int .i64 (next + 1), .slice A' (vs ++ [(next, r)]).length c'], .bool true]) ∧ Vs w' A' c' (vs ++ [(next, r)]) ∧ Below w.heap.size w w' ∧ Fr w.heap.size A' := by
  obtain ⟨zs, hzs⟩ : ∃ zs, vs ++ [(next, r)] = zs := ⟨_, rfl⟩
  rw [hzs]
  have HZ := Lib.hid hzs
  clear hzs
  unfold withB at hb
  simp only [Bool.and_eq_true, Bool.not_eq_true', decide_eq_false_iff_not] at hb
  obtain ⟨⟨⟨b1, b2⟩, b3⟩, b4⟩ := hb
  obtain ⟨a1, a2, a3, a4⟩ := right_all b1
  have RG := Lib.hid (fun V (hV : Vs V A c vs) => right_any next A c vs V hV (by omega))
  rw [b1] at RG
  have RB := Lib.hid (fun V => rooted_any r V)
  rw [b4] at RB
  have e1 : ((vs.length : Int) == 12) = false := by simp; omega
  have e2 : (next == 16777216) = false := by simpa using b3
  have hw : IntKind.i64.wrap (next + 1) = next + 1 := IntWalk.i64_in _ (by omega)
  have ll : vs.length ≤ 12 := a3
  have lo : 1 ≤ next := a1
  have hi : next ≤ 16777216 := a2
  clear a1 a2 a3 a4 b1 b2 b3 b4
  have H := Lib.hid h
  clear h
  go_enter Try.func16, Try.ntmps16
  go_wp2_with fail
  refine (RG.out _ (H.out.below (bon (bda _ _) (bda _ _)))).mono ?_
  rintro e w2 ⟨rfl, hb⟩
  have R1 := Lib.hid (row_on (row_on (heap_alloc_new w (.cells #[.int .i64 next, .slice A vs.length c] 24)) (bda _ (.cells #[.int .i64 0, .slice none 0 0] 24))) hb)
  have R2 := Lib.hid (row_on (heap_alloc_new (w.alloc (.cells #[.int .i64 next, .slice A vs.length c] 24)) (.cells #[.int .i64 0, .slice none 0 0] 24)) hb)
  have K2 := Lib.hid (bon (bon (bda w (.cells #[.int .i64 next, .slice A vs.length c] 24)) (bda _ (.cells #[.int .i64 0, .slice none 0 0] 24))) hb)
  clear hb
  have f0 : w2.cell? ⟨w.heap.size, 0, none⟩ = some (.int .i64 next) := row_c R1.out (i := 0) rfl
  have f1 : w2.cell? ⟨w.heap.size, 1, none⟩ = some (.slice A vs.length c) := row_c R1.out (i := 1) rfl
  have F := Lib.hid (And.intro f0 f1)
  go_wp2_with fail
  refine (RB.out _).mono ?_
  rintro e w3 ⟨rfl, rfl⟩
  go_wp2_with fail
  have r2 : w2.heap[w.heap.size + 1]? = some (.cells #[.int .i64 0, .slice none 0 0] 24) := by have := R2.out; simpa using this
  have HVW := Lib.hid ((H.out.below K2.out))
  have CA := Lib.hid (concat_any A (some ⟨w2.heap.size, 0, none⟩) c 1 vs [(next, r)] (w2.heap.size + 1) (((w2.alloc (.cells #[.int .i64 next, .int .i64 r] 54)).alloc (.cells #[.slice A vs.length c, .slice (some ⟨w2.heap.size, 0, none⟩) 1 1] 22)).drew)
    (HVW.out.below (below_drew (bon (bda _ _) (bda _ _))))
    ⟨by simp, fun _ => ⟨w2.heap.size, 0, rfl, by simp; omega, fun j hj => by
      obtain rfl : j = 0 := by simpa using hj
      have q := row_on (heap_alloc_new w2 (.cells #[.int .i64 next, .int .i64 r] 54)) (below_drew (bda _ (.cells #[.slice A vs.length c, .slice (some ⟨w2.heap.size, 0, none⟩) 1 1] 22)))
      exact ⟨row_c q (i := 0) rfl, row_c q (i := 1) rfl⟩⟩⟩
    (by have q := heap_alloc_new (w2.alloc (.cells #[.int .i64 next, .int .i64 r] 54)) (.cells #[.slice A vs.length c, .slice (some ⟨w2.heap.size, 0, none⟩) 1 1] 22); simp only [World.size_alloc] at q; exact row_c (w := (World.drew _)) q (i := 0) rfl)
    (by have q := heap_alloc_new (w2.alloc (.cells #[.int .i64 next, .int .i64 r] 54)) (.cells #[.slice A vs.length c, .slice (some ⟨w2.heap.size, 0, none⟩) 1 1] 22); simp only [World.size_alloc] at q; exact row_c (w := (World.drew _)) q (i := 1) rfl)
    (by omega) (by simp))
  rw [HZ.out] at CA
  have SW := Lib.hid (show w2.heap.size ≤ (((w2.alloc (.cells #[.int .i64 next, .int .i64 r] 54)).alloc (.cells #[.slice A vs.length c, .slice (some ⟨w2.heap.size, 0, none⟩) 1 1] 22)).drew).heap.size by simp; omega)
  have KC := Lib.hid (show Below w2.heap.size w2 (((w2.alloc (.cells #[.int .i64 next, .int .i64 r] 54)).alloc (.cells #[.slice A vs.length c, .slice (some ⟨w2.heap.size, 0, none⟩) 1 1] 22)).drew) from below_drew (bon (bda _ _) (bda _ _)))
  have RR := Lib.hid r2
  clear r2
  have sb := World.block_lt_of_cell? w2 _ f0
  go_region_held3 (fun w' => w'.cell? ⟨w.heap.size, 0, none⟩ = some (.int .i64 next) ∧ w'.cell? ⟨w.heap.size, 1, none⟩ = some (.slice A vs.length c))
    (first | with_reducible exact S3.out | go_keep)
    ((go_at_call 31; (with_reducible refine CA.out.mono ?_); rintro e w4 ⟨A4, c4, rfl, hv, hb, hf⟩; (have F4 := Lib.hid hf); (have K4 := Lib.hid (KC.out.trans (hb.mono SW.out))); (have S3 := Lib.hid (And.intro ((K4.out.cell (p := ⟨w.heap.size, 0, none⟩) sb).trans F.out.1) ((K4.out.cell (p := ⟨w.heap.size, 1, none⟩) sb).trans F.out.2))); (have V4 := Lib.hid hv); (have r4 := row_on RR.out K4.out); (have q0 := row_c r4 (i := 0) rfl); (have q1 := row_c r4 (i := 1) rfl); (have z0 := frozen_of_row _ _ 0 _ _ r4); (have z1 := frozen_of_row _ _ 1 _ _ r4); (have R4 := Lib.hid r4); clear hv hb hf r4))
  rename_i hHeld
  clear hHeld
  go_wp2
  refine bodyPost_ret (v := .tuple #[.agg #[.int .i64 (next + 1), .slice A4 zs.length c4], .bool true]) (by simp [results, Try.results16, go_sem, q0, q1]) rfl ⟨A4, c4, rfl, ?_, ?_, fun b o e => Nat.le_trans K2.out.size (Nat.le_trans SW.out (F4.out b o e))⟩
  · exact (V4.out.set F4.out (by have := heap_lt RR.out; have := SW.out; omega) _ _).set F4.out (by have := heap_lt RR.out; have := SW.out; omega) _ _
  · exact ((K2.out.trans (K4.out.mono K2.out.size)).setCell (by simp) _).setCell (by simp) _
end Go.Proofs.Ytmgdpchjimlmeaa.Cat
end

section
/-
  cat.With refused; cat.Decode of too few bytes.
-/
namespace Go.Proofs.Ytmgdpchjimlmeaa.Cat
open Go.RowKit
def BOX (w : World) (next : Int) (A : Option Addr) (n c : Nat) : World := (w.alloc (.cells #[.int .i64 next, .slice A n c] 24)).alloc (.cells #[.int .i64 0, .slice none 0 0] 24)
set_option maxHeartbeats 2000000 in
set_option maxRecDepth 100000 in
theorem with_n1 (next : Int) (A : Option Addr) (c : Nat) (vs : List (Int × Int)) (r : Int) (w : World) (h : Vs w A c vs) (hl : vs.length ≤ 1000000) (hb : rightB next vs = false) :
    Calls Try.prog 16 #[.agg #[.int .i64 next, .slice A vs.length c], .int .i64 r] w fun e w' => e = .returned (.tuple #[.agg #[.int .i64 0, .slice none 0 0], .bool false]) ∧ Below w.heap.size w w' := by
  have RG := Lib.hid (fun V (hV : Vs V A c vs) => right_any next A c vs V hV hl)
  rw [hb] at RG
  clear hb
  have H := Lib.hid h
  clear h
  go_enter Try.func16, Try.ntmps16
  go_wp2_with fail
  refine (RG.out _ (H.out.below (bon (bda _ _) (bda _ _)))).mono ?_
  rintro e w2 ⟨rfl, hb⟩
  have R1 := Lib.hid (row_on (row_on (heap_alloc_new w (.cells #[.int .i64 next, .slice A vs.length c] 24)) (bda _ (.cells #[.int .i64 0, .slice none 0 0] 24))) hb)
  have r2 := row_on (heap_alloc_new (w.alloc (.cells #[.int .i64 next, .slice A vs.length c] 24)) (.cells #[.int .i64 0, .slice none 0 0] 24)) hb
  have K2 := Lib.hid (bon (bon (bda w (.cells #[.int .i64 next, .slice A vs.length c] 24)) (bda _ (.cells #[.int .i64 0, .slice none 0 0] 24))) hb)
  clear hb
  simp only [World.size_alloc] at r2
  have R2 := Lib.hid r2
  clear r2
  have f0 : w2.cell? ⟨w.heap.size, 0, none⟩ = some (.int .i64 next) := row_c R1.out (i := 0) rfl
  have f1 : w2.cell? ⟨w.heap.size, 1, none⟩ = some (.slice A vs.length c) := row_c R1.out (i := 1) rfl
  have q0 : w2.cell? ⟨w.heap.size + 1, 0, none⟩ = some (.int .i64 0) := row_c R2.out (i := 0) rfl
  have q1 : w2.cell? ⟨w.heap.size + 1, 1, none⟩ = some (.slice none 0 0) := row_c R2.out (i := 1) rfl
  have z0 := frozen_of_row _ _ 0 _ _ R2.out
  have z1 := frozen_of_row _ _ 1 _ _ R2.out
  go_wp2
  refine bodyPost_ret (v := .tuple #[.agg #[.int .i64 0, .slice none 0 0], .bool false]) (by simp [results, Try.results16, go_sem, q0, q1]) rfl ⟨rfl, ?_⟩
  exact (K2.out.setCell (by simp) _).setCell (by simp) _
set_option maxHeartbeats 2000000 in
set_option maxRecDepth 100000 in
theorem with_n2 (next : Int) (A : Option Addr) (c : Nat) (vs : List (Int × Int)) (r : Int) (w : World) (h : Vs w A c vs) (hl : vs.length ≤ 1000000) (hb : rightB next vs = true) (hd : vs.length = 12) :
    Calls Try.prog 16 #[.agg #[.int .i64 next, .slice A vs.length c], .int .i64 r] w fun e w' => e = .returned (.tuple #[.agg #[.int .i64 0, .slice none 0 0], .bool false]) ∧ Below w.heap.size w w' := by
  have RG := Lib.hid (fun V (hV : Vs V A c vs) => right_any next A c vs V hV hl)
  rw [hb] at RG
  have e1 : ((vs.length : Int) == 12) = true := by simp; omega
  clear hd
  clear hb
  have H := Lib.hid h
  clear h
  go_enter Try.func16, Try.ntmps16
  go_wp2_with fail
  refine (RG.out _ (H.out.below (bon (bda _ _) (bda _ _)))).mono ?_
  rintro e w2 ⟨rfl, hb⟩
  have R1 := Lib.hid (row_on (row_on (heap_alloc_new w (.cells #[.int .i64 next, .slice A vs.length c] 24)) (bda _ (.cells #[.int .i64 0, .slice none 0 0] 24))) hb)
  have r2 := row_on (heap_alloc_new (w.alloc (.cells #[.int .i64 next, .slice A vs.length c] 24)) (.cells #[.int .i64 0, .slice none 0 0] 24)) hb
  have K2 := Lib.hid (bon (bon (bda w (.cells #[.int .i64 next, .slice A vs.length c] 24)) (bda _ (.cells #[.int .i64 0, .slice none 0 0] 24))) hb)
  clear hb
  simp only [World.size_alloc] at r2
  have R2 := Lib.hid r2
  clear r2
  have f0 : w2.cell? ⟨w.heap.size, 0, none⟩ = some (.int .i64 next) := row_c R1.out (i := 0) rfl
  have f1 : w2.cell? ⟨w.heap.size, 1, none⟩ = some (.slice A vs.length c) := row_c R1.out (i := 1) rfl
  have q0 : w2.cell? ⟨w.heap.size + 1, 0, none⟩ = some (.int .i64 0) := row_c R2.out (i := 0) rfl
  have q1 : w2.cell? ⟨w.heap.size + 1, 1, none⟩ = some (.slice none 0 0) := row_c R2.out (i := 1) rfl
  have z0 := frozen_of_row _ _ 0 _ _ R2.out
  have z1 := frozen_of_row _ _ 1 _ _ R2.out
  go_wp2
  refine bodyPost_ret (v := .tuple #[.agg #[.int .i64 0, .slice none 0 0], .bool false]) (by simp [results, Try.results16, go_sem, q0, q1]) rfl ⟨rfl, ?_⟩
  exact (K2.out.setCell (by simp) _).setCell (by simp) _
set_option maxHeartbeats 2000000 in
set_option maxRecDepth 100000 in
theorem with_n3 (next : Int) (A : Option Addr) (c : Nat) (vs : List (Int × Int)) (r : Int) (w : World) (h : Vs w A c vs) (hl : vs.length ≤ 1000000) (hb : rightB next vs = true) (hc : vs.length ≠ 12) (hd : next = 16777216) :
    Calls Try.prog 16 #[.agg #[.int .i64 next, .slice A vs.length c], .int .i64 r] w fun e w' => e = .returned (.tuple #[.agg #[.int .i64 0, .slice none 0 0], .bool false]) ∧ Below w.heap.size w w' := by
  have RG := Lib.hid (fun V (hV : Vs V A c vs) => right_any next A c vs V hV hl)
  rw [hb] at RG
  have e1 : ((vs.length : Int) == 12) = false := by simp; omega
  have e2 : (next == 16777216) = true := by simpa using hd
  clear hc hd
  clear hb
  have H := Lib.hid h
  clear h
  go_enter Try.func16, Try.ntmps16
  go_wp2_with fail
  refine (RG.out _ (H.out.below (bon (bda _ _) (bda _ _)))).mono ?_
  rintro e w2 ⟨rfl, hb⟩
  have R1 := Lib.hid (row_on (row_on (heap_alloc_new w (.cells #[.int .i64 next, .slice A vs.length c] 24)) (bda _ (.cells #[.int .i64 0, .slice none 0 0] 24))) hb)
  have r2 := row_on (heap_alloc_new (w.alloc (.cells #[.int .i64 next, .slice A vs.length c] 24)) (.cells #[.int .i64 0, .slice none 0 0] 24)) hb
  have K2 := Lib.hid (bon (bon (bda w (.cells #[.int .i64 next, .slice A vs.length c] 24)) (bda _ (.cells #[.int .i64 0, .slice none 0 0] 24))) hb)
  clear hb
  simp only [World.size_alloc] at r2
  have R2 := Lib.hid r2
  clear r2
  have f0 : w2.cell? ⟨w.heap.size, 0, none⟩ = some (.int .i64 next) := row_c R1.out (i := 0) rfl
  have f1 : w2.cell? ⟨w.heap.size, 1, none⟩ = some (.slice A vs.length c) := row_c R1.out (i := 1) rfl
  have q0 : w2.cell? ⟨w.heap.size + 1, 0, none⟩ = some (.int .i64 0) := row_c R2.out (i := 0) rfl
  have q1 : w2.cell? ⟨w.heap.size + 1, 1, none⟩ = some (.slice none 0 0) := row_c R2.out (i := 1) rfl
  have z0 := frozen_of_row _ _ 0 _ _ R2.out
  have z1 := frozen_of_row _ _ 1 _ _ R2.out
  go_wp2
  refine bodyPost_ret (v := .tuple #[.agg #[.int .i64 0, .slice none 0 0], .bool false]) (by simp [results, Try.results16, go_sem, q0, q1]) rfl ⟨rfl, ?_⟩
  exact (K2.out.setCell (by simp) _).setCell (by simp) _
set_option maxHeartbeats 2000000 in
set_option maxRecDepth 100000 in
theorem with_n4 (next : Int) (A : Option Addr) (c : Nat) (vs : List (Int × Int)) (r : Int) (w : World) (h : Vs w A c vs) (hl : vs.length ≤ 1000000) (hb : rightB next vs = true) (hc : vs.length ≠ 12) (hd : next ≠ 16777216) (he : rootB r = false) :
    Calls Try.prog 16 #[.agg #[.int .i64 next, .slice A vs.length c], .int .i64 r] w fun e w' => e = .returned (.tuple #[.agg #[.int .i64 0, .slice none 0 0], .bool false]) ∧ Below w.heap.size w w' := by
  have RG := Lib.hid (fun V (hV : Vs V A c vs) => right_any next A c vs V hV hl)
  rw [hb] at RG
  have RB := Lib.hid (fun V => rooted_any r V)
  rw [he] at RB
  have e1 : ((vs.length : Int) == 12) = false := by simp; omega
  have e2 : (next == 16777216) = false := by simpa using hd
  clear hc hd he
  clear hb
  have H := Lib.hid h
  clear h
  go_enter Try.func16, Try.ntmps16
  go_wp2_with fail
  refine (RG.out _ (H.out.below (bon (bda _ _) (bda _ _)))).mono ?_
  rintro e w2 ⟨rfl, hb⟩
  have R1 := Lib.hid (row_on (row_on (heap_alloc_new w (.cells #[.int .i64 next, .slice A vs.length c] 24)) (bda _ (.cells #[.int .i64 0, .slice none 0 0] 24))) hb)
  have r2 := row_on (heap_alloc_new (w.alloc (.cells #[.int .i64 next, .slice A vs.length c] 24)) (.cells #[.int .i64 0, .slice none 0 0] 24)) hb
  have K2 := Lib.hid (bon (bon (bda w (.cells #[.int .i64 next, .slice A vs.length c] 24)) (bda _ (.cells #[.int .i64 0, .slice none 0 0] 24))) hb)
  clear hb
  simp only [World.size_alloc] at r2
  have R2 := Lib.hid r2
  clear r2
  have f0 : w2.cell? ⟨w.heap.size, 0, none⟩ = some (.int .i64 next) := row_c R1.out (i := 0) rfl
  have f1 : w2.cell? ⟨w.heap.size, 1, none⟩ = some (.slice A vs.length c) := row_c R1.out (i := 1) rfl
  have q0 : w2.cell? ⟨w.heap.size + 1, 0, none⟩ = some (.int .i64 0) := row_c R2.out (i := 0) rfl
  have q1 : w2.cell? ⟨w.heap.size + 1, 1, none⟩ = some (.slice none 0 0) := row_c R2.out (i := 1) rfl
  have z0 := frozen_of_row _ _ 0 _ _ R2.out
  have z1 := frozen_of_row _ _ 1 _ _ R2.out
  go_wp2_with fail
  refine (RB.out _).mono ?_
  rintro e w3 ⟨rfl, rfl⟩
  go_wp2
  refine bodyPost_ret (v := .tuple #[.agg #[.int .i64 0, .slice none 0 0], .bool false]) (by simp [results, Try.results16, go_sem, q0, q1]) rfl ⟨rfl, ?_⟩
  exact (K2.out.setCell (by simp) _).setCell (by simp) _
theorem with_no (next : Int) (A : Option Addr) (c : Nat) (vs : List (Int × Int)) (r : Int) (w : World) (h : Vs w A c vs) (hl : vs.length ≤ 1000000) (hb : withB next vs r = false) :
    Calls Try.prog 16 #[.agg #[.int .i64 next, .slice A vs.length c], .int .i64 r] w fun e w' => e = .returned (.tuple #[.agg #[.int .i64 0, .slice none 0 0], .bool false]) ∧ Below w.heap.size w w' := by
  unfold withB at hb
  cases h1 : rightB next vs
  · exact with_n1 next A c vs r w h hl h1
  · by_cases h2 : vs.length = 12
    · exact with_n2 next A c vs r w h hl h1 h2
    · by_cases h3 : next = 16777216
      · exact with_n3 next A c vs r w h hl h1 h2 h3
      · rw [h1, decide_eq_false h2, decide_eq_false h3] at hb
        exact with_n4 next A c vs r w h hl h1 h2 h3 (by simpa using hb)
set_option maxHeartbeats 2000000 in
set_option maxRecDepth 100000 in
theorem decode_few (s : List UInt8) (w : World) (h : s.length < 4) :
    Calls Try.prog 9 #[.string ⟨s.toArray⟩] w fun e w' => e = .returned (.tuple #[.agg #[.int .i64 0, .slice none 0 0], .int .i64 2]) ∧ Below w.heap.size w w' := by
  have e1 : decide (s.length < 4) = true := decide_eq_true h
  have e2 : decide ((s.length : Int) < 4) = true := by simp; omega
  clear h
  go_enter Try.func9, Try.ntmps9
  go_wp2
  refine bodyPost_ret (v := .tuple #[.agg #[.int .i64 0, .slice none 0 0], .int .i64 2]) (by simp [results, Try.results9, go_sem]) rfl ⟨rfl, ?_⟩
  exact bda _ _
end Go.Proofs.Ytmgdpchjimlmeaa.Cat
end

section
/-
  The law's own 'few' and 'examples'.
-/
namespace Go.Proofs.Ytmgdpchjimlmeaa.Cat
open Go.RowKit
theorem Vs.take {w : World} {A : Option Addr} {c : Nat} {vs : List (Int × Int)} (h : Vs w A c vs) (k : Nat) : Vs w A c (vs.take k) := by
  refine ⟨Nat.le_trans (List.length_take_le' _ _) h.1, fun h0 => ?_⟩
  have hl : (vs.take k).length ≤ vs.length := List.length_take_le' _ _
  obtain ⟨b, off, e, hb, hc⟩ := h.2 (by omega)
  refine ⟨b, off, e, hb, fun j hj => ?_⟩
  have hj2 : j < k := by simp at hj; omega
  have e2 : at2 (vs.take k) j = at2 vs j := by unfold at2; rw [List.getElem?_take, if_pos hj2]
  rw [e2]
  exact hc j (by omega)
set_option maxHeartbeats 2000000 in
set_option maxRecDepth 100000 in
theorem few_any (next : Int) (A : Option Addr) (c : Nat) (vs : List (Int × Int)) (w : World) (h : Vs w A c vs) :
    Calls Try.prog 5 #[.agg #[.int .i64 next, .slice A vs.length c]] w fun e w' => ∃ A' c', e = .returned (.agg #[.int .i64 next, .slice A' (vs.take 15).length c']) ∧ Vs w' A' c' (vs.take 15) ∧ Below w.heap.size w w' ∧ Fr w.heap.size A' := by
  have hc := h.1
  have HN := Lib.hid (show (if (15 : Int) < (vs.length : Int) then (15 : Int) else (vs.length : Int)).toNat = (vs.take 15).length by rw [List.length_take]; split <;> omega)
  have lx : (vs.take 15).length ≤ 15 := by rw [List.length_take]; omega
  have H := Lib.hid (h.take 15)
  have HX := Lib.hid h
  clear h
  go_enter Try.func5, Try.ntmps5
  have r1 := row_on (heap_alloc_new w (.cells #[.int .i64 next, .slice A vs.length c] 24)) (bda _ (.cells #[.int .i64 0, .slice none 0 0] 24))
  have r2 := heap_alloc_new (w.alloc (.cells #[.int .i64 next, .slice A vs.length c] 24)) (.cells #[.int .i64 0, .slice none 0 0] 24)
  simp only [World.size_alloc] at r2
  have B1 := Lib.hid (show Below w.heap.size w ((w.alloc (.cells #[.int .i64 next, .slice A vs.length c] 24)).alloc (.cells #[.int .i64 0, .slice none 0 0] 24)) from bon (bda _ _) (bda _ _))
  have R1 := Lib.hid r1
  have R2 := Lib.hid r2
  have HV := Lib.hid (H.out.below B1.out)
  have OW := Lib.hid (World.ownsRow_nil ((w.alloc (.cells #[.int .i64 next, .slice A vs.length c] 24)).alloc (.cells #[.int .i64 0, .slice none 0 0] 24)) (w.heap.size + 2) 54 2)
  have SZ := Lib.hid (show w.heap.size + 2 ≤ ((w.alloc (.cells #[.int .i64 next, .slice A vs.length c] 24)).alloc (.cells #[.int .i64 0, .slice none 0 0] 24)).heap.size by simp)
  have LX := Lib.hid (show 0 + (vs.take 15).length ≤ 1000000 by omega)
  clear r1 r2
  go_wp2_with (at_builtin; refine wpList_append_vs vt1 rfl _ _ rfl (w.heap.size + 2) _ 0 [] (vs.take 15) A c _ rfl OW.out HV.out HN.out rfl (by have := HN.out; omega) SZ.out ?_)
  all_goals
    intro v' w3 hown hgrow
    obtain ⟨A3, c3, hv, hV, hF⟩ := vs_of_own hown
    have V3 := Lib.hid hV
    have F3 := Lib.hid hF
    subst hv
    have K3 := Lib.hid (show Below (w.heap.size + 2) ((w.alloc (.cells #[.int .i64 next, .slice A vs.length c] 24)).alloc (.cells #[.int .i64 0, .slice none 0 0] 24)) w3 from (Below.refl _ _).grown hgrow (by simp) (fun k hk => by cases hk))
    have s1 : w.heap.size < w.heap.size + 2 := by omega
    have s2 : w.heap.size + 1 < w.heap.size + 2 := by omega
    have q1 := Lib.hid ((K3.out.block _ s1).trans R1.out)
    have q2 := Lib.hid ((K3.out.block _ s2).trans R2.out)
    have f0 : w3.cell? ⟨w.heap.size, 0, none⟩ = some (.int .i64 next) := row_c q1.out (i := 0) rfl
    have f1 : w3.cell? ⟨w.heap.size, 1, none⟩ = some (.slice A vs.length c) := row_c q1.out (i := 1) rfl
    have g0 : w3.cell? ⟨w.heap.size + 1, 0, none⟩ = some (.int .i64 0) := row_c q2.out (i := 0) rfl
    have g1 : w3.cell? ⟨w.heap.size + 1, 1, none⟩ = some (.slice none 0 0) := row_c q2.out (i := 1) rfl
    have z0 := frozen_of_row _ _ 0 _ _ q1.out
    have z1 := frozen_of_row _ _ 1 _ _ q1.out
    have y0 := frozen_of_row _ _ 0 _ _ q2.out
    have y1 := frozen_of_row _ _ 1 _ _ q2.out
    clear hown hgrow hV hF
    go_wp2
    refine bodyPost_ret (v := .agg #[.int .i64 next, .slice A3 (vs.take 15).length c3]) (by simp [results, Try.results5, go_sem, g0, g1]) rfl ⟨A3, c3, rfl, ?_, ?_, fun b o e => by have := F3.out b o e; omega⟩
    · exact ((V3.out.set F3.out s1 _ _).set F3.out s2 _ _).set F3.out s2 _ _
    · exact ((((B1.out.trans (K3.out.mono (by omega))).setCell (Nat.le_refl _) _).setCell (by simp) _).setCell (by simp) _)
end Go.Proofs.Ytmgdpchjimlmeaa.Cat
end

section
/-
  cat.Without.
-/
namespace Go.Proofs.Ytmgdpchjimlmeaa.Cat
open Go.RowKit
/-- Without version i. -/
def cutAt (vs : List (Int × Int)) (i : Nat) : List (Int × Int) := vs.take i ++ vs.drop (i + 1)
/-- The place that may be left out. -/
def outP (next : Int) (vs : List (Int × Int)) (n : Int) : Option Nat :=
  match findP vs n with
  | none => none
  | some i => if rightB next vs = true ∧ n ≠ 0 ∧ i + 1 ≠ vs.length then some i else none
theorem Vs.drop {w : World} {b off c : Nat} {vs : List (Int × Int)} (h : Vs w (some ⟨b, off, none⟩) c vs) (k : Nat) (hk : k ≤ vs.length) : Vs w (some ⟨b, off + k * 2, none⟩) (c - k) (vs.drop k) := by
  refine ⟨by rw [List.length_drop]; have := h.1; omega, fun h0 => ?_⟩
  rw [List.length_drop] at h0
  obtain ⟨b', off', e, hb, hc⟩ := h.2 (by omega)
  injection e with e
  injection e with e1 e2
  subst e1 e2
  refine ⟨b, off + k * 2, rfl, hb, fun j hj => ?_⟩
  rw [List.length_drop] at hj
  have e2 : at2 (vs.drop k) j = at2 vs (k + j) := by unfold at2; rw [List.getElem?_drop]
  have := hc (k + j) (by omega)
  rw [e2, show off + k * 2 + j * 2 = off + (k + j) * 2 by omega]
  exact this
theorem outP_some {next : Int} {vs : List (Int × Int)} {n : Int} {i : Nat} (ho : outP next vs n = some i) : findP vs n = some i ∧ rightB next vs = true ∧ n ≠ 0 ∧ i + 1 < vs.length := by
  unfold outP at ho
  rcases hf : findP vs n with _ | j
  · rw [hf] at ho; cases ho
  · rw [hf] at ho
    simp only at ho
    split at ho
    · rename_i hh
      injection ho with ho
      subst ho
      refine ⟨rfl, hh.1, hh.2.1, ?_⟩
      unfold findP at hf
      rw [if_neg hh.2.1] at hf
      have := (idxOf_lt hf).2
      have := hh.2.2
      omega
    · cases ho
end Go.Proofs.Ytmgdpchjimlmeaa.Cat
end

section
/-
  Numbers one behind the other: plain.
-/
namespace Go.Proofs.Ytmgdpchjimlmeaa.Cat
/-- The numbers s + 1, s + 2, .. -/
def seqB (s : Nat) : List (Int × Int) → Prop
  | [] => True
  | v :: r => v.1 = (s : Int) + 1 ∧ rootB v.2 = true ∧ seqB (s + 1) r
theorem chain_seq : ∀ {vs : List (Int × Int)} {s : Nat} {next : Int}, seqB s vs → (s : Int) + vs.length < next → chainB next s vs = true
  | [], _, _, _, _ => rfl
  | v :: r, s, next, h, hn => by
    obtain ⟨h1, h2, h3⟩ := h
    have ih := chain_seq (next := next) h3 (by simp at hn; omega)
    unfold chainB
    rw [h2, h1, decide_eq_true (by omega), decide_eq_true (by simp at hn; omega)]
    simpa using ih
theorem seq_snoc : ∀ {vs : List (Int × Int)} {s : Nat} {r : Int}, seqB s vs → rootB r = true → seqB s (vs ++ [((s : Int) + vs.length + 1, r)])
  | [], s, r, _, hr => ⟨by simp, hr, trivial⟩
  | v :: t, s, r, h, hr => by
    obtain ⟨h1, h2, h3⟩ := h
    have := seq_snoc h3 hr
    refine ⟨h1, h2, ?_⟩
    rw [show ((s : Int) + (v :: t).length + 1) = (((s + 1 : Nat) : Int) + t.length + 1) by simp; omega]
    exact this
theorem seq_at : ∀ {vs : List (Int × Int)} {s j : Nat}, seqB s vs → j < vs.length → (at2 vs j).1 = (s : Int) + j + 1
  | [], _, _, _, h => by simp at h
  | v :: r, s, j, h, hj => by
    obtain ⟨h1, _, h3⟩ := h
    cases j with
    | zero => simpa [at2] using h1
    | succ j =>
      have := seq_at h3 (j := j) (by simpa using hj)
      have e : at2 (v :: r) (j + 1) = at2 r j := by unfold at2; simp
      rw [e, this]
      omega
theorem idx_seq : ∀ {vs : List (Int × Int)} {s j k : Nat}, seqB s vs → j < vs.length → idxOf ((s : Int) + j + 1) vs k = some (k + j)
  | [], _, _, _, _, h => by simp at h
  | v :: r, s, j, k, h, hj => by
    obtain ⟨h1, _, h3⟩ := h
    unfold idxOf
    cases j with
    | zero => rw [if_pos (by rw [h1]; simp)]; rfl
    | succ j =>
      rw [if_neg (by rw [h1]; omega)]
      have := idx_seq (k := k + 1) h3 (j := j) (by simpa using hj)
      rw [show (s : Int) + (j + 1 : Nat) + 1 = ((s + 1 : Nat) : Int) + j + 1 by omega, this]
      congr 1
      omega
theorem idx_none {n : Int} : ∀ {vs : List (Int × Int)} {k : Nat}, (∀ v ∈ vs, v.1 ≠ n) → idxOf n vs k = none
  | [], _, _ => rfl
  | v :: r, k, h => by
    unfold idxOf
    rw [if_neg (h v (by simp))]
    exact idx_none fun u hu => h u (by simp [hu])
theorem mem_at2 {vs : List (Int × Int)} {v : Int × Int} (h : v ∈ vs) : ∃ j, j < vs.length ∧ v = at2 vs j := by
  obtain ⟨j, hj, e⟩ := List.getElem_of_mem h
  exact ⟨j, hj, by unfold at2; rw [List.getElem?_eq_getElem hj]; exact e.symm⟩
theorem cut_len {vs : List (Int × Int)} {i : Nat} (h : i < vs.length) : (cutAt vs i).length = vs.length - 1 := by
  unfold cutAt
  rw [List.length_append, List.length_take, List.length_drop]
  omega
theorem cut_idx {vs : List (Int × Int)} {i : Nat} (hs : seqB 0 vs) (h : i < vs.length) : idxOf ((i : Int) + 1) (cutAt vs i) 0 = none := by
  refine idx_none fun v hv => ?_
  unfold cutAt at hv
  rcases List.mem_append.1 hv with h1 | h1
  · obtain ⟨j, hj, rfl⟩ := mem_at2 h1
    have hji : j < i := by simp at hj; omega
    have e2 : at2 (vs.take i) j = at2 vs j := by unfold at2; rw [List.getElem?_take, if_pos hji]
    rw [e2, seq_at hs (by omega)]
    omega
  · obtain ⟨j, hj, rfl⟩ := mem_at2 h1
    rw [List.length_drop] at hj
    have e2 : at2 (vs.drop (i + 1)) j = at2 vs (i + 1 + j) := by unfold at2; rw [List.getElem?_drop]
    rw [e2, seq_at hs (by omega)]
    omega
theorem chain_less {next : Int} {vs : List (Int × Int)} {a b : Int} (h : chainB next b vs = true) (hab : a < b) : chainB next a vs = true := by
  cases vs with
  | nil => rfl
  | cons v r =>
    unfold chainB at h ⊢
    simp only [Bool.and_eq_true, decide_eq_true_eq] at h ⊢
    exact ⟨⟨⟨by omega, h.1.1.2⟩, h.1.2⟩, h.2⟩
theorem chain_cut {next : Int} : ∀ {vs : List (Int × Int)} {last : Int} {i : Nat}, chainB next last vs = true → chainB next last (cutAt vs i) = true
  | [], _, i, _ => by unfold cutAt; simp [chainB]
  | v :: r, last, 0, h => by
    have e : cutAt (v :: r) 0 = r := by unfold cutAt; simp
    rw [e]
    unfold chainB at h
    simp only [Bool.and_eq_true, decide_eq_true_eq] at h
    exact chain_less h.2 h.1.1.1
  | v :: r, last, i + 1, h => by
    have e : cutAt (v :: r) (i + 1) = v :: cutAt r i := by unfold cutAt; simp
    rw [e]
    unfold chainB at h ⊢
    simp only [Bool.and_eq_true, decide_eq_true_eq] at h ⊢
    exact ⟨h.1, chain_cut h.2⟩
theorem right_seq {vs : List (Int × Int)} (hs : seqB 0 vs) (hl : vs.length ≤ 12) : rightB ((vs.length : Int) + 1) vs = true := by
  unfold rightB
  have := chain_seq (next := (vs.length : Int) + 1) hs (by omega)
  rw [decide_eq_true (by omega), decide_eq_true (by omega), decide_eq_true hl]
  simpa using this
theorem right_cut {vs : List (Int × Int)} {i : Nat} (hs : seqB 0 vs) (hl : vs.length ≤ 12) (hi : i < vs.length) : rightB ((vs.length : Int) + 1) (cutAt vs i) = true := by
  unfold rightB
  have := chain_cut (i := i) (chain_seq (next := (vs.length : Int) + 1) hs (by omega))
  rw [decide_eq_true (by omega), decide_eq_true (by omega), decide_eq_true (by rw [cut_len hi]; omega)]
  simpa using this
theorem cut_last {vs : List (Int × Int)} {i : Nat} (h : i + 1 < vs.length) : at2 (cutAt vs i) (vs.length - 2) = at2 vs (vs.length - 1) := by
  unfold cutAt at2
  rw [List.getElem?_append_right (by rw [List.length_take]; omega), List.length_take, List.getElem?_drop]
  congr 2
  omega
end Go.Proofs.Ytmgdpchjimlmeaa.Cat
end

section
/-
  The document's root, Right, Find.
-/
namespace Go.Proofs.Ytmgdpchjimlmeaa.Cat
open Go.RowKit
def lastOf (vs : List (Int × Int)) (k : Nat) : Int := if k = 0 then 0 else (at2 vs (k - 1)).1
end Go.Proofs.Ytmgdpchjimlmeaa.Cat
end

section
/-
  The document's Right, whole; its Find.
-/
namespace Go.Proofs.Ytmgdpchjimlmeaa.Cat
open Go.RowKit
end Go.Proofs.Ytmgdpchjimlmeaa.Cat
end

section
/-
  The document's With and Without, refused.
-/
namespace Go.Proofs.Ytmgdpchjimlmeaa.Cat
open Go.RowKit
end Go.Proofs.Ytmgdpchjimlmeaa.Cat
end

section
/-
  The document's With, granted.
-/
namespace Go.Proofs.Ytmgdpchjimlmeaa.Cat
open Go.RowKit
theorem own_set {w : World} {base size n : Nat} {e : TypeId} {v : Value} {xs : List Value} (h : w.ownsRow base e size v n xs) {k : Nat} (hk : k < base) (o : Nat) (x : Value) : (w.setCell ⟨k, o, none⟩ x).ownsRow base e size v n xs := by
  refine ⟨h.1, ?_⟩
  rcases h.2 with h0 | ⟨g, cap, cur, h1, h2, h3, h4⟩
  · exact .inl h0
  · exact .inr ⟨g, cap, cur, h1, h2, (Below.heap_setCell w _ x g (by simp; omega)).trans h3, h4⟩
theorem vs_new (W : World) (a b : Int) (T : TypeId) : Vs (W.alloc (.cells #[.int .i64 a, .int .i64 b] T)) (some ⟨W.heap.size, 0, none⟩) 1 [(a, b)] := by
  refine ⟨by simp, fun _ => ⟨W.heap.size, 0, rfl, by simp, fun j hj => ?_⟩⟩
  obtain rfl : j = 0 := by simpa using hj
  have q := heap_alloc_new W (.cells #[.int .i64 a, .int .i64 b] T)
  exact ⟨row_c q (i := 0) rfl, row_c q (i := 1) rfl⟩
end Go.Proofs.Ytmgdpchjimlmeaa.Cat
end

section
/-
  The document's Without, granted.
-/
namespace Go.Proofs.Ytmgdpchjimlmeaa.Cat
open Go.RowKit
end Go.Proofs.Ytmgdpchjimlmeaa.Cat
end

section
/-
  The law's own ref: a list as the document's.
-/
namespace Go.Proofs.Ytmgdpchjimlmeaa.Cat
open Go.RowKit
theorem take_at {vs : List (Int × Int)} {k : Nat} (h : k < vs.length) : vs.take (k + 1) = vs.take k ++ [at2 vs k] := by
  rw [List.take_succ_eq_append_getElem h]
  unfold at2
  rw [List.getElem?_eq_getElem h]
  rfl
set_option maxHeartbeats 4000000 in
set_option maxRecDepth 100000 in
theorem ref_any (next : Int) (A : Option Addr) (c : Nat) (vs : List (Int × Int)) (w : World) (h : Vs w A c vs) (hl : vs.length ≤ 100000) :
    Calls Try.prog 11 #[.agg #[.int .i64 next, .slice A vs.length c]] w fun e w' => ∃ A' c', e = .returned (.agg #[.int .i64 next, .slice A' vs.length c']) ∧ Vs w' A' c' vs ∧ Below w.heap.size w w' ∧ Fr w.heap.size A' := by
  have H := Lib.hid h
  clear h
  obtain ⟨i0, hi, hz0, hz1, hz2⟩ := info_parts (show (Try.prog.info? 72).map (fun i => (i.zero, i.size, i.bytes)) = some (some (.agg #[.int .i64 0, .int .i64 0]), 2, 16) by kernel_rfl)
  go_enter Try.func11, Try.ntmps11
  go_wp2_with fail
  obtain ⟨W, hW⟩ : ∃ W : World, W = ((w.alloc (.cells #[.int .i64 next, .slice A vs.length c] 24)).alloc (.cells #[.int .i64 0, .slice none 0 0] 41)).alloc (.cells #[.int .i64 next, .slice none 0 0] 41) := ⟨_, rfl⟩
  have r3 := heap_alloc_new ((w.alloc (.cells #[.int .i64 next, .slice A vs.length c] 24)).alloc (.cells #[.int .i64 0, .slice none 0 0] 41)) (.cells #[.int .i64 next, .slice none 0 0] 41)
  have r2 := row_on (heap_alloc_new (w.alloc (.cells #[.int .i64 next, .slice A vs.length c] 24)) (.cells #[.int .i64 0, .slice none 0 0] 41)) (bda _ (.cells #[.int .i64 next, .slice none 0 0] 41))
  have r1 := row_on (row_on (heap_alloc_new w (.cells #[.int .i64 next, .slice A vs.length c] 24)) (bda _ (.cells #[.int .i64 0, .slice none 0 0] 41))) (bda _ (.cells #[.int .i64 next, .slice none 0 0] 41))
  simp only [World.size_alloc] at r2 r3
  rw [← hW] at r1 r2 r3 ⊢
  have B1 := Lib.hid (show Below w.heap.size w W by rw [hW]; exact bon (bon (bda _ _) (bda _ _)) (bda _ _))
  have SW := Lib.hid (show W.heap.size = w.heap.size + 3 by rw [hW]; simp)
  have R1 := Lib.hid r1
  have R2 := Lib.hid r2
  have R3 := Lib.hid r3
  clear hW r1 r2 r3
  go_loopw [4] (fun i wr => ∃ (k : Nat) (A3 : Option Addr) (c3 : Nat), k ≤ vs.length ∧ i = .int .i64 k ∧ Hid (wr.ownsRow (w.heap.size + 3) 72 2 (.slice A3 k c3) k (vcells (vs.take k))) ∧ Hid (wr.heap[w.heap.size + 2]? = some (.cells #[.int .i64 next, .slice A3 k c3] 41)) ∧ Hid (Below (w.heap.size + 2) W wr)) (fun i _ => vs.length - (intOf i).toNat)
  case atStart => exact ⟨0, none, 0, Nat.zero_le _, rfl, Lib.hid (World.ownsRow_nil _ _ _ _), R3, Lib.hid (Below.refl _ _)⟩
  case round =>
    obtain ⟨k, A3, c3, hk, rfl, ho, hr3, hb⟩ := hrel
    have s0 : w.heap.size < w.heap.size + 2 := by omega
    have s1 : w.heap.size + 1 < w.heap.size + 2 := by omega
    have KW := Lib.hid (show Below w.heap.size w wr from B1.out.trans (hb.out.mono (by omega)))
    have ZS := Lib.hid (show w.heap.size + 3 ≤ wr.heap.size by have := hb.out.size; have := SW.out; omega)
    have Q1 := Lib.hid ((hb.out.block _ s0).trans R1.out)
    have Q2 := Lib.hid ((hb.out.block _ s1).trans R2.out)
    have f1 := row_c Q1.out (i := 1) rfl
    have g1 := row_c hr3.out (i := 1) rfl
    by_cases hlt : k < vs.length
    · obtain ⟨b, off, hA, hbl, hcell⟩ := H.out.2 (by omega)
      have f2 := (KW.out.cell (p := ⟨b, off + k * 2, none⟩) hbl).trans (hcell k hlt).1
      have f3 := (KW.out.cell (p := ⟨b, off + k * 2 + 1, none⟩) hbl).trans (hcell k hlt).2
      have TK := Lib.hid (take_at hlt)
      have HLT := Lib.hid hlt
      clear hcell
      generalize at2 vs k = v at *
      obtain ⟨a, q⟩ := v
      simp only at f2 f3
      have k0 : (0 : Int) ≤ (k : Int) := by omega
      have k1 : (k : Int) < (vs.length : Int) := by omega
      subst hA
      have KA := Lib.hid (show Below (w.heap.size + 3) wr (wr.drew.alloc (.cells #[.int .i64 a, .int .i64 q] 72)) from ((Below.refl _ _).drew).alloc ZS.out _)
      have SK := Lib.hid (fun w4 (hgrow : (wr.drew.alloc (.cells #[.int .i64 a, .int .i64 q] 72)).grownBy w4 (Value.slice A3 k c3).ownBlock) => show Below (w.heap.size + 3) wr w4 from KA.out.trans ((Below.refl _ _).grown hgrow (by have := ZS.out; simp; omega) (fun g hg => ((ho.out.drew.alloc (.cells #[.int .i64 a, .int .i64 q] 72)).lt g hg).1)))
      have ga0 : (wr.alloc (.cells #[.int .i64 a, .int .i64 q] 72)).heap[w.heap.size + 1 + 1]? = _ := row_on hr3.out (bda _ _)
      have ga : (wr.alloc (.cells #[.int .i64 a, .int .i64 q] 72)).cell? ⟨w.heap.size + 1 + 1, 1, none⟩ = some (.slice A3 k c3) := row_c ga0 (i := 1) rfl
      clear ga0
      go_upto_region 5 with (fail)
      go_region_law
        ((refine step_append_lies _ (by rfl) _ _ _ (by rfl) (w.heap.size + 3) 72 i0 _ 2 16 Try.underlying39 hi hz0 hz1 hz2 rfl (by decide) _ k (vcells (vs.take k)) (by rfl) (ho.out.drew.alloc _) ⟨wr.heap.size, 0, none⟩ 1 1 [.int .i64 a, .int .i64 q] (by rfl) (by rfl) (World.news_of_block (cs := #[.int .i64 a, .int .i64 q]) (t := 72) (fr := (0, 0)) (heap_alloc_new wr.drew _)) (by simp [Value.oneCell']) (by decide) (by unfold maxLen; omega) (by omega) (by have := ZS.out; simp; omega) (wr.heap.size + 1) (by simp) ?_; intro g4 c4 w4 hown hgrow hat hlt4; (have K4 := Lib.hid (SK.out _ hgrow)); (have O4 := Lib.hid hown); (have q7 := Lib.hid ((K4.out.block (w.heap.size + 2) (by omega)).trans hr3.out)); (have q9 : w4.heap[w.heap.size + 1 + 1]? = _ := q7.out); (have g9 : w4.cell? ⟨w.heap.size + 1 + 1, 1, none⟩ = some (.slice A3 k c3) := row_c q9 (i := 1) rfl); (have z9 := frozen_of_row _ _ 1 _ _ q9); clear hown hgrow hat hlt4))
      all_goals
       go_wp2
       go_roundw
       case rel =>
         refine ⟨k + 1, some ⟨g4, 0, none⟩, c4, HLT.out, by go_num, Lib.hid ?_, Lib.hid ?_, Lib.hid ?_⟩
         · rw [TK.out, vcells_app]; exact own_set O4.out (by omega) 1 _
         · unfold World.setCell; simp [Array.getElem?_modify, q7.out]
         · exact (hb.out.trans (K4.out.mono (by omega))).setCell (by simp) _
       case measure => simp [intOf]; have := HLT.out; omega
    · obtain rfl : k = vs.length := by omega
      rw [List.take_length] at ho
      obtain ⟨A5, c5, hv, hV, hF⟩ := vs_of_own ho.out
      injection hv with e1 e2 e3
      subst e1 e3
      have V5 := Lib.hid hV
      have F5 := Lib.hid hF
      clear ho hV hF
      have g0 := row_c hr3.out (i := 0) rfl
      have p0 : wr.cell? ⟨w.heap.size + 1, 0, none⟩ = some (.int .i64 0) := row_c Q2.out (i := 0) rfl
      have p1 : wr.cell? ⟨w.heap.size + 1, 1, none⟩ = some (.slice none 0 0) := row_c Q2.out (i := 1) rfl
      have y0 := frozen_of_row _ _ 0 _ _ Q2.out
      have y1 := frozen_of_row _ _ 1 _ _ Q2.out
      go_wp2
      refine bodyPost_ret (v := .agg #[.int .i64 next, .slice A3 vs.length c3]) (by simp [results, Try.results11, go_sem, p0, p1]) rfl ⟨A3, c3, rfl, ?_, ?_, fun b o e => by have := F5.out b o e; omega⟩
      · exact (V5.out.set F5.out (by omega) _ _).set F5.out (by omega) _ _
      · exact (KW.out.setCell (by simp) _).setCell (by simp) _
end Go.Proofs.Ytmgdpchjimlmeaa.Cat
end

section
/-
  The document's Same of two equal lists.
-/
namespace Go.Proofs.Ytmgdpchjimlmeaa.Cat
open Go.RowKit
set_option maxHeartbeats 4000000 in
set_option maxRecDepth 100000 in
theorem same_any (next : Int) (A B : Option Addr) (c d : Nat) (vs : List (Int × Int)) (w : World) (h : Vs w A c vs) (h2 : Vs w B d vs) (hl : vs.length ≤ 100000) :
    Calls Try.prog 23 #[.agg #[.int .i64 next, .slice A vs.length c], .agg #[.int .i64 next, .slice B vs.length d]] w fun e w' => e = .returned (.bool true) ∧ Below w.heap.size w w' := by
  have d0 : (next != next) = false := by simp
  have d1 : (vs.length != vs.length) = false := by simp
  have d2 : ((vs.length : Int) != (vs.length : Int)) = false := by simp
  have H := Lib.hid h
  have H2 := Lib.hid h2
  clear h h2
  go_enter Try.func23, Try.ntmps23
  go_wp2_with fail
  obtain ⟨W, hW⟩ : ∃ W : World, W = (w.alloc (.cells #[.int .i64 next, .slice A vs.length c] 41)).alloc (.cells #[.int .i64 next, .slice B vs.length d] 41) := ⟨_, rfl⟩
  have r2 := heap_alloc_new (w.alloc (.cells #[.int .i64 next, .slice A vs.length c] 41)) (.cells #[.int .i64 next, .slice B vs.length d] 41)
  have r1 := row_on (heap_alloc_new w (.cells #[.int .i64 next, .slice A vs.length c] 41)) (bda _ (.cells #[.int .i64 next, .slice B vs.length d] 41))
  simp only [World.size_alloc] at r2
  rw [← hW] at r1 r2 ⊢
  have B1 := Lib.hid (show Below w.heap.size w W by rw [hW]; exact bon (bda _ _) (bda _ _))
  have R1 := Lib.hid r1
  have R2 := Lib.hid r2
  clear hW r1 r2
  go_loopw [5] (fun i wr => ∃ k : Nat, k ≤ vs.length ∧ i = .int .i64 k ∧ Hid (Below W.heap.size W wr)) (fun i _ => vs.length - (intOf i).toNat)
  case atStart => exact ⟨0, Nat.zero_le _, rfl, Lib.hid (Below.refl _ _)⟩
  case round =>
    obtain ⟨k, hk, rfl, hb⟩ := hrel
    have KW := Lib.hid (show Below w.heap.size w wr from B1.out.trans (hb.out.mono B1.out.size))
    have f1 := row_c (row_on R1.out hb.out) (i := 1) rfl
    have g1 := row_c (row_on R2.out hb.out) (i := 1) rfl
    by_cases hlt : k < vs.length
    · obtain ⟨b, off, hA, hbl, hcell⟩ := (H.out.below KW.out).2 (by omega)
      obtain ⟨b2, off2, hA2, hbl2, hcell2⟩ := (H2.out.below KW.out).2 (by omega)
      obtain ⟨f2, f3⟩ := hcell k hlt
      obtain ⟨g2, g3⟩ := hcell2 k hlt
      have HLT := Lib.hid hlt
      clear hcell hcell2 hbl hbl2
      generalize at2 vs k = v at *
      obtain ⟨a, q⟩ := v
      simp only at f2 f3 g2 g3
      have k0 : (0 : Int) ≤ (k : Int) := by omega
      have k1 : (k : Int) < (vs.length : Int) := by omega
      subst hA hA2
      go_upto_region 6 with (fail)
      go_quiet (fail)
      go_wp2
      go_roundw
      case rel => exact ⟨k + 1, HLT.out, by go_num, Lib.hid (below_drewN hb.out _)⟩
      case measure => simp [intOf]; have := HLT.out; omega
    · obtain rfl : k = vs.length := by omega
      go_wp2
      go_ret
      exact ⟨rfl, KW.out⟩
end Go.Proofs.Ytmgdpchjimlmeaa.Cat
end

section
/-
  The law's own lists, of two equal ones.
-/
namespace Go.Proofs.Ytmgdpchjimlmeaa.Cat
open Go.RowKit
set_option maxHeartbeats 4000000 in
set_option maxRecDepth 100000 in
theorem lists_any (next : Int) (A B : Option Addr) (c d : Nat) (vs : List (Int × Int)) (w : World) (h : Vs w A c vs) (h2 : Vs w B d vs) (hl : vs.length ≤ 100000) :
    Calls Try.prog 10 #[.agg #[.int .i64 next, .slice A vs.length c], .agg #[.int .i64 next, .slice B vs.length d]] w fun e w' => e = .returned (.bool true) ∧ Below w.heap.size w w' := by
  have RF := Lib.hid (fun V (hV : Vs V A c vs) => ref_any next A c vs V hV hl)
  have SM := Lib.hid (fun A4 c4 V (h1 : Vs V A4 c4 vs) (h2 : Vs V B d vs) => same_any next A4 B c4 d vs V h1 h2 hl)
  have H := Lib.hid h
  have H2 := Lib.hid h2
  clear h h2
  go_enter Try.func10, Try.ntmps10
  go_upto_region 1 with (fail)
  obtain ⟨W, hW⟩ : ∃ W : World, W = (w.alloc (.cells #[.int .i64 next, .slice A vs.length c] 24)).alloc (.cells #[.int .i64 next, .slice B vs.length d] 41) := ⟨_, rfl⟩
  have r2 := heap_alloc_new (w.alloc (.cells #[.int .i64 next, .slice A vs.length c] 24)) (.cells #[.int .i64 next, .slice B vs.length d] 41)
  have r1 := row_on (heap_alloc_new w (.cells #[.int .i64 next, .slice A vs.length c] 24)) (bda _ (.cells #[.int .i64 next, .slice B vs.length d] 41))
  simp only [World.size_alloc] at r2
  rw [← hW] at r1 r2 ⊢
  have B1 := Lib.hid (show Below w.heap.size w W by rw [hW]; exact bon (bda _ _) (bda _ _))
  have s1 := heap_lt r1
  have s2 := heap_lt r2
  clear hW
  have f0 : W.cell? ⟨w.heap.size, 0, none⟩ = some (.int .i64 next) := row_c r1 (i := 0) rfl
  have f1 : W.cell? ⟨w.heap.size, 1, none⟩ = some (.slice A vs.length c) := row_c r1 (i := 1) rfl
  have g0 : W.cell? ⟨w.heap.size + 1, 0, none⟩ = some (.int .i64 next) := row_c r2 (i := 0) rfl
  have g1 : W.cell? ⟨w.heap.size + 1, 1, none⟩ = some (.slice B vs.length d) := row_c r2 (i := 1) rfl
  have F0 := Lib.hid (And.intro f0 (And.intro f1 (And.intro g0 g1)))
  have VA := Lib.hid (show Vs W.drew A c vs from H.out.below (below_drew B1.out))
  have SF := Lib.hid (fun (x : World) (K : Below W.heap.size W x) => show x.cell? ⟨w.heap.size, 0, none⟩ = some (.int .i64 next) ∧ x.cell? ⟨w.heap.size, 1, none⟩ = some (.slice A vs.length c) ∧ x.cell? ⟨w.heap.size + 1, 0, none⟩ = some (.int .i64 next) ∧ x.cell? ⟨w.heap.size + 1, 1, none⟩ = some (.slice B vs.length d) from And.intro ((K.cell (p := ⟨w.heap.size, 0, none⟩) s1).trans F0.out.1) (And.intro ((K.cell (p := ⟨w.heap.size, 1, none⟩) s1).trans F0.out.2.1) (And.intro ((K.cell (p := ⟨w.heap.size + 1, 0, none⟩) s2).trans F0.out.2.2.1) ((K.cell (p := ⟨w.heap.size + 1, 1, none⟩) s2).trans F0.out.2.2.2))))
  have KF := Lib.hid (fun (x : World) (K : Below W.drew.heap.size W.drew x) => show Below W.heap.size W x from (show Below W.heap.size W W.drew from (Below.refl _ _).drew).trans K)
  have VF := Lib.hid (fun (x : World) (K : Below W.heap.size W x) => show Vs x B d vs from (H2.out.below B1.out).below K)
  clear r1 r2
  go_region_held3 (fun w' => w'.cell? ⟨w.heap.size, 0, none⟩ = some (.int .i64 next) ∧ w'.cell? ⟨w.heap.size, 1, none⟩ = some (.slice A vs.length c) ∧ w'.cell? ⟨w.heap.size + 1, 0, none⟩ = some (.int .i64 next) ∧ w'.cell? ⟨w.heap.size + 1, 1, none⟩ = some (.slice B vs.length d))
    (first | with_reducible exact S5.out | with_reducible exact S4.out | go_keep)
    ((first
      | (go_at_call 11; (with_reducible refine (RF.out _ VA.out).mono ?_); rintro e w4 ⟨A4, c4, rfl, hv, hb, hf⟩; (have K4 := Lib.hid (KF.out _ hb)); (have S4 := Lib.hid (SF.out _ K4.out)); (have V4 := Lib.hid hv); (have B4 := Lib.hid (VF.out _ K4.out)); clear hv hb hf)
      | (go_at_call 23; (with_reducible refine (SM.out _ _ _ V4.out B4.out).mono ?_); rintro e w5 ⟨rfl, hb⟩; (have K5 := Lib.hid (bon K4.out hb)); (have S5 := Lib.hid (SF.out _ K5.out)); clear hb)))
  rename_i hHeld
  clear hHeld
  go_wp2
  go_ret
  exact ⟨rfl, B1.out.trans (K5.out.mono B1.out.size)⟩
end Go.Proofs.Ytmgdpchjimlmeaa.Cat
end
