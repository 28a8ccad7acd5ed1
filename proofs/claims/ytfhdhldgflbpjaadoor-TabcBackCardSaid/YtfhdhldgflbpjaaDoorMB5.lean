import Derived.Test.YtfhdhldgflbpjaaDoorMB4
import Derived.Deep.AppendLies
import Derived.Test.YtfhdhldgflbpjaaDoorMB0
import Derived.Test.YtfhdhldgflbpjaaDoorMB1
import Derived.Test.YtfhdhldgflbpjaaDoorMB3
section
/-
  Rows of numbers and of pieces; a small number, a number read.
-/
namespace Go.Proofs.YtfhdhldgflbpjaaDoor
open Go.RowKit
set_option linter.unusedSimpArgs false
set_option linter.unusedVariables false
/-- A block that holds no digits. -/
def NoInt (w : World) (v : Value) : Prop := ∀ g cur T fr, v.ownBlock = some g → w.heap[g]? = some (.cells cur T fr) → ∀ (i : Nat) (n : Int), cur[i]? ≠ some (.int .u32 n)
/-- The cells of some numbers. -/
def CsOf (w : World) (cs : List Value) (L : List (Int × Int)) : Prop := cs.length = L.length * 3 ∧ (∀ u ∈ cs, ∀ n : Int, u ≠ .int .u32 n) ∧
  ∀ (i : Nat) z, L[i]? = some z → ∃ A c, cs[i * 3]? = some (.bool (decide (z.1 < 0))) ∧ cs[i * 3 + 1]? = some (.slice A (digs z.1.natAbs).length c) ∧ cs[i * 3 + 2]? = some (.int .i64 z.2) ∧ Dg w A c (digs z.1.natAbs)
/-- A row of numbers that is the walk's own. -/
def Dw (w : World) (B : Nat) (v : Value) (L : List (Int × Int)) : Prop := NoInt w v ∧ ∃ cs, w.ownsRow B 26 3 v L.length cs ∧ CsOf w cs L
def zdy : Value := .agg #[.bool false, .slice none 0 0, .int .i64 0]
theorem CsOf.kept {w w' : World} {cs : List Value} {L : List (Int × Int)} (h : CsOf w cs L) (hk : Kept w w') : CsOf w' cs L :=
  ⟨h.1, h.2.1, fun i z hz => by obtain ⟨A, c, h0, h1, h2, h3⟩ := h.2.2 i z hz; exact ⟨A, c, h0, h1, h2, h3.kept hk⟩⟩
theorem CsOf.snoc {w : World} {cs : List Value} {L : List (Int × Int)} {m x : Int} {A : Option Addr} {c : Nat} (h : CsOf w cs L) (hd : Dg w A c (digs m.natAbs)) : CsOf w (cs ++ [.bool (decide (m < 0)), .slice A (digs m.natAbs).length c, .int .i64 x]) (L ++ [(m, x)]) := by
  refine ⟨by rw [List.length_append, List.length_append, h.1]; simp; omega, ?_, fun i z hz => ?_⟩
  · intro u hu n
    rcases List.mem_append.1 hu with hu | hu
    · exact h.2.1 u hu n
    · simp at hu; rcases hu with rfl | rfl | rfl <;> simp
  · rcases Nat.lt_trichotomy i L.length with hi | hi | hi
    · rw [List.getElem?_append_left hi] at hz
      obtain ⟨A, c, h0, h1, h2, h3⟩ := h.2.2 i z hz
      have hl := h.1
      exact ⟨A, c, by rw [List.getElem?_append_left (by omega)]; exact h0, by rw [List.getElem?_append_left (by omega)]; exact h1, by rw [List.getElem?_append_left (by omega)]; exact h2, h3⟩
    · subst hi
      rw [List.getElem?_append_right (Nat.le_refl _), Nat.sub_self] at hz
      obtain rfl : (m, x) = z := by simpa using hz
      have hl := h.1
      refine ⟨A, c, ?_, ?_, ?_, hd⟩
      · rw [List.getElem?_append_right (by omega), show L.length * 3 - cs.length = 0 by omega]; rfl
      · rw [List.getElem?_append_right (by omega), show L.length * 3 + 1 - cs.length = 1 by omega]; rfl
      · rw [List.getElem?_append_right (by omega), show L.length * 3 + 2 - cs.length = 2 by omega]; rfl
    · rw [List.getElem?_eq_none (by simp; omega)] at hz; cases hz
theorem zero_no {k : Nat} {u : Value} (h : u ∈ Builtin.zeroCells zdy.cells k) : ∀ n : Int, u ≠ .int .u32 n := by
  unfold Builtin.zeroCells at h
  obtain ⟨i, _, rfl⟩ := Array.mem_map.1 h
  intro n
  have e : zdy.cells = #[.bool false, .slice none 0 0, .int .i64 0] := rfl
  rw [e]
  have h3 : i % 3 = 0 ∨ i % 3 = 1 ∨ i % 3 = 2 := by omega
  rcases h3 with h | h | h <;> simp [h]
theorem at_mem {a : Array Value} {i : Nat} {u : Value} (h : a[i]? = some u) : u ∈ a := Array.mem_of_getElem? h
theorem run_append_no {P : Program} (w : World) (B : Nat) (t ty e : TypeId) (i : TypeInfo) (bytes : Nat) (ht : P.underlying t = some (.slice e)) (hi : P.info? e = some i) (z : Value) (size : Nat) (hz : i.zero = some z) (hsize : i.size = size) (hzz : ∀ k u, u ∈ Builtin.zeroCells z.cells k → ∀ n : Int, u ≠ .int .u32 n) (hby : i.bytes = bytes)
    (v : Value) (n : Nat) (xs : List Value) (hown : w.ownsRow B e size v n xs) (hc : NoInt w v) (hxs : ∀ u ∈ xs, ∀ n : Int, u ≠ .int .u32 n)
    (a : Addr) (c : Nat) (news : List Value) (hl : news.length = size) (hnews : ∀ j u, news[j]? = some u → w.cell? (a.add j) = some u) (h1 : ∀ u ∈ news, u.oneCell' = true) (hnn : ∀ u ∈ news, ∀ n : Int, u ≠ .int .u32 n)
    (h63 : n + 1 ≤ maxLen) (hbytes : (n + 1) * bytes ≤ 140737488355328) (v' : Value) (w' : World) (hr : (Builtin.append_ #[t, t] ty #[v, .slice (some a) 1 c]).run P w = .ok v' w') : NoInt w' v' := by
  subst hby
  have hsmall : n + 1 ≤ 9223372036854775807 := by simp only [maxLen] at h63; omega
  rcases hown.2 with ⟨rfl, rfl⟩ | ⟨g, cap, cur, rfl, hbg, hg, hnc, hcm, hcs, htake⟩
  · rw [run_append_nil (P := P) w t ty e i z ht hi hz a 1 c news (by rw [hsize, hl, Nat.one_mul]) hnews (by omega) (by omega) (by have hb := hbytes; simp only [Nat.zero_add] at hb; omega)] at hr
    injection hr with e1 e2
    subst e1 e2
    intro g cur T fr hg hh j k hj
    have eg : w.heap.size = g := by simpa [Value.ownBlock] using hg
    subst eg
    have h4 := (heap_alloc_new w.drew _).symm.trans hh
    injection h4 with h4
    injection h4 with h4
    subst h4
    rcases Array.mem_append.1 (at_mem hj) with h | h
    · exact hnn _ (by simpa using h) k rfl
    · exact hzz _ _ h k rfl
  · by_cases hroom : n + 1 ≤ cap
    · rw [run_append_room (P := P) w t ty e i ht hi g n cap cur hg a 1 c news (by rw [hsize, hl, Nat.one_mul]) hnews h1 hroom (by rw [hl, hcs, hsize]; have := Nat.mul_le_mul_right size hroom; rw [Nat.add_mul, Nat.one_mul] at this; omega)] at hr
      injection hr with e1 e2
      subst e1 e2
      intro g' cur' T fr hg' hh j k hj
      have eg : g = g' := by simpa [Value.ownBlock] using hg'
      subst eg
      have h4 := (setRow_heap w g cur _ e _ hg).symm.trans hh
      injection h4 with h4
      injection h4 with h4
      subst h4
      have hm := at_mem hj
      simp only [List.mem_toArray, List.mem_append] at hm
      have hcur : ∀ u ∈ cur.toList, ∀ n : Int, u ≠ .int .u32 n := by
        intro u hu n hn
        subst hn
        obtain ⟨q, hq⟩ := List.getElem?_of_mem hu
        exact hc g cur _ _ rfl hg q n (by simpa using hq)
      rcases hm with (h | h) | h
      · exact hcur _ (List.mem_of_mem_take h) k rfl
      · exact hnn _ h k rfl
      · exact hcur _ (List.mem_of_mem_drop h) k rfl
    · have holds : ∀ j u, xs[j]? = some u → w.cell? ((⟨g, 0, none⟩ : Addr).add j) = some u := hown.cells (g := g) rfl
      rw [run_append_grow (P := P) w t ty e i z ht hi hz ⟨g, 0, none⟩ n cap xs (by rw [hsize]; exact hown.1) holds a 1 c news (by rw [hsize, hl, Nat.one_mul]) hnews (by omega) (by omega) (growslice_fits (by omega) hbytes)] at hr
      injection hr with e1 e2
      subst e1 e2
      intro g' cur' T fr hg' hh j k hj
      have eg : w.heap.size = g' := by simpa [Value.ownBlock] using hg'
      subst eg
      have h4 := (heap_alloc_new w.drew _).symm.trans hh
      injection h4 with h4
      injection h4 with h4
      subst h4
      rcases Array.mem_append.1 (at_mem hj) with h | h
      · rcases Array.mem_append.1 h with h | h
        · exact hxs _ (by simpa using h) k rfl
        · exact hnn _ (by simpa using h) k rfl
      · exact hzz _ _ h k rfl
theorem kept_of_grown {w w' : World} {B n size : Nat} {e : TypeId} {v : Value} {xs : List Value} (hown : w.ownsRow B e size v n xs) (hc : NoInt w v) (hg : w.grownBy w' v.ownBlock) : Kept w w' := by
  refine ⟨hg.size, fun b o k hk => ?_⟩
  have hlt := cell_lt hk
  by_cases hb : some b = v.ownBlock
  · exfalso
    rcases hown.2 with ⟨rfl, _⟩ | ⟨g, cap, cur, rfl, _, hh, _⟩
    · simp [Value.ownBlock] at hb
    · have eg : b = g := by simpa [Value.ownBlock] using hb
      subst eg
      rw [cell_of_row _ _ _ _ _ _ hh] at hk
      exact hc b cur _ _ rfl hh _ _ hk
  · rw [← hk]
    exact World.grownBy.cell_far hg _ hlt hb
theorem dy_info : ∃ i : TypeInfo, Tryd.prog.info? 26 = some i ∧ i.zero = some zdy ∧ i.size = 3 ∧ i.bytes = 40 := by
  obtain ⟨i0, hi, hz0, hz1, hz2⟩ := info_parts (show (Tryd.prog.info? 26).map (fun i => (i.zero, i.size, i.bytes)) = some (some zdy, 3, 40) by kernel_rfl)
  exact ⟨i0, hi, hz0, hz1, hz2⟩
theorem wp_append_dy {w : World} {o : Oper} {a : Act} {K : Act → World → Prop} {Q : Exit → Act → World → Prop} (s x : Operand)
    (ho : o.op = .call { callee := .builtin .append, args := #[s, x], argTypes := #[44, 44] }) (B : Nat) (v : Value) (L : List (Int × Int)) (m y : Int) (q : Nat) (T' : TypeId) (c cA : Nat) (A : Option Addr)
    (hs : a.eval s = v) (hD : Dw w B v L) (hrow : w.heap[q]? = some (.cells #[.bool (decide (m < 0)), .slice A (digs m.natAbs).length cA, .int .i64 y] T' (0, 0))) (hd : Dg w A cA (digs m.natAbs)) (hx : a.eval x = .slice (some ⟨q, 0, none⟩) 1 c) (hb : L.length + 1 ≤ 1000000) (hbase : B ≤ w.heap.size)
    (h : ∀ g cap w', Dw w' B (.slice (some ⟨g, 0, none⟩) (L.length + 1) cap) (L ++ [(m, y)]) → w.grownBy w' v.ownBlock → Kept w w' → (v.ownBlock = some g ∨ g = w.heap.size) → K (a.put o.dst (.slice (some ⟨g, 0, none⟩) (L.length + 1) cap)) w') : o.wp Tryd.prog a w K Q := by
  obtain ⟨hn, cs, hown, hcs⟩ := hD
  obtain ⟨i0, hi, hz0, hz1, hz2⟩ := dy_info
  have hnews : ∀ j u, ([.bool (decide (m < 0)), .slice A (digs m.natAbs).length cA, .int .i64 y] : List Value)[j]? = some u → w.cell? ((⟨q, 0, none⟩ : Addr).add j) = some u := fun j u hj => by
    rw [Addr.add_lit]
    exact row_c hrow (by simpa using hj)
  have hone : ∀ u ∈ ([.bool (decide (m < 0)), .slice A (digs m.natAbs).length cA, .int .i64 y] : List Value), u.oneCell' = true := by intro u hu; simp at hu; rcases hu with rfl | rfl | rfl <;> rfl
  have hnn : ∀ u ∈ ([.bool (decide (m < 0)), .slice A (digs m.natAbs).length cA, .int .i64 y] : List Value), ∀ n : Int, u ≠ .int .u32 n := by intro u hu n; simp at hu; rcases hu with rfl | rfl | rfl <;> simp
  obtain ⟨g, cap, w', hr, h2, h3, h4, h5⟩ := run_append_lies (P := Tryd.prog) w 44 o.type B 26 i0 zdy 3 40 Tryd.underlying44 hi hz0 hz1 hz2 rfl (by decide) v L.length cs hown ⟨q, 0, none⟩ 1 c [.bool (decide (m < 0)), .slice A (digs m.natAbs).length cA, .int .i64 y] rfl hnews hone (by decide) (by unfold maxLen; omega) (by omega) hbase w.heap.size rfl
  have hk := kept_of_grown hown hn h3
  have hno := run_append_no (P := Tryd.prog) w B 44 o.type 26 i0 40 Tryd.underlying44 hi zdy 3 hz0 hz1 (fun _ _ => zero_no) hz2 v L.length cs hown hn hcs.2.1 ⟨q, 0, none⟩ c _ rfl hnews hone hnn (by unfold maxLen; omega) (by omega) _ _ hr
  unfold Oper.wp execOp
  simp only [ho, resolve, invoke, builtin, Sem.run_bind, Sem.run_pure, Result.andThen_ok, List.map_toArray, List.map_cons, List.map_nil, hs, hx, hr]
  exact h g cap w' ⟨hno, _, by rw [List.length_append]; exact h2, (hcs.kept hk).snoc (hd.kept hk)⟩ h3 hk h4
theorem own_laterI {w w' : World} {B size n : Nat} {e : TypeId} {v : Value} {xs : List Value} (h : w.ownsRow B e size v n xs) (hb : Below w.heap.size w w') : w'.ownsRow B e size v n xs := by
  refine ⟨h.1, ?_⟩
  rcases h.2 with h1 | ⟨g, cap, cur, hv, hg, hc, rest⟩
  · exact .inl h1
  · exact .inr ⟨g, cap, cur, hv, hg, (hb.block g (heap_lt hc)).trans hc, rest⟩
theorem dw_nil (w : World) (B : Nat) : Dw w B (.slice none 0 0) [] := ⟨fun g _ _ _ h => by simp [Value.ownBlock] at h, [], World.ownsRow_nil _ _ _ _, rfl, fun u hu => by simp at hu, fun i z hz => by simp at hz⟩
theorem Dw.below {w w' : World} {B : Nat} {v : Value} {L : List (Int × Int)} (h : Dw w B v L) (hb : Below w.heap.size w w') : Dw w' B v L := by
  obtain ⟨hn, cs, hown, hcs⟩ := h
  refine ⟨fun g cur T fr hg hh => hn g cur T fr hg ?_, cs, own_laterI hown hb, hcs.kept (Kept.below hb)⟩
  exact (hb.block g (hown.lt g hg).2).symm.trans hh

/-- A small number read: it, and what is left. -/
def rdS (s : List UInt8 × Bool) : Int × List UInt8 × Bool := match s.1 with
  | [] => (0, [], true)
  | x :: r => (x.toNat, r, s.2)
/-- Does a number stand ahead? -/
def okN (l : List UInt8) : Prop := ∃ q : Int × Int × List UInt8, l = zb q.1 ++ zb q.2.1 ++ q.2.2 ∧ (digs q.1.natAbs).length ≤ 400 ∧ Rt q.1 q.2.1 ∧ inR q.1 q.2.1 = true
open Classical in
/-- A number read: it, and what is left. -/
noncomputable def rdN (s : List UInt8 × Bool) : (Int × Int) × List UInt8 × Bool := if h : okN s.1 then ((h.choose.1, h.choose.2.1), h.choose.2.2, s.2) else ((0, 0), [], true)
theorem rdN_is (s : List UInt8 × Bool) : Rt (rdN s).1.1 (rdN s).1.2 ∧ (digs (rdN s).1.1.natAbs).length ≤ 400 ∧ (rdN s).2.1.length ≤ s.1.length := by
  unfold rdN
  by_cases h : okN s.1
  · rw [dif_pos h]
    obtain ⟨h1, h2, h3, h4⟩ := h.choose_spec
    refine ⟨h3, h2, ?_⟩
    have := congrArg List.length h1
    rw [List.length_append, List.length_append] at this
    dsimp only; omega
  · rw [dif_neg h]
    refine ⟨⟨.inl ⟨rfl, rfl⟩, by dsimp only; omega, by dsimp only; omega⟩, ?_, by simp⟩
    show (digs 0).length ≤ 400
    rw [digs_zero]; simp
theorem rdS_is (s : List UInt8 × Bool) : 0 ≤ (rdS s).1 ∧ (rdS s).1 ≤ 255 ∧ (rdS s).2.1.length ≤ s.1.length := by
  obtain ⟨l, m⟩ := s
  unfold rdS
  cases l with
  | nil => simp
  | cons x r => have := x.toNat_lt; simp; omega
theorem grow_set (w : World) (g i : Nat) (v : Value) : w.grownBy (w.setCell ⟨g, i, none⟩ v) (some g) := by
  have h := (Only.refl g w).setCell i v
  exact ⟨h.os, h.tape, h.output, Nat.le_of_eq h.size.symm, fun k _ hk => h.block k (fun e => hk (by rw [e]))⟩
theorem grow_trans {a b c : World} {r : Option Nat} (h : a.grownBy b r) (k : b.grownBy c r) : a.grownBy c r :=
  ⟨k.os.trans h.os, k.tape.trans h.tape, k.output.trans h.output, Nat.le_trans h.size k.size, fun i hi hr => (k.block i (Nat.lt_of_lt_of_le hi h.size) hr).trans (h.block i hi hr)⟩
theorem grow_below {a b : World} {r : Option Nat} (h : Below a.heap.size a b) : a.grownBy b r := ⟨h.os, h.tape, h.output, h.size, fun i hi _ => h.block i hi⟩
theorem grow_row {a b : World} {g k : Nat} {o : Obj} (h : a.grownBy b (some g)) (hr : a.heap[k]? = some o) (hk : k ≠ g) : b.heap[k]? = some o := (h.block k (heap_lt hr) (fun e => hk (by injection e))).trans hr
theorem grow_kept {a b : World} {g : Nat} {cs : Array Value} {T : TypeId} {fr : Nat × Nat} (h : a.grownBy b (some g)) (hr : a.heap[g]? = some (.cells cs T fr)) (hz : ∀ (i : Nat) (n : Int), cs[i]? ≠ some (.int .u32 n)) : Kept a b := by
  refine ⟨h.size, fun k o n hc => ?_⟩
  by_cases e : k = g
  · subst e
    rw [cell_of_row _ _ _ _ _ _ hr] at hc
    exact absurd hc (hz o n)
  · rw [World.cell?_of_block (a := ⟨k, o, none⟩) (h.block k (cell_lt hc) (fun e2 => e (by injection e2)))]
    exact hc
/-- What is left, in a box's first two cells. -/
def LB (w : World) (g : Nat) (s : List UInt8 × Bool) (rs : List Value) : Prop := w.heap[g]? = some (.cells (.string ⟨s.1.toArray⟩ :: .bool s.2 :: rs).toArray 54 (0, 0))
theorem LB.set0 {w : World} {g : Nat} {s : List UInt8 × Bool} {rs : List Value} (h : LB w g s rs) (r : List UInt8) : LB (w.setCell ⟨g, 0, none⟩ (.string ⟨r.toArray⟩)) g (r, s.2) rs := by
  have := heap_setCell_same _ _ 0 _ _ (.string ⟨r.toArray⟩) h
  unfold LB; rw [this]; simp
theorem LB.set1 {w : World} {g : Nat} {s : List UInt8 × Bool} {rs : List Value} (h : LB w g s rs) (m : Bool) : LB (w.setCell ⟨g, 1, none⟩ (.bool m)) g (s.1, m) rs := by
  have := heap_setCell_same _ _ 1 _ _ (.bool m) h
  unfold LB; rw [this]; simp
theorem noint_rs {s : List UInt8 × Bool} {rs : List Value} (h : ∀ u, u ∈ rs → ∀ n : Int, u ≠ .int .u32 n) : ∀ (i : Nat) (n : Int), ((.string ⟨s.1.toArray⟩ :: .bool s.2 :: rs : List Value).toArray)[i]? ≠ some (.int .u32 n) := by
  intro i n e
  rcases i with _ | _ | i
  · simp at e
  · simp at e
  · simp at e
    exact h _ (List.mem_of_getElem? e) n rfl
set_option maxHeartbeats 4000000 in
set_option maxRecDepth 100000 in
theorem lsmall_any (g : Nat) (s : List UInt8 × Bool) (rs : List Value) (w : World) (h : LB w g s rs) (hl : s.1.length ≤ 9223372036854775807) :
    Calls Tryd.prog 25 #[.pointer (some ⟨g, 0, none⟩)] w fun e w' => e = .returned (.int .i64 (rdS s).1) ∧ LB w' g (rdS s).2 rs ∧ w.grownBy w' (some g) := by
  have H := Lib.hid h
  have f0 : w.cell? ⟨g, 0, none⟩ = some (.string ⟨s.1.toArray⟩) := row_c h (i := 0) rfl
  have f1 : w.cell? ⟨g, 1, none⟩ = some (.bool s.2) := row_c h (i := 1) rfl
  have q0 := frozen_of_row _ _ 0 _ _ h
  have q1 := frozen_of_row _ _ 1 _ _ h
  obtain ⟨l, m⟩ := s
  clear h
  cases l with
  | nil =>
    unfold rdS
    dsimp only at *
    go_enter Tryd.func25, Tryd.ntmps25
    go_wp2
    go_ret
    exact ⟨rfl, H.out.set1 true, grow_set _ _ _ _⟩
  | cons x r =>
    unfold rdS
    dsimp only at *
    have HX := Lib.hid (H.out.set0 r)
    have xn := x.toNat_lt
    have hs : (⟨(x :: r).toArray⟩ : ByteArray).size = r.length + 1 := rfl
    have x2 : (⟨(x :: r).toArray⟩ : ByteArray).extract 1 (r.length + 1) = ⟨r.toArray⟩ := by
      apply ByteArray.ext; simp
    have hz0 : (⟨(x :: r).toArray⟩ : ByteArray)[0]? = some x := rfl
    have HZ0 := Lib.hid hz0
    clear hz0
    generalize hd : (⟨(x :: r).toArray⟩ : ByteArray) = d at *
    generalize ht : (⟨r.toArray⟩ : ByteArray) = t at *
    go_enter Tryd.func25, Tryd.ntmps25
    go_wp2
    go_ret
    refine ⟨?_, HX.out, grow_set _ _ _ _⟩
    have hv : d[0]'(by omega) = x := by
      have := HZ0.out
      rw [getElem?_pos d 0 (by omega)] at this
      exact Option.some.inj this
    have hw : wrap64 ((x.toNat : Nat) : Int) = x.toNat := IntWalk.wrap64_in _ ⟨by omega, by omega⟩
    rw [hv]
    exact congrArg (fun z => Ending.returned (Value.int .i64 z)) hw
theorem dtake_rd {l : List UInt8} {m : Bool} (hl : l.length ≤ 9223372036854775807) (w : World) : ∃ er : Int, (rdN (l, m)).2.2 = (m || (er != 0)) ∧
    Calls Tryd.prog 44 #[.string ⟨l.toArray⟩] w fun e w' => ∃ A c, e = .returned (.tuple #[.agg #[.bool (decide ((rdN (l, m)).1.1 < 0)), .slice A (digs (rdN (l, m)).1.1.natAbs).length c, .int .i64 (rdN (l, m)).1.2], .string ⟨(rdN (l, m)).2.1.toArray⟩, .int .i64 er]) ∧ Dg w' A c (digs (rdN (l, m)).1.1.natAbs) ∧ Below w.heap.size w w' := by
  by_cases h : okN l
  · refine ⟨0, ?_, ?_⟩
    · unfold rdN; rw [dif_pos h]; simp
    · obtain ⟨h1, h2, h3, h4⟩ := h.choose_spec
      unfold rdN
      rw [dif_pos h]
      exact dtake_yes (b := ⟨l.toArray⟩) (t := ⟨h.choose.2.2.toArray⟩) (by simpa using h1) h2 h3 h4 (by simpa using hl) w
  · refine ⟨2, ?_, ?_⟩
    · unfold rdN; rw [dif_neg h]; simp
    · unfold rdN
      rw [dif_neg h]
      refine (dtake_no (b := ⟨l.toArray⟩) (fun ⟨a, b, t, h1, h2, h3, h4⟩ => h ⟨(a, b, t), by simpa using h1, h2, h3, h4⟩) (by simpa using hl) w).mono ?_
      rintro e w' ⟨rfl, hb⟩
      have e0 : digs ((0 : Int).natAbs) = [] := digs_zero
      refine ⟨none, 0, ?_, ?_, hb⟩
      · dsimp only; rw [e0]; rfl
      · dsimp only; rw [e0]; exact Dg.nil_ _ _
set_option maxHeartbeats 4000000 in
set_option maxRecDepth 100000 in
theorem lnumber_any (g : Nat) (s : List UInt8 × Bool) (rs : List Value) (w : World) (h : LB w g s rs) (hz : ∀ u, u ∈ rs → ∀ n : Int, u ≠ .int .u32 n) (hl : s.1.length ≤ 9223372036854775807) :
    Calls Tryd.prog 26 #[.pointer (some ⟨g, 0, none⟩)] w fun e w' => ∃ A c, e = .returned (.agg #[.bool (decide ((rdN s).1.1 < 0)), .slice A (digs (rdN s).1.1.natAbs).length c, .int .i64 (rdN s).1.2]) ∧ Dg w' A c (digs (rdN s).1.1.natAbs) ∧ LB w' g (rdN s).2 rs ∧ w.grownBy w' (some g) := by
  obtain ⟨l, m⟩ := s
  have H := Lib.hid h
  have HZ := Lib.hid hz
  obtain ⟨wz, hwz⟩ : ∃ V : World, w.alloc (.cells #[.bool false, .slice none 0 0, .int .i64 0] 26) = V := ⟨_, rfl⟩
  obtain ⟨er, her, hT⟩ := dtake_rd (l := l) (m := m) hl wz
  have HT := Lib.hid hT
  have NZ := Lib.hid (noint_rs (s := (l, m)) hz)
  obtain ⟨K, hK⟩ : ∃ K, (rdN (l, m)).1.1 = K := ⟨_, rfl⟩
  obtain ⟨F, hF⟩ : ∃ K, (rdN (l, m)).1.2 = K := ⟨_, rfl⟩
  obtain ⟨r, hr⟩ : ∃ K, (rdN (l, m)).2.1 = K := ⟨_, rfl⟩
  have h2 : (rdN (l, m)).2 = (r, m || (er != 0)) := by rw [← hr, ← her]
  rw [hK, hF, hr] at HT
  rw [hK, hF, h2]
  clear hK hF hr h2 her hT h hz
  have hb : Below w.heap.size w wz := by rw [← hwz]; exact below1 _ _
  have HR := Lib.hid (show wz.heap[w.heap.size]? = some (.cells #[.bool false, .slice none 0 0, .int .i64 0] 26 (0, 0)) by rw [← hwz]; exact heap_alloc_new _ _)
  have H1 := Lib.hid (show LB wz g (l, m) rs from (hb.block g (heap_lt H.out)).trans H.out)
  have G1 := Lib.hid (grow_below (r := some g) hb)
  have GN := Lib.hid (heap_lt H.out)
  clear hb
  go_enter Tryd.func26, Tryd.ntmps26
  go_upto_region 1 with fail
  try rw [hwz]
  have f0 : wz.cell? ⟨g, 0, none⟩ = some (.string ⟨l.toArray⟩) := row_c H1.out (i := 0) rfl
  clear hwz
  generalize hd : (⟨l.toArray⟩ : ByteArray) = d at *
  generalize ht : (⟨r.toArray⟩ : ByteArray) = t at *
  go_wp2_with fail
  refine HT.out.mono ?_
  rintro e w2 ⟨A, c, rfl, hdg, hb⟩
  clear f0
  have R2 := co HR hb
  have H2 := Lib.hid (show LB w2 g (l, m) rs from (hb.block g (heap_lt H1.out)).trans H1.out)
  have G2 := Lib.hid (grow_trans G1.out (grow_below hb))
  have D2 := Lib.hid hdg
  clear hb hdg HT
  go_upto_region 2 with fail
  obtain ⟨w3, hW⟩ : ∃ V : World, w2.alloc (.cells #[.bool (decide (K < 0)), .slice A (digs K.natAbs).length c, .int .i64 F] 26) = V := ⟨_, rfl⟩
  rw [hW]
  have hb : Below w2.heap.size w2 w3 := by rw [← hW]; exact below1 _ _
  obtain ⟨x, hx⟩ : ∃ n, w2.heap.size = n := ⟨_, rfl⟩
  have X3 := Lib.hid (show w3.heap[x]? = some (.cells #[.bool (decide (K < 0)), .slice A (digs K.natAbs).length c, .int .i64 F] 26 (0, 0)) by rw [← hW, ← hx]; exact heap_alloc_new _ _)
  have R3 := co R2 hb
  have H3 := Lib.hid (show LB w3 g (l, m) rs from (hb.block g (heap_lt H2.out)).trans H2.out)
  have G3 := Lib.hid (grow_trans G2.out (grow_below hb))
  have D3 := Lib.hid (D2.out.below hb)
  have NX := Lib.hid (show w.heap.size < x ∧ g ≠ w.heap.size ∧ g ≠ x from ⟨by rw [← hx]; exact heap_lt R2.out, Nat.ne_of_lt GN.out, by have := heap_lt H2.out; omega⟩)
  rw [hx]
  clear hb hW hx
  have z0 := frozen_of_row _ _ 0 _ _ H3.out
  have xg := heap_lt H3.out
  have f0 : w3.cell? ⟨g, 0, none⟩ = some (.string d) := by rw [← hd]; exact row_c H3.out (i := 0) rfl
  go_upto_region 3 with fail
  obtain ⟨w4, hW⟩ : ∃ V : World, w3.setCell ⟨g, 0, none⟩ (.string t) = V := ⟨_, rfl⟩
  rw [hW]
  have H4 := Lib.hid (show LB w4 g (r, m) rs by rw [← hW, ← ht]; exact H3.out.set0 r)
  have G4 := Lib.hid (grow_trans G3.out (show w3.grownBy w4 (some g) by rw [← hW]; exact grow_set _ _ _ _))
  have hO : Only g w3 w4 := by rw [← hW]; exact (Only.refl g w3).setCell 0 _
  have X4 := Lib.hid ((hO.block x (Ne.symm NX.out.2.2)).trans X3.out)
  have R4 := Lib.hid ((hO.block w.heap.size (Ne.symm NX.out.2.1)).trans R3.out)
  have D4 := Lib.hid (D3.out.kept (hO.kept H3.out (noint_rs HZ.out)))
  clear hW hO f0 z0 xg
  have z1 := frozen_of_row _ _ 1 _ _ H4.out
  have fg1 : w4.cell? ⟨g, 1, none⟩ = some (.bool m) := row_c H4.out (i := 1) rfl
  have xg := heap_lt H4.out
  have nx1 := NX.out.2.1
  have nx2 := NX.out.2.2
  by_cases he : er = 0
  · subst he
    go_upto_region 5 with fail
    obtain ⟨w5, hW⟩ : ∃ V : World, w4 = V := ⟨_, rfl⟩
    have H5 := Lib.hid (show LB w5 g (r, m || ((0 : Int) != 0)) rs by rw [← hW, show (m || ((0 : Int) != 0)) = m by simp]; exact H4.out)
    have G5 := Lib.hid (show w.grownBy w5 (some g) by rw [← hW]; exact G4.out)
    have X5 := Lib.hid (show w5.heap[x]? = some (.cells #[.bool (decide (K < 0)), .slice A (digs K.natAbs).length c, .int .i64 F] 26 (0, 0)) by rw [← hW]; exact X4.out)
    have R5 := Lib.hid (show w5.heap[w.heap.size]? = some (.cells #[.bool false, .slice none 0 0, .int .i64 0] 26 (0, 0)) by rw [← hW]; exact R4.out)
    have D5 := Lib.hid (show Dg w5 A c (digs K.natAbs) by rw [← hW]; exact D4.out)
    rw [hW]
    clear hW z1 xg nx1 nx2 fg1
    have y0 := row_c (i := 0) X5.out rfl
    have y1 := row_c (i := 1) X5.out rfl
    have y2 := row_c (i := 2) X5.out rfl
    have f0 := row_c (i := 0) R5.out rfl
    have f1 := row_c (i := 1) R5.out rfl
    have f2 := row_c (i := 2) R5.out rfl
    have z0 := frozen_of_row _ _ 0 _ _ R5.out
    have z1 := frozen_of_row _ _ 1 _ _ R5.out
    have z2 := frozen_of_row _ _ 2 _ _ R5.out
    have xr := heap_lt R5.out
    go_wp2
    obtain ⟨w6, hW⟩ : ∃ V : World, ((w5.setCell ⟨w.heap.size, 0, none⟩ (.bool (decide (K < 0)))).setCell ⟨w.heap.size, 1, none⟩ (.slice A (digs K.natAbs).length c)).setCell ⟨w.heap.size, 2, none⟩ (.int .i64 F) = V := ⟨_, rfl⟩
    rw [hW]
    have hO : Only w.heap.size w5 w6 := by rw [← hW]; exact (((Only.refl w.heap.size w5).setCell 0 _).setCell 1 _).setCell 2 _
    have hR6 : w6.heap[w.heap.size]? = some (.cells #[.bool (decide (K < 0)), .slice A (digs K.natAbs).length c, .int .i64 F] 26 (0, 0)) := by rw [← hW]; exact heap_setCell_same _ _ 2 _ _ _ (heap_setCell_same _ _ 1 _ _ _ (heap_setCell_same _ _ 0 _ _ _ R5.out))
    have H6 := Lib.hid (show LB w6 g (r, _) rs from (hO.block g NX.out.2.1).trans H5.out)
    have D6 := Lib.hid (D5.out.kept (hO.kept R5.out noint3))
    have G6 := Lib.hid (show w.grownBy w6 (some g) from ⟨hO.os.trans G5.out.os, hO.tape.trans G5.out.tape, hO.output.trans G5.out.output, Nat.le_trans G5.out.size (Nat.le_of_eq hO.size.symm), fun k hk hk2 => (hO.block k (by omega)).trans (G5.out.block k hk hk2)⟩)
    have g0 := row_c (i := 0) hR6 rfl
    have g1 := row_c (i := 1) hR6 rfl
    have g2 := row_c (i := 2) hR6 rfl
    clear hO y0 y1 y2 z0 z1 z2 xr f0 f1 f2
    refine bodyPost_ret (v := .agg #[.bool (decide (K < 0)), .slice A (digs K.natAbs).length c, .int .i64 F]) (by simp [results, Tryd.results26, go_sem, g0, g1, g2]) rfl ?_
    exact ⟨A, c, rfl, D6.out, H6.out, G6.out⟩
  · have hne : (er != 0) = true := bne_iff_ne.2 he
    go_upto_region 5 with fail
    obtain ⟨w5, hW⟩ : ∃ V : World, w4.setCell ⟨g, 1, none⟩ (.bool true) = V := ⟨_, rfl⟩
    rw [hW]
    have hO : Only g w4 w5 := by rw [← hW]; exact (Only.refl g w4).setCell 1 _
    have H5 := Lib.hid (show LB w5 g (r, m || (er != 0)) rs by rw [← hW, hne, Bool.or_true]; exact H4.out.set1 true)
    have G5 := Lib.hid (grow_trans G4.out (show w4.grownBy w5 (some g) by rw [← hW]; exact grow_set _ _ _ _))
    have X5 := Lib.hid ((hO.block x (Ne.symm NX.out.2.2)).trans X4.out)
    have R5 := Lib.hid ((hO.block w.heap.size (Ne.symm NX.out.2.1)).trans R4.out)
    have D5 := Lib.hid (D4.out.kept (hO.kept H4.out (noint_rs HZ.out)))
    clear hW hO z1 xg nx1 nx2 hne he fg1
    have y0 := row_c (i := 0) X5.out rfl
    have y1 := row_c (i := 1) X5.out rfl
    have y2 := row_c (i := 2) X5.out rfl
    have f0 := row_c (i := 0) R5.out rfl
    have f1 := row_c (i := 1) R5.out rfl
    have f2 := row_c (i := 2) R5.out rfl
    have z0 := frozen_of_row _ _ 0 _ _ R5.out
    have z1 := frozen_of_row _ _ 1 _ _ R5.out
    have z2 := frozen_of_row _ _ 2 _ _ R5.out
    have xr := heap_lt R5.out
    go_wp2
    obtain ⟨w6, hW⟩ : ∃ V : World, ((w5.setCell ⟨w.heap.size, 0, none⟩ (.bool (decide (K < 0)))).setCell ⟨w.heap.size, 1, none⟩ (.slice A (digs K.natAbs).length c)).setCell ⟨w.heap.size, 2, none⟩ (.int .i64 F) = V := ⟨_, rfl⟩
    rw [hW]
    have hO : Only w.heap.size w5 w6 := by rw [← hW]; exact (((Only.refl w.heap.size w5).setCell 0 _).setCell 1 _).setCell 2 _
    have hR6 : w6.heap[w.heap.size]? = some (.cells #[.bool (decide (K < 0)), .slice A (digs K.natAbs).length c, .int .i64 F] 26 (0, 0)) := by rw [← hW]; exact heap_setCell_same _ _ 2 _ _ _ (heap_setCell_same _ _ 1 _ _ _ (heap_setCell_same _ _ 0 _ _ _ R5.out))
    have H6 := Lib.hid (show LB w6 g (r, _) rs from (hO.block g NX.out.2.1).trans H5.out)
    have D6 := Lib.hid (D5.out.kept (hO.kept R5.out noint3))
    have G6 := Lib.hid (show w.grownBy w6 (some g) from ⟨hO.os.trans G5.out.os, hO.tape.trans G5.out.tape, hO.output.trans G5.out.output, Nat.le_trans G5.out.size (Nat.le_of_eq hO.size.symm), fun k hk hk2 => (hO.block k (by omega)).trans (G5.out.block k hk hk2)⟩)
    have g0 := row_c (i := 0) hR6 rfl
    have g1 := row_c (i := 1) hR6 rfl
    have g2 := row_c (i := 2) hR6 rfl
    clear hO y0 y1 y2 z0 z1 z2 xr f0 f1 f2
    refine bodyPost_ret (v := .agg #[.bool (decide (K < 0)), .slice A (digs K.natAbs).length c, .int .i64 F]) (by simp [results, Tryd.results26, go_sem, g0, g1, g2]) rfl ?_
    exact ⟨A, c, rfl, D6.out, H6.out, G6.out⟩
end Go.Proofs.YtfhdhldgflbpjaaDoor
end

section
/-
  What stands ahead of the pieces, read.
-/
namespace Go.Proofs.YtfhdhldgflbpjaaDoor
open Go.RowKit
set_option linter.unusedSimpArgs false
set_option linter.unusedVariables false
/-- What is left once a small number has been read. -/
theorem lsmall_v {g : Nat} {s s2 : List UInt8 × Bool} {n : Int} {rs : List Value} {w : World} (e : rdS s = (n, s2)) (h : LB w g s rs) (hl : s.1.length ≤ 9223372036854775807) :
    Calls Tryd.prog 25 #[.pointer (some ⟨g, 0, none⟩)] w fun e w' => e = .returned (.int .i64 n) ∧ LB w' g s2 rs ∧ w.grownBy w' (some g) := by
  have := lsmall_any g s rs w h hl
  rw [e] at this; exact this
theorem lnumber_v {g : Nat} {s s2 : List UInt8 × Bool} {q : Int × Int} {rs : List Value} {w : World} (e : rdN s = (q, s2)) (h : LB w g s rs) (hz : ∀ u, u ∈ rs → ∀ n : Int, u ≠ .int .u32 n) (hl : s.1.length ≤ 9223372036854775807) :
    Calls Tryd.prog 26 #[.pointer (some ⟨g, 0, none⟩)] w fun e w' => ∃ A c, e = .returned (.agg #[.bool (decide (q.1 < 0)), .slice A (digs q.1.natAbs).length c, .int .i64 q.2]) ∧ Dg w' A c (digs q.1.natAbs) ∧ LB w' g s2 rs ∧ w.grownBy w' (some g) := by
  have := lnumber_any g s rs w h hz hl
  rw [e] at this; exact this
theorem rdS_b {s s2 : List UInt8 × Bool} {n : Int} {N : Nat} (e : rdS s = (n, s2)) (hl : s.1.length ≤ N) : s2.1.length ≤ N ∧ 0 ≤ n ∧ n ≤ 255 := by
  have := rdS_is s
  rw [e] at this
  exact ⟨Nat.le_trans this.2.2 hl, this.1, this.2.1⟩
theorem rdN_b {s s2 : List UInt8 × Bool} {q : Int × Int} {N : Nat} (e : rdN s = (q, s2)) (hl : s.1.length ≤ N) : s2.1.length ≤ N ∧ Rt q.1 q.2 ∧ (digs q.1.natAbs).length ≤ 400 := by
  have := rdN_is s
  rw [e] at this
  exact ⟨Nat.le_trans this.2.2 hl, this.1, this.2.1⟩
theorem keep_cell {w : World} {g o i : Nat} {v : Value} {X : Option Value} (h : w.cell? ⟨g, o, none⟩ = X) (hne : o ≠ i) : (w.setCell ⟨g, i, none⟩ v).cell? ⟨g, o, none⟩ = X := by
  rw [World.cell?_setCell_other _ _ _ _ (by intro e; simp only [Addr.mk.injEq] at e; omega)]; exact h
theorem zmake_dz {A : Option Addr} {c : Nat} {K : Int} {w : World} (h : Dg w A c (digs K.natAbs)) (hl : (digs K.natAbs).length ≤ 1000000) :
    Calls Tryd.prog 27 #[.bool (decide (K < 0)), .slice A (digs K.natAbs).length c] w fun e w' => Zr K w e w' := by
  have := zmake_any A c (decide (K < 0)) _ w h hl
  rwa [sg_dz] at this
theorem LB.setr {w : World} {g : Nat} {s : List UInt8 × Bool} {rs : List Value} (h : LB w g s rs) (i : Nat) (v : Value) : LB (w.setCell ⟨g, i + 2, none⟩ v) g s (rs.set i v) := by
  have := heap_setCell_same _ _ (i + 2) _ _ v h
  unfold LB; rw [this]; simp
/-- The table's head as it is read: Fun, Order, Prec, Degree, W, how many pieces, A, what is left. -/
noncomputable def rdH (s : List UInt8 × Bool) : Int × Int × Int × Int × Int × Int × (Int × Int) × List UInt8 × Bool :=
  let t := rdS s
  let s1 := if t.1 = 84 then t.2 else (t.2.1, true)
  let f := rdS s1
  let o := rdS f.2
  let p := rdS o.2
  let d := rdS p.2
  let x := rdS d.2
  let n := rdS x.2
  let a := rdN n.2
  (f.1, o.1, p.1, d.1, x.1 - 128, n.1, a.1, a.2)
theorem noint_0 : ∀ u, u ∈ ([.int .i64 0, .int .i64 0, .bool false, .slice none 0 0, .int .i64 0, .int .i64 0, .int .i64 0, .int .i64 0, .slice none 0 0, .bool false, .slice none 0 0, .int .i64 0] : List Value) → ∀ n : Int, u ≠ .int .u32 n := by
  intro u hu n e; subst e; simp at hu
set_option maxHeartbeats 4000000 in
set_option maxRecDepth 100000 in
theorem head_any (g : Nat) (s0 s1 s2 s3 s4 s5 s6 s7 s8 : List UInt8 × Bool) (t F O Q D W n : Int) (a : Int × Int) (w : World) (h : LB w g s0 [.int .i64 0, .int .i64 0, .bool false, .slice none 0 0, .int .i64 0, .int .i64 0, .int .i64 0, .int .i64 0, .slice none 0 0, .bool false, .slice none 0 0, .int .i64 0]) (hl : s0.1.length ≤ 9223372036854775807)
    (e0 : rdS s0 = (t, s1)) (e1 : rdS (if t = 84 then s1 else (s1.1, true)) = (F, s2)) (e2 : rdS s2 = (O, s3)) (e3 : rdS s3 = (Q, s4)) (e4 : rdS s4 = (D, s5)) (e5 : rdS s5 = (W, s6)) (e6 : rdS s6 = (n, s7)) (e7 : rdN s7 = (a, s8)) :
    Calls Tryd.prog 16 #[.pointer (some ⟨g, 0, none⟩)] w fun e w' => ∃ A c B d, e = .returned (.int .i64 n) ∧ LB w' g s8 [.int .i64 F, .int .i64 O, .bool (decide (a.1 < 0)), .slice A (digs a.1.natAbs).length c, .int .i64 a.2, .int .i64 (W - 128), .int .i64 Q, .int .i64 D, .slice none 0 0, .bool (decide (a.1 < 0)), .slice B (digs a.1.natAbs).length d, .int .i64 a.2] ∧ Dg w' A c (digs a.1.natAbs) ∧ Dg w' B d (digs a.1.natAbs) ∧ w.grownBy w' (some g) := by
  have H0 := Lib.hid h
  have E0 := Lib.hid e0
  have E1 := Lib.hid e1
  have E2 := Lib.hid e2
  have E3 := Lib.hid e3
  have E4 := Lib.hid e4
  have E5 := Lib.hid e5
  have E6 := Lib.hid e6
  have E7 := Lib.hid e7
  have B0 := Lib.hid hl
  have B1 := Lib.hid (rdS_b e0 hl)
  obtain ⟨sx, hsx⟩ : ∃ z, (if t = 84 then s1 else (s1.1, true)) = z := ⟨_, rfl⟩
  rw [hsx] at E1
  have BX := Lib.hid (show sx.1.length ≤ 9223372036854775807 by rw [← hsx]; split; exact B1.out.1; exact B1.out.1)
  have B2 := Lib.hid (rdS_b E1.out BX.out)
  have B3 := Lib.hid (rdS_b e2 B2.out.1)
  have B4 := Lib.hid (rdS_b e3 B3.out.1)
  have B5 := Lib.hid (rdS_b e4 B4.out.1)
  have B6 := Lib.hid (rdS_b e5 B5.out.1)
  have B7 := Lib.hid (rdS_b e6 B6.out.1)
  have B8 := Lib.hid (rdN_b e7 B7.out.1)
  have wW : wrap64 (W - 128) = W - 128 := IntWalk.wrap64_in _ ⟨by have := B6.out; omega, by have := B6.out; omega⟩
  have HSX := Lib.hid hsx
  clear h e0 e1 e2 e3 e4 e5 e6 e7 hl hsx
  go_enter Tryd.func16, Tryd.ntmps16
  go_wp2_with fail
  refine (lsmall_v E0.out H0.out B0.out).mono ?_
  rintro e w1 ⟨rfl, hlb, hgr⟩
  have H1 := Lib.hid hlb
  have G1 := Lib.hid hgr
  clear hlb hgr
  have z1 := frozen_of_row _ _ 1 _ _ H1.out
  have f1 := row_c H1.out (i := 1) rfl
  by_cases ht : t = 84
  · subst ht
    have HX := Lib.hid (show LB w1 g sx [.int .i64 0, .int .i64 0, .bool false, .slice none 0 0, .int .i64 0, .int .i64 0, .int .i64 0, .int .i64 0, .slice none 0 0, .bool false, .slice none 0 0, .int .i64 0] by rw [← HSX.out, if_pos rfl]; exact H1.out)
    have GX := G1
    clear f1 z1
    go_upto_region 4 with fail
    go_wp2_with fail
    have HD := Lib.hid (show LB w1.drew g sx [.int .i64 0, .int .i64 0, .bool false, .slice none 0 0, .int .i64 0, .int .i64 0, .int .i64 0, .int .i64 0, .slice none 0 0, .bool false, .slice none 0 0, .int .i64 0] from HX.out)
    have GD := Lib.hid (grow_trans GX.out (grow_below (r := some g) (bd0 w1)))
    go_region_held3 (fun w' => True)
      (first | trivial)
      (first
        | (go_at_call 25; (with_reducible refine (lsmall_v E1.out HD.out BX.out).mono ?_); rintro e w2 ⟨rfl, hlb, hgr⟩; (have H2 := Lib.hid hlb); (have G2 := Lib.hid (grow_trans GD.out hgr)); clear hlb hgr)
        | (go_at_call 25; (with_reducible refine (lsmall_v E2.out H2.out B2.out.1).mono ?_); rintro e w3 ⟨rfl, hlb, hgr⟩; (have H3 := Lib.hid hlb); (have G3 := Lib.hid (grow_trans G2.out hgr)); clear hlb hgr)
        | (go_at_call 25; (with_reducible refine (lsmall_v E3.out H3.out B3.out.1).mono ?_); rintro e w4 ⟨rfl, hlb, hgr⟩; (have H4 := Lib.hid hlb); (have G4 := Lib.hid (grow_trans G3.out hgr)); clear hlb hgr)
        | (go_at_call 25; (with_reducible refine (lsmall_v E4.out H4.out B4.out.1).mono ?_); rintro e w5 ⟨rfl, hlb, hgr⟩; (have H5 := Lib.hid hlb); (have G5 := Lib.hid (grow_trans G4.out hgr)); clear hlb hgr; (have q2 := row_c (i := 2) H5.out rfl); (have p2 := frozen_of_row _ _ 2 _ _ H5.out); (have q3 := row_c (i := 3) H5.out rfl); (have p3 := frozen_of_row _ _ 3 _ _ H5.out); (have q8 := row_c (i := 8) H5.out rfl); (have p8 := frozen_of_row _ _ 8 _ _ H5.out); (have q9 := row_c (i := 9) H5.out rfl); (have p9 := frozen_of_row _ _ 9 _ _ H5.out)))
    rename_i hHeld
    clear hHeld
    clear q2 p2 q3 p3 q8 p8 q9 p9
    obtain ⟨w6, hW⟩ : ∃ V : World, (((w5.setCell ⟨g, 2, none⟩ (.int .i64 F)).setCell ⟨g, 3, none⟩ (.int .i64 O)).setCell ⟨g, 8, none⟩ (.int .i64 Q)).setCell ⟨g, 9, none⟩ (.int .i64 D) = V := ⟨_, rfl⟩
    rw [hW]
    have H6 := Lib.hid (show LB w6 g s5 [.int .i64 F, .int .i64 O, .bool false, .slice none 0 0, .int .i64 0, .int .i64 0, .int .i64 Q, .int .i64 D, .slice none 0 0, .bool false, .slice none 0 0, .int .i64 0] by rw [← hW]; exact (((H5.out.setr 0 _).setr 1 _).setr 6 _).setr 7 _)
    have G6 := Lib.hid (grow_trans G5.out (show w5.grownBy w6 (some g) by rw [← hW]; exact grow_trans (grow_trans (grow_trans (grow_set _ _ _ _) (grow_set _ _ _ _)) (grow_set _ _ _ _)) (grow_set _ _ _ _)))
    clear hW
    go_wp2_with fail
    refine (lsmall_v E5.out H6.out B5.out.1).mono ?_
    rintro e w7 ⟨rfl, hlb, hgr⟩
    have H7 := Lib.hid hlb
    have G7 := Lib.hid (grow_trans G6.out hgr)
    clear hlb hgr
    have q7 := row_c (i := 7) H7.out rfl
    have p7 := frozen_of_row _ _ 7 _ _ H7.out
    go_wp2_with fail
    clear q7 p7
    obtain ⟨w8, hW⟩ : ∃ V : World, w7.setCell ⟨g, 7, none⟩ (.int .i64 (W - 128)) = V := ⟨_, rfl⟩
    rw [hW]
    have H8 := Lib.hid (show LB w8 g s6 [.int .i64 F, .int .i64 O, .bool false, .slice none 0 0, .int .i64 0, .int .i64 (W - 128), .int .i64 Q, .int .i64 D, .slice none 0 0, .bool false, .slice none 0 0, .int .i64 0] by rw [← hW]; exact H7.out.setr 5 _)
    have G8 := Lib.hid (grow_trans G7.out (show w7.grownBy w8 (some g) by rw [← hW]; exact grow_set _ _ _ _))
    clear hW
    refine (lsmall_v E6.out H8.out B6.out.1).mono ?_
    rintro e w9 ⟨rfl, hlb, hgr⟩
    have H9 := Lib.hid hlb
    have G9 := Lib.hid (grow_trans G8.out hgr)
    clear hlb hgr
    go_wp2_with fail
    refine (lnumber_v E7.out H9.out (by intro u hu n e; subst e; simp at hu) B7.out.1).mono ?_
    rintro e w10 ⟨A, c, rfl, hdg, hlb, hgr⟩
    have H10 := Lib.hid hlb
    have G10 := Lib.hid (grow_trans G9.out hgr)
    have D10 := Lib.hid hdg
    clear hlb hgr hdg
    have q4 := row_c (i := 4) H10.out rfl
    have p4 := frozen_of_row _ _ 4 _ _ H10.out
    have q5 := row_c (i := 5) H10.out rfl
    have p5 := frozen_of_row _ _ 5 _ _ H10.out
    have q6 := row_c (i := 6) H10.out rfl
    have p6 := frozen_of_row _ _ 6 _ _ H10.out
    go_wp2_with fail
    clear q4 p4 q5 p5 q6 p6
    obtain ⟨w11, hW⟩ : ∃ V : World, ((w10.setCell ⟨g, 4, none⟩ (.bool (decide (a.1 < 0)))).setCell ⟨g, 5, none⟩ (.slice A (digs a.1.natAbs).length c)).setCell ⟨g, 6, none⟩ (.int .i64 a.2) = V := ⟨_, rfl⟩
    rw [hW]
    have H11 := Lib.hid (show LB w11 g s8 [.int .i64 F, .int .i64 O, .bool (decide (a.1 < 0)), .slice A (digs a.1.natAbs).length c, .int .i64 a.2, .int .i64 (W - 128), .int .i64 Q, .int .i64 D, .slice none 0 0, .bool false, .slice none 0 0, .int .i64 0] by rw [← hW]; exact ((H10.out.setr 2 _).setr 3 _).setr 4 _)
    have hg11 : w10.grownBy w11 (some g) := by rw [← hW]; exact grow_trans (grow_trans (grow_set _ _ _ _) (grow_set _ _ _ _)) (grow_set _ _ _ _)
    have G11 := Lib.hid (grow_trans G10.out hg11)
    have D11 := Lib.hid (D10.out.kept (grow_kept hg11 H10.out (noint_rs (s := s8) (by intro u hu n e; subst e; simp at hu))))
    clear hW hg11
    have KD := Lib.hid (bd0 w11)
    have SG := Lib.hid (heap_lt H11.out)
    have xg := SG.out
    have q4 := row_c (i := 4) H11.out rfl
    have q5 := row_c (i := 5) H11.out rfl
    have q6 := row_c (i := 6) H11.out rfl
    go_region_held3 (fun w' => w'.cell? ⟨g, 4, none⟩ = w11.cell? ⟨g, 4, none⟩ ∧ w'.cell? ⟨g, 5, none⟩ = w11.cell? ⟨g, 5, none⟩ ∧ w'.cell? ⟨g, 6, none⟩ = w11.cell? ⟨g, 6, none⟩)
      (first | with_reducible exact ⟨keep_b KD.out xg 4, keep_b KD.out xg 5, keep_b KD.out xg 6⟩ | with_reducible exact ⟨keep_b K12.out xg 4, keep_b K12.out xg 5, keep_b K12.out xg 6⟩ | (refine ⟨?_, ?_, ?_⟩ <;> (repeat (refine keep_cell ?_ (by decide))) <;> exact keep_b K12.out xg _))
      (first
        | (go_at_call 27; (with_reducible refine (zmake_dz (D11.out.below KD.out) (Nat.le_trans B8.out.2.2 (by omega))).mono ?_); rintro e w12 ⟨B, d, rfl, hd, hb⟩; (have K12 := bt KD hb); (have D12 := Lib.hid hd); (have q11 := row_c (i := 11) (co H11 K12.out).out rfl); (have p11 := frozen_of_row _ _ 11 _ _ (cells_of H11.out K12.out)); (have q12 := row_c (i := 12) (co H11 K12.out).out rfl); (have p12 := frozen_of_row _ _ 12 _ _ (cells_of H11.out K12.out)); (have q13 := row_c (i := 13) (co H11 K12.out).out rfl); (have p13 := frozen_of_row _ _ 13 _ _ (cells_of H11.out K12.out)); clear hb hd))
    rename_i hHeld
    clear hHeld
    clear q4 q5 q6 q11 p11 q12 p12 q13 p13 xg
    obtain ⟨w13, hW⟩ : ∃ V : World, ((w12.setCell ⟨g, 11, none⟩ (.bool (decide (a.1 < 0)))).setCell ⟨g, 12, none⟩ (.slice B (digs a.1.natAbs).length d)).setCell ⟨g, 13, none⟩ (.int .i64 a.2) = V := ⟨_, rfl⟩
    rw [hW]
    have H12 := Lib.hid (show LB w12 g s8 [.int .i64 F, .int .i64 O, .bool (decide (a.1 < 0)), .slice A (digs a.1.natAbs).length c, .int .i64 a.2, .int .i64 (W - 128), .int .i64 Q, .int .i64 D, .slice none 0 0, .bool false, .slice none 0 0, .int .i64 0] from cells_of H11.out K12.out)
    have H13 := Lib.hid (show LB w13 g s8 [.int .i64 F, .int .i64 O, .bool (decide (a.1 < 0)), .slice A (digs a.1.natAbs).length c, .int .i64 a.2, .int .i64 (W - 128), .int .i64 Q, .int .i64 D, .slice none 0 0, .bool (decide (a.1 < 0)), .slice B (digs a.1.natAbs).length d, .int .i64 a.2] by rw [← hW]; exact ((H12.out.setr 9 _).setr 10 _).setr 11 _)
    have hg13 : w12.grownBy w13 (some g) := by rw [← hW]; exact grow_trans (grow_trans (grow_set _ _ _ _) (grow_set _ _ _ _)) (grow_set _ _ _ _)
    have hk13 := grow_kept hg13 H12.out (noint_rs (s := s8) (by intro u hu n e; subst e; simp at hu))
    have G13 := Lib.hid (grow_trans (grow_trans G11.out (grow_below K12.out)) hg13)
    have DA := Lib.hid ((D11.out.below K12.out).kept hk13)
    have DB := Lib.hid (D12.out.kept hk13)
    clear hW hg13 hk13
    go_wp2
    go_ret
    exact ⟨A, c, B, d, rfl, H13.out, DA.out, DB.out, G13.out⟩
  · have hne : (t != 84) = true := bne_iff_ne.2 ht
    have HTT := Lib.hid ht
    go_upto_region 3 with fail
    obtain ⟨wx, hW⟩ : ∃ V : World, w1.setCell ⟨g, 1, none⟩ (.bool true) = V := ⟨_, rfl⟩
    rw [hW]
    have HX := Lib.hid (show LB wx g sx [.int .i64 0, .int .i64 0, .bool false, .slice none 0 0, .int .i64 0, .int .i64 0, .int .i64 0, .int .i64 0, .slice none 0 0, .bool false, .slice none 0 0, .int .i64 0] by rw [← HSX.out, if_neg HTT.out, ← hW]; exact H1.out.set1 true)
    have GX := Lib.hid (grow_trans G1.out (show w1.grownBy wx (some g) by rw [← hW]; exact grow_set _ _ _ _))
    clear hW f1 z1 hne ht
    go_upto_region 4 with fail
    go_wp2_with fail
    have HD := Lib.hid (show LB wx.drew g sx [.int .i64 0, .int .i64 0, .bool false, .slice none 0 0, .int .i64 0, .int .i64 0, .int .i64 0, .int .i64 0, .slice none 0 0, .bool false, .slice none 0 0, .int .i64 0] from HX.out)
    have GD := Lib.hid (grow_trans GX.out (grow_below (r := some g) (bd0 wx)))
    go_region_held3 (fun w' => True)
      (first | trivial)
      (first
        | (go_at_call 25; (with_reducible refine (lsmall_v E1.out HD.out BX.out).mono ?_); rintro e w2 ⟨rfl, hlb, hgr⟩; (have H2 := Lib.hid hlb); (have G2 := Lib.hid (grow_trans GD.out hgr)); clear hlb hgr)
        | (go_at_call 25; (with_reducible refine (lsmall_v E2.out H2.out B2.out.1).mono ?_); rintro e w3 ⟨rfl, hlb, hgr⟩; (have H3 := Lib.hid hlb); (have G3 := Lib.hid (grow_trans G2.out hgr)); clear hlb hgr)
        | (go_at_call 25; (with_reducible refine (lsmall_v E3.out H3.out B3.out.1).mono ?_); rintro e w4 ⟨rfl, hlb, hgr⟩; (have H4 := Lib.hid hlb); (have G4 := Lib.hid (grow_trans G3.out hgr)); clear hlb hgr)
        | (go_at_call 25; (with_reducible refine (lsmall_v E4.out H4.out B4.out.1).mono ?_); rintro e w5 ⟨rfl, hlb, hgr⟩; (have H5 := Lib.hid hlb); (have G5 := Lib.hid (grow_trans G4.out hgr)); clear hlb hgr; (have q2 := row_c (i := 2) H5.out rfl); (have p2 := frozen_of_row _ _ 2 _ _ H5.out); (have q3 := row_c (i := 3) H5.out rfl); (have p3 := frozen_of_row _ _ 3 _ _ H5.out); (have q8 := row_c (i := 8) H5.out rfl); (have p8 := frozen_of_row _ _ 8 _ _ H5.out); (have q9 := row_c (i := 9) H5.out rfl); (have p9 := frozen_of_row _ _ 9 _ _ H5.out)))
    rename_i hHeld
    clear hHeld
    clear q2 p2 q3 p3 q8 p8 q9 p9
    obtain ⟨w6, hW⟩ : ∃ V : World, (((w5.setCell ⟨g, 2, none⟩ (.int .i64 F)).setCell ⟨g, 3, none⟩ (.int .i64 O)).setCell ⟨g, 8, none⟩ (.int .i64 Q)).setCell ⟨g, 9, none⟩ (.int .i64 D) = V := ⟨_, rfl⟩
    rw [hW]
    have H6 := Lib.hid (show LB w6 g s5 [.int .i64 F, .int .i64 O, .bool false, .slice none 0 0, .int .i64 0, .int .i64 0, .int .i64 Q, .int .i64 D, .slice none 0 0, .bool false, .slice none 0 0, .int .i64 0] by rw [← hW]; exact (((H5.out.setr 0 _).setr 1 _).setr 6 _).setr 7 _)
    have G6 := Lib.hid (grow_trans G5.out (show w5.grownBy w6 (some g) by rw [← hW]; exact grow_trans (grow_trans (grow_trans (grow_set _ _ _ _) (grow_set _ _ _ _)) (grow_set _ _ _ _)) (grow_set _ _ _ _)))
    clear hW
    go_wp2_with fail
    refine (lsmall_v E5.out H6.out B5.out.1).mono ?_
    rintro e w7 ⟨rfl, hlb, hgr⟩
    have H7 := Lib.hid hlb
    have G7 := Lib.hid (grow_trans G6.out hgr)
    clear hlb hgr
    have q7 := row_c (i := 7) H7.out rfl
    have p7 := frozen_of_row _ _ 7 _ _ H7.out
    go_wp2_with fail
    clear q7 p7
    obtain ⟨w8, hW⟩ : ∃ V : World, w7.setCell ⟨g, 7, none⟩ (.int .i64 (W - 128)) = V := ⟨_, rfl⟩
    rw [hW]
    have H8 := Lib.hid (show LB w8 g s6 [.int .i64 F, .int .i64 O, .bool false, .slice none 0 0, .int .i64 0, .int .i64 (W - 128), .int .i64 Q, .int .i64 D, .slice none 0 0, .bool false, .slice none 0 0, .int .i64 0] by rw [← hW]; exact H7.out.setr 5 _)
    have G8 := Lib.hid (grow_trans G7.out (show w7.grownBy w8 (some g) by rw [← hW]; exact grow_set _ _ _ _))
    clear hW
    refine (lsmall_v E6.out H8.out B6.out.1).mono ?_
    rintro e w9 ⟨rfl, hlb, hgr⟩
    have H9 := Lib.hid hlb
    have G9 := Lib.hid (grow_trans G8.out hgr)
    clear hlb hgr
    go_wp2_with fail
    refine (lnumber_v E7.out H9.out (by intro u hu n e; subst e; simp at hu) B7.out.1).mono ?_
    rintro e w10 ⟨A, c, rfl, hdg, hlb, hgr⟩
    have H10 := Lib.hid hlb
    have G10 := Lib.hid (grow_trans G9.out hgr)
    have D10 := Lib.hid hdg
    clear hlb hgr hdg
    have q4 := row_c (i := 4) H10.out rfl
    have p4 := frozen_of_row _ _ 4 _ _ H10.out
    have q5 := row_c (i := 5) H10.out rfl
    have p5 := frozen_of_row _ _ 5 _ _ H10.out
    have q6 := row_c (i := 6) H10.out rfl
    have p6 := frozen_of_row _ _ 6 _ _ H10.out
    go_wp2_with fail
    clear q4 p4 q5 p5 q6 p6
    obtain ⟨w11, hW⟩ : ∃ V : World, ((w10.setCell ⟨g, 4, none⟩ (.bool (decide (a.1 < 0)))).setCell ⟨g, 5, none⟩ (.slice A (digs a.1.natAbs).length c)).setCell ⟨g, 6, none⟩ (.int .i64 a.2) = V := ⟨_, rfl⟩
    rw [hW]
    have H11 := Lib.hid (show LB w11 g s8 [.int .i64 F, .int .i64 O, .bool (decide (a.1 < 0)), .slice A (digs a.1.natAbs).length c, .int .i64 a.2, .int .i64 (W - 128), .int .i64 Q, .int .i64 D, .slice none 0 0, .bool false, .slice none 0 0, .int .i64 0] by rw [← hW]; exact ((H10.out.setr 2 _).setr 3 _).setr 4 _)
    have hg11 : w10.grownBy w11 (some g) := by rw [← hW]; exact grow_trans (grow_trans (grow_set _ _ _ _) (grow_set _ _ _ _)) (grow_set _ _ _ _)
    have G11 := Lib.hid (grow_trans G10.out hg11)
    have D11 := Lib.hid (D10.out.kept (grow_kept hg11 H10.out (noint_rs (s := s8) (by intro u hu n e; subst e; simp at hu))))
    clear hW hg11
    have KD := Lib.hid (bd0 w11)
    have SG := Lib.hid (heap_lt H11.out)
    have xg := SG.out
    have q4 := row_c (i := 4) H11.out rfl
    have q5 := row_c (i := 5) H11.out rfl
    have q6 := row_c (i := 6) H11.out rfl
    go_region_held3 (fun w' => w'.cell? ⟨g, 4, none⟩ = w11.cell? ⟨g, 4, none⟩ ∧ w'.cell? ⟨g, 5, none⟩ = w11.cell? ⟨g, 5, none⟩ ∧ w'.cell? ⟨g, 6, none⟩ = w11.cell? ⟨g, 6, none⟩)
      (first | with_reducible exact ⟨keep_b KD.out xg 4, keep_b KD.out xg 5, keep_b KD.out xg 6⟩ | with_reducible exact ⟨keep_b K12.out xg 4, keep_b K12.out xg 5, keep_b K12.out xg 6⟩ | (refine ⟨?_, ?_, ?_⟩ <;> (repeat (refine keep_cell ?_ (by decide))) <;> exact keep_b K12.out xg _))
      (first
        | (go_at_call 27; (with_reducible refine (zmake_dz (D11.out.below KD.out) (Nat.le_trans B8.out.2.2 (by omega))).mono ?_); rintro e w12 ⟨B, d, rfl, hd, hb⟩; (have K12 := bt KD hb); (have D12 := Lib.hid hd); (have q11 := row_c (i := 11) (co H11 K12.out).out rfl); (have p11 := frozen_of_row _ _ 11 _ _ (cells_of H11.out K12.out)); (have q12 := row_c (i := 12) (co H11 K12.out).out rfl); (have p12 := frozen_of_row _ _ 12 _ _ (cells_of H11.out K12.out)); (have q13 := row_c (i := 13) (co H11 K12.out).out rfl); (have p13 := frozen_of_row _ _ 13 _ _ (cells_of H11.out K12.out)); clear hb hd))
    rename_i hHeld
    clear hHeld
    clear q4 q5 q6 q11 p11 q12 p12 q13 p13 xg
    obtain ⟨w13, hW⟩ : ∃ V : World, ((w12.setCell ⟨g, 11, none⟩ (.bool (decide (a.1 < 0)))).setCell ⟨g, 12, none⟩ (.slice B (digs a.1.natAbs).length d)).setCell ⟨g, 13, none⟩ (.int .i64 a.2) = V := ⟨_, rfl⟩
    rw [hW]
    have H12 := Lib.hid (show LB w12 g s8 [.int .i64 F, .int .i64 O, .bool (decide (a.1 < 0)), .slice A (digs a.1.natAbs).length c, .int .i64 a.2, .int .i64 (W - 128), .int .i64 Q, .int .i64 D, .slice none 0 0, .bool false, .slice none 0 0, .int .i64 0] from cells_of H11.out K12.out)
    have H13 := Lib.hid (show LB w13 g s8 [.int .i64 F, .int .i64 O, .bool (decide (a.1 < 0)), .slice A (digs a.1.natAbs).length c, .int .i64 a.2, .int .i64 (W - 128), .int .i64 Q, .int .i64 D, .slice none 0 0, .bool (decide (a.1 < 0)), .slice B (digs a.1.natAbs).length d, .int .i64 a.2] by rw [← hW]; exact ((H12.out.setr 9 _).setr 10 _).setr 11 _)
    have hg13 : w12.grownBy w13 (some g) := by rw [← hW]; exact grow_trans (grow_trans (grow_set _ _ _ _) (grow_set _ _ _ _)) (grow_set _ _ _ _)
    have hk13 := grow_kept hg13 H12.out (noint_rs (s := s8) (by intro u hu n e; subst e; simp at hu))
    have G13 := Lib.hid (grow_trans (grow_trans G11.out (grow_below K12.out)) hg13)
    have DA := Lib.hid ((D11.out.below K12.out).kept hk13)
    have DB := Lib.hid (D12.out.kept hk13)
    clear hW hg13 hk13
    go_wp2
    go_ret
    exact ⟨A, c, B, d, rfl, H13.out, DA.out, DB.out, G13.out⟩
end Go.Proofs.YtfhdhldgflbpjaaDoor
end

section
/-
  Pieces in a row that a walk makes.
-/
namespace Go.Proofs.YtfhdhldgflbpjaaDoor
open Go.RowKit
set_option linter.unusedSimpArgs false
set_option linter.unusedVariables false
/-- A piece that has been read: numbers with their values. -/
structure PdZ where
  a : Int × Int
  w : Int
  cs : List (Int × Int)
  er : Int × Int
def nmOf (q : Int × Int) : Nm := (decide (q.1 < 0), digs q.1.natAbs, q.2)
def PdZ.to (p : PdZ) : Pd := ⟨nmOf p.a, p.w, p.cs.map nmOf, nmOf p.er⟩
/-- Numbers in a row of their own. -/
def NrL (w : World) (P : Option Addr) (k : Nat) (L : List (Int × Int)) : Prop := L.length ≤ k ∧ (L.length ≠ 0 → ∃ b cur fr, P = some ⟨b, 0, none⟩ ∧ w.heap[b]? = some (.cells cur 26 fr) ∧
  ∀ (i : Nat) z, L[i]? = some z → ∃ A c, w.cell? ⟨b, i * 3, none⟩ = some (.bool (decide (z.1 < 0))) ∧ w.cell? ⟨b, i * 3 + 1, none⟩ = some (.slice A (digs z.1.natAbs).length c) ∧ w.cell? ⟨b, i * 3 + 2, none⟩ = some (.int .i64 z.2) ∧ Dg w A c (digs z.1.natAbs))
theorem Dw.nrl {w : World} {B : Nat} {A : Option Addr} {m k : Nat} {L : List (Int × Int)} (h : Dw w B (.slice A m k) L) : m = L.length ∧ NrL w A k L := by
  obtain ⟨hn, cs, hown, hcs⟩ := h
  rcases hown.2 with ⟨h1, h2⟩ | ⟨g, cap, cur, h1, hB, hh, hc, _, _, _⟩
  · injection h1 with e1 e2 e3
    exact ⟨by omega, by omega, fun h0 => absurd h2 h0⟩
  · have h1c := h1
    injection h1 with e1 e2 e3
    refine ⟨e2, by omega, fun _ => ⟨g, cur, _, e1, hh, fun i z hz => ?_⟩⟩
    obtain ⟨A, c, c0, c1, c2, hd⟩ := hcs.2.2 i z hz
    have a0 := hown.cells (g := g) (by rw [h1c]; rfl) _ _ c0
    have a1 := hown.cells (g := g) (by rw [h1c]; rfl) _ _ c1
    have a2 := hown.cells (g := g) (by rw [h1c]; rfl) _ _ c2
    rw [Addr.add_lit] at a0 a1 a2
    simp only [Nat.zero_add] at a0 a1 a2
    exact ⟨A, c, a0, a1, a2, hd⟩
/-- What turns box g and rows of pieces from N on, and leaves all else. -/
def Gz (N g : Nat) (w w' : World) : Prop := Kept w w' ∧ (w'.os = w.os ∧ w'.tape = w.tape ∧ w'.output = w.output) ∧ ∀ k, k < w.heap.size → k ≠ g → (k < N ∨ ∀ cs fr, w.heap[k]? ≠ some (.cells cs 46 fr)) → w'.heap[k]? = w.heap[k]?
theorem Gz.refl (N g : Nat) (w : World) : Gz N g w w := ⟨Kept.refl _, ⟨rfl, rfl, rfl⟩, fun _ _ _ _ => rfl⟩
theorem Gz.trans {N g : Nat} {a b c : World} (h : Gz N g a b) (k : Gz N g b c) : Gz N g a c := by
  refine ⟨h.1.trans k.1, ⟨k.2.1.1.trans h.2.1.1, k.2.1.2.1.trans h.2.1.2.1, k.2.1.2.2.trans h.2.1.2.2⟩, fun i hi hg hb => ?_⟩
  have e := h.2.2 i hi hg hb
  exact (k.2.2 i (Nat.lt_of_lt_of_le hi h.1.1) hg (hb.imp id (fun f cs fr x => f cs fr (e ▸ x)))).trans e
theorem Gz.below {N g : Nat} {a b : World} (h : Below a.heap.size a b) : Gz N g a b := ⟨Kept.below h, ⟨h.os, h.tape, h.output⟩, fun i hi _ _ => h.block i hi⟩
theorem Gz.grown {N g : Nat} {a b : World} (h : a.grownBy b (some g)) (k : Kept a b) : Gz N g a b := ⟨k, ⟨h.os, h.tape, h.output⟩, fun i hi hg _ => h.block i hi (fun e => hg (by injection e))⟩
theorem Gz.row {N g : Nat} {a b : World} (h : Gz N g a b) {k : Nat} {cs : Array Value} {T : TypeId} {fr : Nat × Nat} (hr : a.heap[k]? = some (.cells cs T fr)) (hk : k ≠ g) (hT : T ≠ 46) : b.heap[k]? = some (.cells cs T fr) :=
  (h.2.2 k (heap_lt hr) hk (.inr (fun cs' fr' e => by rw [hr] at e; exact hT (by injection e with e; injection e)))).trans hr
theorem Gz.base {N g : Nat} {W a b : World} (h : Gz N g a b) (hB : Below N W a) (hN : N ≤ a.heap.size) (hg : N ≤ g) : Below N W b :=
  ⟨h.2.1.1.trans hB.os, h.2.1.2.1.trans hB.tape, h.2.1.2.2.trans hB.output, Nat.le_trans hB.size h.1.1, fun i hi => (h.2.2 i (by omega) (by omega) (.inl hi)).trans (hB.block i hi)⟩
theorem NrL.gz {N g : Nat} {w w' : World} {P : Option Addr} {k : Nat} {L : List (Int × Int)} (h : NrL w P k L) (hg : Gz N g w w') {cs : Array Value} {T : TypeId} {fr : Nat × Nat} (hT : w.heap[g]? = some (.cells cs T fr)) (hne : T ≠ 26) : NrL w' P k L := by
  refine ⟨h.1, fun h0 => ?_⟩
  obtain ⟨b, cur, fr2, rfl, hr, hc⟩ := h.2 h0
  have hb : b ≠ g := fun e => by subst e; rw [hT] at hr; exact hne (by injection hr with hr; injection hr)
  have hr' := hg.row hr hb (by decide)
  have ce : ∀ o, w'.cell? ⟨b, o, none⟩ = w.cell? ⟨b, o, none⟩ := fun o => World.cell?_of_block (a := ⟨b, o, none⟩) (hr'.trans hr.symm)
  refine ⟨b, cur, fr2, rfl, hr', fun i z hz => ?_⟩
  obtain ⟨A, c, c0, c1, c2, hd⟩ := hc i z hz
  exact ⟨A, c, (ce _).trans c0, (ce _).trans c1, (ce _).trans c2, hd.kept hg.1⟩
theorem NrL.ns {w : World} {P : Option Addr} {k : Nat} {L : List (Int × Int)} (h : NrL w P k L) : NsL w P k (L.map nmOf) := by
  by_cases h0 : L.length = 0
  · have : L = [] := List.length_eq_zero_iff.1 h0
    subst this
    exact ⟨fun _ => none, fun _ => 0, Nat.zero_le _, fun h => absurd rfl h⟩
  · obtain ⟨b, cur, fr, rfl, hr, hc⟩ := h.2 h0
    have key : ∀ i, ∃ Ac : Option Addr × Nat, i < L.length → w.cell? ⟨b, 0 + i * 3, none⟩ = some (.bool (((L.map nmOf)[i]?.getD (false, [], 0)).1)) ∧ w.cell? ⟨b, 0 + i * 3 + 1, none⟩ = some (.slice Ac.1 (((L.map nmOf)[i]?.getD (false, [], 0)).2.1).length Ac.2) ∧ w.cell? ⟨b, 0 + i * 3 + 2, none⟩ = some (.int .i64 ((L.map nmOf)[i]?.getD (false, [], 0)).2.2) ∧ Dg w Ac.1 Ac.2 ((L.map nmOf)[i]?.getD (false, [], 0)).2.1 := by
      intro i
      by_cases hi : i < L.length
      · obtain ⟨A, c, c0, c1, c2, hd⟩ := hc i L[i] (List.getElem?_eq_getElem hi)
        refine ⟨(A, c), fun _ => ?_⟩
        have e : (L.map nmOf)[i]?.getD (false, [], 0) = nmOf L[i] := by rw [List.getElem?_map, List.getElem?_eq_getElem hi]; rfl
        rw [e, Nat.zero_add]
        exact ⟨c0, c1, c2, hd⟩
      · exact ⟨(none, 0), fun h => absurd h hi⟩
    refine ⟨fun i => (Classical.choose (key i)).1, fun i => (Classical.choose (key i)).2, ?_, fun _ => ⟨b, 0, rfl, heap_lt hr, fun i hi => ?_⟩⟩
    · rw [List.length_map]; exact h.1
    · rw [List.length_map] at hi
      exact Classical.choose_spec (key i) hi
/-- The cells of some pieces. -/
def PcOf (w : World) (cs : List Value) (ps : List PdZ) : Prop := cs.length = ps.length * 8 ∧ (∀ u ∈ cs, ∀ n : Int, u ≠ .int .u32 n) ∧
  ∀ (i : Nat) p, ps[i]? = some p → ∃ A c P k B d, cs[i * 8]? = some (.bool (decide (p.a.1 < 0))) ∧ cs[i * 8 + 1]? = some (.slice A (digs p.a.1.natAbs).length c) ∧ cs[i * 8 + 2]? = some (.int .i64 p.a.2) ∧ cs[i * 8 + 3]? = some (.int .i64 p.w) ∧ cs[i * 8 + 4]? = some (.slice P p.cs.length k) ∧ cs[i * 8 + 5]? = some (.bool (decide (p.er.1 < 0))) ∧ cs[i * 8 + 6]? = some (.slice B (digs p.er.1.natAbs).length d) ∧ cs[i * 8 + 7]? = some (.int .i64 p.er.2) ∧ Dg w A c (digs p.a.1.natAbs) ∧ NrL w P k p.cs ∧ Dg w B d (digs p.er.1.natAbs)
/-- A row of pieces that is the walk's own. -/
def Pw (w : World) (N : Nat) (v : Value) (ps : List PdZ) : Prop := NoInt w v ∧ ∃ cs, w.ownsRow N 46 8 v ps.length cs ∧ PcOf w cs ps
theorem PcOf.gz {N g : Nat} {w w' : World} {cs : List Value} {ps : List PdZ} (h : PcOf w cs ps) (hg : Gz N g w w') {xs : Array Value} {T : TypeId} {fr : Nat × Nat} (hT : w.heap[g]? = some (.cells xs T fr)) (hne : T ≠ 26) : PcOf w' cs ps :=
  ⟨h.1, h.2.1, fun i p hp => by obtain ⟨A, c, P, k, B, d, h0, h1, h2, h3, h4, h5, h6, h7, ha, hn, hb⟩ := h.2.2 i p hp; exact ⟨A, c, P, k, B, d, h0, h1, h2, h3, h4, h5, h6, h7, ha.kept hg.1, hn.gz hg hT hne, hb.kept hg.1⟩⟩
theorem PcOf.snoc {w : World} {cs : List Value} {ps : List PdZ} {p : PdZ} {A P B : Option Addr} {c k d : Nat} (h : PcOf w cs ps) (ha : Dg w A c (digs p.a.1.natAbs)) (hn : NrL w P k p.cs) (hb : Dg w B d (digs p.er.1.natAbs)) : PcOf w (cs ++ [.bool (decide (p.a.1 < 0)), .slice A (digs p.a.1.natAbs).length c, .int .i64 p.a.2, .int .i64 p.w, .slice P p.cs.length k, .bool (decide (p.er.1 < 0)), .slice B (digs p.er.1.natAbs).length d, .int .i64 p.er.2]) (ps ++ [p]) := by
  refine ⟨by rw [List.length_append, List.length_append, h.1]; simp; omega, ?_, fun i z hz => ?_⟩
  · intro u hu n
    rcases List.mem_append.1 hu with hu | hu
    · exact h.2.1 u hu n
    · intro e; subst e; simp at hu
  · have hl := h.1
    rcases Nat.lt_trichotomy i ps.length with hi | hi | hi
    · rw [List.getElem?_append_left hi] at hz
      have ap : ∀ j, j < 8 → (cs ++ [.bool (decide (p.a.1 < 0)), .slice A (digs p.a.1.natAbs).length c, .int .i64 p.a.2, .int .i64 p.w, .slice P p.cs.length k, .bool (decide (p.er.1 < 0)), .slice B (digs p.er.1.natAbs).length d, .int .i64 p.er.2])[i * 8 + j]? = cs[i * 8 + j]? := fun j hj => List.getElem?_append_left (by omega)
      obtain ⟨A2, c2, P2, k2, B2, d2, h0, h1, h2, h3, h4, h5, h6, h7, ha, hn, hb⟩ := h.2.2 i z hz
      exact ⟨A2, c2, P2, k2, B2, d2, (ap 0 (by omega)).trans h0, (ap 1 (by omega)).trans h1, (ap 2 (by omega)).trans h2, (ap 3 (by omega)).trans h3, (ap 4 (by omega)).trans h4, (ap 5 (by omega)).trans h5, (ap 6 (by omega)).trans h6, (ap 7 (by omega)).trans h7, ha, hn, hb⟩
    · subst hi
      rw [List.getElem?_append_right (Nat.le_refl _), Nat.sub_self] at hz
      obtain rfl : p = z := by simpa using hz
      have ap : ∀ j, (cs ++ [.bool (decide (p.a.1 < 0)), .slice A (digs p.a.1.natAbs).length c, .int .i64 p.a.2, .int .i64 p.w, .slice P p.cs.length k, .bool (decide (p.er.1 < 0)), .slice B (digs p.er.1.natAbs).length d, .int .i64 p.er.2])[ps.length * 8 + j]? = ([.bool (decide (p.a.1 < 0)), .slice A (digs p.a.1.natAbs).length c, .int .i64 p.a.2, .int .i64 p.w, .slice P p.cs.length k, .bool (decide (p.er.1 < 0)), .slice B (digs p.er.1.natAbs).length d, .int .i64 p.er.2] : List Value)[j]? := fun j => by rw [List.getElem?_append_right (by omega), show ps.length * 8 + j - cs.length = j by omega]
      exact ⟨A, c, P, k, B, d, ap 0, ap 1, ap 2, ap 3, ap 4, ap 5, ap 6, ap 7, ha, hn, hb⟩
    · rw [List.getElem?_eq_none (by simp; omega)] at hz; cases hz
theorem Pw.gz {N g : Nat} {w w' : World} {v : Value} {ps : List PdZ} (h : Pw w N v ps) (hg : Gz N g w w') {xs : Array Value} {T : TypeId} {fr : Nat × Nat} (hT : w.heap[g]? = some (.cells xs T fr)) (hne : T ≠ 26) (hv : ∀ k, v.ownBlock = some k → w'.heap[k]? = w.heap[k]?) : Pw w' N v ps := by
  obtain ⟨hn, cs, hown, hcs⟩ := h
  refine ⟨fun q cur T2 fr2 hq hh => hn q cur T2 fr2 hq ((hv q hq).symm.trans hh), cs, ⟨hown.1, ?_⟩, hcs.gz hg hT hne⟩
  rcases hown.2 with h1 | ⟨q, cap, cur, rfl, hb, hq, hr⟩
  · exact .inl h1
  · exact .inr ⟨q, cap, cur, rfl, hb, (hv q rfl).trans hq, hr⟩
theorem pw_nil (w : World) (N : Nat) : Pw w N (.slice none 0 0) [] := ⟨fun g _ _ _ h => by simp [Value.ownBlock] at h, [], World.ownsRow_nil _ _ _ _, rfl, fun u hu => by simp at hu, fun i z hz => by simp at hz⟩
def zpc : Value := .agg #[.bool false, .slice none 0 0, .int .i64 0, .int .i64 0, .slice none 0 0, .bool false, .slice none 0 0, .int .i64 0]
theorem zero_no8 {k : Nat} {u : Value} (h : u ∈ Builtin.zeroCells zpc.cells k) : ∀ n : Int, u ≠ .int .u32 n := by
  unfold Builtin.zeroCells at h
  obtain ⟨i, _, rfl⟩ := Array.mem_map.1 h
  intro n
  have e : zpc.cells = #[.bool false, .slice none 0 0, .int .i64 0, .int .i64 0, .slice none 0 0, .bool false, .slice none 0 0, .int .i64 0] := rfl
  rw [e]
  have h3 : i % 8 = 0 ∨ i % 8 = 1 ∨ i % 8 = 2 ∨ i % 8 = 3 ∨ i % 8 = 4 ∨ i % 8 = 5 ∨ i % 8 = 6 ∨ i % 8 = 7 := by omega
  rcases h3 with h | h | h | h | h | h | h | h <;> simp [h]
theorem pc_info : ∃ i : TypeInfo, Tryd.prog.info? 46 = some i ∧ i.zero = some zpc ∧ i.size = 8 ∧ i.bytes = 112 := by
  obtain ⟨i0, hi, hz0, hz1, hz2⟩ := info_parts (show (Tryd.prog.info? 46).map (fun i => (i.zero, i.size, i.bytes)) = some (some zpc, 8, 112) by kernel_rfl)
  exact ⟨i0, hi, hz0, hz1, hz2⟩
theorem wp_append_pc {w : World} {o : Oper} {a : Act} {K : Act → World → Prop} {Q : Exit → Act → World → Prop} (s x : Operand)
    (ho : o.op = .call { callee := .builtin .append, args := #[s, x], argTypes := #[27, 27] }) (N g0 : Nat) (v : Value) (ps : List PdZ) (p : PdZ) (q : Nat) (T' : TypeId) (n cA k d : Nat) (A P B : Option Addr)
    (hs : a.eval s = v) (hD : Pw w N v ps) (hrow : w.heap[q]? = some (.cells #[.bool (decide (p.a.1 < 0)), .slice A (digs p.a.1.natAbs).length cA, .int .i64 p.a.2, .int .i64 p.w, .slice P p.cs.length k, .bool (decide (p.er.1 < 0)), .slice B (digs p.er.1.natAbs).length d, .int .i64 p.er.2] T' (0, 0))) (ha : Dg w A cA (digs p.a.1.natAbs)) (hn : NrL w P k p.cs) (hb : Dg w B d (digs p.er.1.natAbs)) (hx : a.eval x = .slice (some ⟨q, 0, none⟩) 1 n) (hbd : ps.length + 1 ≤ 1000000) (hbase : N ≤ w.heap.size) {xs : Array Value} {T : TypeId} {fr : Nat × Nat} (hT : w.heap[g0]? = some (.cells xs T fr)) (hne : T ≠ 26)
    (h : ∀ g cap w', Pw w' N (.slice (some ⟨g, 0, none⟩) (ps.length + 1) cap) (ps ++ [p]) → w.grownBy w' v.ownBlock → Gz N g0 w w' → K (a.put o.dst (.slice (some ⟨g, 0, none⟩) (ps.length + 1) cap)) w') : o.wp Tryd.prog a w K Q := by
  obtain ⟨hno, cs, hown, hcs⟩ := hD
  obtain ⟨i0, hi, hz0, hz1, hz2⟩ := pc_info
  have hnews : ∀ j u, ([.bool (decide (p.a.1 < 0)), .slice A (digs p.a.1.natAbs).length cA, .int .i64 p.a.2, .int .i64 p.w, .slice P p.cs.length k, .bool (decide (p.er.1 < 0)), .slice B (digs p.er.1.natAbs).length d, .int .i64 p.er.2] : List Value)[j]? = some u → w.cell? ((⟨q, 0, none⟩ : Addr).add j) = some u := fun j u hj => by
    rw [Addr.add_lit, Nat.zero_add]
    exact row_c hrow (by simpa using hj)
  have hone : ∀ u ∈ ([.bool (decide (p.a.1 < 0)), .slice A (digs p.a.1.natAbs).length cA, .int .i64 p.a.2, .int .i64 p.w, .slice P p.cs.length k, .bool (decide (p.er.1 < 0)), .slice B (digs p.er.1.natAbs).length d, .int .i64 p.er.2] : List Value), u.oneCell' = true := by intro u hu; simp at hu; rcases hu with rfl | rfl | rfl | rfl | rfl | rfl | rfl | rfl <;> rfl
  have hnn : ∀ u ∈ ([.bool (decide (p.a.1 < 0)), .slice A (digs p.a.1.natAbs).length cA, .int .i64 p.a.2, .int .i64 p.w, .slice P p.cs.length k, .bool (decide (p.er.1 < 0)), .slice B (digs p.er.1.natAbs).length d, .int .i64 p.er.2] : List Value), ∀ n : Int, u ≠ .int .u32 n := by intro u hu n e; subst e; simp at hu
  obtain ⟨g, cap, w', hr, h2, h3, h4, h5⟩ := run_append_lies (P := Tryd.prog) w 27 o.type N 46 i0 zpc 8 112 Tryd.underlying27 hi hz0 hz1 hz2 rfl (by decide) v ps.length cs hown ⟨q, 0, none⟩ 1 n [.bool (decide (p.a.1 < 0)), .slice A (digs p.a.1.natAbs).length cA, .int .i64 p.a.2, .int .i64 p.w, .slice P p.cs.length k, .bool (decide (p.er.1 < 0)), .slice B (digs p.er.1.natAbs).length d, .int .i64 p.er.2] rfl hnews hone (by decide) (by unfold maxLen; omega) (by omega) hbase w.heap.size rfl
  have hk := kept_of_grown hown hno h3
  have hno2 := run_append_no (P := Tryd.prog) w N 27 o.type 46 i0 112 Tryd.underlying27 hi zpc 8 hz0 hz1 (fun _ _ => zero_no8) hz2 v ps.length cs hown hno hcs.2.1 ⟨q, 0, none⟩ n _ rfl hnews hone hnn (by unfold maxLen; omega) (by omega) _ _ hr
  have hgz : Gz N g0 w w' := ⟨hk, ⟨h3.os, h3.tape, h3.output⟩, fun i hi2 _ hb => h3.block i hi2 (fun e => by
    have h6 := hown.lt i e.symm
    rcases hown.2 with ⟨rfl, _⟩ | ⟨q2, cap2, cur2, rfl, _, hh, _⟩
    · cases e
    · have e2 : i = q2 := by simpa [Value.ownBlock] using e
      subst e2
      rcases hb with hb | hb
      · omega
      · exact hb _ _ hh)⟩
  unfold Oper.wp execOp
  simp only [ho, resolve, invoke, builtin, Sem.run_bind, Sem.run_pure, Result.andThen_ok, List.map_toArray, List.map_cons, List.map_nil, hs, hx, hr]
  exact h g cap w' ⟨hno2, _, by rw [List.length_append]; exact h2, (hcs.gz hgz hT hne).snoc (ha.kept hk) (hn.gz hgz hT hne) (hb.kept hk)⟩ h3 hgz
end Go.Proofs.YtfhdhldgflbpjaaDoor
end

section
/-
  A region that draws its order and whose calls turn old memory: as wp_operands, with a state that goes by what has come up.
-/
namespace Go.Proofs.YtfhdhldgflbpjaaDoor
open Go.RowKit
theorem wp_operandsZ {P : Program} {ops : Array Oper} {Q : Exit → Act → World → Prop} {id : Nat} {a0 : Act} {W : World} (hm : P.follows .mixedOrders = true) (n0 : Nat) (D : List Tmp) (R : Nat → Value → World → Prop) (Ch : World → World → Prop) (Z : (Nat → Bool) → World → Prop)
    (hn : n0 ≤ ops.size) (hD : D.length = n0) (hb : backB .any ops = true) (ht : tailB .any ops n0 = true) (hnd : D.Nodup) (hin : (D.all fun t => decide (t < a0.tmps.size)) = true)
    (htr : ∀ a b c, Ch a b → Ch b c → Ch a c)
    (st : ∀ i u w w', i < n0 → R i u w → Ch w w' → R i u w')
    (h0 : Ch W W.drew) (z0 : Z (fun _ => false) W.drew)
    (step : ∀ i a w l K, i < n0 → Fr6 D a0 a → Ch W w → l i = false → (∀ k, waitsB .any ops i k = true → l k = true ∧ R k (a.tmps.getD (D.getD k 0) undef) w) → Z l w →
      (∀ u w', R i u w' → Ch w w' → Z (fun j => if i = j then true else l j) w' → K (a.put (some (D.getD i 0)) u) w') → wpOp P ops Q i K a w)
    (fin : ∀ a w l, Fr6 D a0 a → Ch W w → (∀ i, i < n0 → R i (a.tmps.getD (D.getD i 0) undef) w) → (∀ i, i < n0 → l i = true) → Z l w →
      wpOps P ops Q (tails n0 (ops.size - n0)) a w) : (Code.region id ops true).wp P Q a0 W := by
  have hmem : ∀ i, i < n0 → D.getD i 0 ∈ D := fun i hi => by rw [List.getD_eq_getElem?_getD, List.getElem?_eq_getElem (by omega)]; exact List.getElem_mem _
  have hlt : ∀ i, i < n0 → D.getD i 0 < a0.tmps.size := fun i hi => by
    rw [List.all_eq_true] at hin
    simpa using hin _ (hmem i hi)
  have hne : ∀ i j, i < n0 → j < n0 → i ≠ j → D.getD i 0 ≠ D.getD j 0 := fun i j hi hj h e => by
    rw [List.getD_eq_getElem?_getD, List.getD_eq_getElem?_getD, List.getElem?_eq_getElem (by omega), List.getElem?_eq_getElem (by omega)] at e
    exact h ((List.getElem_inj hnd).1 (by simpa using e))
  have hwk : ∀ l : Array Bool, l.size = ops.size → ∀ i k, i ∈ Region.ready .any ops l → waitsB .any ops i k = true → i < n0 → k < n0 := by
    intro l hl i k hi hk hi0
    have hlt : i < ops.size := by omega
    simp only [backB, List.all_eq_true, List.mem_range] at hb
    have h1 := hb i hlt
    simp only [Array.getElem?_eq_getElem hlt, Option.map_some, Option.getD_some, Array.all_eq_true_iff_forall_mem] at h1
    simp only [waitsB, Array.getElem?_eq_getElem hlt, Option.map_some, Option.getD_some, Array.any_eq_true'] at hk
    obtain ⟨e, he, h2⟩ := hk
    simp only [Bool.and_eq_true, beq_iff_eq] at h2
    have h3 := h1 e he
    simp only [h2.1, Bool.not_true, Bool.false_or, decide_eq_true_eq] at h3
    omega
  have z : ∀ j, (Array.replicate ops.size false).getD j false = false := by intro j; simp [Array.getElem?_replicate]; split <;> rfl
  refine wp_region_any hm (wpAny_phase (fun l a w => Fr6 D a0 a ∧ Ch W w ∧ (∀ i, i < n0 → l.getD i false = true → R i (a.tmps.getD (D.getD i 0) undef) w) ∧
    Z (fun j => l.getD j false) w) hn hb ht ?_ ?_ ⟨⟨rfl, rfl, fun _ _ => rfl⟩, h0, fun i _ hi => absurd hi (by rw [z]; simp), by rw [show (fun j => (Array.replicate ops.size false).getD j false) = fun _ => false from funext z]; exact z0⟩)
  · rintro l a w i ⟨hF, hbw, hR, hZ⟩ hl hi0 hi
    have sz : ∀ j, (l.setIfInBounds i true).getD j false = (if i = j then true else l.getD j false) := fun j => getD_set l i j (by omega)
    have ps : a.tmps.size = a0.tmps.size := hF.2.1
    have hiu := (mem_ready.1 hi).1
    have hif : l.getD i false = false := by
      have : i < l.size := by omega
      simp [this] at hiu ⊢; exact hiu
    refine step i a w (fun j => l.getD j false) _ hi0 hF hbw hif (fun k hk => ⟨waits_spec hk hi, hR k (hwk l hl i k hi hk hi0) (waits_spec hk hi)⟩) hZ (fun u w' hu hbb hz => ⟨hF.put (hmem i hi0) _, htr _ _ _ hbw hbb, fun j hj hjl => ?_, by rw [show (fun j => (l.setIfInBounds i true).getD j false) = fun j => if i = j then true else l.getD j false from funext sz]; exact hz⟩)
    by_cases hij : i = j
    · subst hij; rw [put_same _ _ _ (by rw [ps]; exact hlt i hi0)]; exact hu
    · rw [sz, if_neg hij] at hjl
      rw [put_other _ _ _ _ (hne i j hi0 hj hij)]
      exact st j _ _ _ hj (hR j hj hjl) hbb
  · rintro l a w ⟨hF, hbw, hR, hZ⟩ _ hall
    exact fin a w _ hF hbw (fun i hi => hR i hi (hall i hi)) hall hZ
end Go.Proofs.YtfhdhldgflbpjaaDoor
end

section
/-
  A region that draws its order: operands in whatever order (as wp_operands); behind them a few operations whose orders are walked one by one ('x.f = append(x.f, ..)', x captured: the address may be taken ahead of the append or behind it).
-/
namespace Go.Proofs.YtfhdhldgflbpjaaDoor
open Go.RowKit
section
variable {P : Program} {ops : Array Oper} {Q : Exit → Act → World → Prop} {md : Region.Mode}
theorem wpAny_go {l : Array Bool} {a : Act} {w : World} {fuel : Nat} {is : List Nat} (hr : Region.ready md ops l = is) (hn : is.isEmpty = false) (h : ∀ i, i ∈ is → wpOp P ops Q i (wpAny P md ops Q fuel (l.setIfInBounds i true)) a w) : wpAny P md ops Q (fuel + 1) l a w :=
  ⟨fun e => (by rw [hr] at e; subst e; exact absurd hn (by simp)), fun i hi => h i (by rw [hr] at hi; exact hi)⟩
theorem wpAny_go1 {l : Array Bool} {a : Act} {w : World} {fuel i : Nat} (hr : Region.ready md ops l = [i]) (h : wpOp P ops Q i (wpAny P md ops Q fuel (l.setIfInBounds i true)) a w) : wpAny P md ops Q (fuel + 1) l a w :=
  wpAny_go hr rfl fun j hj => by rw [List.mem_singleton] at hj; subst hj; exact h
theorem wpAny_go2 {l : Array Bool} {a : Act} {w : World} {fuel i j : Nat} (hr : Region.ready md ops l = [i, j]) (h : wpOp P ops Q i (wpAny P md ops Q fuel (l.setIfInBounds i true)) a w) (h2 : wpOp P ops Q j (wpAny P md ops Q fuel (l.setIfInBounds j true)) a w) : wpAny P md ops Q (fuel + 1) l a w :=
  wpAny_go hr rfl fun k hk => by
    simp only [List.mem_cons, List.not_mem_nil, or_false] at hk
    rcases hk with rfl | rfl
    · exact h
    · exact h2
theorem wpAny_end {l : Array Bool} {a : Act} {w : World} {fuel : Nat} (hr : Region.ready md ops l = []) (h : Q .normal a w) : wpAny P md ops Q fuel l a w := by
  cases fuel with
  | zero => exact ⟨hr, h⟩
  | succ f => exact ⟨fun _ => h, fun i hi => by rw [hr] at hi; cases hi⟩
theorem wp_operands_then {id : Nat} {a0 : Act} {W : World} (hm : P.follows .mixedOrders = true) (n0 : Nat) (D : List Tmp) (R : Nat → Value → World → Prop)
    (hn : n0 < ops.size) (hD : D.length = n0) (hb : backB .any ops = true) (ht : ((List.range ops.size).all fun i => decide (i < n0) || (List.range n0).all fun k => waitsT .any ops ops.size i k) = true) (hnd : D.Nodup) (hin : (D.all fun t => decide (t < a0.tmps.size)) = true)
    (st : ∀ i u w w', i < n0 → R i u w → Below w.heap.size w w' → R i u w')
    (step : ∀ i a w K, i < n0 → Fr6 D a0 a → Below W.heap.size W w → (∀ k, waitsB .any ops i k = true → R k (a.tmps.getD (D.getD k 0) undef) w) →
      (∀ u w', R i u w' → Below w.heap.size w w' → True → K (a.put (some (D.getD i 0)) u) w') → wpOp P ops Q i K a w)
    (fin : ∀ a w, Fr6 D a0 a → Below W.heap.size W w → (∀ i, i < n0 → R i (a.tmps.getD (D.getD i 0) undef) w) → True →
      ∀ f, wpAny P .any ops Q (f + (ops.size - n0)) ((List.range ops.size).map (fun i => decide (i < n0))).toArray a w) : (Code.region id ops true).wp P Q a0 W := by
  have hmem : ∀ i, i < n0 → D.getD i 0 ∈ D := fun i hi => by rw [List.getD_eq_getElem?_getD, List.getElem?_eq_getElem (by omega)]; exact List.getElem_mem _
  have hlt : ∀ i, i < n0 → D.getD i 0 < a0.tmps.size := fun i hi => by
    rw [List.all_eq_true] at hin
    simpa using hin _ (hmem i hi)
  have hne : ∀ i j, i < n0 → j < n0 → i ≠ j → D.getD i 0 ≠ D.getD j 0 := fun i j hi hj h e => by
    rw [List.getD_eq_getElem?_getD, List.getD_eq_getElem?_getD, List.getElem?_eq_getElem (by omega), List.getElem?_eq_getElem (by omega)] at e
    exact h ((List.getElem_inj hnd).1 (by simpa using e))
  have hwk : ∀ l : Array Bool, l.size = ops.size → ∀ i k, i ∈ Region.ready .any ops l → waitsB .any ops i k = true → i < n0 → k < n0 := by
    intro l hl i k hi hk hi0
    have hlt : i < ops.size := by omega
    simp only [backB, List.all_eq_true, List.mem_range] at hb
    have h1 := hb i hlt
    simp only [Array.getElem?_eq_getElem hlt, Option.map_some, Option.getD_some, Array.all_eq_true_iff_forall_mem] at h1
    simp only [waitsB, Array.getElem?_eq_getElem hlt, Option.map_some, Option.getD_some, Array.any_eq_true'] at hk
    obtain ⟨e, he, h2⟩ := hk
    simp only [Bool.and_eq_true, beq_iff_eq] at h2
    have h3 := h1 e he
    simp only [h2.1, Bool.not_true, Bool.false_or, decide_eq_true_eq] at h3
    omega
  have zz : ∀ j, (Array.replicate ops.size false).getD j false = false := by intro j; simp [Array.getElem?_replicate]; split <;> rfl
  refine wp_region_any hm (wpAny_phaseP (Pb := fun i => decide (i < n0)) (Ob := fun i => decide (i < n0)) (fun l a w => Fr6 D a0 a ∧ Below W.heap.size W w ∧ (∀ i, i < n0 → l.getD i false = true → R i (a.tmps.getD (D.getD i 0) undef) w)) hb
    ⟨n0, hn, by simp⟩ ?_ ?_ ?_ _ _ _ _ ?_ (by simp) ?_ ?_ ?_)
  · intro i hi hc k hk hkp
    simp only [decide_eq_false_iff_not, decide_eq_true_eq] at hc hkp
    simp only [List.all_eq_true, List.mem_range, Bool.or_eq_true, decide_eq_true_eq] at ht
    rcases ht i hi with h | h
    · exact absurd h hc
    · exact h k hkp
  · rintro l a w i ⟨hF, hbw, hR⟩ hl hi hip hir
    have hi0 : i < n0 := by simpa using hip
    have ps : a.tmps.size = a0.tmps.size := hF.2.1
    refine step i a w _ hi0 hF hbw (fun k hk => hR k (hwk l hl i k hir hk hi0) (waits_spec hk hir)) (fun u w' hu hbb _ => ⟨hF.put (hmem i hi0) _, hbw.trans (hbb.mono hbw.size), fun j hj hjl => ?_⟩)
    by_cases hij : i = j
    · subst hij; rw [put_same _ _ _ (by rw [ps]; exact hlt i hi0)]; exact hu
    · rw [getD_set_ne false hij] at hjl
      rw [put_other _ _ _ _ (hne i j hi0 hj hij)]
      exact st j _ _ _ hj (hR j hj hjl) hbb
  · rintro l a w ⟨hF, hbw, hR⟩ hl hall hno fuel hfu
    have hf := fin a w hF hbw (fun i hi => hR i hi (hall i (by omega) (by simpa using hi))) trivial
    have hlL : l = ((List.range ops.size).map (fun i => decide (i < n0))).toArray := by
      apply Array.ext
      · simp [hl]
      · intro i h1 h2
        have : l.getD i false = decide (i < n0) := by
          by_cases h : i < n0
          · rw [hall i (by omega) (by simpa using h)]; simp [h]
          · rw [hno i (by omega) (by simpa using h)]; simp [h]
        simp only [Array.getD_eq_getD_getElem?, Array.getElem?_eq_getElem h1, Option.getD_some] at this
        rw [this]; simp
    have hst : ops.size - n0 ≤ still l := by
      rw [hlL]
      unfold still
      have e : List.range ops.size = List.range n0 ++ (List.range (ops.size - n0)).map (fun i => n0 + i) := by rw [← List.range_add]; congr 1; omega
      simp only [e, List.map_append, List.map_map, List.count_append]
      refine Nat.le_trans ?_ (Nat.le_add_left _ _)
      have : (List.map ((fun i => decide (i < n0)) ∘ fun i => n0 + i) (List.range (ops.size - n0))) = List.replicate (ops.size - n0) false := by
        apply List.ext_getElem
        · simp
        · intro i h1 h2; simp
      rw [this, List.count_replicate_self]
      exact Nat.le_refl _
    obtain ⟨f, rfl⟩ : ∃ f, fuel = f + (ops.size - n0) := ⟨fuel - (ops.size - n0), by omega⟩
    rw [hlL]
    exact hf f
  · unfold still; exact Nat.le_trans (List.count_le_length) (by simp)
  · exact fun j hj => absurd hj (by rw [zz]; simp)
  · exact fun k _ _ => zz k
  · exact ⟨⟨rfl, rfl, fun _ _ => rfl⟩, ⟨rfl, rfl, rfl, Nat.le_refl _, fun _ _ => rfl⟩, fun i _ hi => absurd hi (by rw [zz]; simp)⟩
/-- Operands in whatever order; one (x) that may also come among what stands behind them; the rest is walked order by order. -/
theorem wp_operands_x {id : Nat} {a0 : Act} {W : World} (hm : P.follows .mixedOrders = true) (x y n1 n2 : Nat) (S : List Nat) (D : List Tmp) (R : Nat → Value → World → Prop)
    (hb : backB .any ops = true) (hx : x < ops.size ∧ y < ops.size) (hyO : (x :: S).contains y = false) (hxS : S.contains x = false)
    (hS : (S.all fun i => decide (i < ops.size)) = true)
    (ht : ((List.range ops.size).all fun i => (x :: S).contains i || S.all fun k => waitsT .any ops ops.size i k) = true) (hw : ((x :: S).all fun i => (List.range ops.size).all fun k => !waitsB .any ops i k || S.contains k) = true)
    (hnd : ((x :: S).map (D.getD · 0)).Nodup) (hin : ((x :: S).all fun i => decide (D.getD i 0 < a0.tmps.size)) = true)
    (hn1 : still ((List.range ops.size).map (S.contains ·)).toArray = n1) (hn2 : still (((List.range ops.size).map (S.contains ·)).toArray.setIfInBounds x true) = n2)
    (st : ∀ i u w w', i ∈ x :: S → R i u w → Below w.heap.size w w' → R i u w')
    (step : ∀ i a w K, i ∈ x :: S → Fr6 ((x :: S).map (D.getD · 0)) a0 a → Below W.heap.size W w → (∀ k, waitsB .any ops i k = true → R k (a.tmps.getD (D.getD k 0) undef) w) →
      (∀ u w', R i u w' → Below w.heap.size w w' → K (a.put (some (D.getD i 0)) u) w') → wpOp P ops Q i K a w)
    (fin : ∀ a w, Fr6 ((x :: S).map (D.getD · 0)) a0 a → Below W.heap.size W w → (∀ i, i ∈ S → R i (a.tmps.getD (D.getD i 0) undef) w) →
      (∀ f, wpAny P .any ops Q (f + n1) ((List.range ops.size).map (S.contains ·)).toArray a w) ∧ (R x (a.tmps.getD (D.getD x 0) undef) w → ∀ f, wpAny P .any ops Q (f + n2) (((List.range ops.size).map (S.contains ·)).toArray.setIfInBounds x true) a w)) :
    (Code.region id ops true).wp P Q a0 W := by
  have memS : ∀ i, i ∈ S → i < ops.size := fun i hi => by
    rw [List.all_eq_true] at hS
    simpa using hS i hi
  have memO : ∀ i, i ∈ x :: S → i < ops.size := fun i hi => by
    rcases List.mem_cons.1 hi with rfl | h
    · exact hx.1
    · exact memS i h
  have hlt : ∀ i, i ∈ x :: S → D.getD i 0 < a0.tmps.size := fun i hi => by
    rw [List.all_eq_true] at hin
    simpa using hin i hi
  have hne : ∀ i j, i ∈ x :: S → j ∈ x :: S → i ≠ j → D.getD i 0 ≠ D.getD j 0 := fun i j hi hj h e => by
    obtain ⟨p, hp, hpe⟩ := List.getElem_of_mem hi
    obtain ⟨q, hq, hqe⟩ := List.getElem_of_mem hj
    have h1 : ((x :: S).map (D.getD · 0))[p]'(by simpa using hp) = ((x :: S).map (D.getD · 0))[q]'(by simpa using hq) := by
      rw [List.getElem_map, List.getElem_map, hpe, hqe]; exact e
    have h2 := (List.getElem_inj hnd).1 h1
    subst h2
    exact h (hpe.symm.trans hqe)
  have hmem : ∀ i, i ∈ x :: S → D.getD i 0 ∈ (x :: S).map (D.getD · 0) := fun i hi => List.mem_map.2 ⟨i, hi, rfl⟩
  have xS : S.contains x = false := hxS
  have zz : ∀ j, (Array.replicate ops.size false).getD j false = false := by intro j; simp [Array.getElem?_replicate]; split <;> rfl
  refine wp_region_any hm (wpAny_phaseP (Pb := fun i => S.contains i) (Ob := fun i => (x :: S).contains i) (fun l a w => Fr6 ((x :: S).map (D.getD · 0)) a0 a ∧ Below W.heap.size W w ∧ (∀ i, i ∈ x :: S → l.getD i false = true → R i (a.tmps.getD (D.getD i 0) undef) w)) hb
    ⟨y, hx.2, hyO⟩ ?_ ?_ ?_ _ _ _ _ ?_ (by simp) ?_ ?_ ?_)
  · intro i hi hc k hk hkp
    simp only [List.all_eq_true, List.mem_range, Bool.or_eq_true] at ht
    rcases ht i hi with h | h
    · have hc' : (x :: S).contains i = false := hc
      rw [hc'] at h; cases h
    · exact h k (List.contains_iff_mem.1 hkp)
  · rintro l a w i ⟨hF, hbw, hR⟩ hl hi hip hir
    have hiS := List.contains_iff_mem.1 hip
    have ps : a.tmps.size = a0.tmps.size := hF.2.1
    refine step i a w _ hiS hF hbw (fun k hk => hR k ?_ (waits_spec hk hir)) (fun u w' hu hbb => ⟨hF.put (hmem i hiS) _, hbw.trans (hbb.mono hbw.size), fun j hj hjl => ?_⟩)
    · rw [List.all_eq_true] at hw
      have h1 := hw i hiS
      rw [List.all_eq_true] at h1
      have hks : k < ops.size := by
        rcases Nat.lt_or_ge k ops.size with h | h
        · exact h
        · exfalso
          have := waits_spec hk hir
          have h2 : l.size ≤ k := by omega
          simp [Array.getElem?_eq_none h2] at this
      have h2 := h1 k (List.mem_range.2 hks)
      rw [hk] at h2
      exact List.mem_cons_of_mem _ (List.contains_iff_mem.1 (by simpa using h2))
    · by_cases hij : i = j
      · subst hij; rw [put_same _ _ _ (by rw [ps]; exact hlt i hiS)]; exact hu
      · rw [getD_set_ne false hij] at hjl
        rw [put_other _ _ _ _ (hne i j hiS hj hij)]
        exact st j _ _ _ hj (hR j hj hjl) hbb
  · rintro l a w ⟨hF, hbw, hR⟩ hl hall hno fuel hfu
    have hf := fin a w hF hbw (fun i hi => hR i (List.mem_cons_of_mem _ hi) (hall i (memS i hi) (List.contains_iff_mem.2 hi)))
    have hval : ∀ i, i < ops.size → i ≠ x → l.getD i false = S.contains i := by
      intro i hi hix
      cases hc : S.contains i
      · refine hno i hi ?_
        cases hc2 : (x :: S).contains i
        · rfl
        · rcases List.mem_cons.1 (List.contains_iff_mem.1 hc2) with h | h
          · exact absurd h hix
          · rw [List.contains_iff_mem.2 h] at hc; cases hc
      · exact hall i hi hc
    cases hlx : l.getD x false
    · have hlL : l = ((List.range ops.size).map (S.contains ·)).toArray := by
        apply Array.ext
        · simp [hl]
        · intro i h1 h2
          have : l.getD i false = S.contains i := by
            by_cases hix : i = x
            · rw [hix, hlx, xS]
            · exact hval i (by omega) hix
          simp only [Array.getD_eq_getD_getElem?, Array.getElem?_eq_getElem h1, Option.getD_some] at this
          rw [this]; simp
      rw [hlL] at hfu
      rw [hn1] at hfu
      obtain ⟨f, rfl⟩ : ∃ f, fuel = f + n1 := ⟨fuel - n1, by omega⟩
      rw [hlL]
      exact hf.1 f
    · have hlL : l = (((List.range ops.size).map (S.contains ·)).toArray.setIfInBounds x true) := by
        apply Array.ext
        · simp [hl]
        · intro i h1 h2
          by_cases hix : i = x
          · subst hix
            simp only [Array.getD_eq_getD_getElem?, Array.getElem?_eq_getElem h1, Option.getD_some] at hlx
            rw [hlx]; simp
          · have := hval i (by omega) hix
            simp only [Array.getD_eq_getD_getElem?, Array.getElem?_eq_getElem h1, Option.getD_some] at this
            rw [this, Array.getElem_setIfInBounds]
            rw [if_neg (fun e => hix e.symm)]; simp
            exact (by simp; omega)
      rw [hlL] at hfu
      rw [hn2] at hfu
      obtain ⟨f, rfl⟩ : ∃ f, fuel = f + n2 := ⟨fuel - n2, by omega⟩
      rw [hlL]
      exact hf.2 (hR x (List.mem_cons_self ..) hlx) f
  · unfold still; exact Nat.le_trans (List.count_le_length) (by simp)
  · exact fun j hj => absurd hj (by rw [zz]; simp)
  · exact fun k _ _ => zz k
  · exact ⟨⟨rfl, rfl, fun _ _ => rfl⟩, ⟨rfl, rfl, rfl, Nat.le_refl _, fun _ _ => rfl⟩, fun i _ hi => absurd hi (by rw [zz]; simp)⟩
end
end Go.Proofs.YtfhdhldgflbpjaaDoor
end

section
/-
  A piece, read.
-/
namespace Go.Proofs.YtfhdhldgflbpjaaDoor
open Go.RowKit
set_option linter.unusedSimpArgs false
set_option linter.unusedVariables false
theorem pw_no {w : World} {N : Nat} {v : Value} {ps : List PdZ} (h : Pw w N v ps) (n : Int) : v ≠ .int .u32 n := by
  obtain ⟨_, cs, hown, _⟩ := h
  rcases hown.2 with ⟨rfl, _⟩ | ⟨q, cap, cur, rfl, _⟩ <;> simp
theorem noint_of {l : List Value} (h : ∀ u, u ∈ l → ∀ n : Int, u ≠ .int .u32 n) : ∀ (i : Nat) (n : Int), l.toArray[i]? ≠ some (.int .u32 n) := by
  intro i n e
  exact h _ (List.mem_of_getElem? (by simpa using e)) n rfl
theorem gk_own {g b : Nat} {w x w1 : World} (h : w.grownBy x (some g) ∧ Kept w x) (hO : Only b x w1) (hb : w.heap.size ≤ b) (hk : Kept x w1) : w.grownBy w1 (some g) ∧ Kept w w1 :=
  ⟨⟨hO.os.trans h.1.os, hO.tape.trans h.1.tape, hO.output.trans h.1.output, Nat.le_trans h.1.size (Nat.le_of_eq hO.size.symm), fun k hk2 hne => (hO.block k (by omega)).trans (h.1.block k hk2 hne)⟩, h.2.trans hk⟩
theorem gk_own2 {g : Nat} {r : Option Nat} {w x y : World} (h : w.grownBy x (some g) ∧ Kept w x) (hg : x.grownBy y r) (hk : Kept x y) (hr : ∀ k, r = some k → w.heap.size ≤ k) : w.grownBy y (some g) ∧ Kept w y :=
  ⟨⟨hg.os.trans h.1.os, hg.tape.trans h.1.tape, hg.output.trans h.1.output, Nat.le_trans h.1.size hg.size, fun k hk2 hne => (hg.block k (Nat.lt_of_lt_of_le hk2 h.1.size) (fun e => by have := hr k e.symm; omega)).trans (h.1.block k hk2 hne)⟩, h.2.trans hk⟩
theorem gk_trans {g : Nat} {w x y : World} (h : w.grownBy x (some g) ∧ Kept w x) (k : x.grownBy y (some g) ∧ Kept x y) : w.grownBy y (some g) ∧ Kept w y := ⟨grow_trans h.1 k.1, h.2.trans k.2⟩
theorem Dw.ge {w : World} {B k : Nat} {v : Value} {L : List (Int × Int)} (h : Dw w B v L) (hk : v.ownBlock = some k) : B ≤ k := by
  obtain ⟨_, cs, hown, _⟩ := h
  exact (hown.lt k hk).1
theorem Dw.neT {w : World} {B k : Nat} {v : Value} {L : List (Int × Int)} (h : Dw w B v L) {cs : Array Value} {T : TypeId} {fr : Nat × Nat} (hr : w.heap[k]? = some (.cells cs T fr)) (hT : T ≠ 26) : v.ownBlock ≠ some k := by
  obtain ⟨_, xs, hown, _⟩ := h
  intro e
  rcases hown.2 with ⟨rfl, _⟩ | ⟨q, cap, cur, rfl, _, hq, _⟩
  · cases e
  · obtain rfl : q = k := by simpa [Value.ownBlock] using e
    rw [hq] at hr
    exact hT (by injection hr with hr; injection hr with _ h2 _; exact h2.symm)
theorem Dw.same {w w' : World} {B : Nat} {v : Value} {L : List (Int × Int)} (h : Dw w B v L) (hs : ∀ k, v.ownBlock = some k → w'.heap[k]? = w.heap[k]?) (hk : Kept w w') : Dw w' B v L := by
  obtain ⟨hn, cs, hown, hcs⟩ := h
  refine ⟨fun q cur T2 fr2 hq hh => hn q cur T2 fr2 hq ((hs q hq).symm.trans hh), cs, ⟨hown.1, ?_⟩, hcs.kept hk⟩
  rcases hown.2 with h1 | ⟨q, cap, cur, rfl, hb, hq, hr⟩
  · exact .inl h1
  · exact .inr ⟨q, cap, cur, rfl, hb, (hs q rfl).trans hq, hr⟩
theorem Dw.grow {w w' : World} {B g : Nat} {v : Value} {L : List (Int × Int)} (h : Dw w B v L) (hg : w.grownBy w' (some g) ∧ Kept w w') (hne : ∀ k, v.ownBlock = some k → k ≠ g) : Dw w' B v L :=
  h.same (fun k hk => by
    obtain ⟨_, cs, hown, _⟩ := h
    exact hg.1.block k (hown.lt k hk).2 (fun e => hne k hk (by injection e))) hg.2
theorem Dw.only {w w' : World} {B b : Nat} {v : Value} {L : List (Int × Int)} (h : Dw w B v L) (hO : Only b w w') (hne : v.ownBlock ≠ some b) (hk : Kept w w') : Dw w' B v L :=
  h.same (fun k hk => hO.block k (fun e => hne (by rw [hk, e]))) hk
theorem Dw.form {w : World} {B : Nat} {v : Value} {L : List (Int × Int)} (h : Dw w B v L) : ∃ A n c, v = .slice A n c := by
  obtain ⟨_, cs, hown, _⟩ := h
  rcases hown.2 with ⟨rfl, _⟩ | ⟨q, cap, cur, rfl, _⟩
  · exact ⟨_, _, _, rfl⟩
  · exact ⟨_, _, _, rfl⟩
theorem Dw.no {w : World} {B : Nat} {v : Value} {L : List (Int × Int)} (h : Dw w B v L) (n : Int) : v ≠ .int .u32 n := by
  obtain ⟨A, m, c, rfl⟩ := h.form
  simp
theorem Pw.neT {w : World} {B k : Nat} {v : Value} {ps : List PdZ} (h : Pw w B v ps) {cs : Array Value} {T : TypeId} {fr : Nat × Nat} (hr : w.heap[k]? = some (.cells cs T fr)) (hT : T ≠ 46) : v.ownBlock ≠ some k := by
  obtain ⟨_, xs, hown, _⟩ := h
  intro e
  rcases hown.2 with ⟨rfl, _⟩ | ⟨q, cap, cur, rfl, _, hq, _⟩
  · cases e
  · obtain rfl : q = k := by simpa [Value.ownBlock] using e
    rw [hq] at hr
    exact hT (by injection hr with hr; injection hr with _ h2 _; exact h2.symm)
theorem Pw.lt {w : World} {B k : Nat} {v : Value} {ps : List PdZ} (h : Pw w B v ps) (hk : v.ownBlock = some k) : B ≤ k ∧ k < w.heap.size := by
  obtain ⟨_, xs, hown, _⟩ := h
  exact hown.lt k hk
theorem Pw.gk {w w' : World} {N g : Nat} {v : Value} {ps : List PdZ} (h : Pw w N v ps) (hg : w.grownBy w' (some g) ∧ Kept w w') {xs : Array Value} {fr : Nat × Nat} (hT : w.heap[g]? = some (.cells xs 54 fr)) : Pw w' N v ps :=
  h.gz (Gz.grown (N := N) hg.1 hg.2) hT (by decide) (fun k hk => hg.1.block k (h.lt hk).2 (fun e => h.neT hT (by decide) (by rw [hk]; exact e)))
theorem nxt_is (m x W : Int) {q : Int × Int} (h : endq m x W = q) : ∃ M E V, IsD (dv m x + dv 1 W) M E ∧ tot M E = (q.1, q.2, V) := by
  refine ⟨_, _, (tot (nm (endz m x W)) (nx (endz m x W) (min x W))).2.2, endz_is m x W, ?_⟩
  rw [← h]; rfl
theorem LB.alloc {w : World} {g : Nat} {s : List UInt8 × Bool} {rs : List Value} (h : LB w g s rs) (o : Obj) : LB (w.alloc o) g s rs := (heap_alloc_old _ _ (heap_lt h)).trans h
/-- So many numbers read. -/
noncomputable def rdC : Nat → List UInt8 × Bool → List (Int × Int) × List UInt8 × Bool
  | 0, s => ([], s)
  | n + 1, s => ((rdC n s).1 ++ [(rdN (rdC n s).2).1], (rdN (rdC n s).2).2)
set_option maxHeartbeats 4000000 in
set_option maxRecDepth 100000 in
theorem piece_any (g : Nat) (s0 s1 s2 s3 : List UInt8 × Bool) (F O W Q D xw : Int) (a nx nx2 er : Int × Int) (cs : List (Int × Int)) (A B : Option Addr) (c d : Nat) (V : Value) (ps : List PdZ) (W0 w : World) (h : LB w g s0 [.int .i64 F, .int .i64 O, .bool (decide (a.1 < 0)), .slice A (digs a.1.natAbs).length c, .int .i64 a.2, .int .i64 W, .int .i64 Q, .int .i64 D, V, .bool (decide (nx.1 < 0)), .slice B (digs nx.1.natAbs).length d, .int .i64 nx.2]) (hl : s0.1.length ≤ 9223372036854775807) (hV : Pw w W0.heap.size V ps) (hB : Below W0.heap.size W0 w) (hT : T32 W0) (hg : W0.heap.size ≤ g)
    (hd : Dg w B d (digs nx.1.natAbs)) (hr : Rt nx.1 nx.2 ∧ (digs nx.1.natAbs).length ≤ 10000) (hD : 0 ≤ D ∧ D ≤ 255) (hn : ps.length ≤ 300) (e1 : rdS s0 = (xw, s1)) (e2 : rdN s1 = (er, s2)) (e3 : rdC (D + 1).toNat s2 = (cs, s3)) (e4 : endq nx.1 nx.2 (xw - 128) = nx2) :
    Calls Tryd.prog 17 #[.pointer (some ⟨g, 0, none⟩)] w fun e w' => ∃ V2 B2 d2, e = .returned (.tuple #[]) ∧ LB w' g s3 [.int .i64 F, .int .i64 O, .bool (decide (a.1 < 0)), .slice A (digs a.1.natAbs).length c, .int .i64 a.2, .int .i64 W, .int .i64 Q, .int .i64 D, V2, .bool (decide (nx2.1 < 0)), .slice B2 (digs nx2.1.natAbs).length d2, .int .i64 nx2.2] ∧ Pw w' W0.heap.size V2 (ps ++ [⟨nx, xw - 128, cs, er⟩]) ∧ Dg w' B2 d2 (digs nx2.1.natAbs) ∧ Gz W0.heap.size g w w' := by
  have H0 := Lib.hid h
  have B0 := Lib.hid hl
  have HV := Lib.hid hV
  have HBW := Lib.hid hB
  have HT := Lib.hid hT
  have HG := Lib.hid hg
  have D0 := Lib.hid hd
  have HR := Lib.hid hr
  have HDD := Lib.hid hD
  have HN := Lib.hid hn
  have E1 := Lib.hid e1
  have E2 := Lib.hid e2
  have E3 := Lib.hid e3
  have E4 := Lib.hid e4
  have B1 := Lib.hid (rdS_b e1 hl)
  have B2 := Lib.hid (rdN_b e2 B1.out.1)
  have wx : wrap64 (xw - 128) = xw - 128 := IntWalk.wrap64_in _ ⟨by have := B1.out; omega, by have := B1.out; omega⟩
  have wx2 : IntKind.i64.wrap (xw - 128) = xw - 128 := by rw [IntWalk.i64_in _ (by have := B1.out; omega)]
  have GN := Lib.hid (heap_lt h)
  have HD := Lib.hid (show LB w.drew g s0 [.int .i64 F, .int .i64 O, .bool (decide (a.1 < 0)), .slice A (digs a.1.natAbs).length c, .int .i64 a.2, .int .i64 W, .int .i64 Q, .int .i64 D, V, .bool (decide (nx.1 < 0)), .slice B (digs nx.1.natAbs).length d, .int .i64 nx.2] from h)
  have HVI := Lib.hid (fun n : Int => pw_no hV n)
  have HZ := Lib.hid (show ∀ u, u ∈ ([.int .i64 F, .int .i64 O, .bool (decide (a.1 < 0)), .slice A (digs a.1.natAbs).length c, .int .i64 a.2, .int .i64 W, .int .i64 Q, .int .i64 D, V, .bool (decide (nx.1 < 0)), .slice B (digs nx.1.natAbs).length d, .int .i64 nx.2] : List Value) → ∀ n : Int, u ≠ .int .u32 n by intro u hu n e; subst e; simp at hu; exact HVI.out n hu.symm)
  clear h hl hV hB hT hg hd hr hD hn e1 e2 e3 e4
  go_enter Tryd.func17, Tryd.ntmps17
  go_upto_region 0 with (fail)
  refine wp_operandsZ (W := w) rfl 15 [3, 4, 5, 6, 7, 8, 9, 10, 11, 12, 13, 14, 15, 16, 2] (fun i u x => match i with | 0 => u = .pointer (some ⟨g, 0, none⟩) | 1 => u = .pointer (some ⟨g, 0, none⟩) | 2 => u = .pointer (some ⟨g, 11, none⟩) | 3 => u = .agg #[.bool (decide (nx.1 < 0)), .slice B (digs nx.1.natAbs).length d, .int .i64 nx.2] | 4 => u = .pointer (some ⟨g, 0, none⟩) | 5 => u = .pointer (some ⟨g, 0, none⟩) | 6 => u = .pointer (some ⟨g, 0, none⟩) | 7 => u = .int .i64 xw | 8 => u = .int .i64 (xw - 128) | 9 => u = .pointer (some ⟨g, 0, none⟩) | 10 => u = .pointer (some ⟨g, 0, none⟩) | 11 => u = .pointer (some ⟨g, 0, none⟩) | 12 => ∃ A1 c1, u = .agg #[.bool (decide (er.1 < 0)), .slice A1 (digs er.1.natAbs).length c1, .int .i64 er.2] ∧ Dg x A1 c1 (digs er.1.natAbs) | 13 => ∃ A1 c1, u = .agg #[.bool (decide (nx.1 < 0)), .slice B (digs nx.1.natAbs).length d, .int .i64 nx.2, .int .i64 (xw - 128), .slice none 0 0, .bool (decide (er.1 < 0)), .slice A1 (digs er.1.natAbs).length c1, .int .i64 er.2] ∧ Dg x A1 c1 (digs er.1.natAbs) | 14 => ∃ b, u = .pointer (some ⟨b, 0, none⟩) ∧ x.heap[b]? = some (.cells #[.bool false, .slice none 0 0, .int .i64 0, .int .i64 0, .slice none 0 0, .bool false, .slice none 0 0, .int .i64 0] 46 (0, 0)) ∧ w.heap.size ≤ b | _ => True) (fun a b => a.grownBy b (some g) ∧ Kept a b) (fun l x => LB x g (if l 12 then s2 else if l 7 then s1 else s0) [.int .i64 F, .int .i64 O, .bool (decide (a.1 < 0)), .slice A (digs a.1.natAbs).length c, .int .i64 a.2, .int .i64 W, .int .i64 Q, .int .i64 D, V, .bool (decide (nx.1 < 0)), .slice B (digs nx.1.natAbs).length d, .int .i64 nx.2] ∧ (l 12 = true → l 7 = true))
    (by decide) rfl (by kernel_rfl) (by kernel_rfl) (by decide) (by kernel_rfl) (fun _ _ _ h k => ⟨grow_trans h.1 k.1, h.2.trans k.2⟩) ?_ (⟨grow_below (bd0 w), Kept.below (bd0 w)⟩) (⟨by simpa using HD.out, fun h => by simp at h⟩) ?_ ?_
  · intro i u x x' hi hR hb'
    have hi' : i = 0 ∨ i = 1 ∨ i = 2 ∨ i = 3 ∨ i = 4 ∨ i = 5 ∨ i = 6 ∨ i = 7 ∨ i = 8 ∨ i = 9 ∨ i = 10 ∨ i = 11 ∨ i = 12 ∨ i = 13 ∨ i = 14 := by omega
    rcases hi' with rfl | rfl | rfl | rfl | rfl | rfl | rfl | rfl | rfl | rfl | rfl | rfl | rfl | rfl | rfl
    · exact hR
    · exact hR
    · exact hR
    · exact hR
    · exact hR
    · exact hR
    · exact hR
    · exact hR
    · exact hR
    · exact hR
    · exact hR
    · exact hR
    · obtain ⟨A1, c1, e, hd⟩ := hR; exact ⟨A1, c1, e, hd.kept hb'.2⟩
    · obtain ⟨A1, c1, e, hd⟩ := hR; exact ⟨A1, c1, e, hd.kept hb'.2⟩
    · obtain ⟨b, e, hg, hn⟩ := hR; exact ⟨b, e, grow_row hb'.1 hg (by have := GN.out; omega), hn⟩
  · intro i av x l K hi hF hb' hl hw hZ hK
    have hi' : i = 0 ∨ i = 1 ∨ i = 2 ∨ i = 3 ∨ i = 4 ∨ i = 5 ∨ i = 6 ∨ i = 7 ∨ i = 8 ∨ i = 9 ∨ i = 10 ∨ i = 11 ∨ i = 12 ∨ i = 13 ∨ i = 14 := by omega
    rcases hi' with rfl | rfl | rfl | rfl | rfl | rfl | rfl | rfl | rfl | rfl | rfl | rfl | rfl | rfl | rfl
    · simp only [wpOp, List.getElem?_toArray, List.getElem?_cons_zero, Region.wanted, if_true]
      refine Or.inl ?_
      have e0 : av.tmps.getD 0 undef = .pointer (some ⟨g, 0, none⟩) := hF.2.2 0 (by decide)
      have e0e : av.eval (.tmp 0) = .pointer (some ⟨g, 0, none⟩) := e0
      have e0g : av.tmps[0]?.getD undef = .pointer (some ⟨g, 0, none⟩) := by have := e0; simp only [Array.getD_eq_getD_getElem?] at this; exact this
      clear hw hF
      simp only [Oper.wp, execOp]
      try simp only [e0e]
      go_simp
      exact hK _ x (by first | rfl | (simp only [Nat.add_zero]; done) | (congr 1; omega)) (⟨World.grownBy.refl _ _, Kept.refl _⟩) (by simpa using hZ)
    · simp only [wpOp, List.getElem?_toArray, List.getElem?_cons_succ, List.getElem?_cons_zero, Region.wanted, if_true]
      refine Or.inl ?_
      have e0 : av.tmps.getD 3 undef = .pointer (some ⟨g, 0, none⟩) := (hw 0 (by kernel_rfl)).2
      have e0e : av.eval (.tmp 3) = .pointer (some ⟨g, 0, none⟩) := e0
      have e0g : av.tmps[3]?.getD undef = .pointer (some ⟨g, 0, none⟩) := by have := e0; simp only [Array.getD_eq_getD_getElem?] at this; exact this
      clear hw hF
      simp only [Oper.wp, execOp]
      try simp only [e0e]
      go_simp
      exact hK _ x (by first | rfl | (simp only [Nat.add_zero]; done) | (congr 1; omega)) (⟨World.grownBy.refl _ _, Kept.refl _⟩) (by simpa using hZ)
    · simp only [wpOp, List.getElem?_toArray, List.getElem?_cons_succ, List.getElem?_cons_zero, Region.wanted, if_true]
      refine Or.inl ?_
      have e0 : av.tmps.getD 4 undef = .pointer (some ⟨g, 0, none⟩) := (hw 1 (by kernel_rfl)).2
      have e0e : av.eval (.tmp 4) = .pointer (some ⟨g, 0, none⟩) := e0
      have e0g : av.tmps[4]?.getD undef = .pointer (some ⟨g, 0, none⟩) := by have := e0; simp only [Array.getD_eq_getD_getElem?] at this; exact this
      clear hw hF
      simp only [Oper.wp, execOp]
      try simp only [e0e]
      go_simp
      exact hK _ x (by first | rfl | (simp only [Nat.add_zero]; done) | (congr 1; omega)) (⟨World.grownBy.refl _ _, Kept.refl _⟩) (by simpa using hZ)
    · simp only [wpOp, List.getElem?_toArray, List.getElem?_cons_succ, List.getElem?_cons_zero, Region.wanted, if_true]
      refine Or.inl ?_
      have e0 : av.tmps.getD 5 undef = .pointer (some ⟨g, 11, none⟩) := (hw 2 (by kernel_rfl)).2
      have e0e : av.eval (.tmp 5) = .pointer (some ⟨g, 11, none⟩) := e0
      have e0g : av.tmps[5]?.getD undef = .pointer (some ⟨g, 11, none⟩) := by have := e0; simp only [Array.getD_eq_getD_getElem?] at this; exact this
      have f0 := row_c hZ.1 (i := 11) rfl
      have f1 := row_c hZ.1 (i := 12) rfl
      have f2 := row_c hZ.1 (i := 13) rfl
      clear hw hF
      simp only [Oper.wp, execOp]
      try simp only [e0e]
      go_simp
      exact hK _ x (by first | rfl | (simp only [Nat.add_zero]; done) | (congr 1; omega)) (⟨World.grownBy.refl _ _, Kept.refl _⟩) (by simpa using hZ)
    · simp only [wpOp, List.getElem?_toArray, List.getElem?_cons_succ, List.getElem?_cons_zero, Region.wanted, if_true]
      refine Or.inl ?_
      have e0 : av.tmps.getD 0 undef = .pointer (some ⟨g, 0, none⟩) := hF.2.2 0 (by decide)
      have e0e : av.eval (.tmp 0) = .pointer (some ⟨g, 0, none⟩) := e0
      have e0g : av.tmps[0]?.getD undef = .pointer (some ⟨g, 0, none⟩) := by have := e0; simp only [Array.getD_eq_getD_getElem?] at this; exact this
      clear hw hF
      simp only [Oper.wp, execOp]
      try simp only [e0e]
      go_simp
      exact hK _ x (by first | rfl | (simp only [Nat.add_zero]; done) | (congr 1; omega)) (⟨World.grownBy.refl _ _, Kept.refl _⟩) (by simpa using hZ)
    · simp only [wpOp, List.getElem?_toArray, List.getElem?_cons_succ, List.getElem?_cons_zero, Region.wanted, if_true]
      refine Or.inl ?_
      have e0 : av.tmps.getD 7 undef = .pointer (some ⟨g, 0, none⟩) := (hw 4 (by kernel_rfl)).2
      have e0e : av.eval (.tmp 7) = .pointer (some ⟨g, 0, none⟩) := e0
      have e0g : av.tmps[7]?.getD undef = .pointer (some ⟨g, 0, none⟩) := by have := e0; simp only [Array.getD_eq_getD_getElem?] at this; exact this
      clear hw hF
      simp only [Oper.wp, execOp]
      try simp only [e0e]
      go_simp
      exact hK _ x (by first | rfl | (simp only [Nat.add_zero]; done) | (congr 1; omega)) (⟨World.grownBy.refl _ _, Kept.refl _⟩) (by simpa using hZ)
    · simp only [wpOp, List.getElem?_toArray, List.getElem?_cons_succ, List.getElem?_cons_zero, Region.wanted, if_true]
      refine Or.inl ?_
      have e0 : av.tmps.getD 8 undef = .pointer (some ⟨g, 0, none⟩) := (hw 5 (by kernel_rfl)).2
      have e0e : av.eval (.tmp 8) = .pointer (some ⟨g, 0, none⟩) := e0
      have e0g : av.tmps[8]?.getD undef = .pointer (some ⟨g, 0, none⟩) := by have := e0; simp only [Array.getD_eq_getD_getElem?] at this; exact this
      clear hw hF
      simp only [Oper.wp, execOp]
      try simp only [e0e]
      go_simp
      exact hK _ x (by first | rfl | (simp only [Nat.add_zero]; done) | (congr 1; omega)) (⟨World.grownBy.refl _ _, Kept.refl _⟩) (by simpa using hZ)
    · simp only [wpOp, List.getElem?_toArray, List.getElem?_cons_succ, List.getElem?_cons_zero, Region.wanted, if_true]
      refine Or.inl ?_
      have e0 : av.tmps.getD 9 undef = .pointer (some ⟨g, 0, none⟩) := (hw 6 (by kernel_rfl)).2
      have e0e : av.eval (.tmp 9) = .pointer (some ⟨g, 0, none⟩) := e0
      have e0g : av.tmps[9]?.getD undef = .pointer (some ⟨g, 0, none⟩) := by have := e0; simp only [Array.getD_eq_getD_getElem?] at this; exact this
      have l12 : l 12 = false := by cases h3 : l 12 with | false => rfl | true => (have := hZ.2 h3; rw [hl] at this; cases this)
      have hrow : LB x g s0 [.int .i64 F, .int .i64 O, .bool (decide (a.1 < 0)), .slice A (digs a.1.natAbs).length c, .int .i64 a.2, .int .i64 W, .int .i64 Q, .int .i64 D, V, .bool (decide (nx.1 < 0)), .slice B (digs nx.1.natAbs).length d, .int .i64 nx.2] := by have := hZ.1; simpa only [l12, hl, if_false, Bool.false_eq_true] using this
      clear hw hF
      simp only [Oper.wp, execOp]
      try simp only [e0e]
      go_simp
      refine (lsmall_v E1.out hrow B0.out).mono ?_
      rintro e x' ⟨rfl, hr, hg⟩
      exact hK _ x' rfl ⟨hg, grow_kept hg hrow (noint_rs HZ.out)⟩ ⟨by simpa [l12] using hr, fun _ => by simp⟩
    · simp only [wpOp, List.getElem?_toArray, List.getElem?_cons_succ, List.getElem?_cons_zero, Region.wanted, if_true]
      refine Or.inl ?_
      have e0 : av.tmps.getD 10 undef = .int .i64 xw := (hw 7 (by kernel_rfl)).2
      have e0e : av.eval (.tmp 10) = .int .i64 xw := e0
      have e0g : av.tmps[10]?.getD undef = .int .i64 xw := by have := e0; simp only [Array.getD_eq_getD_getElem?] at this; exact this
      clear hw hF
      simp only [Oper.wp, execOp]
      try simp only [e0e]
      go_simp
      exact hK _ x (by first | rfl | (simp only [Nat.add_zero]; done) | (congr 1; omega)) (⟨World.grownBy.refl _ _, Kept.refl _⟩) (by simpa using hZ)
    · simp only [wpOp, List.getElem?_toArray, List.getElem?_cons_succ, List.getElem?_cons_zero, Region.wanted, if_true]
      refine Or.inl ?_
      have e0 : av.tmps.getD 0 undef = .pointer (some ⟨g, 0, none⟩) := hF.2.2 0 (by decide)
      have e0e : av.eval (.tmp 0) = .pointer (some ⟨g, 0, none⟩) := e0
      have e0g : av.tmps[0]?.getD undef = .pointer (some ⟨g, 0, none⟩) := by have := e0; simp only [Array.getD_eq_getD_getElem?] at this; exact this
      clear hw hF
      simp only [Oper.wp, execOp]
      try simp only [e0e]
      go_simp
      exact hK _ x (by first | rfl | (simp only [Nat.add_zero]; done) | (congr 1; omega)) (⟨World.grownBy.refl _ _, Kept.refl _⟩) (by simpa using hZ)
    · simp only [wpOp, List.getElem?_toArray, List.getElem?_cons_succ, List.getElem?_cons_zero, Region.wanted, if_true]
      refine Or.inl ?_
      have e0 : av.tmps.getD 12 undef = .pointer (some ⟨g, 0, none⟩) := (hw 9 (by kernel_rfl)).2
      have e0e : av.eval (.tmp 12) = .pointer (some ⟨g, 0, none⟩) := e0
      have e0g : av.tmps[12]?.getD undef = .pointer (some ⟨g, 0, none⟩) := by have := e0; simp only [Array.getD_eq_getD_getElem?] at this; exact this
      clear hw hF
      simp only [Oper.wp, execOp]
      try simp only [e0e]
      go_simp
      exact hK _ x (by first | rfl | (simp only [Nat.add_zero]; done) | (congr 1; omega)) (⟨World.grownBy.refl _ _, Kept.refl _⟩) (by simpa using hZ)
    · simp only [wpOp, List.getElem?_toArray, List.getElem?_cons_succ, List.getElem?_cons_zero, Region.wanted, if_true]
      refine Or.inl ?_
      have e0 : av.tmps.getD 13 undef = .pointer (some ⟨g, 0, none⟩) := (hw 10 (by kernel_rfl)).2
      have e0e : av.eval (.tmp 13) = .pointer (some ⟨g, 0, none⟩) := e0
      have e0g : av.tmps[13]?.getD undef = .pointer (some ⟨g, 0, none⟩) := by have := e0; simp only [Array.getD_eq_getD_getElem?] at this; exact this
      clear hw hF
      simp only [Oper.wp, execOp]
      try simp only [e0e]
      go_simp
      exact hK _ x (by first | rfl | (simp only [Nat.add_zero]; done) | (congr 1; omega)) (⟨World.grownBy.refl _ _, Kept.refl _⟩) (by simpa using hZ)
    · simp only [wpOp, List.getElem?_toArray, List.getElem?_cons_succ, List.getElem?_cons_zero, Region.wanted, if_true]
      refine Or.inl ?_
      have e0 : av.tmps.getD 14 undef = .pointer (some ⟨g, 0, none⟩) := (hw 11 (by kernel_rfl)).2
      have e0e : av.eval (.tmp 14) = .pointer (some ⟨g, 0, none⟩) := e0
      have e0g : av.tmps[14]?.getD undef = .pointer (some ⟨g, 0, none⟩) := by have := e0; simp only [Array.getD_eq_getD_getElem?] at this; exact this
      have l7 := (hw 7 (by kernel_rfl)).1
      have hrow : LB x g s1 [.int .i64 F, .int .i64 O, .bool (decide (a.1 < 0)), .slice A (digs a.1.natAbs).length c, .int .i64 a.2, .int .i64 W, .int .i64 Q, .int .i64 D, V, .bool (decide (nx.1 < 0)), .slice B (digs nx.1.natAbs).length d, .int .i64 nx.2] := by have := hZ.1; simpa only [hl, l7, if_true, if_false, Bool.false_eq_true] using this
      clear hw hF
      simp only [Oper.wp, execOp]
      try simp only [e0e]
      go_simp
      refine (lnumber_v E2.out hrow HZ.out B1.out.1).mono ?_
      rintro e x' ⟨A1, c1, rfl, hd, hr, hg⟩
      exact hK _ x' ⟨A1, c1, rfl, hd⟩ ⟨hg, grow_kept hg hrow (noint_rs HZ.out)⟩ ⟨by simpa using hr, fun _ => by simp [l7]⟩
    · simp only [wpOp, List.getElem?_toArray, List.getElem?_cons_succ, List.getElem?_cons_zero, Region.wanted, if_true]
      refine Or.inl ?_
      have e0 : av.tmps.getD 6 undef = .agg #[.bool (decide (nx.1 < 0)), .slice B (digs nx.1.natAbs).length d, .int .i64 nx.2] := (hw 3 (by kernel_rfl)).2
      have e0e : av.eval (.tmp 6) = .agg #[.bool (decide (nx.1 < 0)), .slice B (digs nx.1.natAbs).length d, .int .i64 nx.2] := e0
      have e0g : av.tmps[6]?.getD undef = .agg #[.bool (decide (nx.1 < 0)), .slice B (digs nx.1.natAbs).length d, .int .i64 nx.2] := by have := e0; simp only [Array.getD_eq_getD_getElem?] at this; exact this
      have e1 : av.tmps.getD 11 undef = .int .i64 (xw - 128) := (hw 8 (by kernel_rfl)).2
      have e1e : av.eval (.tmp 11) = .int .i64 (xw - 128) := e1
      have e1g : av.tmps[11]?.getD undef = .int .i64 (xw - 128) := by have := e1; simp only [Array.getD_eq_getD_getElem?] at this; exact this
      obtain ⟨A1_2, c1_2, e2, hd2⟩ := (hw 12 (by kernel_rfl)).2
      have e2e : av.eval (.tmp 15) = .agg #[.bool (decide (er.1 < 0)), .slice A1_2 (digs er.1.natAbs).length c1_2, .int .i64 er.2] := e2
      have e2g : av.tmps[15]?.getD undef = .agg #[.bool (decide (er.1 < 0)), .slice A1_2 (digs er.1.natAbs).length c1_2, .int .i64 er.2] := by have := e2; simp only [Array.getD_eq_getD_getElem?] at this; exact this
      clear hw hF
      simp only [Oper.wp, execOp]
      try simp only [e0e, e1e, e2e]
      simp only [List.map_toArray, List.map_cons, List.map_nil, e0e, e1e, e2e]
      go_simp
      exact hK _ x ⟨_, _, rfl, hd2⟩ ⟨World.grownBy.refl _ _, Kept.refl _⟩ (by simpa using hZ)
    · simp only [wpOp, List.getElem?_toArray, List.getElem?_cons_succ, List.getElem?_cons_zero, Region.wanted, if_true]
      refine Or.inl ?_
      clear hw hF
      simp only [Oper.wp, execOp]
      go_simp
      exact hK _ _ ⟨_, rfl, heap_alloc_new _ _, hb'.1.size⟩ ⟨grow_below (below1 _ _), Kept.below (below1 _ _)⟩ ⟨by simpa using hZ.1.alloc (.cells #[.bool false, .slice none 0 0, .int .i64 0, .int .i64 0, .slice none 0 0, .bool false, .slice none 0 0, .int .i64 0] 46), by simpa using hZ.2⟩
  · intro av x l hF hb' hR hl hZ
    have e0 : av.tmps.getD 3 undef = .pointer (some ⟨g, 0, none⟩) := hR 0 (by decide)
    have e1 : av.tmps.getD 4 undef = .pointer (some ⟨g, 0, none⟩) := hR 1 (by decide)
    have e2 : av.tmps.getD 5 undef = .pointer (some ⟨g, 11, none⟩) := hR 2 (by decide)
    have e3 : av.tmps.getD 6 undef = .agg #[.bool (decide (nx.1 < 0)), .slice B (digs nx.1.natAbs).length d, .int .i64 nx.2] := hR 3 (by decide)
    have e4 : av.tmps.getD 7 undef = .pointer (some ⟨g, 0, none⟩) := hR 4 (by decide)
    have e5 : av.tmps.getD 8 undef = .pointer (some ⟨g, 0, none⟩) := hR 5 (by decide)
    have e6 : av.tmps.getD 9 undef = .pointer (some ⟨g, 0, none⟩) := hR 6 (by decide)
    have e7 : av.tmps.getD 10 undef = .int .i64 xw := hR 7 (by decide)
    have e8 : av.tmps.getD 11 undef = .int .i64 (xw - 128) := hR 8 (by decide)
    have e9 : av.tmps.getD 12 undef = .pointer (some ⟨g, 0, none⟩) := hR 9 (by decide)
    have e10 : av.tmps.getD 13 undef = .pointer (some ⟨g, 0, none⟩) := hR 10 (by decide)
    have e11 : av.tmps.getD 14 undef = .pointer (some ⟨g, 0, none⟩) := hR 11 (by decide)
    obtain ⟨A1_12, c1_12, e12, hd12⟩ := hR 12 (by decide)
    replace e12 : av.tmps.getD 15 undef = .agg #[.bool (decide (er.1 < 0)), .slice A1_12 (digs er.1.natAbs).length c1_12, .int .i64 er.2] := e12
    obtain ⟨A1_13, c1_13, e13, hd13⟩ := hR 13 (by decide)
    replace e13 : av.tmps.getD 16 undef = .agg #[.bool (decide (nx.1 < 0)), .slice B (digs nx.1.natAbs).length d, .int .i64 nx.2, .int .i64 (xw - 128), .slice none 0 0, .bool (decide (er.1 < 0)), .slice A1_13 (digs er.1.natAbs).length c1_13, .int .i64 er.2] := e13
    obtain ⟨b14, e14, hg14, hn14⟩ := hR 14 (by decide)
    replace e14 : av.tmps.getD 2 undef = .pointer (some ⟨b14, 0, none⟩) := e14
    rw [hF.fold (by kernel_rfl)]
    simp only [List.foldl_cons, List.foldl_nil, e0, e1, e2, e3, e4, e5, e6, e7, e8, e9, e10, e11, e12, e13, e14]
    simp only [Act.put, List.setIfInBounds_toArray, List.set_cons_zero, List.set_cons_succ]
    change wpOps _ _ _ [15] _ _
    simp only [wpOps_cons]
    clear e0 e1 e2 e3 e4 e5 e6 e7 e8 e9 e10 e11 e12 e13 e14 hR hF
    have k12 := hl 12 (by decide)
    have HX := Lib.hid (show LB x g s2 [.int .i64 F, .int .i64 O, .bool (decide (a.1 < 0)), .slice A (digs a.1.natAbs).length c, .int .i64 a.2, .int .i64 W, .int .i64 Q, .int .i64 D, V, .bool (decide (nx.1 < 0)), .slice B (digs nx.1.natAbs).length d, .int .i64 nx.2] by have := hZ.1; simpa only [k12, if_true] using this)
    have GX := Lib.hid hb'
    have HP := Lib.hid hg14
    have HDE := Lib.hid hd13
    have HBN := Lib.hid hn14
    clear hZ hl hb' hg14 hd13 hd12 hn14 k12
    have p0 := row_c (i := 0) HP.out rfl
    have p1 := row_c (i := 1) HP.out rfl
    have p2 := row_c (i := 2) HP.out rfl
    have p3 := row_c (i := 3) HP.out rfl
    have p4 := row_c (i := 4) HP.out rfl
    have p5 := row_c (i := 5) HP.out rfl
    have p6 := row_c (i := 6) HP.out rfl
    have p7 := row_c (i := 7) HP.out rfl
    have q0 := frozen_of_row _ _ 0 _ _ HP.out
    have q1 := frozen_of_row _ _ 1 _ _ HP.out
    have q2 := frozen_of_row _ _ 2 _ _ HP.out
    have q3 := frozen_of_row _ _ 3 _ _ HP.out
    have q4 := frozen_of_row _ _ 4 _ _ HP.out
    have q5 := frozen_of_row _ _ 5 _ _ HP.out
    have q6 := frozen_of_row _ _ 6 _ _ HP.out
    have q7 := frozen_of_row _ _ 7 _ _ HP.out
    try rw [wpOps_cons]
    simp only [wpOp, List.getElem?_toArray, List.getElem?_cons_succ, List.getElem?_cons_zero, Region.wanted, if_true]
    refine Or.inl ?_
    simp only [Oper.wp, execOp]
    go_simp
    try simp only [wpOps]
    obtain ⟨w1, hW⟩ : ∃ V : World, ((((((((x.setCell ⟨b14, 0, none⟩ (.bool (decide (nx.1 < 0)))).setCell ⟨b14, 1, none⟩ (.slice B (digs nx.1.natAbs).length d)).setCell ⟨b14, 2, none⟩ (.int .i64 nx.2)).setCell ⟨b14, 3, none⟩ (.int .i64 (xw - 128))).setCell ⟨b14, 4, none⟩ (.slice none 0 0)).setCell ⟨b14, 5, none⟩ (.bool (decide (er.1 < 0)))).setCell ⟨b14, 6, none⟩ (.slice A1_13 (digs er.1.natAbs).length c1_13)).setCell ⟨b14, 7, none⟩ (.int .i64 er.2)) = V := ⟨_, rfl⟩
    rw [hW]
    have hO : Only b14 x w1 := by rw [← hW]; exact (((((((((Only.refl b14 x).setCell 0 _).setCell 1 _).setCell 2 _).setCell 3 _).setCell 4 _).setCell 5 _).setCell 6 _).setCell 7 _)
    have NE := Lib.hid (show b14 ≠ g from fun e => by have := HBN.out; have := GN.out; omega)
    have hk1 := hO.kept HP.out (noint_of (by intro u hu n e; subst e; simp at hu))
    have H1 := Lib.hid (show LB w1 g s2 [.int .i64 F, .int .i64 O, .bool (decide (a.1 < 0)), .slice A (digs a.1.natAbs).length c, .int .i64 a.2, .int .i64 W, .int .i64 Q, .int .i64 D, V, .bool (decide (nx.1 < 0)), .slice B (digs nx.1.natAbs).length d, .int .i64 nx.2] from (hO.block g (Ne.symm NE.out)).trans HX.out)
    have P1 := Lib.hid (show w1.heap[b14]? = some (.cells #[.bool (decide (nx.1 < 0)), .slice B (digs nx.1.natAbs).length d, .int .i64 nx.2, .int .i64 (xw - 128), .slice none 0 0, .bool (decide (er.1 < 0)), .slice A1_13 (digs er.1.natAbs).length c1_13, .int .i64 er.2] 46 (0, 0)) by rw [← hW]; exact (heap_setCell_same _ _ 7 _ _ _ (heap_setCell_same _ _ 6 _ _ _ (heap_setCell_same _ _ 5 _ _ _ (heap_setCell_same _ _ 4 _ _ _ (heap_setCell_same _ _ 3 _ _ _ (heap_setCell_same _ _ 2 _ _ _ (heap_setCell_same _ _ 1 _ _ _ (heap_setCell_same _ _ 0 _ _ _ HP.out)))))))))
    have G1 := Lib.hid (gk_own GX.out hO HBN.out hk1)
    have DN1 := Lib.hid (D0.out.kept G1.out.2)
    have DE1 := Lib.hid (HDE.out.kept hk1)
    have XL := Lib.hid (hO.size)
    clear hW hO hk1 p0 q0 p1 q1 p2 q2 p3 q3 p4 q4 p5 q5 p6 q6 p7 q7
    generalize b14 = pb at *
    generalize A1_13 = AE at *
    generalize c1_13 = cE at *
    have fD : w1.cell? ⟨g, 9, none⟩ = some (.int .i64 D) := row_c H1.out (i := 9) rfl
    have wD : wrap64 (D + 1) = D + 1 := IntWalk.wrap64_in _ ⟨by have := HDD.out; omega, by have := HDD.out; omega⟩
    go_wp2
    try rw [wD]
    clear fD wD
    go_loopw [23] (fun i wr => ∃ (j : Nat) (C : Value) (t : List UInt8 × Bool) (L : List (Int × Int)), j ≤ (D + 1).toNat ∧ i = .int .i64 j ∧ Hid (rdC j s2 = (L, t)) ∧ Hid (t.1.length ≤ 9223372036854775807) ∧ Hid (L.length = j) ∧ Hid (LB wr g t [.int .i64 F, .int .i64 O, .bool (decide (a.1 < 0)), .slice A (digs a.1.natAbs).length c, .int .i64 a.2, .int .i64 W, .int .i64 Q, .int .i64 D, V, .bool (decide (nx.1 < 0)), .slice B (digs nx.1.natAbs).length d, .int .i64 nx.2]) ∧ Hid (wr.heap[pb]? = some (.cells #[.bool (decide (nx.1 < 0)), .slice B (digs nx.1.natAbs).length d, .int .i64 nx.2, .int .i64 (xw - 128), C, .bool (decide (er.1 < 0)), .slice AE (digs er.1.natAbs).length cE, .int .i64 er.2] 46 (0, 0))) ∧ Hid (Dw wr w.heap.size C L) ∧ Hid (w.grownBy wr (some g) ∧ Kept w wr) ∧ Hid (Dg wr AE cE (digs er.1.natAbs))) (fun i _ => (D + 1).toNat - (intOf i).toNat)
    case atStart => exact ⟨0, .slice none 0 0, s2, [], Nat.zero_le _, rfl, Lib.hid rfl, Lib.hid B2.out.1, Lib.hid rfl, H1, P1, Lib.hid (dw_nil _ _), G1, DE1⟩
    case round =>
      obtain ⟨j, C, t, L, hj, rfl, HLQ, HTL, HLL, HLR, HPR, HCW, HGR, HDR2⟩ := hrel
      by_cases hlt : j < (D + 1).toNat
      · have HLT := Lib.hid hlt
        obtain ⟨q, t2, hq⟩ : ∃ q t2, rdN t = (q, t2) := ⟨_, _, rfl⟩
        have EQ := Lib.hid hq
        have BT2 := Lib.hid (Lib.hid (rdN_b hq HTL.out).1)
        have ER := Lib.hid (Lib.hid (show rdC (j + 1) s2 = (L ++ [q], t2) by unfold rdC; rw [HLQ.out]; dsimp only; rw [hq]))
        have HDR := Lib.hid (show LB wr.drew g t [.int .i64 F, .int .i64 O, .bool (decide (a.1 < 0)), .slice A (digs a.1.natAbs).length c, .int .i64 a.2, .int .i64 W, .int .i64 Q, .int .i64 D, V, .bool (decide (nx.1 < 0)), .slice B (digs nx.1.natAbs).length d, .int .i64 nx.2] from HLR.out)
        have hji : ((j : Nat) : Int) < D + 1 := by have := HDD.out; omega
        have HCF := Lib.hid (fun n : Int => HCW.out.no n)
        clear hq hlt
        go_upto_region 3 with (fail)
        refine wp_operandsZ (W := wr) rfl 7 [25, 26, 27, 28, 29, 30, 31] (fun i u x => match i with | 0 => u = .pointer (some ⟨pb, 4, none⟩) | 1 => u = C | 2 => u = .pointer (some ⟨g, 0, none⟩) | 3 => u = .pointer (some ⟨g, 0, none⟩) | 4 => u = .pointer (some ⟨g, 0, none⟩) | 5 => ∃ A2 c2, u = .agg #[.bool (decide (q.1 < 0)), .slice A2 (digs q.1.natAbs).length c2, .int .i64 q.2] ∧ Dg x A2 c2 (digs q.1.natAbs) | 6 => ∃ b A2 c2, u = .slice (some ⟨b, 0, none⟩) 1 1 ∧ x.heap[b]? = some (.cells #[.bool (decide (q.1 < 0)), .slice A2 (digs q.1.natAbs).length c2, .int .i64 q.2] 26 (0, 0)) ∧ b ≠ g ∧ Dg x A2 c2 (digs q.1.natAbs) | _ => True) (fun a b => a.grownBy b (some g) ∧ Kept a b) (fun l x => LB x g (if l 5 then t2 else t) [.int .i64 F, .int .i64 O, .bool (decide (a.1 < 0)), .slice A (digs a.1.natAbs).length c, .int .i64 a.2, .int .i64 W, .int .i64 Q, .int .i64 D, V, .bool (decide (nx.1 < 0)), .slice B (digs nx.1.natAbs).length d, .int .i64 nx.2])
          (by decide) rfl (by kernel_rfl) (by kernel_rfl) (by decide) (by kernel_rfl) (fun _ _ _ h k => ⟨grow_trans h.1 k.1, h.2.trans k.2⟩) ?_ (⟨grow_below (bd0 wr), Kept.below (bd0 wr)⟩) (by simpa using HDR.out) ?_ ?_
        · intro i u x x' hi hR hb'
          have hi' : i = 0 ∨ i = 1 ∨ i = 2 ∨ i = 3 ∨ i = 4 ∨ i = 5 ∨ i = 6 := by omega
          rcases hi' with rfl | rfl | rfl | rfl | rfl | rfl | rfl
          · exact hR
          · exact hR
          · exact hR
          · exact hR
          · exact hR
          · obtain ⟨A2, c2, e, hd⟩ := hR; exact ⟨A2, c2, e, hd.kept hb'.2⟩
          · obtain ⟨b, A2, c2, e, hg, hn, hd⟩ := hR; exact ⟨b, A2, c2, e, grow_row hb'.1 hg hn, hn, hd.kept hb'.2⟩
        · intro i av x l K hi hF hb' hl hw hZ hK
          have hi' : i = 0 ∨ i = 1 ∨ i = 2 ∨ i = 3 ∨ i = 4 ∨ i = 5 ∨ i = 6 := by omega
          rcases hi' with rfl | rfl | rfl | rfl | rfl | rfl | rfl
          · simp only [wpOp, List.getElem?_toArray, List.getElem?_cons_zero, Region.wanted, if_true]
            refine Or.inl ?_
            have e0 : av.tmps.getD 2 undef = .pointer (some ⟨pb, 0, none⟩) := hF.2.2 2 (by decide)
            have e0e : av.eval (.tmp 2) = .pointer (some ⟨pb, 0, none⟩) := e0
            have e0g : av.tmps[2]?.getD undef = .pointer (some ⟨pb, 0, none⟩) := by have := e0; simp only [Array.getD_eq_getD_getElem?] at this; exact this
            clear hw hF
            simp only [Oper.wp, execOp]
            try simp only [e0e]
            go_simp
            exact hK _ x (by first | rfl | (simp only [Nat.add_zero]; done) | (congr 1; omega)) (⟨World.grownBy.refl _ _, Kept.refl _⟩) (by simpa using hZ)
          · simp only [wpOp, List.getElem?_toArray, List.getElem?_cons_succ, List.getElem?_cons_zero, Region.wanted, if_true]
            refine Or.inl ?_
            have e0 : av.tmps.getD 25 undef = .pointer (some ⟨pb, 4, none⟩) := (hw 0 (by kernel_rfl)).2
            have e0e : av.eval (.tmp 25) = .pointer (some ⟨pb, 4, none⟩) := e0
            have e0g : av.tmps[25]?.getD undef = .pointer (some ⟨pb, 4, none⟩) := by have := e0; simp only [Array.getD_eq_getD_getElem?] at this; exact this
            have f4 := row_c (grow_row hb'.1 HPR.out NE.out) (i := 4) rfl
            clear hw hF
            simp only [Oper.wp, execOp]
            try simp only [e0e]
            go_simp
            exact hK _ x (by first | rfl | (simp only [Nat.add_zero]; done) | (congr 1; omega)) (⟨World.grownBy.refl _ _, Kept.refl _⟩) (by simpa using hZ)
          · simp only [wpOp, List.getElem?_toArray, List.getElem?_cons_succ, List.getElem?_cons_zero, Region.wanted, if_true]
            refine Or.inl ?_
            have e0 : av.tmps.getD 0 undef = .pointer (some ⟨g, 0, none⟩) := hF.2.2 0 (by decide)
            have e0e : av.eval (.tmp 0) = .pointer (some ⟨g, 0, none⟩) := e0
            have e0g : av.tmps[0]?.getD undef = .pointer (some ⟨g, 0, none⟩) := by have := e0; simp only [Array.getD_eq_getD_getElem?] at this; exact this
            clear hw hF
            simp only [Oper.wp, execOp]
            try simp only [e0e]
            go_simp
            exact hK _ x (by first | rfl | (simp only [Nat.add_zero]; done) | (congr 1; omega)) (⟨World.grownBy.refl _ _, Kept.refl _⟩) (by simpa using hZ)
          · simp only [wpOp, List.getElem?_toArray, List.getElem?_cons_succ, List.getElem?_cons_zero, Region.wanted, if_true]
            refine Or.inl ?_
            have e0 : av.tmps.getD 27 undef = .pointer (some ⟨g, 0, none⟩) := (hw 2 (by kernel_rfl)).2
            have e0e : av.eval (.tmp 27) = .pointer (some ⟨g, 0, none⟩) := e0
            have e0g : av.tmps[27]?.getD undef = .pointer (some ⟨g, 0, none⟩) := by have := e0; simp only [Array.getD_eq_getD_getElem?] at this; exact this
            clear hw hF
            simp only [Oper.wp, execOp]
            try simp only [e0e]
            go_simp
            exact hK _ x (by first | rfl | (simp only [Nat.add_zero]; done) | (congr 1; omega)) (⟨World.grownBy.refl _ _, Kept.refl _⟩) (by simpa using hZ)
          · simp only [wpOp, List.getElem?_toArray, List.getElem?_cons_succ, List.getElem?_cons_zero, Region.wanted, if_true]
            refine Or.inl ?_
            have e0 : av.tmps.getD 28 undef = .pointer (some ⟨g, 0, none⟩) := (hw 3 (by kernel_rfl)).2
            have e0e : av.eval (.tmp 28) = .pointer (some ⟨g, 0, none⟩) := e0
            have e0g : av.tmps[28]?.getD undef = .pointer (some ⟨g, 0, none⟩) := by have := e0; simp only [Array.getD_eq_getD_getElem?] at this; exact this
            clear hw hF
            simp only [Oper.wp, execOp]
            try simp only [e0e]
            go_simp
            exact hK _ x (by first | rfl | (simp only [Nat.add_zero]; done) | (congr 1; omega)) (⟨World.grownBy.refl _ _, Kept.refl _⟩) (by simpa using hZ)
          · simp only [wpOp, List.getElem?_toArray, List.getElem?_cons_succ, List.getElem?_cons_zero, Region.wanted, if_true]
            refine Or.inl ?_
            have e0 : av.tmps.getD 29 undef = .pointer (some ⟨g, 0, none⟩) := (hw 4 (by kernel_rfl)).2
            have e0e : av.eval (.tmp 29) = .pointer (some ⟨g, 0, none⟩) := e0
            have e0g : av.tmps[29]?.getD undef = .pointer (some ⟨g, 0, none⟩) := by have := e0; simp only [Array.getD_eq_getD_getElem?] at this; exact this
            have hrow : LB x g t [.int .i64 F, .int .i64 O, .bool (decide (a.1 < 0)), .slice A (digs a.1.natAbs).length c, .int .i64 a.2, .int .i64 W, .int .i64 Q, .int .i64 D, V, .bool (decide (nx.1 < 0)), .slice B (digs nx.1.natAbs).length d, .int .i64 nx.2] := by have := hZ; simpa only [hl, if_false, Bool.false_eq_true] using this
            clear hw hF
            simp only [Oper.wp, execOp]
            try simp only [e0e]
            go_simp
            refine (lnumber_v EQ.out hrow HZ.out HTL.out).mono ?_
            rintro e x' ⟨A2, c2, rfl, hd, hr, hg⟩
            exact hK _ x' ⟨A2, c2, rfl, hd⟩ ⟨hg, grow_kept hg hrow (noint_rs HZ.out)⟩ (by simpa using hr)
          · simp only [wpOp, List.getElem?_toArray, List.getElem?_cons_succ, List.getElem?_cons_zero, Region.wanted, if_true]
            refine Or.inl ?_
            obtain ⟨A2_0, c2_0, e0, hd0⟩ := (hw 5 (by kernel_rfl)).2
            have e0e : av.eval (.tmp 30) = .agg #[.bool (decide (q.1 < 0)), .slice A2_0 (digs q.1.natAbs).length c2_0, .int .i64 q.2] := e0
            have e0g : av.tmps[30]?.getD undef = .agg #[.bool (decide (q.1 < 0)), .slice A2_0 (digs q.1.natAbs).length c2_0, .int .i64 q.2] := by have := e0; simp only [Array.getD_eq_getD_getElem?] at this; exact this
            clear hw hF
            simp only [Oper.wp, execOp]
            try simp only [e0e]
            try simp only [List.map_toArray, List.map_cons, List.map_nil, e0e]
            go_simp
            have hgl := heap_lt hZ
            exact hK _ _ ⟨_, _, _, rfl, heap_alloc_new _ _, by omega, hd0.below (below1 _ _)⟩ ⟨grow_below (below1 _ _), Kept.below (below1 _ _)⟩ (by simpa using hZ.alloc (.cells #[.bool (decide (q.1 < 0)), .slice A2_0 (digs q.1.natAbs).length c2_0, .int .i64 q.2] 26))
        · intro av x l hF hb' hR hl hZ
          have e0 : av.tmps.getD 25 undef = .pointer (some ⟨pb, 4, none⟩) := hR 0 (by decide)
          have e1 : av.tmps.getD 26 undef = C := hR 1 (by decide)
          have e2 : av.tmps.getD 27 undef = .pointer (some ⟨g, 0, none⟩) := hR 2 (by decide)
          have e3 : av.tmps.getD 28 undef = .pointer (some ⟨g, 0, none⟩) := hR 3 (by decide)
          have e4 : av.tmps.getD 29 undef = .pointer (some ⟨g, 0, none⟩) := hR 4 (by decide)
          obtain ⟨A2_5, c2_5, e5, hd5⟩ := hR 5 (by decide)
          replace e5 : av.tmps.getD 30 undef = .agg #[.bool (decide (q.1 < 0)), .slice A2_5 (digs q.1.natAbs).length c2_5, .int .i64 q.2] := e5
          obtain ⟨b6, A2_6, c2_6, e6, hg6, hn6, hd6⟩ := hR 6 (by decide)
          replace e6 : av.tmps.getD 31 undef = .slice (some ⟨b6, 0, none⟩) 1 1 := e6
          rw [hF.fold (by kernel_rfl)]
          simp only [List.foldl_cons, List.foldl_nil, e0, e1, e2, e3, e4, e5, e6]
          simp only [Act.put, List.setIfInBounds_toArray, List.set_cons_zero, List.set_cons_succ]
          change wpOps _ _ _ [7, 8, 9] _ _
          simp only [wpOps_cons]
          clear e0 e1 e2 e3 e4 e5 e6 hR hF
          have k5 := hl 5 (by decide)
          have HX := Lib.hid (show LB x g t2 [.int .i64 F, .int .i64 O, .bool (decide (a.1 < 0)), .slice A (digs a.1.natAbs).length c, .int .i64 a.2, .int .i64 W, .int .i64 Q, .int .i64 D, V, .bool (decide (nx.1 < 0)), .slice B (digs nx.1.natAbs).length d, .int .i64 nx.2] by have := hZ; simpa only [k5, if_true] using this)
          have GX2 := Lib.hid hb'
          have HBR := Lib.hid hg6
          have HDB := Lib.hid hd6
          have HDW := Lib.hid (HCW.out.grow hb' (fun k hk => fun e => by have := HCW.out.ge hk; have := GN.out; omega))
          have HPX := Lib.hid (grow_row hb'.1 HPR.out NE.out)
          have HDX := Lib.hid (HDR2.out.kept hb'.2)
          have hbs := Nat.le_trans HGR.out.1.size hb'.1.size
          clear hZ hl hb' hg6 hn6 hd6 hd5 k5
          simp only [wpOp, List.getElem?_toArray, List.getElem?_cons_succ, List.getElem?_cons_zero, Region.wanted, if_true]
          refine Or.inl ?_
          refine wp_append_dy (.tmp 26) (.tmp 31) rfl w.heap.size C L q.1 q.2 b6 _ 1 _ _ rfl HDW.out HBR.out HDB.out rfl (by have := HLL.out; have := HDD.out; omega) hbs ?_
          intro g7 cap w7 hdw hgr hkp hlie
          have hne7 : C.ownBlock ≠ some g := fun e => by have := HDW.out.ge e; have := GN.out; omega
          have H7 := Lib.hid (show LB w7 g t2 [.int .i64 F, .int .i64 O, .bool (decide (a.1 < 0)), .slice A (digs a.1.natAbs).length c, .int .i64 a.2, .int .i64 W, .int .i64 Q, .int .i64 D, V, .bool (decide (nx.1 < 0)), .slice B (digs nx.1.natAbs).length d, .int .i64 nx.2] from (hgr.block g (heap_lt HX.out) (fun e => hne7 e.symm)).trans HX.out)
          have P7 := Lib.hid ((hgr.block pb (heap_lt HPX.out) (fun e => HDW.out.neT HPX.out (by decide) e.symm)).trans HPX.out)
          have D7 := Lib.hid hdw
          have E7 := Lib.hid (HDX.out.kept hkp)
          have G7 := Lib.hid (gk_own2 (gk_trans HGR.out GX2.out) hgr hkp (fun k hk => HDW.out.ge hk))
          clear hdw hgr hkp hne7 hlie
          have f7 := row_c (i := 4) P7.out rfl
          have q7 := frozen_of_row _ _ 4 _ _ P7.out
          have x7 := heap_lt P7.out
          try rw [wpOps_cons]
          simp only [wpOp, List.getElem?_toArray, List.getElem?_cons_succ, List.getElem?_cons_zero, Region.wanted, if_true]
          refine Or.inl ?_
          simp only [Oper.wp, execOp]
          go_simp
          try rw [wpOps_cons]
          simp only [wpOp, List.getElem?_toArray, List.getElem?_cons_succ, List.getElem?_cons_zero, Region.wanted, if_true]
          refine Or.inl ?_
          simp only [Oper.wp, execOp]
          go_simp
          try simp only [wpOps]
          obtain ⟨w8, hW⟩ : ∃ V : World, w7.setCell ⟨pb, 4, none⟩ (.slice (some ⟨g7, 0, none⟩) (L.length + 1) cap) = V := ⟨_, rfl⟩
          rw [hW]
          have hO : Only pb w7 w8 := by rw [← hW]; exact (Only.refl pb w7).setCell 4 _
          have hk8 := hO.kept P7.out (noint_of (by intro u hu n e; subst e; simp at hu; exact HCF.out n hu.symm))
          have H8 := Lib.hid (show LB w8 g t2 [.int .i64 F, .int .i64 O, .bool (decide (a.1 < 0)), .slice A (digs a.1.natAbs).length c, .int .i64 a.2, .int .i64 W, .int .i64 Q, .int .i64 D, V, .bool (decide (nx.1 < 0)), .slice B (digs nx.1.natAbs).length d, .int .i64 nx.2] from (hO.block g (Ne.symm NE.out)).trans H7.out)
          have P8 := Lib.hid (show w8.heap[pb]? = some (.cells #[.bool (decide (nx.1 < 0)), .slice B (digs nx.1.natAbs).length d, .int .i64 nx.2, .int .i64 (xw - 128), .slice (some ⟨g7, 0, none⟩) (L.length + 1) cap, .bool (decide (er.1 < 0)), .slice AE (digs er.1.natAbs).length cE, .int .i64 er.2] 46 (0, 0)) by rw [← hW]; exact heap_setCell_same _ _ 4 _ _ _ P7.out)
          have D8 := Lib.hid (D7.out.only hO (D7.out.neT P7.out (by decide)) hk8)
          have E8 := Lib.hid (E7.out.kept hk8)
          have G8 := Lib.hid (gk_own G7.out hO HBN.out hk8)
          clear hW hO hk8 f7 q7 x7 hbs
          go_wp2
          go_roundw
          case rel =>
            have hl1 := HLT.out
            have hd1 := HDD.out
            have hw : wrap64 ((j : Int) + 1) = (j : Int) + 1 := IntWalk.wrap64_in _ ⟨by omega, by omega⟩
            exact ⟨j + 1, .slice (some ⟨g7, 0, none⟩) (L.length + 1) cap, t2, L ++ [q], HLT.out, by rw [hw]; exact congrArg _ (by omega), ER.out, BT2.out, by have := HLL.out; simp; omega, H8, P8, D8, G8, E8⟩
          case measure =>
            have hl1 := HLT.out
            have hd1 := HDD.out
            have hw : wrap64 ((j : Int) + 1) = (j : Int) + 1 := IntWalk.wrap64_in _ ⟨by omega, by omega⟩
            rw [hw]
            clear hw
            simp [intOf]; omega
      · have hje : (D + 1).toNat = j := by omega
        have hji : ¬ ((j : Nat) : Int) < D + 1 := by have := HDD.out; omega
        have hq : L = cs ∧ t = s3 := by have h1 := HLQ.out; have h3 := E3.out; rw [hje, h1] at h3; injection h3 with h1 h2; exact ⟨h1, h2⟩
        obtain ⟨rfl, rfl⟩ := hq
        obtain ⟨CP, cn, ck, rfl⟩ := HCW.out.form
        obtain ⟨rfl, hnr⟩ := HCW.out.nrl
        have HNR := Lib.hid hnr
        have HVR := Lib.hid (HV.out.gk HGR.out H0.out)
        have DNR := Lib.hid (D0.out.kept HGR.out.2)
        clear hnr hj hje hlt
        go_upto_region 5 with (fail)
        go_cut [35] from 35 to 46 (fun v35 wx => ∃ (g9 cap9 : Nat), Hid (LB wx g t [.int .i64 F, .int .i64 O, .bool (decide (a.1 < 0)), .slice A (digs a.1.natAbs).length c, .int .i64 a.2, .int .i64 W, .int .i64 Q, .int .i64 D, .slice (some ⟨g9, 0, none⟩) (ps.length + 1) cap9, .bool (decide (nx.1 < 0)), .slice B (digs nx.1.natAbs).length d, .int .i64 nx.2]) ∧ Hid (Pw wx W0.heap.size (.slice (some ⟨g9, 0, none⟩) (ps.length + 1) cap9) (ps ++ [⟨nx, xw - 128, L, er⟩])) ∧ Hid (Dg wx B d (digs nx.1.natAbs)) ∧ Hid (Gz W0.heap.size g w wx) ∧ Hid (wx.heap[pb]? = some (.cells #[.bool (decide (nx.1 < 0)), .slice B (digs nx.1.natAbs).length d, .int .i64 nx.2, .int .i64 (xw - 128), .slice CP L.length ck, .bool (decide (er.1 < 0)), .slice AE (digs er.1.natAbs).length cE, .int .i64 er.2] 46 (0, 0))))
        case first =>
          refine wp_operands_x (W := wr) rfl 0 8 6 5 [1, 2, 3, 4, 5, 6, 7] [35, 36, 37, 38, 39, 40, 41, 42] (fun i u x => match i with | 0 => u = .pointer (some ⟨g, 0, none⟩) | 1 => u = .pointer (some ⟨g, 0, none⟩) | 2 => u = .pointer (some ⟨g, 0, none⟩) | 3 => u = .pointer (some ⟨g, 2, none⟩) | 4 => u = .pointer (some ⟨g, 10, none⟩) | 5 => u = V | 6 => u = .agg #[.bool (decide (nx.1 < 0)), .slice B (digs nx.1.natAbs).length d, .int .i64 nx.2, .int .i64 (xw - 128), .slice CP L.length ck, .bool (decide (er.1 < 0)), .slice AE (digs er.1.natAbs).length cE, .int .i64 er.2] | 7 => ∃ g, u = .slice (some ⟨g, 0, none⟩) 1 1 ∧ x.heap[g]? = some (.cells #[.bool (decide (nx.1 < 0)), .slice B (digs nx.1.natAbs).length d, .int .i64 nx.2, .int .i64 (xw - 128), .slice CP L.length ck, .bool (decide (er.1 < 0)), .slice AE (digs er.1.natAbs).length cE, .int .i64 er.2] 46 (0, 0)) | _ => True)
            (by kernel_rfl) (by decide) (by decide) (by decide) (by kernel_rfl) (by kernel_rfl) (by kernel_rfl) (by decide) (by kernel_rfl) (by kernel_rfl) (by kernel_rfl) ?_ ?_ ?_
          · intro i u x x' hi hR hb'
            have hi' : i = 0 ∨ i = 1 ∨ i = 2 ∨ i = 3 ∨ i = 4 ∨ i = 5 ∨ i = 6 ∨ i = 7 := by simpa using hi
            rcases hi' with rfl | rfl | rfl | rfl | rfl | rfl | rfl | rfl
            · exact hR
            · exact hR
            · exact hR
            · exact hR
            · exact hR
            · exact hR
            · exact hR
            · obtain ⟨g, e, hg⟩ := hR; exact ⟨g, e, (hb'.block g (heap_lt hg)).trans hg⟩
          · intro i av x K hi hF hb' hw hK
            have hi' : i = 0 ∨ i = 1 ∨ i = 2 ∨ i = 3 ∨ i = 4 ∨ i = 5 ∨ i = 6 ∨ i = 7 := by simpa using hi
            rcases hi' with rfl | rfl | rfl | rfl | rfl | rfl | rfl | rfl
            · simp only [wpOp, List.getElem?_toArray, List.getElem?_cons_zero, Region.wanted, if_true]
              refine Or.inl ?_
              have e0 : av.tmps.getD 0 undef = .pointer (some ⟨g, 0, none⟩) := hF.2.2 0 (by decide)
              have e0e : av.eval (.tmp 0) = .pointer (some ⟨g, 0, none⟩) := e0
              have e0g : av.tmps[0]?.getD undef = .pointer (some ⟨g, 0, none⟩) := by have := e0; simp only [Array.getD_eq_getD_getElem?] at this; exact this
              clear hw hF
              simp only [Oper.wp, execOp]
              try simp only [e0e]
              go_simp
              exact hK _ x (by first | rfl | (simp only [Nat.add_zero]; done) | (congr 1; omega)) (Below.refl _ _)
            · simp only [wpOp, List.getElem?_toArray, List.getElem?_cons_succ, List.getElem?_cons_zero, Region.wanted, if_true]
              refine Or.inl ?_
              have e0 : av.tmps.getD 0 undef = .pointer (some ⟨g, 0, none⟩) := hF.2.2 0 (by decide)
              have e0e : av.eval (.tmp 0) = .pointer (some ⟨g, 0, none⟩) := e0
              have e0g : av.tmps[0]?.getD undef = .pointer (some ⟨g, 0, none⟩) := by have := e0; simp only [Array.getD_eq_getD_getElem?] at this; exact this
              clear hw hF
              simp only [Oper.wp, execOp]
              try simp only [e0e]
              go_simp
              exact hK _ x (by first | rfl | (simp only [Nat.add_zero]; done) | (congr 1; omega)) (Below.refl _ _)
            · simp only [wpOp, List.getElem?_toArray, List.getElem?_cons_succ, List.getElem?_cons_zero, Region.wanted, if_true]
              refine Or.inl ?_
              have e0 : av.tmps.getD 36 undef = .pointer (some ⟨g, 0, none⟩) := hw 1 (by kernel_rfl)
              have e0e : av.eval (.tmp 36) = .pointer (some ⟨g, 0, none⟩) := e0
              have e0g : av.tmps[36]?.getD undef = .pointer (some ⟨g, 0, none⟩) := by have := e0; simp only [Array.getD_eq_getD_getElem?] at this; exact this
              clear hw hF
              simp only [Oper.wp, execOp]
              try simp only [e0e]
              go_simp
              exact hK _ x (by first | rfl | (simp only [Nat.add_zero]; done) | (congr 1; omega)) (Below.refl _ _)
            · simp only [wpOp, List.getElem?_toArray, List.getElem?_cons_succ, List.getElem?_cons_zero, Region.wanted, if_true]
              refine Or.inl ?_
              have e0 : av.tmps.getD 37 undef = .pointer (some ⟨g, 0, none⟩) := hw 2 (by kernel_rfl)
              have e0e : av.eval (.tmp 37) = .pointer (some ⟨g, 0, none⟩) := e0
              have e0g : av.tmps[37]?.getD undef = .pointer (some ⟨g, 0, none⟩) := by have := e0; simp only [Array.getD_eq_getD_getElem?] at this; exact this
              clear hw hF
              simp only [Oper.wp, execOp]
              try simp only [e0e]
              go_simp
              exact hK _ x (by first | rfl | (simp only [Nat.add_zero]; done) | (congr 1; omega)) (Below.refl _ _)
            · simp only [wpOp, List.getElem?_toArray, List.getElem?_cons_succ, List.getElem?_cons_zero, Region.wanted, if_true]
              refine Or.inl ?_
              have e0 : av.tmps.getD 38 undef = .pointer (some ⟨g, 2, none⟩) := hw 3 (by kernel_rfl)
              have e0e : av.eval (.tmp 38) = .pointer (some ⟨g, 2, none⟩) := e0
              have e0g : av.tmps[38]?.getD undef = .pointer (some ⟨g, 2, none⟩) := by have := e0; simp only [Array.getD_eq_getD_getElem?] at this; exact this
              clear hw hF
              simp only [Oper.wp, execOp]
              try simp only [e0e]
              go_simp
              exact hK _ x (by first | rfl | (simp only [Nat.add_zero]; done) | (congr 1; omega)) (Below.refl _ _)
            · simp only [wpOp, List.getElem?_toArray, List.getElem?_cons_succ, List.getElem?_cons_zero, Region.wanted, if_true]
              refine Or.inl ?_
              have e0 : av.tmps.getD 39 undef = .pointer (some ⟨g, 10, none⟩) := hw 4 (by kernel_rfl)
              have e0e : av.eval (.tmp 39) = .pointer (some ⟨g, 10, none⟩) := e0
              have e0g : av.tmps[39]?.getD undef = .pointer (some ⟨g, 10, none⟩) := by have := e0; simp only [Array.getD_eq_getD_getElem?] at this; exact this
              have f10 := row_c (cells_of HLR.out hb') (i := 10) rfl
              clear hw hF
              simp only [Oper.wp, execOp]
              try simp only [e0e]
              go_simp
              exact hK _ x (by first | rfl | (simp only [Nat.add_zero]; done) | (congr 1; omega)) (Below.refl _ _)
            · simp only [wpOp, List.getElem?_toArray, List.getElem?_cons_succ, List.getElem?_cons_zero, Region.wanted, if_true]
              refine Or.inl ?_
              have e0 : av.tmps.getD 2 undef = .pointer (some ⟨pb, 0, none⟩) := hF.2.2 2 (by decide)
              have e0e : av.eval (.tmp 2) = .pointer (some ⟨pb, 0, none⟩) := e0
              have e0g : av.tmps[2]?.getD undef = .pointer (some ⟨pb, 0, none⟩) := by have := e0; simp only [Array.getD_eq_getD_getElem?] at this; exact this
              have p0 := row_c (cells_of HPR.out hb') (i := 0) rfl
              have p1 := row_c (cells_of HPR.out hb') (i := 1) rfl
              have p2 := row_c (cells_of HPR.out hb') (i := 2) rfl
              have p3 := row_c (cells_of HPR.out hb') (i := 3) rfl
              have p4 := row_c (cells_of HPR.out hb') (i := 4) rfl
              have p5 := row_c (cells_of HPR.out hb') (i := 5) rfl
              have p6 := row_c (cells_of HPR.out hb') (i := 6) rfl
              have p7 := row_c (cells_of HPR.out hb') (i := 7) rfl
              clear hw hF
              simp only [Oper.wp, execOp]
              try simp only [e0e]
              go_simp
              exact hK _ x (by first | rfl | (simp only [Nat.add_zero]; done) | (congr 1; omega)) (Below.refl _ _)
            · simp only [wpOp, List.getElem?_toArray, List.getElem?_cons_succ, List.getElem?_cons_zero, Region.wanted, if_true]
              refine Or.inl ?_
              have e0 : av.tmps.getD 41 undef = .agg #[.bool (decide (nx.1 < 0)), .slice B (digs nx.1.natAbs).length d, .int .i64 nx.2, .int .i64 (xw - 128), .slice CP L.length ck, .bool (decide (er.1 < 0)), .slice AE (digs er.1.natAbs).length cE, .int .i64 er.2] := hw 6 (by kernel_rfl)
              have e0e : av.eval (.tmp 41) = .agg #[.bool (decide (nx.1 < 0)), .slice B (digs nx.1.natAbs).length d, .int .i64 nx.2, .int .i64 (xw - 128), .slice CP L.length ck, .bool (decide (er.1 < 0)), .slice AE (digs er.1.natAbs).length cE, .int .i64 er.2] := e0
              have e0g : av.tmps[41]?.getD undef = .agg #[.bool (decide (nx.1 < 0)), .slice B (digs nx.1.natAbs).length d, .int .i64 nx.2, .int .i64 (xw - 128), .slice CP L.length ck, .bool (decide (er.1 < 0)), .slice AE (digs er.1.natAbs).length cE, .int .i64 er.2] := by have := e0; simp only [Array.getD_eq_getD_getElem?] at this; exact this
              clear hw hF
              simp only [Oper.wp, execOp]
              try simp only [e0e]
              go_simp
              exact hK _ _ ⟨_, rfl, heap_alloc_new _ _⟩ ((Below.refl _ _).alloc (Nat.le_refl _) _)
          · intro av x hF0 hb' hR
            have hF : Fr6 [35, 36, 37, 38, 39, 40, 41, 42] _ av := hF0
            have e1 : av.tmps.getD 36 undef = .pointer (some ⟨g, 0, none⟩) := hR 1 (by decide)
            have e2 : av.tmps.getD 37 undef = .pointer (some ⟨g, 0, none⟩) := hR 2 (by decide)
            have e3 : av.tmps.getD 38 undef = .pointer (some ⟨g, 2, none⟩) := hR 3 (by decide)
            have e4 : av.tmps.getD 39 undef = .pointer (some ⟨g, 10, none⟩) := hR 4 (by decide)
            have e5 : av.tmps.getD 40 undef = V := hR 5 (by decide)
            have e6 : av.tmps.getD 41 undef = .agg #[.bool (decide (nx.1 < 0)), .slice B (digs nx.1.natAbs).length d, .int .i64 nx.2, .int .i64 (xw - 128), .slice CP L.length ck, .bool (decide (er.1 < 0)), .slice AE (digs er.1.natAbs).length cE, .int .i64 er.2] := hR 6 (by decide)
            obtain ⟨gg7, e7, hg7⟩ := hR 7 (by decide)
            replace e7 : av.tmps.getD 42 undef = .slice (some ⟨gg7, 0, none⟩) 1 1 := e7
            refine ⟨fun f => ?_, fun hx f => ?_⟩
            · rw [hF.fold (by kernel_rfl)]
              simp only [List.foldl_cons, List.foldl_nil, e1, e2, e3, e4, e5, e6, e7]
              generalize av.tmps.getD 35 undef = vx at *
              simp only [Act.put, List.setIfInBounds_toArray, List.set_cons_zero, List.set_cons_succ]
              clear e1 e2 e3 e4 e5 e6 e7 hR hF hF0
              change wpAny _ _ _ _ (f + 6) _ _ _
              have HBX := Lib.hid hg7
              have LX := Lib.hid (show LB x g t [.int .i64 F, .int .i64 O, .bool (decide (a.1 < 0)), .slice A (digs a.1.natAbs).length c, .int .i64 a.2, .int .i64 W, .int .i64 Q, .int .i64 D, V, .bool (decide (nx.1 < 0)), .slice B (digs nx.1.natAbs).length d, .int .i64 nx.2] from cells_of HLR.out hb')
              have PX := Lib.hid (cells_of HPR.out hb')
              have VX := Lib.hid ((HVR.out).gk ⟨grow_below hb', Kept.below hb'⟩ HLR.out)
              have NX := Lib.hid (HNR.out.gz (Gz.below (N := W0.heap.size) (g := g) hb') HLR.out (by decide))
              have AX := Lib.hid (DNR.out.below hb')
              have EX := Lib.hid (HDR2.out.below hb')
              have ZX := Lib.hid ((Gz.grown (N := W0.heap.size) HGR.out.1 HGR.out.2).trans (Gz.below hb'))
              have SX := Lib.hid (Nat.le_trans HGR.out.1.size hb'.size)
              have hbs : W0.heap.size ≤ x.heap.size := Nat.le_trans (Nat.le_trans HG.out (Nat.le_of_lt GN.out)) SX.out
              clear hb' hg7
              refine wpAny_go2 (fuel := f + 5) (i := 0) (j := 8) (by kernel_rfl) ?_ ?_
              · simp only [wpOp, List.getElem?_toArray, List.getElem?_cons_succ, List.getElem?_cons_zero, Region.wanted, if_true]
                refine Or.inl ?_
                simp only [Oper.wp, execOp]
                go_simp
                refine wpAny_go1 (fuel := f + 4) (i := 8) (by kernel_rfl) ?_
                simp only [wpOp, List.getElem?_toArray, List.getElem?_cons_succ, List.getElem?_cons_zero, Region.wanted, if_true]
                refine Or.inl ?_
                refine wp_append_pc (.tmp 40) (.tmp 42) rfl W0.heap.size g V ps ⟨nx, xw - 128, L, er⟩ gg7 _ 1 _ _ _ _ _ _ rfl VX.out HBX.out AX.out NX.out EX.out rfl (by have := HN.out; omega) hbs LX.out (by decide) ?_
                intro g9 cap9 w9 hpw hgr hgz
                have hvg : V.ownBlock ≠ some g := VX.out.neT LX.out (by decide)
                have L9 := Lib.hid (show LB w9 g t [.int .i64 F, .int .i64 O, .bool (decide (a.1 < 0)), .slice A (digs a.1.natAbs).length c, .int .i64 a.2, .int .i64 W, .int .i64 Q, .int .i64 D, V, .bool (decide (nx.1 < 0)), .slice B (digs nx.1.natAbs).length d, .int .i64 nx.2] from (hgr.block g (heap_lt LX.out) (fun e => hvg e.symm)).trans LX.out)
                have P9 := Lib.hid ((hgr.block pb (heap_lt PX.out) (fun e => by have := (HV.out.lt e.symm).2; have := HBN.out; omega)).trans PX.out)
                have V9 := Lib.hid hpw
                have A9 := Lib.hid (AX.out.kept hgz.1)
                have Z9 := Lib.hid (ZX.out.trans hgz)
                clear hpw hgr hgz hvg hbs
                have f9 := row_c (i := 10) L9.out rfl
                have q9 := frozen_of_row _ _ 10 _ _ L9.out
                have x9 := heap_lt L9.out
                refine wpAny_go1 (fuel := f + 3) (i := 9) (by kernel_rfl) ?_
                simp only [wpOp, List.getElem?_toArray, List.getElem?_cons_succ, List.getElem?_cons_zero, Region.wanted, if_true]
                refine Or.inl ?_
                simp only [Oper.wp, execOp]
                go_simp
                refine wpAny_go1 (fuel := f + 2) (i := 10) (by kernel_rfl) ?_
                simp only [wpOp, List.getElem?_toArray, List.getElem?_cons_succ, List.getElem?_cons_zero, Region.wanted, if_true]
                refine Or.inl ?_
                simp only [Oper.wp, execOp]
                go_simp
                refine wpAny_go1 (fuel := f + 1) (i := 11) (by kernel_rfl) ?_
                simp only [wpOp, List.getElem?_toArray, List.getElem?_cons_succ, List.getElem?_cons_zero, Region.wanted, if_true]
                refine Or.inl ?_
                simp only [Oper.wp, execOp]
                go_simp
                refine wpAny_go1 (fuel := f + 0) (i := 12) (by kernel_rfl) ?_
                simp only [wpOp, List.getElem?_toArray, List.getElem?_cons_succ, List.getElem?_cons_zero, Region.wanted, if_true]
                refine Or.inl ?_
                simp only [Oper.wp, execOp]
                go_simp
                refine wpAny_end (by kernel_rfl) ?_
                obtain ⟨w10, hW⟩ : ∃ V : World, w9.setCell ⟨g, 10, none⟩ (.slice (some ⟨g9, 0, none⟩) (ps.length + 1) cap9) = V := ⟨_, rfl⟩
                rw [hW]
                have hO : Only g w9 w10 := by rw [← hW]; exact (Only.refl g w9).setCell 10 _
                have hk10 := hO.kept L9.out (noint_rs HZ.out)
                have L10 := Lib.hid (show LB w10 g t [.int .i64 F, .int .i64 O, .bool (decide (a.1 < 0)), .slice A (digs a.1.natAbs).length c, .int .i64 a.2, .int .i64 W, .int .i64 Q, .int .i64 D, .slice (some ⟨g9, 0, none⟩) (ps.length + 1) cap9, .bool (decide (nx.1 < 0)), .slice B (digs nx.1.natAbs).length d, .int .i64 nx.2] by rw [← hW]; exact L9.out.setr 8 _)
                have gk10 : w9.grownBy w10 (some g) ∧ Kept w9 w10 := ⟨by rw [← hW]; exact grow_set _ _ _ _, hk10⟩
                have V10 := Lib.hid (V9.out.gk gk10 L9.out)
                have A10 := Lib.hid (A9.out.kept hk10)
                have Z10 := Lib.hid (Z9.out.trans (Gz.grown gk10.1 gk10.2))
                have P10 := Lib.hid ((hO.block pb NE.out).trans P9.out)
                clear hW hO hk10 gk10 f9 q9 x9
                go_wp2_with fail
                go_meet
                exact ⟨g9, cap9, L10, V10, A10, Z10, P10⟩
              · simp only [wpOp, List.getElem?_toArray, List.getElem?_cons_succ, List.getElem?_cons_zero, Region.wanted, if_true]
                refine Or.inl ?_
                refine wp_append_pc (.tmp 40) (.tmp 42) rfl W0.heap.size g V ps ⟨nx, xw - 128, L, er⟩ gg7 _ 1 _ _ _ _ _ _ rfl VX.out HBX.out AX.out NX.out EX.out rfl (by have := HN.out; omega) hbs LX.out (by decide) ?_
                intro g9 cap9 w9 hpw hgr hgz
                have hvg : V.ownBlock ≠ some g := VX.out.neT LX.out (by decide)
                have L9 := Lib.hid (show LB w9 g t [.int .i64 F, .int .i64 O, .bool (decide (a.1 < 0)), .slice A (digs a.1.natAbs).length c, .int .i64 a.2, .int .i64 W, .int .i64 Q, .int .i64 D, V, .bool (decide (nx.1 < 0)), .slice B (digs nx.1.natAbs).length d, .int .i64 nx.2] from (hgr.block g (heap_lt LX.out) (fun e => hvg e.symm)).trans LX.out)
                have P9 := Lib.hid ((hgr.block pb (heap_lt PX.out) (fun e => by have := (HV.out.lt e.symm).2; have := HBN.out; omega)).trans PX.out)
                have V9 := Lib.hid hpw
                have A9 := Lib.hid (AX.out.kept hgz.1)
                have Z9 := Lib.hid (ZX.out.trans hgz)
                clear hpw hgr hgz hvg hbs
                have f9 := row_c (i := 10) L9.out rfl
                have q9 := frozen_of_row _ _ 10 _ _ L9.out
                have x9 := heap_lt L9.out
                refine wpAny_go1 (fuel := f + 4) (i := 0) (by kernel_rfl) ?_
                simp only [wpOp, List.getElem?_toArray, List.getElem?_cons_succ, List.getElem?_cons_zero, Region.wanted, if_true]
                refine Or.inl ?_
                simp only [Oper.wp, execOp]
                go_simp
                refine wpAny_go1 (fuel := f + 3) (i := 9) (by kernel_rfl) ?_
                simp only [wpOp, List.getElem?_toArray, List.getElem?_cons_succ, List.getElem?_cons_zero, Region.wanted, if_true]
                refine Or.inl ?_
                simp only [Oper.wp, execOp]
                go_simp
                refine wpAny_go1 (fuel := f + 2) (i := 10) (by kernel_rfl) ?_
                simp only [wpOp, List.getElem?_toArray, List.getElem?_cons_succ, List.getElem?_cons_zero, Region.wanted, if_true]
                refine Or.inl ?_
                simp only [Oper.wp, execOp]
                go_simp
                refine wpAny_go1 (fuel := f + 1) (i := 11) (by kernel_rfl) ?_
                simp only [wpOp, List.getElem?_toArray, List.getElem?_cons_succ, List.getElem?_cons_zero, Region.wanted, if_true]
                refine Or.inl ?_
                simp only [Oper.wp, execOp]
                go_simp
                refine wpAny_go1 (fuel := f + 0) (i := 12) (by kernel_rfl) ?_
                simp only [wpOp, List.getElem?_toArray, List.getElem?_cons_succ, List.getElem?_cons_zero, Region.wanted, if_true]
                refine Or.inl ?_
                simp only [Oper.wp, execOp]
                go_simp
                refine wpAny_end (by kernel_rfl) ?_
                obtain ⟨w10, hW⟩ : ∃ V : World, w9.setCell ⟨g, 10, none⟩ (.slice (some ⟨g9, 0, none⟩) (ps.length + 1) cap9) = V := ⟨_, rfl⟩
                rw [hW]
                have hO : Only g w9 w10 := by rw [← hW]; exact (Only.refl g w9).setCell 10 _
                have hk10 := hO.kept L9.out (noint_rs HZ.out)
                have L10 := Lib.hid (show LB w10 g t [.int .i64 F, .int .i64 O, .bool (decide (a.1 < 0)), .slice A (digs a.1.natAbs).length c, .int .i64 a.2, .int .i64 W, .int .i64 Q, .int .i64 D, .slice (some ⟨g9, 0, none⟩) (ps.length + 1) cap9, .bool (decide (nx.1 < 0)), .slice B (digs nx.1.natAbs).length d, .int .i64 nx.2] by rw [← hW]; exact L9.out.setr 8 _)
                have gk10 : w9.grownBy w10 (some g) ∧ Kept w9 w10 := ⟨by rw [← hW]; exact grow_set _ _ _ _, hk10⟩
                have V10 := Lib.hid (V9.out.gk gk10 L9.out)
                have A10 := Lib.hid (A9.out.kept hk10)
                have Z10 := Lib.hid (Z9.out.trans (Gz.grown gk10.1 gk10.2))
                have P10 := Lib.hid ((hO.block pb NE.out).trans P9.out)
                clear hW hO hk10 gk10 f9 q9 x9
                go_wp2_with fail
                go_meet
                exact ⟨g9, cap9, L10, V10, A10, Z10, P10⟩
            · have e0 : av.tmps.getD 35 undef = .pointer (some ⟨g, 0, none⟩) := hx
              rw [hF.fold (by kernel_rfl)]
              simp only [List.foldl_cons, List.foldl_nil, e1, e2, e3, e4, e5, e6, e7, e0]
              simp only [Act.put, List.setIfInBounds_toArray, List.set_cons_zero, List.set_cons_succ]
              clear e1 e2 e3 e4 e5 e6 e7 e0 hR hF hF0 hx
              change wpAny _ _ _ _ (f + 5) _ _ _
              have HBX := Lib.hid hg7
              have LX := Lib.hid (show LB x g t [.int .i64 F, .int .i64 O, .bool (decide (a.1 < 0)), .slice A (digs a.1.natAbs).length c, .int .i64 a.2, .int .i64 W, .int .i64 Q, .int .i64 D, V, .bool (decide (nx.1 < 0)), .slice B (digs nx.1.natAbs).length d, .int .i64 nx.2] from cells_of HLR.out hb')
              have PX := Lib.hid (cells_of HPR.out hb')
              have VX := Lib.hid ((HVR.out).gk ⟨grow_below hb', Kept.below hb'⟩ HLR.out)
              have NX := Lib.hid (HNR.out.gz (Gz.below (N := W0.heap.size) (g := g) hb') HLR.out (by decide))
              have AX := Lib.hid (DNR.out.below hb')
              have EX := Lib.hid (HDR2.out.below hb')
              have ZX := Lib.hid ((Gz.grown (N := W0.heap.size) HGR.out.1 HGR.out.2).trans (Gz.below hb'))
              have SX := Lib.hid (Nat.le_trans HGR.out.1.size hb'.size)
              have hbs : W0.heap.size ≤ x.heap.size := Nat.le_trans (Nat.le_trans HG.out (Nat.le_of_lt GN.out)) SX.out
              clear hb' hg7
              refine wpAny_go1 (fuel := f + 4) (i := 8) (by kernel_rfl) ?_
              simp only [wpOp, List.getElem?_toArray, List.getElem?_cons_succ, List.getElem?_cons_zero, Region.wanted, if_true]
              refine Or.inl ?_
              refine wp_append_pc (.tmp 40) (.tmp 42) rfl W0.heap.size g V ps ⟨nx, xw - 128, L, er⟩ gg7 _ 1 _ _ _ _ _ _ rfl VX.out HBX.out AX.out NX.out EX.out rfl (by have := HN.out; omega) hbs LX.out (by decide) ?_
              intro g9 cap9 w9 hpw hgr hgz
              have hvg : V.ownBlock ≠ some g := VX.out.neT LX.out (by decide)
              have L9 := Lib.hid (show LB w9 g t [.int .i64 F, .int .i64 O, .bool (decide (a.1 < 0)), .slice A (digs a.1.natAbs).length c, .int .i64 a.2, .int .i64 W, .int .i64 Q, .int .i64 D, V, .bool (decide (nx.1 < 0)), .slice B (digs nx.1.natAbs).length d, .int .i64 nx.2] from (hgr.block g (heap_lt LX.out) (fun e => hvg e.symm)).trans LX.out)
              have P9 := Lib.hid ((hgr.block pb (heap_lt PX.out) (fun e => by have := (HV.out.lt e.symm).2; have := HBN.out; omega)).trans PX.out)
              have V9 := Lib.hid hpw
              have A9 := Lib.hid (AX.out.kept hgz.1)
              have Z9 := Lib.hid (ZX.out.trans hgz)
              clear hpw hgr hgz hvg hbs
              have f9 := row_c (i := 10) L9.out rfl
              have q9 := frozen_of_row _ _ 10 _ _ L9.out
              have x9 := heap_lt L9.out
              refine wpAny_go1 (fuel := f + 3) (i := 9) (by kernel_rfl) ?_
              simp only [wpOp, List.getElem?_toArray, List.getElem?_cons_succ, List.getElem?_cons_zero, Region.wanted, if_true]
              refine Or.inl ?_
              simp only [Oper.wp, execOp]
              go_simp
              refine wpAny_go1 (fuel := f + 2) (i := 10) (by kernel_rfl) ?_
              simp only [wpOp, List.getElem?_toArray, List.getElem?_cons_succ, List.getElem?_cons_zero, Region.wanted, if_true]
              refine Or.inl ?_
              simp only [Oper.wp, execOp]
              go_simp
              refine wpAny_go1 (fuel := f + 1) (i := 11) (by kernel_rfl) ?_
              simp only [wpOp, List.getElem?_toArray, List.getElem?_cons_succ, List.getElem?_cons_zero, Region.wanted, if_true]
              refine Or.inl ?_
              simp only [Oper.wp, execOp]
              go_simp
              refine wpAny_go1 (fuel := f + 0) (i := 12) (by kernel_rfl) ?_
              simp only [wpOp, List.getElem?_toArray, List.getElem?_cons_succ, List.getElem?_cons_zero, Region.wanted, if_true]
              refine Or.inl ?_
              simp only [Oper.wp, execOp]
              go_simp
              refine wpAny_end (by kernel_rfl) ?_
              obtain ⟨w10, hW⟩ : ∃ V : World, w9.setCell ⟨g, 10, none⟩ (.slice (some ⟨g9, 0, none⟩) (ps.length + 1) cap9) = V := ⟨_, rfl⟩
              rw [hW]
              have hO : Only g w9 w10 := by rw [← hW]; exact (Only.refl g w9).setCell 10 _
              have hk10 := hO.kept L9.out (noint_rs HZ.out)
              have L10 := Lib.hid (show LB w10 g t [.int .i64 F, .int .i64 O, .bool (decide (a.1 < 0)), .slice A (digs a.1.natAbs).length c, .int .i64 a.2, .int .i64 W, .int .i64 Q, .int .i64 D, .slice (some ⟨g9, 0, none⟩) (ps.length + 1) cap9, .bool (decide (nx.1 < 0)), .slice B (digs nx.1.natAbs).length d, .int .i64 nx.2] by rw [← hW]; exact L9.out.setr 8 _)
              have gk10 : w9.grownBy w10 (some g) ∧ Kept w9 w10 := ⟨by rw [← hW]; exact grow_set _ _ _ _, hk10⟩
              have V10 := Lib.hid (V9.out.gk gk10 L9.out)
              have A10 := Lib.hid (A9.out.kept hk10)
              have Z10 := Lib.hid (Z9.out.trans (Gz.grown gk10.1 gk10.2))
              have P10 := Lib.hid ((hO.block pb NE.out).trans P9.out)
              clear hW hO hk10 gk10 f9 q9 x9
              go_wp2_with fail
              go_meet
              exact ⟨g9, cap9, L10, V10, A10, Z10, P10⟩
        case rest =>
          obtain ⟨g9, cap9, L10, V10, A10, Z10, P10⟩ := hcut
          obtain ⟨w10, hwl⟩ : ∃ x : World, wc = x := ⟨_, rfl⟩
          subst wc
          have BB10 := Lib.hid (Z10.out.base HBW.out HBW.out.size HG.out)
          have T10 := Lib.hid (t32_below HT.out BB10.out)
          have NZ10 := Lib.hid (show ∀ u, u ∈ ([.int .i64 F, .int .i64 O, .bool (decide (a.1 < 0)), .slice A (digs a.1.natAbs).length c, .int .i64 a.2, .int .i64 W, .int .i64 Q, .int .i64 D, .slice (some ⟨g9, 0, none⟩) (ps.length + 1) cap9, .bool (decide (nx.1 < 0)), .slice B (digs nx.1.natAbs).length d, .int .i64 nx.2] : List Value) → ∀ n : Int, u ≠ .int .u32 n by intro u hu n e; subst e; simp at hu)
          clear HLR HPR HCW HGR HDR2 HVR DNR
          go_upto_region 6 with (fail)
          obtain ⟨tt, htt⟩ : ∃ t : Int, t = 1 := ⟨_, rfl⟩
          obtain ⟨M, EE, VE, his, htot⟩ := nxt_is nx.1 nx.2 (xw - 128) E4.out
          rw [← htt] at his
          have HIS := Lib.hid his
          have HTOT := Lib.hid htot
          have HTT := Lib.hid htt
          have RTT := Lib.hid (show Rt tt (xw - 128) by have := B1.out; subst htt; exact ⟨.inr rfl, by omega, by omega⟩)
          have LTT := Lib.hid (show (digs tt.natAbs).length ≤ 10000 by subst htt; exact Nat.le_trans (digs_small (by decide)) (by decide))
          clear his htot htt
          refine wp_operands_x (W := w10) rfl 11 12 4 3 [0, 1, 2, 3, 4, 5, 6, 7, 8, 9, 10] [48, 49, 50, 51, 52, 53, 54, 55, 56, 47, 57, 58] (fun i u x => match i with | 11 => u = .int .i64 VE | 0 => u = .pointer (some ⟨g, 0, none⟩) | 1 => u = .pointer (some ⟨g, 0, none⟩) | 2 => u = .pointer (some ⟨g, 0, none⟩) | 3 => u = .pointer (some ⟨g, 11, none⟩) | 4 => u = .agg #[.bool (decide (nx.1 < 0)), .slice B (digs nx.1.natAbs).length d, .int .i64 nx.2] | 5 => u = .pointer (some ⟨pb, 3, none⟩) | 6 => u = .int .i64 (xw - 128) | 7 => ∃ A3 c3, u = .agg #[.bool (decide (tt < 0)), .slice A3 (digs tt.natAbs).length c3, .int .i64 (xw - 128)] ∧ Dg x A3 c3 (digs tt.natAbs) | 8 => ∃ A3 c3, u = .tuple #[.agg #[.bool (decide (nx2.1 < 0)), .slice A3 (digs nx2.1.natAbs).length c3, .int .i64 nx2.2], .int .i64 VE] ∧ Dg x A3 c3 (digs nx2.1.natAbs) | 9 => ∃ A3 c3, u = .tuple #[.agg #[.bool (decide (nx2.1 < 0)), .slice A3 (digs nx2.1.natAbs).length c3, .int .i64 nx2.2], .int .i64 VE] ∧ Dg x A3 c3 (digs nx2.1.natAbs) | 10 => ∃ A3 c3, u = .agg #[.bool (decide (nx2.1 < 0)), .slice A3 (digs nx2.1.natAbs).length c3, .int .i64 nx2.2] ∧ Dg x A3 c3 (digs nx2.1.natAbs) | _ => True)
            (by kernel_rfl) (by decide) (by decide) (by decide) (by kernel_rfl) (by kernel_rfl) (by kernel_rfl) (by decide) (by kernel_rfl) (by kernel_rfl) (by kernel_rfl) ?_ ?_ ?_
          · intro i u x x' hi hR hb'
            have hi' : i = 11 ∨ i = 0 ∨ i = 1 ∨ i = 2 ∨ i = 3 ∨ i = 4 ∨ i = 5 ∨ i = 6 ∨ i = 7 ∨ i = 8 ∨ i = 9 ∨ i = 10 := by simpa using hi
            rcases hi' with rfl | rfl | rfl | rfl | rfl | rfl | rfl | rfl | rfl | rfl | rfl | rfl
            · exact hR
            · exact hR
            · exact hR
            · exact hR
            · exact hR
            · exact hR
            · exact hR
            · exact hR
            · obtain ⟨A3, c3, e, hd⟩ := hR; exact ⟨A3, c3, e, hd.below hb'⟩
            · obtain ⟨A3, c3, e, hd⟩ := hR; exact ⟨A3, c3, e, hd.below hb'⟩
            · obtain ⟨A3, c3, e, hd⟩ := hR; exact ⟨A3, c3, e, hd.below hb'⟩
            · obtain ⟨A3, c3, e, hd⟩ := hR; exact ⟨A3, c3, e, hd.below hb'⟩
          · intro i av x K hi hF hb' hw hK
            have hi' : i = 11 ∨ i = 0 ∨ i = 1 ∨ i = 2 ∨ i = 3 ∨ i = 4 ∨ i = 5 ∨ i = 6 ∨ i = 7 ∨ i = 8 ∨ i = 9 ∨ i = 10 := by simpa using hi
            rcases hi' with rfl | rfl | rfl | rfl | rfl | rfl | rfl | rfl | rfl | rfl | rfl | rfl
            · simp only [wpOp, List.getElem?_toArray, List.getElem?_cons_succ, List.getElem?_cons_zero, Region.wanted, if_true]
              refine Or.inl ?_
              obtain ⟨A3_0, c3_0, e0, hd0⟩ := hw 9 (by kernel_rfl)
              have e0e : av.eval (.tmp 47) = .tuple #[.agg #[.bool (decide (nx2.1 < 0)), .slice A3_0 (digs nx2.1.natAbs).length c3_0, .int .i64 nx2.2], .int .i64 VE] := e0
              have e0g : av.tmps[47]?.getD undef = .tuple #[.agg #[.bool (decide (nx2.1 < 0)), .slice A3_0 (digs nx2.1.natAbs).length c3_0, .int .i64 nx2.2], .int .i64 VE] := by have := e0; simp only [Array.getD_eq_getD_getElem?] at this; exact this
              clear hw hF
              simp only [Oper.wp, execOp]
              try simp only [e0e]
              go_simp
              exact hK _ x (by first | rfl | (simp only [Nat.add_zero]; done) | (congr 1; omega)) (Below.refl _ _)
            · simp only [wpOp, List.getElem?_toArray, List.getElem?_cons_zero, Region.wanted, if_true]
              refine Or.inl ?_
              have e0 : av.tmps.getD 0 undef = .pointer (some ⟨g, 0, none⟩) := hF.2.2 0 (by decide)
              have e0e : av.eval (.tmp 0) = .pointer (some ⟨g, 0, none⟩) := e0
              have e0g : av.tmps[0]?.getD undef = .pointer (some ⟨g, 0, none⟩) := by have := e0; simp only [Array.getD_eq_getD_getElem?] at this; exact this
              clear hw hF
              simp only [Oper.wp, execOp]
              try simp only [e0e]
              go_simp
              exact hK _ x (by first | rfl | (simp only [Nat.add_zero]; done) | (congr 1; omega)) (Below.refl _ _)
            · simp only [wpOp, List.getElem?_toArray, List.getElem?_cons_succ, List.getElem?_cons_zero, Region.wanted, if_true]
              refine Or.inl ?_
              have e0 : av.tmps.getD 0 undef = .pointer (some ⟨g, 0, none⟩) := hF.2.2 0 (by decide)
              have e0e : av.eval (.tmp 0) = .pointer (some ⟨g, 0, none⟩) := e0
              have e0g : av.tmps[0]?.getD undef = .pointer (some ⟨g, 0, none⟩) := by have := e0; simp only [Array.getD_eq_getD_getElem?] at this; exact this
              clear hw hF
              simp only [Oper.wp, execOp]
              try simp only [e0e]
              go_simp
              exact hK _ x (by first | rfl | (simp only [Nat.add_zero]; done) | (congr 1; omega)) (Below.refl _ _)
            · simp only [wpOp, List.getElem?_toArray, List.getElem?_cons_succ, List.getElem?_cons_zero, Region.wanted, if_true]
              refine Or.inl ?_
              have e0 : av.tmps.getD 49 undef = .pointer (some ⟨g, 0, none⟩) := hw 1 (by kernel_rfl)
              have e0e : av.eval (.tmp 49) = .pointer (some ⟨g, 0, none⟩) := e0
              have e0g : av.tmps[49]?.getD undef = .pointer (some ⟨g, 0, none⟩) := by have := e0; simp only [Array.getD_eq_getD_getElem?] at this; exact this
              clear hw hF
              simp only [Oper.wp, execOp]
              try simp only [e0e]
              go_simp
              exact hK _ x (by first | rfl | (simp only [Nat.add_zero]; done) | (congr 1; omega)) (Below.refl _ _)
            · simp only [wpOp, List.getElem?_toArray, List.getElem?_cons_succ, List.getElem?_cons_zero, Region.wanted, if_true]
              refine Or.inl ?_
              have e0 : av.tmps.getD 50 undef = .pointer (some ⟨g, 0, none⟩) := hw 2 (by kernel_rfl)
              have e0e : av.eval (.tmp 50) = .pointer (some ⟨g, 0, none⟩) := e0
              have e0g : av.tmps[50]?.getD undef = .pointer (some ⟨g, 0, none⟩) := by have := e0; simp only [Array.getD_eq_getD_getElem?] at this; exact this
              clear hw hF
              simp only [Oper.wp, execOp]
              try simp only [e0e]
              go_simp
              exact hK _ x (by first | rfl | (simp only [Nat.add_zero]; done) | (congr 1; omega)) (Below.refl _ _)
            · simp only [wpOp, List.getElem?_toArray, List.getElem?_cons_succ, List.getElem?_cons_zero, Region.wanted, if_true]
              refine Or.inl ?_
              have e0 : av.tmps.getD 51 undef = .pointer (some ⟨g, 11, none⟩) := hw 3 (by kernel_rfl)
              have e0e : av.eval (.tmp 51) = .pointer (some ⟨g, 11, none⟩) := e0
              have e0g : av.tmps[51]?.getD undef = .pointer (some ⟨g, 11, none⟩) := by have := e0; simp only [Array.getD_eq_getD_getElem?] at this; exact this
              have f0 := row_c (cells_of L10.out hb') (i := 11) rfl
              have f1 := row_c (cells_of L10.out hb') (i := 12) rfl
              have f2 := row_c (cells_of L10.out hb') (i := 13) rfl
              clear hw hF
              simp only [Oper.wp, execOp]
              try simp only [e0e]
              go_simp
              exact hK _ x (by first | rfl | (simp only [Nat.add_zero]; done) | (congr 1; omega)) (Below.refl _ _)
            · simp only [wpOp, List.getElem?_toArray, List.getElem?_cons_succ, List.getElem?_cons_zero, Region.wanted, if_true]
              refine Or.inl ?_
              have e0 : av.tmps.getD 2 undef = .pointer (some ⟨pb, 0, none⟩) := hF.2.2 2 (by decide)
              have e0e : av.eval (.tmp 2) = .pointer (some ⟨pb, 0, none⟩) := e0
              have e0g : av.tmps[2]?.getD undef = .pointer (some ⟨pb, 0, none⟩) := by have := e0; simp only [Array.getD_eq_getD_getElem?] at this; exact this
              clear hw hF
              simp only [Oper.wp, execOp]
              try simp only [e0e]
              go_simp
              exact hK _ x (by first | rfl | (simp only [Nat.add_zero]; done) | (congr 1; omega)) (Below.refl _ _)
            · simp only [wpOp, List.getElem?_toArray, List.getElem?_cons_succ, List.getElem?_cons_zero, Region.wanted, if_true]
              refine Or.inl ?_
              have e0 : av.tmps.getD 53 undef = .pointer (some ⟨pb, 3, none⟩) := hw 5 (by kernel_rfl)
              have e0e : av.eval (.tmp 53) = .pointer (some ⟨pb, 3, none⟩) := e0
              have e0g : av.tmps[53]?.getD undef = .pointer (some ⟨pb, 3, none⟩) := by have := e0; simp only [Array.getD_eq_getD_getElem?] at this; exact this
              have f3 := row_c (cells_of P10.out hb') (i := 3) rfl
              clear hw hF
              simp only [Oper.wp, execOp]
              try simp only [e0e]
              go_simp
              exact hK _ x (by first | rfl | (simp only [Nat.add_zero]; done) | (congr 1; omega)) (Below.refl _ _)
            · simp only [wpOp, List.getElem?_toArray, List.getElem?_cons_succ, List.getElem?_cons_zero, Region.wanted, if_true]
              refine Or.inl ?_
              have e0 : av.tmps.getD 54 undef = .int .i64 (xw - 128) := hw 6 (by kernel_rfl)
              have e0e : av.eval (.tmp 54) = .int .i64 (xw - 128) := e0
              have e0g : av.tmps[54]?.getD undef = .int .i64 (xw - 128) := by have := e0; simp only [Array.getD_eq_getD_getElem?] at this; exact this
              clear hw hF
              simp only [Oper.wp, execOp]
              try simp only [e0e]
              go_simp
              refine (half_u (xw - 128) tt x (t32_below T10.out hb') (by have := B1.out; omega) (by have := B1.out; omega) HTT.out).mono ?_
              rintro e y ⟨A3, c3, rfl, hd, hbb⟩
              exact hK _ y ⟨A3, c3, rfl, hd⟩ hbb
            · simp only [wpOp, List.getElem?_toArray, List.getElem?_cons_succ, List.getElem?_cons_zero, Region.wanted, if_true]
              refine Or.inl ?_
              have e0 : av.tmps.getD 52 undef = .agg #[.bool (decide (nx.1 < 0)), .slice B (digs nx.1.natAbs).length d, .int .i64 nx.2] := hw 4 (by kernel_rfl)
              have e0e : av.eval (.tmp 52) = .agg #[.bool (decide (nx.1 < 0)), .slice B (digs nx.1.natAbs).length d, .int .i64 nx.2] := e0
              have e0g : av.tmps[52]?.getD undef = .agg #[.bool (decide (nx.1 < 0)), .slice B (digs nx.1.natAbs).length d, .int .i64 nx.2] := by have := e0; simp only [Array.getD_eq_getD_getElem?] at this; exact this
              obtain ⟨A3_1, c3_1, e1, hd1⟩ := hw 7 (by kernel_rfl)
              have e1e : av.eval (.tmp 55) = .agg #[.bool (decide (tt < 0)), .slice A3_1 (digs tt.natAbs).length c3_1, .int .i64 (xw - 128)] := e1
              have e1g : av.tmps[55]?.getD undef = .agg #[.bool (decide (tt < 0)), .slice A3_1 (digs tt.natAbs).length c3_1, .int .i64 (xw - 128)] := by have := e1; simp only [Array.getD_eq_getD_getElem?] at this; exact this
              clear hw hF
              simp only [Oper.wp, execOp]
              try simp only [e0e, e1e]
              go_simp
              refine (tadd (A10.out.below hb') hd1 HR.out.2 LTT.out HR.out.1 RTT.out (t32_below T10.out hb') HIS.out HTOT.out).mono ?_
              rintro e y ⟨A3, c3, rfl, hd, hbb⟩
              exact hK _ y ⟨A3, c3, rfl, hd⟩ hbb
            · simp only [wpOp, List.getElem?_toArray, List.getElem?_cons_succ, List.getElem?_cons_zero, Region.wanted, if_true]
              refine Or.inl ?_
              obtain ⟨A3_0, c3_0, e0, hd0⟩ := hw 8 (by kernel_rfl)
              have e0e : av.eval (.tmp 56) = .tuple #[.agg #[.bool (decide (nx2.1 < 0)), .slice A3_0 (digs nx2.1.natAbs).length c3_0, .int .i64 nx2.2], .int .i64 VE] := e0
              have e0g : av.tmps[56]?.getD undef = .tuple #[.agg #[.bool (decide (nx2.1 < 0)), .slice A3_0 (digs nx2.1.natAbs).length c3_0, .int .i64 nx2.2], .int .i64 VE] := by have := e0; simp only [Array.getD_eq_getD_getElem?] at this; exact this
              clear hw hF
              simp only [Oper.wp, execOp]
              try simp only [e0e]
              go_simp
              exact hK _ x ⟨_, _, rfl, hd0⟩ (Below.refl _ _)
            · simp only [wpOp, List.getElem?_toArray, List.getElem?_cons_succ, List.getElem?_cons_zero, Region.wanted, if_true]
              refine Or.inl ?_
              obtain ⟨A3_0, c3_0, e0, hd0⟩ := hw 9 (by kernel_rfl)
              have e0e : av.eval (.tmp 47) = .tuple #[.agg #[.bool (decide (nx2.1 < 0)), .slice A3_0 (digs nx2.1.natAbs).length c3_0, .int .i64 nx2.2], .int .i64 VE] := e0
              have e0g : av.tmps[47]?.getD undef = .tuple #[.agg #[.bool (decide (nx2.1 < 0)), .slice A3_0 (digs nx2.1.natAbs).length c3_0, .int .i64 nx2.2], .int .i64 VE] := by have := e0; simp only [Array.getD_eq_getD_getElem?] at this; exact this
              clear hw hF
              simp only [Oper.wp, execOp]
              try simp only [e0e]
              go_simp
              exact hK _ x ⟨_, _, rfl, hd0⟩ (Below.refl _ _)
          · intro av x hF0 hb' hR
            have hF : Fr6 [58, 48, 49, 50, 51, 52, 53, 54, 55, 56, 47, 57] _ av := hF0
            have e0 : av.tmps.getD 48 undef = .pointer (some ⟨g, 0, none⟩) := hR 0 (by decide)
            have e1 : av.tmps.getD 49 undef = .pointer (some ⟨g, 0, none⟩) := hR 1 (by decide)
            have e2 : av.tmps.getD 50 undef = .pointer (some ⟨g, 0, none⟩) := hR 2 (by decide)
            have e3 : av.tmps.getD 51 undef = .pointer (some ⟨g, 11, none⟩) := hR 3 (by decide)
            have e4 : av.tmps.getD 52 undef = .agg #[.bool (decide (nx.1 < 0)), .slice B (digs nx.1.natAbs).length d, .int .i64 nx.2] := hR 4 (by decide)
            have e5 : av.tmps.getD 53 undef = .pointer (some ⟨pb, 3, none⟩) := hR 5 (by decide)
            have e6 : av.tmps.getD 54 undef = .int .i64 (xw - 128) := hR 6 (by decide)
            obtain ⟨A3_7, c3_7, e7, hd7⟩ := hR 7 (by decide)
            replace e7 : av.tmps.getD 55 undef = .agg #[.bool (decide (tt < 0)), .slice A3_7 (digs tt.natAbs).length c3_7, .int .i64 (xw - 128)] := e7
            obtain ⟨A3_8, c3_8, e8, hd8⟩ := hR 8 (by decide)
            replace e8 : av.tmps.getD 56 undef = .tuple #[.agg #[.bool (decide (nx2.1 < 0)), .slice A3_8 (digs nx2.1.natAbs).length c3_8, .int .i64 nx2.2], .int .i64 VE] := e8
            obtain ⟨A3_9, c3_9, e9, hd9⟩ := hR 9 (by decide)
            replace e9 : av.tmps.getD 47 undef = .tuple #[.agg #[.bool (decide (nx2.1 < 0)), .slice A3_9 (digs nx2.1.natAbs).length c3_9, .int .i64 nx2.2], .int .i64 VE] := e9
            obtain ⟨A3_10, c3_10, e10, hd10⟩ := hR 10 (by decide)
            replace e10 : av.tmps.getD 57 undef = .agg #[.bool (decide (nx2.1 < 0)), .slice A3_10 (digs nx2.1.natAbs).length c3_10, .int .i64 nx2.2] := e10
            refine ⟨fun f => ?_, fun hx f => ?_⟩
            · rw [hF.fold (by kernel_rfl)]
              simp only [List.foldl_cons, List.foldl_nil, e0, e1, e2, e3, e4, e5, e6, e7, e8, e9, e10]
              generalize av.tmps.getD 58 undef = vx at *
              simp only [Act.put, List.setIfInBounds_toArray, List.set_cons_zero, List.set_cons_succ]
              clear e0 e1 e2 e3 e4 e5 e6 e7 e8 e9 e10 hR hF hF0
              change wpAny _ _ _ _ (f + 4) _ _ _
              have LX := Lib.hid (show LB x g t [.int .i64 F, .int .i64 O, .bool (decide (a.1 < 0)), .slice A (digs a.1.natAbs).length c, .int .i64 a.2, .int .i64 W, .int .i64 Q, .int .i64 D, .slice (some ⟨g9, 0, none⟩) (ps.length + 1) cap9, .bool (decide (nx.1 < 0)), .slice B (digs nx.1.natAbs).length d, .int .i64 nx.2] from cells_of L10.out hb')
              have VX := Lib.hid (V10.out.gk ⟨grow_below hb', Kept.below hb'⟩ L10.out)
              have ZX := Lib.hid (Z10.out.trans (Gz.below hb'))
              have DX := Lib.hid hd10
              clear hb' hd10
              have p11 := row_c (i := 11) LX.out rfl
              have p12 := row_c (i := 12) LX.out rfl
              have p13 := row_c (i := 13) LX.out rfl
              have q11 := frozen_of_row _ _ 11 _ _ LX.out
              have q12 := frozen_of_row _ _ 12 _ _ LX.out
              have q13 := frozen_of_row _ _ 13 _ _ LX.out
              refine wpAny_go2 (fuel := f + 3) (i := 11) (j := 12) (by kernel_rfl) ?_ ?_
              · simp only [wpOp, List.getElem?_toArray, List.getElem?_cons_succ, List.getElem?_cons_zero, Region.wanted, if_true]
                refine Or.inl ?_
                simp only [Oper.wp, execOp]
                go_simp
                refine wpAny_go1 (fuel := f + 2) (i := 12) (by kernel_rfl) ?_
                simp only [wpOp, List.getElem?_toArray, List.getElem?_cons_succ, List.getElem?_cons_zero, Region.wanted, if_true]
                refine Or.inl ?_
                simp only [Oper.wp, execOp]
                go_simp
                refine wpAny_go1 (fuel := f + 1) (i := 13) (by kernel_rfl) ?_
                simp only [wpOp, List.getElem?_toArray, List.getElem?_cons_succ, List.getElem?_cons_zero, Region.wanted, if_true]
                refine Or.inl ?_
                simp only [Oper.wp, execOp]
                go_simp
                refine wpAny_go1 (fuel := f + 0) (i := 14) (by kernel_rfl) ?_
                simp only [wpOp, List.getElem?_toArray, List.getElem?_cons_succ, List.getElem?_cons_zero, Region.wanted, if_true]
                refine Or.inl ?_
                simp only [Oper.wp, execOp]
                go_simp
                refine wpAny_end (by kernel_rfl) ?_
                obtain ⟨w12, hW⟩ : ∃ V : World, ((x.setCell ⟨g, 11, none⟩ (.bool (decide (nx2.1 < 0)))).setCell ⟨g, 12, none⟩ (.slice A3_10 (digs nx2.1.natAbs).length c3_10)).setCell ⟨g, 13, none⟩ (.int .i64 nx2.2) = V := ⟨_, rfl⟩
                rw [hW]
                have hO : Only g x w12 := by rw [← hW]; exact (((Only.refl g x).setCell 11 _).setCell 12 _).setCell 13 _
                have hk12 := hO.kept LX.out (noint_rs NZ10.out)
                have L12 := Lib.hid (show LB w12 g t [.int .i64 F, .int .i64 O, .bool (decide (a.1 < 0)), .slice A (digs a.1.natAbs).length c, .int .i64 a.2, .int .i64 W, .int .i64 Q, .int .i64 D, .slice (some ⟨g9, 0, none⟩) (ps.length + 1) cap9, .bool (decide (nx2.1 < 0)), .slice A3_10 (digs nx2.1.natAbs).length c3_10, .int .i64 nx2.2] by rw [← hW]; exact ((LX.out.setr 9 _).setr 10 _).setr 11 _)
                have gk12 : x.grownBy w12 (some g) ∧ Kept x w12 := ⟨by rw [← hW]; exact grow_trans (grow_trans (grow_set _ _ _ _) (grow_set _ _ _ _)) (grow_set _ _ _ _), hk12⟩
                have V12 := Lib.hid (VX.out.gk gk12 LX.out)
                have D12 := Lib.hid (DX.out.kept hk12)
                have Z12 := Lib.hid (ZX.out.trans (Gz.grown gk12.1 gk12.2))
                clear hW hO hk12 gk12 p11 p12 p13 q11 q12 q13
                go_wp2
                go_end0
                refine ⟨rfl, _, _, _, L12.out, V12.out, D12.out, Z12.out⟩
              · simp only [wpOp, List.getElem?_toArray, List.getElem?_cons_succ, List.getElem?_cons_zero, Region.wanted, if_true]
                refine Or.inl ?_
                simp only [Oper.wp, execOp]
                go_simp
                refine wpAny_go2 (fuel := f + 2) (i := 11) (j := 13) (by kernel_rfl) ?_ ?_
                · simp only [wpOp, List.getElem?_toArray, List.getElem?_cons_succ, List.getElem?_cons_zero, Region.wanted, if_true]
                  refine Or.inl ?_
                  simp only [Oper.wp, execOp]
                  go_simp
                  refine wpAny_go1 (fuel := f + 1) (i := 13) (by kernel_rfl) ?_
                  simp only [wpOp, List.getElem?_toArray, List.getElem?_cons_succ, List.getElem?_cons_zero, Region.wanted, if_true]
                  refine Or.inl ?_
                  simp only [Oper.wp, execOp]
                  go_simp
                  refine wpAny_go1 (fuel := f + 0) (i := 14) (by kernel_rfl) ?_
                  simp only [wpOp, List.getElem?_toArray, List.getElem?_cons_succ, List.getElem?_cons_zero, Region.wanted, if_true]
                  refine Or.inl ?_
                  simp only [Oper.wp, execOp]
                  go_simp
                  refine wpAny_end (by kernel_rfl) ?_
                  obtain ⟨w12, hW⟩ : ∃ V : World, ((x.setCell ⟨g, 11, none⟩ (.bool (decide (nx2.1 < 0)))).setCell ⟨g, 12, none⟩ (.slice A3_10 (digs nx2.1.natAbs).length c3_10)).setCell ⟨g, 13, none⟩ (.int .i64 nx2.2) = V := ⟨_, rfl⟩
                  rw [hW]
                  have hO : Only g x w12 := by rw [← hW]; exact (((Only.refl g x).setCell 11 _).setCell 12 _).setCell 13 _
                  have hk12 := hO.kept LX.out (noint_rs NZ10.out)
                  have L12 := Lib.hid (show LB w12 g t [.int .i64 F, .int .i64 O, .bool (decide (a.1 < 0)), .slice A (digs a.1.natAbs).length c, .int .i64 a.2, .int .i64 W, .int .i64 Q, .int .i64 D, .slice (some ⟨g9, 0, none⟩) (ps.length + 1) cap9, .bool (decide (nx2.1 < 0)), .slice A3_10 (digs nx2.1.natAbs).length c3_10, .int .i64 nx2.2] by rw [← hW]; exact ((LX.out.setr 9 _).setr 10 _).setr 11 _)
                  have gk12 : x.grownBy w12 (some g) ∧ Kept x w12 := ⟨by rw [← hW]; exact grow_trans (grow_trans (grow_set _ _ _ _) (grow_set _ _ _ _)) (grow_set _ _ _ _), hk12⟩
                  have V12 := Lib.hid (VX.out.gk gk12 LX.out)
                  have D12 := Lib.hid (DX.out.kept hk12)
                  have Z12 := Lib.hid (ZX.out.trans (Gz.grown gk12.1 gk12.2))
                  clear hW hO hk12 gk12 p11 p12 p13 q11 q12 q13
                  go_wp2
                  go_end0
                  refine ⟨rfl, _, _, _, L12.out, V12.out, D12.out, Z12.out⟩
                · simp only [wpOp, List.getElem?_toArray, List.getElem?_cons_succ, List.getElem?_cons_zero, Region.wanted, if_true]
                  refine Or.inl ?_
                  simp only [Oper.wp, execOp]
                  go_simp
                  refine wpAny_go2 (fuel := f + 1) (i := 11) (j := 14) (by kernel_rfl) ?_ ?_
                  · simp only [wpOp, List.getElem?_toArray, List.getElem?_cons_succ, List.getElem?_cons_zero, Region.wanted, if_true]
                    refine Or.inl ?_
                    simp only [Oper.wp, execOp]
                    go_simp
                    refine wpAny_go1 (fuel := f + 0) (i := 14) (by kernel_rfl) ?_
                    simp only [wpOp, List.getElem?_toArray, List.getElem?_cons_succ, List.getElem?_cons_zero, Region.wanted, if_true]
                    refine Or.inl ?_
                    simp only [Oper.wp, execOp]
                    go_simp
                    refine wpAny_end (by kernel_rfl) ?_
                    obtain ⟨w12, hW⟩ : ∃ V : World, ((x.setCell ⟨g, 11, none⟩ (.bool (decide (nx2.1 < 0)))).setCell ⟨g, 12, none⟩ (.slice A3_10 (digs nx2.1.natAbs).length c3_10)).setCell ⟨g, 13, none⟩ (.int .i64 nx2.2) = V := ⟨_, rfl⟩
                    rw [hW]
                    have hO : Only g x w12 := by rw [← hW]; exact (((Only.refl g x).setCell 11 _).setCell 12 _).setCell 13 _
                    have hk12 := hO.kept LX.out (noint_rs NZ10.out)
                    have L12 := Lib.hid (show LB w12 g t [.int .i64 F, .int .i64 O, .bool (decide (a.1 < 0)), .slice A (digs a.1.natAbs).length c, .int .i64 a.2, .int .i64 W, .int .i64 Q, .int .i64 D, .slice (some ⟨g9, 0, none⟩) (ps.length + 1) cap9, .bool (decide (nx2.1 < 0)), .slice A3_10 (digs nx2.1.natAbs).length c3_10, .int .i64 nx2.2] by rw [← hW]; exact ((LX.out.setr 9 _).setr 10 _).setr 11 _)
                    have gk12 : x.grownBy w12 (some g) ∧ Kept x w12 := ⟨by rw [← hW]; exact grow_trans (grow_trans (grow_set _ _ _ _) (grow_set _ _ _ _)) (grow_set _ _ _ _), hk12⟩
                    have V12 := Lib.hid (VX.out.gk gk12 LX.out)
                    have D12 := Lib.hid (DX.out.kept hk12)
                    have Z12 := Lib.hid (ZX.out.trans (Gz.grown gk12.1 gk12.2))
                    clear hW hO hk12 gk12 p11 p12 p13 q11 q12 q13
                    go_wp2
                    go_end0
                    refine ⟨rfl, _, _, _, L12.out, V12.out, D12.out, Z12.out⟩
                  · simp only [wpOp, List.getElem?_toArray, List.getElem?_cons_succ, List.getElem?_cons_zero, Region.wanted, if_true]
                    refine Or.inl ?_
                    simp only [Oper.wp, execOp]
                    go_simp
                    refine wpAny_go1 (fuel := f + 0) (i := 11) (by kernel_rfl) ?_
                    simp only [wpOp, List.getElem?_toArray, List.getElem?_cons_succ, List.getElem?_cons_zero, Region.wanted, if_true]
                    refine Or.inl ?_
                    simp only [Oper.wp, execOp]
                    go_simp
                    refine wpAny_end (by kernel_rfl) ?_
                    obtain ⟨w12, hW⟩ : ∃ V : World, ((x.setCell ⟨g, 11, none⟩ (.bool (decide (nx2.1 < 0)))).setCell ⟨g, 12, none⟩ (.slice A3_10 (digs nx2.1.natAbs).length c3_10)).setCell ⟨g, 13, none⟩ (.int .i64 nx2.2) = V := ⟨_, rfl⟩
                    rw [hW]
                    have hO : Only g x w12 := by rw [← hW]; exact (((Only.refl g x).setCell 11 _).setCell 12 _).setCell 13 _
                    have hk12 := hO.kept LX.out (noint_rs NZ10.out)
                    have L12 := Lib.hid (show LB w12 g t [.int .i64 F, .int .i64 O, .bool (decide (a.1 < 0)), .slice A (digs a.1.natAbs).length c, .int .i64 a.2, .int .i64 W, .int .i64 Q, .int .i64 D, .slice (some ⟨g9, 0, none⟩) (ps.length + 1) cap9, .bool (decide (nx2.1 < 0)), .slice A3_10 (digs nx2.1.natAbs).length c3_10, .int .i64 nx2.2] by rw [← hW]; exact ((LX.out.setr 9 _).setr 10 _).setr 11 _)
                    have gk12 : x.grownBy w12 (some g) ∧ Kept x w12 := ⟨by rw [← hW]; exact grow_trans (grow_trans (grow_set _ _ _ _) (grow_set _ _ _ _)) (grow_set _ _ _ _), hk12⟩
                    have V12 := Lib.hid (VX.out.gk gk12 LX.out)
                    have D12 := Lib.hid (DX.out.kept hk12)
                    have Z12 := Lib.hid (ZX.out.trans (Gz.grown gk12.1 gk12.2))
                    clear hW hO hk12 gk12 p11 p12 p13 q11 q12 q13
                    go_wp2
                    go_end0
                    refine ⟨rfl, _, _, _, L12.out, V12.out, D12.out, Z12.out⟩
            · have e11 : av.tmps.getD 58 undef = .int .i64 VE := hx
              rw [hF.fold (by kernel_rfl)]
              simp only [List.foldl_cons, List.foldl_nil, e0, e1, e2, e3, e4, e5, e6, e7, e8, e9, e10, e11]
              simp only [Act.put, List.setIfInBounds_toArray, List.set_cons_zero, List.set_cons_succ]
              clear e0 e1 e2 e3 e4 e5 e6 e7 e8 e9 e10 e11 hR hF hF0 hx
              change wpAny _ _ _ _ (f + 3) _ _ _
              have LX := Lib.hid (show LB x g t [.int .i64 F, .int .i64 O, .bool (decide (a.1 < 0)), .slice A (digs a.1.natAbs).length c, .int .i64 a.2, .int .i64 W, .int .i64 Q, .int .i64 D, .slice (some ⟨g9, 0, none⟩) (ps.length + 1) cap9, .bool (decide (nx.1 < 0)), .slice B (digs nx.1.natAbs).length d, .int .i64 nx.2] from cells_of L10.out hb')
              have VX := Lib.hid (V10.out.gk ⟨grow_below hb', Kept.below hb'⟩ L10.out)
              have ZX := Lib.hid (Z10.out.trans (Gz.below hb'))
              have DX := Lib.hid hd10
              clear hb' hd10
              have p11 := row_c (i := 11) LX.out rfl
              have p12 := row_c (i := 12) LX.out rfl
              have p13 := row_c (i := 13) LX.out rfl
              have q11 := frozen_of_row _ _ 11 _ _ LX.out
              have q12 := frozen_of_row _ _ 12 _ _ LX.out
              have q13 := frozen_of_row _ _ 13 _ _ LX.out
              refine wpAny_go1 (fuel := f + 2) (i := 12) (by kernel_rfl) ?_
              simp only [wpOp, List.getElem?_toArray, List.getElem?_cons_succ, List.getElem?_cons_zero, Region.wanted, if_true]
              refine Or.inl ?_
              simp only [Oper.wp, execOp]
              go_simp
              refine wpAny_go1 (fuel := f + 1) (i := 13) (by kernel_rfl) ?_
              simp only [wpOp, List.getElem?_toArray, List.getElem?_cons_succ, List.getElem?_cons_zero, Region.wanted, if_true]
              refine Or.inl ?_
              simp only [Oper.wp, execOp]
              go_simp
              refine wpAny_go1 (fuel := f + 0) (i := 14) (by kernel_rfl) ?_
              simp only [wpOp, List.getElem?_toArray, List.getElem?_cons_succ, List.getElem?_cons_zero, Region.wanted, if_true]
              refine Or.inl ?_
              simp only [Oper.wp, execOp]
              go_simp
              refine wpAny_end (by kernel_rfl) ?_
              obtain ⟨w12, hW⟩ : ∃ V : World, ((x.setCell ⟨g, 11, none⟩ (.bool (decide (nx2.1 < 0)))).setCell ⟨g, 12, none⟩ (.slice A3_10 (digs nx2.1.natAbs).length c3_10)).setCell ⟨g, 13, none⟩ (.int .i64 nx2.2) = V := ⟨_, rfl⟩
              rw [hW]
              have hO : Only g x w12 := by rw [← hW]; exact (((Only.refl g x).setCell 11 _).setCell 12 _).setCell 13 _
              have hk12 := hO.kept LX.out (noint_rs NZ10.out)
              have L12 := Lib.hid (show LB w12 g t [.int .i64 F, .int .i64 O, .bool (decide (a.1 < 0)), .slice A (digs a.1.natAbs).length c, .int .i64 a.2, .int .i64 W, .int .i64 Q, .int .i64 D, .slice (some ⟨g9, 0, none⟩) (ps.length + 1) cap9, .bool (decide (nx2.1 < 0)), .slice A3_10 (digs nx2.1.natAbs).length c3_10, .int .i64 nx2.2] by rw [← hW]; exact ((LX.out.setr 9 _).setr 10 _).setr 11 _)
              have gk12 : x.grownBy w12 (some g) ∧ Kept x w12 := ⟨by rw [← hW]; exact grow_trans (grow_trans (grow_set _ _ _ _) (grow_set _ _ _ _)) (grow_set _ _ _ _), hk12⟩
              have V12 := Lib.hid (VX.out.gk gk12 LX.out)
              have D12 := Lib.hid (DX.out.kept hk12)
              have Z12 := Lib.hid (ZX.out.trans (Gz.grown gk12.1 gk12.2))
              clear hW hO hk12 gk12 p11 p12 p13 q11 q12 q13
              go_wp2
              go_end0
              refine ⟨rfl, _, _, _, L12.out, V12.out, D12.out, Z12.out⟩
end Go.Proofs.YtfhdhldgflbpjaaDoor
end
