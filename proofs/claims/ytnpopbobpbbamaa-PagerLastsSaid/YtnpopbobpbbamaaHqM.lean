import Derived.Test.YtnpopbobpbbamaaFr
import Derived.Test.YtnpopbobpbbamaaFi
import Derived.Deep.RegionHeld3
section
/-
  Fuse; a page's image; the heads that there were, in a map.
-/
namespace Go.Proofs.Ytnpopbobpbbamaa
open Go.RowKit
set_option linter.unusedSimpArgs false
set_option linter.unusedVariables false
set_option maxHeartbeats 1000000 in
set_option maxRecDepth 100000 in
theorem fuse_any {B g gs : Nat} {v : Value} {S : List (List UInt8)} {C : List Wt} (f : Nat) (w : World) (h : Dk B w g gs v S C) (hf : f ≤ 1000) :
    Calls Try.prog 6 #[.pointer (some ⟨g, 0, none⟩), .int .i64 (f : Int)] w fun e w' => e = .returned (.tuple #[]) ∧ Df (f : Int) false B w' g gs v S C ∧ Ch B g gs w w' := by
  have H := Lib.hid h
  have f2 := row_c (i := 2) h.hg rfl
  have z2 := frozen_of_row _ _ 2 _ _ h.hg
  have e1 : max (f : Int) (-1) = (f : Int) := by omega
  clear h
  go_enter Try.func6, Try.ntmps6
  go_wp2
  go_end0
  exact ⟨rfl, (H.out.toF.fuse (f : Int)).1, (H.out.toF.fuse (f : Int)).2⟩
theorem ba_cat (a b : List UInt8) : (⟨a.toArray⟩ : ByteArray) ++ (⟨b.toArray⟩ : ByteArray) = ⟨(a ++ b).toArray⟩ := by
  apply ByteArray.ext; apply Array.toList_inj.1; simp [ByteArray.data_append]
set_option maxHeartbeats 2000000 in
set_option maxRecDepth 100000 in
theorem image_any {B g gs : Nat} {v : Value} {S : List (List UInt8)} (n : Nat) (w : World) (h : Dk B w g gs v S []) (hn : 2 * n + 1 < S.length) :
    Calls Try.prog 30 #[.pointer (some ⟨g, 0, none⟩), .int .i64 (n : Int)] w fun e w' => e = .returned (.string ⟨(pg S n).toArray⟩) ∧ Below w.heap.size w w' := by
  have H := Lib.hid h
  have HN := Lib.hid hn
  have nb := h.n2
  have E2 := Lib.hid (show (2 : Int) * (n : Int) = ((2 * n : Nat) : Int) by omega)
  have E3 := Lib.hid (show (2 : Int) * (n : Int) + 1 = ((2 * n + 1 : Nat) : Int) by omega)
  have n1 : (n : Int) ≤ 1000 := by omega
  have n0 : (0 : Int) ≤ (n : Int) := by omega
  obtain ⟨l1, hl1⟩ : ∃ l, rd S [] (2 * n) = l := ⟨_, rfl⟩
  obtain ⟨l2, hl2⟩ : ∃ l, rd S [] (2 * n + 1) = l := ⟨_, rfl⟩
  have s1l : l1.length = 64 := by rw [← hl1, rd_nil, List.getElem?_eq_getElem (by omega), Option.getD_some, h.s64 _ (List.getElem_mem _)]
  have s2l : l2.length = 64 := by rw [← hl2, rd_nil, List.getElem?_eq_getElem (by omega), Option.getD_some, h.s64 _ (List.getElem_mem _)]
  have hp : pg S n = l1 ++ l2 := by rw [← hl1, ← hl2]; rfl
  rw [hp]
  obtain ⟨s1, hs1⟩ : ∃ x : ByteArray, (⟨l1.toArray⟩ : ByteArray) = x := ⟨_, rfl⟩
  obtain ⟨s2, hs2⟩ : ∃ x : ByteArray, (⟨l2.toArray⟩ : ByteArray) = x := ⟨_, rfl⟩
  have HC := Lib.hid (show s1 ++ s2 = (⟨(l1 ++ l2).toArray⟩ : ByteArray) by rw [← hs1, ← hs2]; exact ba_cat l1 l2)
  obtain ⟨s3, hs3⟩ : ∃ x : ByteArray, (⟨(l1 ++ l2).toArray⟩ : ByteArray) = x := ⟨_, rfl⟩
  rw [hs3] at HC ⊢
  have HSZ := Lib.hid (show ¬ 9223372036854775807 < s1.size + s2.size by
    rw [← hs1, ← hs2, str_size, str_size]; omega)
  have HH := Lib.hid (And.intro hl1 (And.intro hl2 (And.intro hs1 hs2)))
  clear h hn nb s1l s2l hp hl1 hl2 hs1 hs2 hs3
  go_enter Try.func30, Try.ntmps30
  go_wp2_with fail
  rw [E2.out]
  refine (read_any (2 * n) w H.out (by have := HN.out; omega) (by simp)).mono ?_
  rintro e w1 ⟨rfl, hb⟩
  rw [HH.out.1, HH.out.2.2.1]
  have D1 := Lib.hid (H.out.below hb)
  have B1 := Lib.hid hb
  clear hb
  go_wp2_with fail
  first | rw [E3.out] | rw [show ((2 * n : Nat) : Int) + 1 = ((2 * n + 1 : Nat) : Int) from rfl] | skip
  refine (read_any (2 * n + 1) w1 D1.out HN.out (by simp)).mono ?_
  rintro e w2 ⟨rfl, hb⟩
  rw [HH.out.2.1, HH.out.2.2.2]
  have B2 := Lib.hid (bon B1.out hb)
  clear hb
  have hz := HSZ.out
  have hcat := HC.out
  go_wp2
  go_ret
  first | exact ⟨rfl, B2.out⟩ | exact ⟨by rw [HC.out], B2.out⟩
theorem sK : Maps.Keyed Try.prog 9 := Maps.string_keyed Try.underlying9
theorem zB (w : World) : (zeroValue 4).run Try.prog w = .ok (.bool false) w := by kernel_rfl
/-- Block b is a map of at most n entries; what it says at a text. -/
def Hs (w : World) (b n : Nat) (I : List UInt8 → Bool) : Prop := ∃ D : DataW Unit, w.ownsMap Try.prog 9 (plainElem (H := Unit) Try.prog 4) b n D ∧ ∀ l : List UInt8, D.atKey (.string l) (.lit (.bool false)) = .lit (.bool (I l))
theorem Hs.same {w w' : World} {b n : Nat} {I : List UInt8 → Bool} (h : Hs w b n I) (hg : w'.heap[b]? = w.heap[b]?) : Hs w' b n I := by
  obtain ⟨D, ⟨es, clock, hb, r⟩, h2⟩ := h
  exact ⟨D, ⟨es, clock, hg.trans hb, r⟩, h2⟩
theorem Hs.isMap {w : World} {b n : Nat} {I : List UInt8 → Bool} (h : Hs w b n I) : ∃ es clock, w.heap[b]? = some (.map es clock) := by
  obtain ⟨D, ⟨es, clock, hb, _⟩, h2⟩ := h
  exact ⟨es, clock, hb⟩
theorem Hs.lt {w : World} {b n : Nat} {I : List UInt8 → Bool} (h : Hs w b n I) : b < w.heap.size := by
  obtain ⟨D, h1, h2⟩ := h
  exact h1.lt
theorem Hs.below {w w' : World} {b n : Nat} {I : List UInt8 → Bool} (h : Hs w b n I) (hb : Below w.heap.size w w') : Hs w' b n I := h.same (hb.block b h.lt)
theorem Hs.made (w : World) : Hs (w.alloc (.map #[] 0)) w.heap.size 0 (fun _ => false) := ⟨_, World.ownsMap_made _ _ _ _, fun l => rfl⟩
theorem Hs.ext {w : World} {b n : Nat} {I J : List UInt8 → Bool} (h : Hs w b n I) (he : ∀ l, I l = J l) : Hs w b n J := by
  obtain ⟨D, h1, h2⟩ := h
  exact ⟨D, h1, fun l => by rw [h2, he]⟩
theorem keyStr (l : List UInt8) : WideAt.IsKeyLit (.string l) := trivial
theorem Hs.ins {w w' : World} {b n : Nat} {I : List UInt8 → Bool} {x : List UInt8} {D : DataW Unit} (h0 : w.ownsMap Try.prog 9 (plainElem (H := Unit) Try.prog 4) b n D) (hD : ∀ l : List UInt8, D.atKey (.string l) (.lit (.bool false)) = .lit (.bool (I l)))
    (h : w'.ownsMap Try.prog 9 (plainElem (H := Unit) Try.prog 4) b (n + 1) (D.put (.string x) (.lit (.bool true)))) : Hs w' b (n + 1) (fun l => I l || l == x) := by
  refine ⟨_, h, fun l => ?_⟩
  by_cases e : l = x
  · subst e
    rw [Maps.atKey_put_same h0.isMap (keyStr _)]; simp
  · rw [Maps.atKey_put_other (fun he => e (by injection he)), hD]
    have h0 : (l == x) = false := by simpa using e
    show _ = DataW.lit (Lit.bool (I l || l == x))
    rw [h0, Bool.or_false]
set_option maxRecDepth 100000 in
theorem plain_bool_inv {v : Value} {q : Bool} {ps : List MemPlace} (h : plainElem (H := Unit) Try.prog 4 v = some (.lit (.bool q), ps)) : v = .bool q := by
  unfold plainElem at h
  rw [Try.underlying4] at h
  cases v <;> simp at h
  rw [h.1]
/-- What is looked up among the heads. -/
theorem look_b {w : World} {b n : Nat} {I : List UInt8 → Bool} (h : Hs w b n I) (l : List UInt8) (hl : l.length ≤ 1000) : (Instr.lookup 30 (.map (some b)) (.string ⟨l.toArray⟩) false).run Try.prog w = .ok (.bool (I l)) w := by
  obtain ⟨D, hown, hD⟩ := h
  have hkey : keyOf Try.prog 9 (.string ⟨l.toArray⟩) = some (.string l) := by
    have := WideMaps.keyOf_string_mk (P := Try.prog) Try.underlying9 (s := ⟨l.toArray⟩) (by rw [str_size]; unfold maxLen; omega)
    simpa using this
  obtain ⟨v, ps, hrun, hv⟩ := hown.lookup sK Try.underlying30 (zB w) (plainElem_bool Try.underlying4 false) hkey
  rw [hD] at hv
  rw [plain_bool_inv hv] at hrun
  exact hrun
end Go.Proofs.Ytnpopbobpbbamaa
end

section
/-
  note, torn; pager's Read.
-/
namespace Go.Proofs.Ytnpopbobpbbamaa
open Go.RowKit
set_option linter.unusedSimpArgs false
set_option linter.unusedVariables false
theorem Dk.grownM {B g gs : Nat} {v : Value} {S : List (List UInt8)} {C : List Wt} {w w' : World} {r : Option Nat} (h : Dk B w g gs v S C) (hg : w.grownBy w' r) (hr : ∀ b, some b = r → ∃ es cl, w.heap[b]? = some (.map es cl)) : Dk B w' g gs v S C :=
  ⟨(hg.block g (heap_lt h.hg) (fun e => by obtain ⟨es, cl, h1⟩ := hr g e; exact ne_map h1 h.hg rfl)).trans h.hg,
   (hg.block gs (heap_lt h.hs) (fun e => by obtain ⟨es, cl, h1⟩ := hr gs e; exact ne_map h1 h.hs rfl)).trans h.hs,
   h.ho.kept hg (by
    cases e : v.ownBlock with
    | none => exact .inl rfl
    | some k =>
      refine .inr (fun e2 => ?_)
      obtain ⟨es, cl, h1⟩ := hr k e2
      obtain ⟨c, fz, h3⟩ := Lib.ownsRow_kind h.ho k e
      exact ne_map h1 h3 rfl), h.gB, h.sB, h.ne, Nat.le_trans h.hB hg.size, h.s64, h.c64, h.cn, h.n1, h.n2⟩
/-- The two disks' box. -/
def Tw (w : World) (bw d t p q bh : Nat) : Prop := w.heap[bw]? = some (.cells #[.pointer (some ⟨d, 0, none⟩), .pointer (some ⟨t, 0, none⟩), .pointer (some ⟨p, 0, none⟩), .pointer (some ⟨q, 0, none⟩), .map (some bh)] 32 (0, 0))
theorem keyS (l : List UInt8) (hl : l.length ≤ 1000) : keyOf Try.prog 9 (.string ⟨l.toArray⟩) = some (.string l) := by
  have := WideMaps.keyOf_string_mk (P := Try.prog) Try.underlying9 (s := ⟨l.toArray⟩) (by rw [str_size]; unfold maxLen; omega)
  simpa using this
set_option maxHeartbeats 4000000 in
set_option maxRecDepth 100000 in
theorem note_any {Bt bw d t p q bh ts n : Nat} {v : Value} {S : List (List UInt8)} {I : List UInt8 → Bool} (w : World) (hw : Tw w bw d t p q bh) (h : Dk Bt w t ts v S []) (hS : 4 ≤ S.length) (hh : Hs w bh n I) (hn : n ≤ 1000) :
    Calls Try.prog 11 #[.pointer (some ⟨bw, 0, none⟩)] w fun e w' => e = .returned (.tuple #[]) ∧ Hs w' bh (n + 2) (fun l => (I l || l == pg S 0) || l == pg S 1) ∧ w.grownBy w' (some bh) := by
  have IM0 := Lib.hid (fun X (hX : Below w.heap.size w X) => show Calls Try.prog 30 #[.pointer (some ⟨t, 0, none⟩), .int .i64 0] X fun e w' => e = .returned (.string ⟨(pg S 0).toArray⟩) ∧ Below X.heap.size X w' from image_any 0 X (h.below hX) (by omega))
  have LP := Lib.hid (show (pg S 0).length ≤ 1000 ∧ (pg S 1).length ≤ 1000 from ⟨Nat.le_trans (pg_le h.s64 0) (by omega), Nat.le_trans (pg_le h.s64 1) (by omega)⟩)
  have HW := Lib.hid hw
  have HD := Lib.hid h
  have HH := Lib.hid hh
  have HN := Lib.hid hn
  have HS := Lib.hid hS
  have FT := Lib.hid (fun X (hX : Below w.heap.size w X) => And.intro (show X.cell? ⟨bw, 1, none⟩ = some (.pointer (some ⟨t, 0, none⟩)) from row_c (i := 1) (row_on hw hX) rfl) (show X.cell? ⟨bw, 4, none⟩ = some (.map (some bh)) from row_c (i := 4) (row_on hw hX) rfl))
  obtain ⟨s0, hs0⟩ : ∃ s : ByteArray, (⟨(pg S 0).toArray⟩ : ByteArray) = s := ⟨_, rfl⟩
  obtain ⟨s1, hs1⟩ : ∃ s : ByteArray, (⟨(pg S 1).toArray⟩ : ByteArray) = s := ⟨_, rfl⟩
  have K0 := Lib.hid (show keyOf Try.prog 9 (.string s0) = some (.string (pg S 0)) by rw [← hs0]; exact keyS _ LP.out.1)
  have K1 := Lib.hid (show keyOf Try.prog 9 (.string s1) = some (.string (pg S 1)) by rw [← hs1]; exact keyS _ LP.out.2)
  have H1 := Lib.hid hs1
  rw [hs0] at IM0
  clear hw h hh hn hS hs0 hs1
  go_enter Try.func11, Try.ntmps11
  go_wp2_with fail
  refine wp_operands (W := w) rfl 9 [2, 3, 4, 5, 6, 7, 8, 9, 10] (fun i u x => match i with | 0 => u = .pointer (some ⟨bw, 0, none⟩) | 1 => u = .pointer (some ⟨bw, 0, none⟩) | 2 => u = .pointer (some ⟨bw, 4, none⟩) | 3 => u = .map (some bh) | 4 => u = .pointer (some ⟨bw, 0, none⟩) | 5 => u = .pointer (some ⟨bw, 0, none⟩) | 6 => u = .pointer (some ⟨bw, 1, none⟩) | 7 => u = .pointer (some ⟨t, 0, none⟩) | 8 => u = .string s0 | _ => True) (fun _ => false)
    (by decide) rfl (by kernel_rfl) (by kernel_rfl) (by decide) (by kernel_rfl) ?_ (fun _ _ _ h => by cases h) ?_ ?_
  · intro i u x x' hi hR hb'
    have hi' : i = 0 ∨ i = 1 ∨ i = 2 ∨ i = 3 ∨ i = 4 ∨ i = 5 ∨ i = 6 ∨ i = 7 ∨ i = 8 := by omega
    rcases hi' with rfl | rfl | rfl | rfl | rfl | rfl | rfl | rfl | rfl
    · exact hR
    · exact hR
    · exact hR
    · exact hR
    · exact hR
    · exact hR
    · exact hR
    · exact hR
    · exact hR
  · intro i av x K hi hF hb' hw hK
    have hi' : i = 0 ∨ i = 1 ∨ i = 2 ∨ i = 3 ∨ i = 4 ∨ i = 5 ∨ i = 6 ∨ i = 7 ∨ i = 8 := by omega
    rcases hi' with rfl | rfl | rfl | rfl | rfl | rfl | rfl | rfl | rfl
    · simp only [wpOp, List.getElem?_toArray, List.getElem?_cons_zero, Region.wanted, if_true]
      refine Or.inl ?_
      have e0 : av.tmps.getD 0 undef = .pointer (some ⟨bw, 0, none⟩) := hF.2.2 0 (by decide)
      have e0e : av.eval (.tmp 0) = .pointer (some ⟨bw, 0, none⟩) := e0
      have e0g : av.tmps[0]?.getD undef = .pointer (some ⟨bw, 0, none⟩) := by have := e0; simp only [Array.getD_eq_getD_getElem?] at this; exact this
      clear hw hF
      simp only [Oper.wp, execOp]
      try simp only [e0e]
      go_simp
      exact hK _ x (by first | rfl | (simp only [Nat.add_zero]; done) | (congr 1; omega)) (Below.refl _ _) (fun h => by cases h)
    · simp only [wpOp, List.getElem?_toArray, List.getElem?_cons_succ, List.getElem?_cons_zero, Region.wanted, if_true]
      refine Or.inl ?_
      have e0 : av.tmps.getD 2 undef = .pointer (some ⟨bw, 0, none⟩) := (hw 0 (by kernel_rfl))
      have e0e : av.eval (.tmp 2) = .pointer (some ⟨bw, 0, none⟩) := e0
      have e0g : av.tmps[2]?.getD undef = .pointer (some ⟨bw, 0, none⟩) := by have := e0; simp only [Array.getD_eq_getD_getElem?] at this; exact this
      clear hw hF
      simp only [Oper.wp, execOp]
      try simp only [e0e]
      go_simp
      exact hK _ x (by first | rfl | (simp only [Nat.add_zero]; done) | (congr 1; omega)) (Below.refl _ _) (fun h => by cases h)
    · simp only [wpOp, List.getElem?_toArray, List.getElem?_cons_succ, List.getElem?_cons_zero, Region.wanted, if_true]
      refine Or.inl ?_
      have e0 : av.tmps.getD 3 undef = .pointer (some ⟨bw, 0, none⟩) := (hw 1 (by kernel_rfl))
      have e0e : av.eval (.tmp 3) = .pointer (some ⟨bw, 0, none⟩) := e0
      have e0g : av.tmps[3]?.getD undef = .pointer (some ⟨bw, 0, none⟩) := by have := e0; simp only [Array.getD_eq_getD_getElem?] at this; exact this
      clear hw hF
      simp only [Oper.wp, execOp]
      try simp only [e0e]
      go_simp
      exact hK _ x (by first | rfl | (simp only [Nat.add_zero]; done) | (congr 1; omega)) (Below.refl _ _) (fun h => by cases h)
    · simp only [wpOp, List.getElem?_toArray, List.getElem?_cons_succ, List.getElem?_cons_zero, Region.wanted, if_true]
      refine Or.inl ?_
      have e0 : av.tmps.getD 4 undef = .pointer (some ⟨bw, 4, none⟩) := (hw 2 (by kernel_rfl))
      have e0e : av.eval (.tmp 4) = .pointer (some ⟨bw, 4, none⟩) := e0
      have e0g : av.tmps[4]?.getD undef = .pointer (some ⟨bw, 4, none⟩) := by have := e0; simp only [Array.getD_eq_getD_getElem?] at this; exact this
      obtain ⟨f1, f4⟩ := FT.out x hb'
      clear hw hF
      simp only [Oper.wp, execOp]
      try simp only [e0e]
      go_simp
      exact hK _ x (by first | rfl | (simp only [Nat.add_zero]; done) | (congr 1; omega)) (Below.refl _ _) (fun h => by cases h)
    · simp only [wpOp, List.getElem?_toArray, List.getElem?_cons_succ, List.getElem?_cons_zero, Region.wanted, if_true]
      refine Or.inl ?_
      have e0 : av.tmps.getD 0 undef = .pointer (some ⟨bw, 0, none⟩) := hF.2.2 0 (by decide)
      have e0e : av.eval (.tmp 0) = .pointer (some ⟨bw, 0, none⟩) := e0
      have e0g : av.tmps[0]?.getD undef = .pointer (some ⟨bw, 0, none⟩) := by have := e0; simp only [Array.getD_eq_getD_getElem?] at this; exact this
      clear hw hF
      simp only [Oper.wp, execOp]
      try simp only [e0e]
      go_simp
      exact hK _ x (by first | rfl | (simp only [Nat.add_zero]; done) | (congr 1; omega)) (Below.refl _ _) (fun h => by cases h)
    · simp only [wpOp, List.getElem?_toArray, List.getElem?_cons_succ, List.getElem?_cons_zero, Region.wanted, if_true]
      refine Or.inl ?_
      have e0 : av.tmps.getD 6 undef = .pointer (some ⟨bw, 0, none⟩) := (hw 4 (by kernel_rfl))
      have e0e : av.eval (.tmp 6) = .pointer (some ⟨bw, 0, none⟩) := e0
      have e0g : av.tmps[6]?.getD undef = .pointer (some ⟨bw, 0, none⟩) := by have := e0; simp only [Array.getD_eq_getD_getElem?] at this; exact this
      clear hw hF
      simp only [Oper.wp, execOp]
      try simp only [e0e]
      go_simp
      exact hK _ x (by first | rfl | (simp only [Nat.add_zero]; done) | (congr 1; omega)) (Below.refl _ _) (fun h => by cases h)
    · simp only [wpOp, List.getElem?_toArray, List.getElem?_cons_succ, List.getElem?_cons_zero, Region.wanted, if_true]
      refine Or.inl ?_
      have e0 : av.tmps.getD 7 undef = .pointer (some ⟨bw, 0, none⟩) := (hw 5 (by kernel_rfl))
      have e0e : av.eval (.tmp 7) = .pointer (some ⟨bw, 0, none⟩) := e0
      have e0g : av.tmps[7]?.getD undef = .pointer (some ⟨bw, 0, none⟩) := by have := e0; simp only [Array.getD_eq_getD_getElem?] at this; exact this
      clear hw hF
      simp only [Oper.wp, execOp]
      try simp only [e0e]
      go_simp
      exact hK _ x (by first | rfl | (simp only [Nat.add_zero]; done) | (congr 1; omega)) (Below.refl _ _) (fun h => by cases h)
    · simp only [wpOp, List.getElem?_toArray, List.getElem?_cons_succ, List.getElem?_cons_zero, Region.wanted, if_true]
      refine Or.inl ?_
      have e0 : av.tmps.getD 8 undef = .pointer (some ⟨bw, 1, none⟩) := (hw 6 (by kernel_rfl))
      have e0e : av.eval (.tmp 8) = .pointer (some ⟨bw, 1, none⟩) := e0
      have e0g : av.tmps[8]?.getD undef = .pointer (some ⟨bw, 1, none⟩) := by have := e0; simp only [Array.getD_eq_getD_getElem?] at this; exact this
      obtain ⟨f1, f4⟩ := FT.out x hb'
      clear hw hF
      simp only [Oper.wp, execOp]
      try simp only [e0e]
      go_simp
      exact hK _ x (by first | rfl | (simp only [Nat.add_zero]; done) | (congr 1; omega)) (Below.refl _ _) (fun h => by cases h)
    · simp only [wpOp, List.getElem?_toArray, List.getElem?_cons_succ, List.getElem?_cons_zero, Region.wanted, if_true]
      refine Or.inl ?_
      have e0 : av.tmps.getD 9 undef = .pointer (some ⟨t, 0, none⟩) := (hw 7 (by kernel_rfl))
      have e0e : av.eval (.tmp 9) = .pointer (some ⟨t, 0, none⟩) := e0
      have e0g : av.tmps[9]?.getD undef = .pointer (some ⟨t, 0, none⟩) := by have := e0; simp only [Array.getD_eq_getD_getElem?] at this; exact this
      clear hw hF
      simp only [Oper.wp, execOp]
      try simp only [e0e]
      go_simp
      refine (IM0.out x hb').mono ?_
      rintro e x' ⟨rfl, hx⟩
      exact hK _ x' rfl hx (fun h => by cases h)
  · intro av x hF hb' hR _
    have e0 : av.tmps.getD 2 undef = .pointer (some ⟨bw, 0, none⟩) := hR 0 (by decide)
    have e1 : av.tmps.getD 3 undef = .pointer (some ⟨bw, 0, none⟩) := hR 1 (by decide)
    have e2 : av.tmps.getD 4 undef = .pointer (some ⟨bw, 4, none⟩) := hR 2 (by decide)
    have e3 : av.tmps.getD 5 undef = .map (some bh) := hR 3 (by decide)
    have e4 : av.tmps.getD 6 undef = .pointer (some ⟨bw, 0, none⟩) := hR 4 (by decide)
    have e5 : av.tmps.getD 7 undef = .pointer (some ⟨bw, 0, none⟩) := hR 5 (by decide)
    have e6 : av.tmps.getD 8 undef = .pointer (some ⟨bw, 1, none⟩) := hR 6 (by decide)
    have e7 : av.tmps.getD 9 undef = .pointer (some ⟨t, 0, none⟩) := hR 7 (by decide)
    have e8 : av.tmps.getD 10 undef = .string s0 := hR 8 (by decide)
    rw [hF.fold (by kernel_rfl)]
    simp only [List.foldl_cons, List.foldl_nil, e0, e1, e2, e3, e4, e5, e6, e7, e8]
    simp only [Act.put, List.setIfInBounds_toArray, List.set_cons_zero, List.set_cons_succ]
    change wpOps _ _ _ [9] _ _
    simp only [wpOps_cons]
    clear e0 e1 e2 e3 e4 e5 e6 e7 e8 hR hF
    obtain ⟨D, hown, hD⟩ := HH.out.below hb'
    obtain ⟨w9, hrun, hown9, hg9⟩ := hown.update sK Try.underlying30 (by have := HN.out; unfold maxLen; omega) K0.out (plainElem_bool Try.underlying4 true)
    have H9 := Lib.hid (Hs.ins hown hD hown9)
    have B9 := Lib.hid (show w.grownBy w9 (some bh) from ⟨hg9.os.trans hb'.os, hg9.tape.trans hb'.tape, hg9.output.trans hb'.output, Nat.le_trans hb'.size hg9.size, fun i h1 h2 => (hg9.block i (Nat.lt_of_lt_of_le h1 hb'.size) h2).trans (hb'.block i h1)⟩)
    clear hown hD hown9 hg9 hb'
    try rw [wpOps_cons]
    simp only [wpOp, List.getElem?_toArray, List.getElem?_cons_succ, List.getElem?_cons_zero, Region.wanted, if_true]
    refine Or.inl ?_
    simp only [Oper.wp, execOp]
    go_simp
    try simp only [wpOps]
    clear hrun
    have NE := Lib.hid (show bh ≠ bw from by obtain ⟨es, cl, hm⟩ := HH.out.isMap; exact ne_map hm HW.out)
    have W9 := Lib.hid (show Tw w9 bw d t p q bh from grown_row B9.out HW.out (fun e => NE.out e.symm))
    have D9 := Lib.hid (show Dk Bt w9 t ts v S [] from HD.out.grownM B9.out (fun b e => by cases e; exact HH.out.isMap))
    have IM1 := Lib.hid (fun X (hX : Below w9.heap.size w9 X) => show Calls Try.prog 30 #[.pointer (some ⟨t, 0, none⟩), .int .i64 1] X fun e w' => e = .returned (.string ⟨(pg S 1).toArray⟩) ∧ Below X.heap.size X w' from image_any 1 X (D9.out.below hX) (by have := HS.out; omega))
    rw [H1.out] at IM1
    have FT1 := Lib.hid (fun X (hX : Below w9.heap.size w9 X) => And.intro (show X.cell? ⟨bw, 1, none⟩ = some (.pointer (some ⟨t, 0, none⟩)) from row_c (i := 1) (row_on W9.out hX) rfl) (show X.cell? ⟨bw, 4, none⟩ = some (.map (some bh)) from row_c (i := 4) (row_on W9.out hX) rfl))
    go_wp2_with fail
    refine wp_operands (W := w9) rfl 9 [11, 12, 13, 14, 15, 16, 17, 18, 19] (fun i u x => match i with | 0 => u = .pointer (some ⟨bw, 0, none⟩) | 1 => u = .pointer (some ⟨bw, 0, none⟩) | 2 => u = .pointer (some ⟨bw, 4, none⟩) | 3 => u = .map (some bh) | 4 => u = .pointer (some ⟨bw, 0, none⟩) | 5 => u = .pointer (some ⟨bw, 0, none⟩) | 6 => u = .pointer (some ⟨bw, 1, none⟩) | 7 => u = .pointer (some ⟨t, 0, none⟩) | 8 => u = .string s1 | _ => True) (fun _ => false)
      (by decide) rfl (by kernel_rfl) (by kernel_rfl) (by decide) (by kernel_rfl) ?_ (fun _ _ _ h => by cases h) ?_ ?_
    · intro i u x x' hi hR hb'
      have hi' : i = 0 ∨ i = 1 ∨ i = 2 ∨ i = 3 ∨ i = 4 ∨ i = 5 ∨ i = 6 ∨ i = 7 ∨ i = 8 := by omega
      rcases hi' with rfl | rfl | rfl | rfl | rfl | rfl | rfl | rfl | rfl
      · exact hR
      · exact hR
      · exact hR
      · exact hR
      · exact hR
      · exact hR
      · exact hR
      · exact hR
      · exact hR
    · intro i av x K hi hF hb' hw hK
      have hi' : i = 0 ∨ i = 1 ∨ i = 2 ∨ i = 3 ∨ i = 4 ∨ i = 5 ∨ i = 6 ∨ i = 7 ∨ i = 8 := by omega
      rcases hi' with rfl | rfl | rfl | rfl | rfl | rfl | rfl | rfl | rfl
      · simp only [wpOp, List.getElem?_toArray, List.getElem?_cons_zero, Region.wanted, if_true]
        refine Or.inl ?_
        have e0 : av.tmps.getD 0 undef = .pointer (some ⟨bw, 0, none⟩) := hF.2.2 0 (by decide)
        have e0e : av.eval (.tmp 0) = .pointer (some ⟨bw, 0, none⟩) := e0
        have e0g : av.tmps[0]?.getD undef = .pointer (some ⟨bw, 0, none⟩) := by have := e0; simp only [Array.getD_eq_getD_getElem?] at this; exact this
        clear hw hF
        simp only [Oper.wp, execOp]
        try simp only [e0e]
        go_simp
        exact hK _ x (by first | rfl | (simp only [Nat.add_zero]; done) | (congr 1; omega)) (Below.refl _ _) (fun h => by cases h)
      · simp only [wpOp, List.getElem?_toArray, List.getElem?_cons_succ, List.getElem?_cons_zero, Region.wanted, if_true]
        refine Or.inl ?_
        have e0 : av.tmps.getD 11 undef = .pointer (some ⟨bw, 0, none⟩) := (hw 0 (by kernel_rfl))
        have e0e : av.eval (.tmp 11) = .pointer (some ⟨bw, 0, none⟩) := e0
        have e0g : av.tmps[11]?.getD undef = .pointer (some ⟨bw, 0, none⟩) := by have := e0; simp only [Array.getD_eq_getD_getElem?] at this; exact this
        clear hw hF
        simp only [Oper.wp, execOp]
        try simp only [e0e]
        go_simp
        exact hK _ x (by first | rfl | (simp only [Nat.add_zero]; done) | (congr 1; omega)) (Below.refl _ _) (fun h => by cases h)
      · simp only [wpOp, List.getElem?_toArray, List.getElem?_cons_succ, List.getElem?_cons_zero, Region.wanted, if_true]
        refine Or.inl ?_
        have e0 : av.tmps.getD 12 undef = .pointer (some ⟨bw, 0, none⟩) := (hw 1 (by kernel_rfl))
        have e0e : av.eval (.tmp 12) = .pointer (some ⟨bw, 0, none⟩) := e0
        have e0g : av.tmps[12]?.getD undef = .pointer (some ⟨bw, 0, none⟩) := by have := e0; simp only [Array.getD_eq_getD_getElem?] at this; exact this
        clear hw hF
        simp only [Oper.wp, execOp]
        try simp only [e0e]
        go_simp
        exact hK _ x (by first | rfl | (simp only [Nat.add_zero]; done) | (congr 1; omega)) (Below.refl _ _) (fun h => by cases h)
      · simp only [wpOp, List.getElem?_toArray, List.getElem?_cons_succ, List.getElem?_cons_zero, Region.wanted, if_true]
        refine Or.inl ?_
        have e0 : av.tmps.getD 13 undef = .pointer (some ⟨bw, 4, none⟩) := (hw 2 (by kernel_rfl))
        have e0e : av.eval (.tmp 13) = .pointer (some ⟨bw, 4, none⟩) := e0
        have e0g : av.tmps[13]?.getD undef = .pointer (some ⟨bw, 4, none⟩) := by have := e0; simp only [Array.getD_eq_getD_getElem?] at this; exact this
        obtain ⟨f1, f4⟩ := FT1.out x hb'
        clear hw hF
        simp only [Oper.wp, execOp]
        try simp only [e0e]
        go_simp
        exact hK _ x (by first | rfl | (simp only [Nat.add_zero]; done) | (congr 1; omega)) (Below.refl _ _) (fun h => by cases h)
      · simp only [wpOp, List.getElem?_toArray, List.getElem?_cons_succ, List.getElem?_cons_zero, Region.wanted, if_true]
        refine Or.inl ?_
        have e0 : av.tmps.getD 0 undef = .pointer (some ⟨bw, 0, none⟩) := hF.2.2 0 (by decide)
        have e0e : av.eval (.tmp 0) = .pointer (some ⟨bw, 0, none⟩) := e0
        have e0g : av.tmps[0]?.getD undef = .pointer (some ⟨bw, 0, none⟩) := by have := e0; simp only [Array.getD_eq_getD_getElem?] at this; exact this
        clear hw hF
        simp only [Oper.wp, execOp]
        try simp only [e0e]
        go_simp
        exact hK _ x (by first | rfl | (simp only [Nat.add_zero]; done) | (congr 1; omega)) (Below.refl _ _) (fun h => by cases h)
      · simp only [wpOp, List.getElem?_toArray, List.getElem?_cons_succ, List.getElem?_cons_zero, Region.wanted, if_true]
        refine Or.inl ?_
        have e0 : av.tmps.getD 15 undef = .pointer (some ⟨bw, 0, none⟩) := (hw 4 (by kernel_rfl))
        have e0e : av.eval (.tmp 15) = .pointer (some ⟨bw, 0, none⟩) := e0
        have e0g : av.tmps[15]?.getD undef = .pointer (some ⟨bw, 0, none⟩) := by have := e0; simp only [Array.getD_eq_getD_getElem?] at this; exact this
        clear hw hF
        simp only [Oper.wp, execOp]
        try simp only [e0e]
        go_simp
        exact hK _ x (by first | rfl | (simp only [Nat.add_zero]; done) | (congr 1; omega)) (Below.refl _ _) (fun h => by cases h)
      · simp only [wpOp, List.getElem?_toArray, List.getElem?_cons_succ, List.getElem?_cons_zero, Region.wanted, if_true]
        refine Or.inl ?_
        have e0 : av.tmps.getD 16 undef = .pointer (some ⟨bw, 0, none⟩) := (hw 5 (by kernel_rfl))
        have e0e : av.eval (.tmp 16) = .pointer (some ⟨bw, 0, none⟩) := e0
        have e0g : av.tmps[16]?.getD undef = .pointer (some ⟨bw, 0, none⟩) := by have := e0; simp only [Array.getD_eq_getD_getElem?] at this; exact this
        clear hw hF
        simp only [Oper.wp, execOp]
        try simp only [e0e]
        go_simp
        exact hK _ x (by first | rfl | (simp only [Nat.add_zero]; done) | (congr 1; omega)) (Below.refl _ _) (fun h => by cases h)
      · simp only [wpOp, List.getElem?_toArray, List.getElem?_cons_succ, List.getElem?_cons_zero, Region.wanted, if_true]
        refine Or.inl ?_
        have e0 : av.tmps.getD 17 undef = .pointer (some ⟨bw, 1, none⟩) := (hw 6 (by kernel_rfl))
        have e0e : av.eval (.tmp 17) = .pointer (some ⟨bw, 1, none⟩) := e0
        have e0g : av.tmps[17]?.getD undef = .pointer (some ⟨bw, 1, none⟩) := by have := e0; simp only [Array.getD_eq_getD_getElem?] at this; exact this
        obtain ⟨f1, f4⟩ := FT1.out x hb'
        clear hw hF
        simp only [Oper.wp, execOp]
        try simp only [e0e]
        go_simp
        exact hK _ x (by first | rfl | (simp only [Nat.add_zero]; done) | (congr 1; omega)) (Below.refl _ _) (fun h => by cases h)
      · simp only [wpOp, List.getElem?_toArray, List.getElem?_cons_succ, List.getElem?_cons_zero, Region.wanted, if_true]
        refine Or.inl ?_
        have e0 : av.tmps.getD 18 undef = .pointer (some ⟨t, 0, none⟩) := (hw 7 (by kernel_rfl))
        have e0e : av.eval (.tmp 18) = .pointer (some ⟨t, 0, none⟩) := e0
        have e0g : av.tmps[18]?.getD undef = .pointer (some ⟨t, 0, none⟩) := by have := e0; simp only [Array.getD_eq_getD_getElem?] at this; exact this
        clear hw hF
        simp only [Oper.wp, execOp]
        try simp only [e0e]
        go_simp
        refine (IM1.out x hb').mono ?_
        rintro e x' ⟨rfl, hx⟩
        exact hK _ x' rfl hx (fun h => by cases h)
    · intro av x hF hb' hR _
      have e0 : av.tmps.getD 11 undef = .pointer (some ⟨bw, 0, none⟩) := hR 0 (by decide)
      have e1 : av.tmps.getD 12 undef = .pointer (some ⟨bw, 0, none⟩) := hR 1 (by decide)
      have e2 : av.tmps.getD 13 undef = .pointer (some ⟨bw, 4, none⟩) := hR 2 (by decide)
      have e3 : av.tmps.getD 14 undef = .map (some bh) := hR 3 (by decide)
      have e4 : av.tmps.getD 15 undef = .pointer (some ⟨bw, 0, none⟩) := hR 4 (by decide)
      have e5 : av.tmps.getD 16 undef = .pointer (some ⟨bw, 0, none⟩) := hR 5 (by decide)
      have e6 : av.tmps.getD 17 undef = .pointer (some ⟨bw, 1, none⟩) := hR 6 (by decide)
      have e7 : av.tmps.getD 18 undef = .pointer (some ⟨t, 0, none⟩) := hR 7 (by decide)
      have e8 : av.tmps.getD 19 undef = .string s1 := hR 8 (by decide)
      rw [hF.fold (by kernel_rfl)]
      simp only [List.foldl_cons, List.foldl_nil, e0, e1, e2, e3, e4, e5, e6, e7, e8]
      simp only [Act.put, List.setIfInBounds_toArray, List.set_cons_zero, List.set_cons_succ]
      change wpOps _ _ _ [9] _ _
      simp only [wpOps_cons]
      clear e0 e1 e2 e3 e4 e5 e6 e7 e8 hR hF
      obtain ⟨D, hown, hD⟩ := H9.out.below hb'
      obtain ⟨w8, hrun, hown8, hg8⟩ := hown.update sK Try.underlying30 (by have := HN.out; unfold maxLen; omega) K1.out (plainElem_bool Try.underlying4 true)
      have H8 := Lib.hid (Hs.ins hown hD hown8)
      have B8 := Lib.hid (show w9.grownBy w8 (some bh) from ⟨hg8.os.trans hb'.os, hg8.tape.trans hb'.tape, hg8.output.trans hb'.output, Nat.le_trans hb'.size hg8.size, fun i h1 h2 => (hg8.block i (Nat.lt_of_lt_of_le h1 hb'.size) h2).trans (hb'.block i h1)⟩)
      clear hown hD hown8 hg8 hb'
      try rw [wpOps_cons]
      simp only [wpOp, List.getElem?_toArray, List.getElem?_cons_succ, List.getElem?_cons_zero, Region.wanted, if_true]
      refine Or.inl ?_
      simp only [Oper.wp, execOp]
      go_simp
      try simp only [wpOps]
      clear hrun
      go_wp2
      go_end0
      exact ⟨rfl, H8.out, grown_trans B9.out B8.out⟩
end Go.Proofs.Ytnpopbobpbbamaa
end

section
/-
  torn; pager's Read.
-/
namespace Go.Proofs.Ytnpopbobpbbamaa
open Go.RowKit
set_option linter.unusedSimpArgs false
set_option linter.unusedVariables false
/-- Has a page a right sum that is none of the heads? -/
def tb (S : List (List UInt8)) (I : List UInt8 → Bool) (k : Nat) : Bool := decide (openE (pg S k) = 0) && !I (pg S k)
set_option maxHeartbeats 4000000 in
set_option maxRecDepth 100000 in
theorem torn_any {Bd bw d t p q bh ds n : Nat} {v : Value} {S : List (List UInt8)} {I : List UInt8 → Bool} (r : Bool) (w : World) (hw : Tw w bw d t p q bh) (h : Dk Bd w d ds v S []) (hS : 4 ≤ S.length) (hh : Hs w bh n I) (hr : (tb S I 0 || tb S I 1) = r) :
    Calls Try.prog 13 #[.pointer (some ⟨bw, 0, none⟩)] w fun e w' => e = .returned (.bool r) ∧ Below w.heap.size w w' := by
  have HW := Lib.hid hw
  have HD := Lib.hid h
  have HH := Lib.hid hh
  have HS := Lib.hid hS
  have HR := Lib.hid hr
  clear hw h hh hS hr
  go_enter Try.func13, Try.ntmps13
  go_wp2_with fail
  go_loopw [3] (fun kv wr => ∃ k : Nat, k ≤ 2 ∧ kv = .int .i64 (k : Int) ∧ Hid (∀ i, i < k → tb S I i = false) ∧ Hid (Below w.heap.size w wr)) (fun kv _ => 2 - (intOf kv).toNat)
  case atStart => exact ⟨0, by omega, rfl, Lib.hid (fun i hi => by omega), Lib.hid (Below.refl _ _)⟩
  case round =>
    obtain ⟨k, hk, rfl, hG, hbl⟩ := hrel
    by_cases hk2 : k < 2
    · have IM := Lib.hid (image_any k wr (HD.out.below hbl.out) (by have := HS.out; omega))
      obtain ⟨b, hb⟩ : ∃ b, pg S k = b := ⟨_, rfl⟩
      have hl : b.length ≤ 1000 := by rw [← hb]; exact Nat.le_trans (pg_le HD.out.s64 k) (by omega)
      have LK := Lib.hid (fun X (hX : Below w.heap.size w X) => look_b (HH.out.below hX) b hl)
      have OP := Lib.hid (fun X => open_any b X)
      have TB := Lib.hid (show tb S I k = (decide (openE b = 0) && !I b) by unfold tb; rw [hb])
      rw [hb] at IM
      obtain ⟨s, hs⟩ : ∃ s : ByteArray, (⟨b.toArray⟩ : ByteArray) = s := ⟨_, rfl⟩
      rw [hs] at IM LK OP
      have d1 : decide ((k : Int) < 2) = true := decide_eq_true (by omega)
      have KL := Lib.hid hk2
      have kw := Lib.hid (wup (k := k) (by omega))
      have c0 := row_c (i := 0) (row_on HW.out hbl.out) rfl
      obtain ⟨re, hre⟩ : ∃ re : Int, ((openE b : Nat) : Int) = re := ⟨_, rfl⟩
      obtain ⟨rk, hrk⟩ : ∃ rk : Int, ((openK b : Nat) : Int) = rk := ⟨_, rfl⟩
      obtain ⟨rs, hrs⟩ : ∃ rs : ByteArray, (⟨(openS b).toArray⟩ : ByteArray) = rs := ⟨_, rfl⟩
      rw [hre, hrk, hrs] at OP
      obtain ⟨qi, hqi⟩ : ∃ qi, I b = qi := ⟨_, rfl⟩
      rw [hqi] at LK TB
      have RE := Lib.hid hre
      clear hb hl hs hre hrk hrs hqi hk2 hk
      go_wp2_with fail
      refine IM.out.mono ?_
      rintro e w2 ⟨rfl, hb2⟩
      have B2 := Lib.hid (bon hbl.out hb2)
      clear hb2 c0
      go_wp2_with fail
      refine (OP.out w2).mono ?_
      rintro e w3 ⟨rfl, hb3⟩
      have B3 := Lib.hid (bon B2.out hb3)
      have lk := LK.out _ B3.out
      have c4 := row_c (i := 4) (row_on HW.out B3.out) rfl
      clear hb3
      by_cases h0 : re = 0
      · subst h0
        have E0 := Lib.hid (show openE b = 0 by have := RE.out; omega)
        cases qi
        · have T1 := Lib.hid (show tb S I k = true by rw [TB.out, E0.out]; rfl)
          go_wp2
          go_ret
          refine ⟨?_, B3.out⟩
          have hk01 : k = 0 ∨ k = 1 := by have := KL.out; omega
          have h2 := HR.out
          rcases hk01 with rfl | rfl
          · rw [T1.out] at h2; subst h2; rfl
          · rw [T1.out, Bool.or_true] at h2; subst h2; rfl
        · have T1 := Lib.hid (show tb S I k = false by rw [TB.out, E0.out]; rfl)
          go_wp2_with fail
          exact ⟨⟨k + 1, KL.out, by first | (rw [kw.out]; rfl) | rfl, Lib.hid (fun i hi => by
            rcases Nat.lt_or_ge i k with h | h
            · exact hG.out i h
            · obtain rfl : i = k := by omega
              exact T1.out), B3⟩, by first | exact meas_up KL.out kw.out | (have := KL.out; simp [intOf]; omega)⟩
      · have e1 : (re == 0) = false := by simpa using h0
        have T1 := Lib.hid (show tb S I k = false by rw [TB.out, decide_eq_false (fun h => h0 (by rw [← RE.out, h]; rfl))]; rfl)
        clear lk
        go_wp2_with fail
        exact ⟨⟨k + 1, KL.out, by first | (rw [kw.out]; rfl) | rfl, Lib.hid (fun i hi => by
          rcases Nat.lt_or_ge i k with h | h
          · exact hG.out i h
          · obtain rfl : i = k := by omega
            exact T1.out), B3⟩, by first | exact meas_up KL.out kw.out | (have := KL.out; simp [intOf]; omega)⟩
    · obtain rfl : k = 2 := by omega
      have R0 := Lib.hid (show false = r by rw [← HR.out, hG.out 0 (by omega), hG.out 1 (by omega)]; rfl)
      clear hk2 hk
      go_wp2
      go_ret
      have h2 := R0.out
      subst h2
      exact ⟨rfl, hbl.out⟩
set_option maxHeartbeats 4000000 in
set_option maxRecDepth 100000 in
theorem pgread_yes {B p g gs : Nat} {v f m0 : Value} {T R : Int} {S : List (List UInt8)} (n k M : Nat) (l : List UInt8) (w : World) (hp : Pb w p T R m0 g f) (h : Dk B w g gs v S []) (hM : S.length / 2 = M) (hn : n < M) (hb : pg S n = sealL k l) (h1 : 1 ≤ k) (h9 : k ≤ 9) (hl : l.length ≤ 120) :
    Calls Try.prog 18 #[.pointer (some ⟨p, 0, none⟩), .int .i64 (n : Int)] w fun e w' => e = .returned (.tuple #[.int .i64 (k : Int), .string ⟨l.toArray⟩, .int .i64 0]) ∧ Below w.heap.size w w' := by
  have PG := Lib.hid (pages_any M w (row_c (i := 3) hp rfl) h hM)
  have h64 := pg_le h.s64 n
  obtain ⟨o1, o2, o3⟩ := open_seal (k := k) (t := l) h1 h9 hl
  have PR := Lib.hid (show Calls Try.prog 34 #[.pointer (some ⟨g, 0, none⟩), .int .i64 (n : Int)] w fun e w' => e = .returned (.tuple #[.int .i64 (k : Int), .string ⟨l.toArray⟩, .int .i64 0]) ∧ Below w.heap.size w w' by
    have hh := pread_any n w h (by omega) (by simp) (pg S n) rfl h64
    rw [hb, o1, o2, o3] at hh
    exact hh)
  have HP := Lib.hid hp
  have TOLD := Lib.hid (fun X => told_ok (p := p) X)
  have c5 := row_c (i := 5) hp rfl
  have c3 := row_c (i := 3) hp rfl
  have M5 : M ≤ 512 := by have := h.n2; omega
  have d0 : decide ((n : Int) < 0) = false := decide_eq_false (by omega)
  have d1 : decide ((M : Int) ≤ (n : Int)) = false := decide_eq_false (by omega)
  have d2 : decide (M ≤ n) = false := decide_eq_false (by omega)
  have n0 : (0 : Int) ≤ (n : Int) := by omega
  obtain ⟨s, hs⟩ : ∃ s : ByteArray, (⟨l.toArray⟩ : ByteArray) = s := ⟨_, rfl⟩
  rw [hs] at PR ⊢
  clear hp h hM hn hb h1 h9 hl h64 o1 o2 o3 hs M5
  go_enter Try.func18, Try.ntmps18
  go_wp2_with fail
  refine PG.out.mono ?_
  rintro e w1 ⟨rfl, hw⟩
  obtain rfl : w = w1 := hw.symm
  clear hw
  go_wp2_with fail
  refine PR.out.mono ?_
  rintro e w2 ⟨rfl, hb2⟩
  have B2 := Lib.hid hb2
  clear hb2 c3 c5
  go_wp2_with fail
  refine (TOLD.out _).mono ?_
  rintro e w3 ⟨rfl, hw⟩
  obtain rfl : w2 = w3 := hw.symm
  clear hw
  go_wp2
  go_ret3
  exact ⟨rfl, B2.out⟩
end Go.Proofs.Ytnpopbobpbbamaa
end

section
/-
  Power that goes in commits: plain words.
-/
namespace Go.Proofs.Ytnpopbobpbbamaa
open Go.RowKit
set_option linter.unusedSimpArgs false
set_option linter.unusedVariables false
/-- The root of the head of that turn, the pages it has, its page. -/
def rootOf (j : Nat) : Nat := if j = 1 then 0 else j
def Uj (j : Nat) : Nat → Bool := fun i => decide (i < j + 1)
def Hj (j : Nat) : List UInt8 := sealL 1 (headL j (rootOf j) (Uj j))
def z128 : List UInt8 := List.replicate 128 0
theorem z128_open : openE z128 ≠ 0 := by decide +kernel
theorem Hj_open (j : Nat) : openE (Hj j) = 0 := (open_seal (k := 1) (t := headL j (rootOf j) (Uj j)) (by omega) (by omega) (by rw [headL_len]; omega)).1
theorem Hj_len (j : Nat) : (Hj j).length = 128 := seal_len (by rw [headL_len]; omega)
theorem Hj_turn {j : Nat} (h : j < 256) : (Hj j)[9]?.getD 0 = UInt8.ofNat j := by
  unfold Hj sealL bodyL
  rw [List.append_assoc, List.append_assoc, List.getElem?_append_right (by simp), List.getElem?_append_left (by rw [headL_len]; simp)]
  unfold headL
  rw [List.getElem?_map]
  simp [hF, Nat.mod_eq_of_lt h]
theorem z128_turn : z128[9]?.getD 0 = UInt8.ofNat 0 := by decide +kernel
theorem turn_inj {a b : Nat} (ha : a < 256) (hb : b < 256) (h : UInt8.ofNat a = UInt8.ofNat b) : a = b := by
  have := congrArg UInt8.toNat h
  simpa [UInt8.toNat_ofNat', Nat.mod_eq_of_lt ha, Nat.mod_eq_of_lt hb] using this
/-- The images that were noted, behind so many commits. -/
def Iof : Nat → List UInt8 → Bool
  | 0 => fun l => (l == z128) || l == Hj 1
  | i + 1 => fun l => Iof i l || l == Hj (i + 2)
theorem Iof_has {i : Nat} {l : List UInt8} (h : Iof i l = true) : l = z128 ∨ ∃ k, 1 ≤ k ∧ k ≤ i + 1 ∧ l = Hj k := by
  induction i with
  | zero =>
    unfold Iof at h
    simp only [Bool.or_eq_true, beq_iff_eq] at h
    rcases h with h | h
    · exact .inl h
    · exact .inr ⟨1, by omega, by omega, h⟩
  | succ i ih =>
    unfold Iof at h
    simp only [Bool.or_eq_true, beq_iff_eq] at h
    rcases h with h | h
    · rcases ih h with h | ⟨k, h1, h2, h3⟩
      · exact .inl h
      · exact .inr ⟨k, h1, by omega, h3⟩
    · exact .inr ⟨i + 2, by omega, by omega, h⟩
theorem Iof_Hj {i k : Nat} (h1 : 1 ≤ k) (h2 : k ≤ i + 1) : Iof i (Hj k) = true := by
  induction i with
  | zero =>
    obtain rfl : k = 1 := by omega
    unfold Iof; simp
  | succ i ih =>
    unfold Iof
    by_cases h : k = i + 2
    · subst h; simp
    · rw [ih (by omega)]; rfl
/-- What a head's page was before. -/
def oldOf (i : Nat) : List UInt8 := if i = 0 then z128 else Hj i
/-- What the disk holds behind so many commits. -/
structure PS (S : List (List UInt8)) (i : Nat) (X : Nat → List UInt8) : Prop where
  len : S.length = 32
  s64 : ∀ s ∈ S, s.length = 64
  hd : pg S ((i + 1) % 2) = Hj (i + 1)
  od : pg S (i % 2) = oldOf i
  dt : ∀ j, j < i → pg S (j + 2) = sealL 2 (X j)
theorem U1_eq : nU [] = Uj 1 := by funext i; unfold nU Uj; simp
theorem H1_eq : sealL 1 (headL 1 0 (nU [])) = Hj 1 := by unfold Hj; rw [U1_eq]; rfl
theorem z_pg {n m : Nat} (h : 2 * m + 1 < n) : pg (List.replicate n z64) m = z128 := by
  unfold pg
  rw [List.getElem?_replicate, List.getElem?_replicate, if_pos (by omega), if_pos h]
  unfold z64 z128
  simp
theorem PS0 {S : List (List UInt8)} {X : Nat → List UInt8} (h : flush (List.replicate 32 z64) ([] ++ hdW 1 0 (nU [])) = S) : PS S 0 X := by
  have h64 : ∀ s ∈ List.replicate 32 z64, s.length = 64 := fun s hs => by rw [List.eq_of_mem_replicate hs]; exact z64_len
  have hp := pg_hd (S := List.replicate 32 z64) 1 0 (nU []) h64 (by simp)
  rw [List.nil_append] at h
  subst h
  exact ⟨by rw [flush_len]; simp, hp.1, by rw [hp.2]; rw [if_pos rfl]; exact H1_eq, by rw [hp.2, if_neg (by decide), z_pg (by omega)]; rfl, fun j hj => by omega⟩
theorem PS.ext {S : List (List UInt8)} {i : Nat} {X Y : Nat → List UInt8} (h : PS S i X) (he : ∀ j, j < i → X j = Y j) : PS S i Y :=
  ⟨h.len, h.s64, h.hd, h.od, fun j hj => by rw [h.dt j hj, he j hj]⟩
/-- The pages' set of the next head. -/
theorem Uj_next {U : Nat → Bool} {i : Nat} (h : ∀ k, U k = Uj (i + 1) k) (k : Nat) : (nU [i + 2] k || U k) = Uj (i + 2) k := by
  rw [h]
  unfold nU Uj
  rw [Bool.eq_iff_iff]
  simp
  omega
theorem hd_next {U : Nat → Bool} {i : Nat} (h : ∀ k, U k = Uj (i + 2) k) : sealL 1 (headL (i + 2) (i + 2) U) = Hj (i + 2) := by
  obtain rfl : U = Uj (i + 2) := funext h
  unfold Hj rootOf
  rw [if_neg (by omega)]
theorem PS.data {S : List (List UInt8)} {i x : Nat} {X : Nat → List UInt8} {a b : List UInt8} (h : PS S i X) (ha : a.length = 64) (hb : b.length = 64) (hx : x = i + 2) (hi : i ≤ 8) :
    PS (flush S (wr2 x a b)) i X ∧ pg (flush S (wr2 x a b)) x = a ++ b := by
  have hp := pg_wr2 (S := S) (x := x) h.s64 ha hb (by rw [h.len]; omega)
  refine ⟨⟨by rw [flush_len]; exact h.len, hp.1, ?_, ?_, fun j hj => ?_⟩, ?_⟩
  · rw [hp.2, if_neg (by omega)]; exact h.hd
  · rw [hp.2, if_neg (by omega)]; exact h.od
  · rw [hp.2, if_neg (by omega)]; exact h.dt j hj
  · rw [hp.2, if_pos rfl]
theorem PS.next {S : List (List UInt8)} {i x : Nat} {X : Nat → List UInt8} {U : Nat → Bool} (h : PS S i X) (hx : x = i + 2) (hi : i ≤ 8) (hd : pg S x = sealL 2 (X i)) (hU : ∀ k, U k = Uj (i + 2) k) :
    PS (flush S (hdW (i + 1 + 1) x U)) (i + 1) X := by
  subst hx
  have hp := pg_hd (S := S) (i + 1 + 1) (i + 2) U h.s64 (by rw [h.len]; omega)
  have e := hd_next hU
  refine ⟨by rw [flush_len]; exact h.len, hp.1, ?_, ?_, fun j hj => ?_⟩
  · rw [hp.2, if_pos (by omega)]; exact e
  · rw [hp.2, if_neg (by omega)]; unfold oldOf; rw [if_neg (by omega)]; exact h.hd
  · rw [hp.2, if_neg (by omega)]
    by_cases e : j = i
    · subst e; exact hd
    · exact h.dt j (by omega)
/-- A text's page, and then the head. -/
theorem PS.step {S : List (List UInt8)} {i x : Nat} {X : Nat → List UInt8} {U : Nat → Bool} {t : List UInt8} (h : PS S i X) (hx : x = i + 2) (hi : i ≤ 8) (ht : X i = t) (hl : t.length ≤ 120) (hU : ∀ k, U k = Uj (i + 2) k) :
    PS (flush (flush S ([] ++ wr2 x ((sealL 2 t).take 64) ((sealL 2 t).drop 64))) (hdW (i + 1 + 1) x U)) (i + 1) X := by
  have hh := seal_halves (k := 2) hl
  obtain ⟨h1, h2⟩ := h.data hh.1 hh.2 hx hi
  rw [List.nil_append]
  exact h1.next hx hi (by rw [h2, List.take_append_drop, ht]) hU
/-- Bytes of both. -/
def Mx (a b c : List UInt8) : Prop := ∀ k : Nat, c[k]?.getD 0 = a[k]?.getD 0 ∨ c[k]?.getD 0 = b[k]?.getD 0
theorem Mx.left (a b : List UInt8) : Mx a b a := fun _ => .inl rfl
theorem mix_at {a b : List UInt8} {q : Nat} (h : a.length = b.length) (k : Nat) : (b.take q ++ a.drop q)[k]?.getD 0 = if k < q then b[k]?.getD 0 else a[k]?.getD 0 := by
  by_cases hk : k < q
  · rw [if_pos hk]
    by_cases hb : k < b.length
    · rw [List.getElem?_append_left (by rw [List.length_take]; omega), List.getElem?_take, if_pos hk]
    · rw [List.getElem?_eq_none (by simp; omega), List.getElem?_eq_none (by omega)]
  · rw [if_neg hk]
    by_cases hb : q ≤ b.length
    · rw [List.getElem?_append_right (by rw [List.length_take]; omega), List.getElem?_drop, List.length_take, Nat.min_eq_left hb]
      congr 2
      omega
    · rw [List.getElem?_eq_none (by simp; omega), List.getElem?_eq_none (by omega)]
theorem cstep_at {ks : List Int} {torn : Int} {q k n : Nat} {S : List (List UInt8)} {t : List UInt8} (hq : q ≤ 64) (h64 : ∀ s ∈ S, s.length = 64) (ht : t.length = 64) (hn : n < S.length) :
    (∀ s ∈ cstep ks torn q S k (n, t), s.length = 64) ∧ (∀ j, j ≠ n → (cstep ks torn q S k (n, t))[j]?.getD [] = S[j]?.getD []) ∧ Mx (S[n]?.getD []) t ((cstep ks torn q S k (n, t))[n]?.getD []) := by
  have hl : (S[n]?.getD []).length = 64 := by rw [List.getElem?_eq_getElem hn]; exact h64 _ (List.getElem_mem hn)
  unfold cstep
  have key : ∀ r, r ≤ 64 → (∀ s ∈ put S n t r, s.length = 64) ∧ (∀ j, j ≠ n → (put S n t r)[j]?.getD [] = S[j]?.getD []) ∧ Mx (S[n]?.getD []) t ((put S n t r)[n]?.getD []) := by
    intro r hr
    refine ⟨put_64 hn h64 ht hr, fun j hj => ?_, fun k => ?_⟩
    · unfold put; rw [List.getElem?_set, if_neg (fun e => hj e.symm)]
    · have e : (put S n t r)[n]?.getD [] = t.take r ++ (S[n]?.getD []).drop r := by unfold put; rw [List.getElem?_set, if_pos rfl, if_pos hn]; rfl
      rw [e, mix_at (by rw [hl, ht])]
      split
      · exact .inr rfl
      · exact .inl rfl
  dsimp only
  split
  · exact key q hq
  · split
    · exact key 64 (by omega)
    · exact ⟨h64, fun _ _ => rfl, Mx.left _ _⟩
theorem Mx.app {a b c a' b' c' : List UInt8} (h : Mx a b c) (k : Mx a' b' c') (h1 : a.length = 64) (h2 : b.length = 64) (h3 : c.length = 64) : Mx (a ++ a') (b ++ b') (c ++ c') := by
  intro i
  by_cases hi : i < 64
  · rw [List.getElem?_append_left (by omega), List.getElem?_append_left (by omega), List.getElem?_append_left (by omega)]; exact h i
  · rw [List.getElem?_append_right (by omega), List.getElem?_append_right (by omega), List.getElem?_append_right (by omega), h1, h2, h3]; exact k (i - 64)
theorem s_len {S : List (List UInt8)} (h : ∀ s ∈ S, s.length = 64) {n : Nat} (hn : n < S.length) : (S[n]?.getD []).length = 64 := by
  rw [List.getElem?_eq_getElem hn]; exact h _ (List.getElem_mem hn)
/-- A page that is written when the power goes: the others stay, each of its bytes is the old one's or the new one's. -/
theorem crash_two {ks : List Int} {torn : Int} {q x m : Nat} {S : List (List UInt8)} {a b : List UInt8} (hq : q ≤ 64) (h64 : ∀ s ∈ S, s.length = 64) (ha : a.length = 64) (hb : b.length = 64) (hx : 2 * x + 1 < S.length) :
    (∀ s ∈ crash ks torn q S ((wr2 x a b).take m), s.length = 64) ∧ (∀ n, n ≠ x → pg (crash ks torn q S ((wr2 x a b).take m)) n = pg S n) ∧ Mx (pg S x) (a ++ b) (pg (crash ks torn q S ((wr2 x a b).take m)) x) := by
  have h0 := cstep_at (ks := ks) (torn := torn) (k := 0) hq h64 ha (show 2 * x < S.length by omega)
  rcases m with _ | _ | m
  · exact ⟨h64, fun _ _ => rfl, Mx.left _ _⟩
  · have e : crash ks torn q S ((wr2 x a b).take (0 + 1)) = cstep ks torn q S 0 (2 * x, a) := rfl
    rw [e]
    refine ⟨h0.1, fun n hn => ?_, ?_⟩
    · unfold pg; rw [h0.2.1 _ (by omega), h0.2.1 _ (by omega)]
    · unfold pg
      rw [h0.2.1 (2 * x + 1) (by omega)]
      exact h0.2.2.app (Mx.left _ _) (s_len h64 (by omega)) ha (s_len h0.1 (by rw [cstep_len]; omega))
  · have e : crash ks torn q S ((wr2 x a b).take (m + 1 + 1)) = cstep ks torn q (cstep ks torn q S 0 (2 * x, a)) 1 (2 * x + 1, b) := by
      have : (wr2 x a b).take (m + 1 + 1) = wr2 x a b := by rw [List.take_of_length_le]; unfold wr2; simp
      rw [this]; rfl
    rw [e]
    have h1 := cstep_at (ks := ks) (torn := torn) (k := 1) hq h0.1 hb (show 2 * x + 1 < _ by rw [cstep_len]; exact hx)
    refine ⟨h1.1, fun n hn => ?_, ?_⟩
    · unfold pg; rw [h1.2.1 _ (by omega), h1.2.1 _ (by omega), h0.2.1 _ (by omega), h0.2.1 _ (by omega)]
    · unfold pg
      rw [h1.2.1 (2 * x) (by omega)]
      have h2 := h1.2.2
      rw [h0.2.1 (2 * x + 1) (by omega)] at h2
      exact h0.2.2.app h2 (s_len h64 (by omega)) ha (s_len h0.1 (by rw [cstep_len]; omega))
/-- What is on the disk, and what waits, when the commits end. -/
def Lf (S : List (List UInt8)) (C : List Wt) (sure tried : Nat) (X : Nat → List UInt8) : Prop :=
  (tried = sure ∧ C = [] ∧ PS S sure X) ∨
  (tried = sure + 1 ∧ PS S sure X ∧ ∃ m a b, C = (wr2 (sure + 2) a b).take m ∧ a.length = 64 ∧ b.length = 64) ∨
  (tried = sure + 1 ∧ PS S sure X ∧ pg S (sure + 2) = sealL 2 (X sure) ∧ ∃ m U, C = (hdW (sure + 2) (sure + 2) U).take m ∧ ∀ k, U k = Uj (sure + 2) k)
/-- What is on it behind the crash. -/
structure Fn (S : List (List UInt8)) (sure tried : Nat) (X : Nat → List UInt8) : Prop where
  len : S.length = 32
  s64 : ∀ s ∈ S, s.length = 64
  tr : tried = sure ∨ tried = sure + 1
  hd : pg S ((sure + 1) % 2) = Hj (sure + 1)
  dt : ∀ j, j < sure → pg S (j + 2) = sealL 2 (X j)
  od : pg S (sure % 2) = oldOf sure ∨ (tried = sure + 1 ∧ Mx (oldOf sure) (Hj (sure + 2)) (pg S (sure % 2)) ∧ pg S (sure + 2) = sealL 2 (X sure))
theorem Lf.crash {ks : List Int} {torn : Int} {q : Nat} {S : List (List UInt8)} {C : List Wt} {sure tried : Nat} {X : Nat → List UInt8} (h : Lf S C sure tried X) (hq : q ≤ 64) (hs : sure ≤ 8) : Fn (crash ks torn q S C) sure tried X := by
  rcases h with ⟨rfl, rfl, h⟩ | ⟨rfl, h, m, a, b, rfl, ha, hb⟩ | ⟨rfl, h, hd, m, U, rfl, hU⟩
  · exact ⟨h.len, h.s64, .inl rfl, h.hd, h.dt, .inl h.od⟩
  · have hc := crash_two (ks := ks) (torn := torn) (m := m) hq h.s64 ha hb (show 2 * (sure + 2) + 1 < S.length by rw [h.len]; omega)
    exact ⟨by rw [crash_len]; exact h.len, hc.1, .inr rfl, by rw [hc.2.1 _ (by omega)]; exact h.hd, fun j hj => by rw [hc.2.1 _ (by omega)]; exact h.dt j hj, .inl (by rw [hc.2.1 _ (by omega)]; exact h.od)⟩
  · have e := hd_next hU
    have hh := seal_halves (k := 1) (t := headL (sure + 2) (sure + 2) U) (by rw [headL_len]; omega)
    have hc := crash_two (ks := ks) (torn := torn) (m := m) (x := (sure + 2) % 2) hq h.s64 hh.1 hh.2 (by rw [h.len]; omega)
    have ew : hdW (sure + 2) (sure + 2) U = wr2 ((sure + 2) % 2) ((sealL 1 (headL (sure + 2) (sure + 2) U)).take 64) ((sealL 1 (headL (sure + 2) (sure + 2) U)).drop 64) := rfl
    rw [ew, e]
    rw [e, List.take_append_drop] at hc
    refine ⟨by rw [crash_len]; exact h.len, hc.1, .inr rfl, by rw [hc.2.1 _ (by omega)]; exact h.hd, fun j hj => by rw [hc.2.1 _ (by omega)]; exact h.dt j hj, .inr ⟨rfl, ?_, by rw [hc.2.1 _ (by omega)]; exact hd⟩⟩
    have h3 := hc.2.2
    have e2 : (sure + 2) % 2 = sure % 2 := by omega
    rw [e2, h.od] at h3
    rw [e2]
    exact h3
/-- The head of a turn. -/
def hdOf (j : Nat) : Hd := ⟨j, rootOf j, Uj j⟩
theorem inU_Uj {j : Nat} (hj : j < 500) : inU (Uj j) (.int .i64 (j : Int)) = true := by
  rw [inU_nat]; unfold Uj; simp; omega
theorem Hj_ok {j n : Nat} (h1 : 1 ≤ j) (h9 : j ≤ 14) (hn : j % 2 = n) : pgOk 16 n (Hj j) (some (hdOf j)) := by
  show Hj j = sealL 1 (headL j (rootOf j) (Uj j)) ∧ Fits j (rootOf j) (Uj j) n 16
  refine ⟨rfl, ⟨h1, ?_, hn, ?_, ?_, ?_, ?_, ?_⟩⟩
  · show j < _; omega
  · show rootOf j < _; unfold rootOf; split <;> omega
  · show rootB (Uj j) (rootOf j : Int) = true
    unfold rootB rootOf
    by_cases e : j = 1
    · subst e; rfl
    · rw [if_neg e, inU_Uj (by omega)]
      simp; omega
  · show Uj j 0 = true; unfold Uj; simp
  · show Uj j 1 = true; unfold Uj; simp; omega
  · intro i _ hi
    have : Uj j i = true := hi
    unfold Uj at this
    simp at this; omega
theorem bst_two (G : Nat → Option Hd) (a b : Option Hd) (ha : G 0 = a) (hb : G 1 = b) : bst G 2 = stepB b (stepB a none) := by
  subst ha; subst hb; rfl
/-- What is opened behind a crash: a head that there never was, or the head of one turn. -/
theorem Fn.open {S : List (List UInt8)} {sure tried : Nat} {X : Nat → List UInt8} (h : Fn S sure tried X) (hs : sure ≤ 8) :
    (tb S (Iof tried) 0 || tb S (Iof tried) 1) = true ∨ ((tb S (Iof tried) 0 || tb S (Iof tried) 1) = false ∧ ∃ n G, (n = sure ∨ n = tried) ∧ n ≤ 9 ∧ (∀ k, k < 2 → pgOk 16 k (pg S k) (G k)) ∧ bst G 2 = some (hdOf (n + 1)) ∧ ∀ j, j < n → pg S (j + 2) = sealL 2 (X j)) := by
  by_cases hbt : (tb S (Iof tried) 0 || tb S (Iof tried) 1) = true
  · exact .inl hbt
  have hb : (tb S (Iof tried) 0 || tb S (Iof tried) 1) = false := by simpa using hbt
  refine .inr ⟨hb, ?_⟩
  have htb : ∀ k, k < 2 → openE (pg S k) = 0 → Iof tried (pg S k) = true := by
    intro k hk h0
    have : tb S (Iof tried) k = false := by
      rw [Bool.or_eq_false_iff] at hb
      rcases k with _ | _ | k
      · exact hb.1
      · exact hb.2
      · omega
    unfold tb at this
    rw [h0] at this
    simpa using this
  have fin : ∀ (o : Option Hd) (n : Nat), (n = sure ∨ n = tried) → n ≤ 9 → pgOk 16 (sure % 2) (pg S (sure % 2)) o → stepB o (some (hdOf (sure + 1))) = some (hdOf (n + 1)) → stepB (some (hdOf (sure + 1))) (stepB o none) = some (hdOf (n + 1)) → (∀ j, j < n → pg S (j + 2) = sealL 2 (X j)) → ∃ n G, (n = sure ∨ n = tried) ∧ n ≤ 9 ∧ (∀ k, k < 2 → pgOk 16 k (pg S k) (G k)) ∧ bst G 2 = some (hdOf (n + 1)) ∧ ∀ j, j < n → pg S (j + 2) = sealL 2 (X j) := by
    intro o n hn hn9 ho h1 h2 hd
    have hok : pgOk 16 ((sure + 1) % 2) (pg S ((sure + 1) % 2)) (some (hdOf (sure + 1))) := by
      rw [h.hd]; exact Hj_ok (by omega) (by omega) rfl
    have s1 : stepB (some (hdOf (sure + 1))) none = some (hdOf (sure + 1)) := by
      unfold stepB tO hdOf; simp
    by_cases e : sure % 2 = 0
    · have e1 : (sure + 1) % 2 = 1 := by omega
      rw [e] at ho
      rw [e1] at hok
      refine ⟨n, fun k => if k = 0 then o else some (hdOf (sure + 1)), hn, hn9, fun k hk => ?_, ?_, hd⟩
      · rcases k with _ | _ | k
        · exact ho
        · exact hok
        · omega
      · rw [bst_two _ o (some (hdOf (sure + 1))) rfl rfl]; exact h2
    · have e1 : (sure + 1) % 2 = 0 := by omega
      have e2 : sure % 2 = 1 := by omega
      rw [e2] at ho
      rw [e1] at hok
      refine ⟨n, fun k => if k = 0 then some (hdOf (sure + 1)) else o, hn, hn9, fun k hk => ?_, ?_, hd⟩
      · rcases k with _ | _ | k
        · exact hok
        · exact ho
        · omega
      · rw [bst_two _ (some (hdOf (sure + 1))) o rfl rfl, s1]; exact h1
  have low : ∀ j, 1 ≤ j → j ≤ sure → pg S (sure % 2) = Hj j → j % 2 = sure % 2 → ∃ n G, (n = sure ∨ n = tried) ∧ n ≤ 9 ∧ (∀ k, k < 2 → pgOk 16 k (pg S k) (G k)) ∧ bst G 2 = some (hdOf (n + 1)) ∧ ∀ j, j < n → pg S (j + 2) = sealL 2 (X j) := by
    intro j h1 h2 hp hm
    refine fin (some (hdOf j)) sure (.inl rfl) (by omega) (by rw [hp]; exact Hj_ok h1 (by omega) hm) ?_ ?_ h.dt
    · unfold stepB tO hdOf; simp; omega
    · unfold stepB tO hdOf; simp [show 0 < j by omega]; omega
  have no : openE (pg S (sure % 2)) ≠ 0 → ∃ n G, (n = sure ∨ n = tried) ∧ n ≤ 9 ∧ (∀ k, k < 2 → pgOk 16 k (pg S k) (G k)) ∧ bst G 2 = some (hdOf (n + 1)) ∧ ∀ j, j < n → pg S (j + 2) = sealL 2 (X j) := fun h0 =>
    fin none sure (.inl rfl) (by omega) h0 rfl (by unfold stepB tO hdOf; simp) h.dt
  by_cases h00 : openE (pg S (sure % 2)) ≠ 0
  · exact no h00
  have h0 : openE (pg S (sure % 2)) = 0 := by omega
  have hI := htb _ (by omega) h0
  rcases Iof_has hI with hz | ⟨k, k1, k2, hk⟩
  · rw [hz] at h0; exact absurd h0 z128_open
  have ht := h.tr
  have old9 : (oldOf sure)[9]?.getD 0 = UInt8.ofNat sure := by
    unfold oldOf
    by_cases e : sure = 0
    · subst e; exact z128_turn
    · rw [if_neg e]; exact Hj_turn (by omega)
  have k9 : (pg S (sure % 2))[9]?.getD 0 = UInt8.ofNat k := by rw [hk]; exact Hj_turn (by omega)
  rcases h.od with h1 | ⟨h1, h2, h3⟩
  · rw [h1, old9] at k9
    have := turn_inj (by omega) (by omega) k9
    subst this
    exact low sure k1 (by omega) hk rfl
  · rcases h2 9 with h4 | h4
    · rw [k9, old9] at h4
      have := turn_inj (by omega) (by omega) h4
      subst this
      exact low k k1 (by omega) hk rfl
    · rw [k9, Hj_turn (by omega)] at h4
      have := turn_inj (by omega) (by omega) h4
      subst this
      refine fin (some (hdOf (sure + 2))) (sure + 1) (.inr h1.symm) (by omega) (by rw [hk]; exact Hj_ok (by omega) (by omega) (by omega)) ?_ ?_ (fun j hj => ?_)
      · unfold stepB tO hdOf; simp
      · unfold stepB tO hdOf; simp
      · by_cases e : j = sure
        · subst e; exact h3
        · exact h.dt j (by omega)
end Go.Proofs.Ytnpopbobpbbamaa
end

section
/-
  Alloc on a disk with a fuse; twins.
-/
namespace Go.Proofs.Ytnpopbobpbbamaa
open Go.RowKit
set_option linter.unusedSimpArgs false
set_option linter.unusedVariables false
set_option maxHeartbeats 1000000 in
set_option maxRecDepth 100000 in
theorem pagesOf_anyF {fu : Int} {dn : Bool} {B g gs : Nat} {v : Value} {S : List (List UInt8)} {C : List Wt} (n : Nat) (w : World) (h : Df fu dn B w g gs v S C) (hn : S.length / 2 = n) :
    Calls Try.prog 33 #[.pointer (some ⟨g, 0, none⟩)] w fun e w' => e = .returned (.int .i64 (n : Int)) ∧ w' = w := by
  have H := Lib.hid (sectors_anyF w h)
  have HN := Lib.hid hn
  have hS : S.length ≤ 1024 := h.n2
  obtain ⟨s, hs⟩ : ∃ s, S.length = s := ⟨_, rfl⟩
  rw [hs] at H HN hS
  clear h hn hs
  go_enter Try.func33, Try.ntmps33
  go_wp2_with fail
  refine H.out.mono ?_
  rintro e w' ⟨rfl, rfl⟩
  go_wp2
  go_ret
  refine ⟨?_, rfl⟩
  have := HN.out
  first | (subst this; rfl) | (subst this; simp; done) | (subst this; congr 2; omega)
set_option maxHeartbeats 1000000 in
set_option maxRecDepth 100000 in
theorem pages_anyF {fu : Int} {dn : Bool} {p B g gs : Nat} {v : Value} {S : List (List UInt8)} {C : List Wt} (n : Nat) (w : World) (hp : w.cell? ⟨p, 3, none⟩ = some (.pointer (some ⟨g, 0, none⟩))) (h : Df fu dn B w g gs v S C) (hn : S.length / 2 = n) :
    Calls Try.prog 21 #[.pointer (some ⟨p, 0, none⟩)] w fun e w' => e = .returned (.int .i64 (n : Int)) ∧ w' = w := by
  have H := Lib.hid (pagesOf_anyF n w h hn)
  clear h hn
  go_enter Try.func21, Try.ntmps21
  go_wp2_with fail
  refine H.out.mono ?_
  rintro e w' ⟨rfl, rfl⟩
  go_wp2
  go_ret
  exact ⟨rfl, rfl⟩
theorem Df.grown {fu : Int} {dn : Bool} {B g gs : Nat} {v : Value} {S : List (List UInt8)} {C : List Wt} {w w' : World} {r : Option Nat} (h : Df fu dn B w g gs v S C) (hg : w.grownBy w' r) (hr : ∀ b, some b = r → ∃ cs T fr, w.heap[b]? = some (.cells cs T fr) ∧ T ≠ 70 ∧ T ≠ 57 ∧ T ≠ 68) : Df fu dn B w' g gs v S C :=
  ⟨(hg.block g (heap_lt h.hg) (fun e => by obtain ⟨cs, T, fr, h1, _, h3, _⟩ := hr g e; exact ne_rows h1 h.hg h3 rfl)).trans h.hg,
   (hg.block gs (heap_lt h.hs) (fun e => by obtain ⟨cs, T, fr, h1, _, _, h4⟩ := hr gs e; exact ne_rows h1 h.hs h4 rfl)).trans h.hs,
   h.ho.kept hg (by
    cases e : v.ownBlock with
    | none => exact .inl rfl
    | some k =>
      refine .inr (fun e2 => ?_)
      obtain ⟨cs, T, fr, h1, h2, _⟩ := hr k e2
      obtain ⟨c, fz, h3⟩ := Lib.ownsRow_kind h.ho k e
      exact ne_rows h1 h3 h2 rfl), h.gB, h.sB, h.ne, Nat.le_trans h.hB hg.size, h.s64, h.c64, h.cn, h.n1, h.n2⟩
set_option maxHeartbeats 4000000 in
set_option maxRecDepth 100000 in
theorem alloc_anyF {fu : Int} {dn : Bool} {B L p g gs bm k0 : Nat} {v f : Value} {T R : Int} {U : Nat → Bool} {F : List Nat} {S : List (List UInt8)} {C : List Wt} (n : Nat) (w : World) (hp : Pb w p T R (.map (some bm)) g f) (hu : Us w bm k0 U) (hf : w.ownsRow L 3 1 f F.length (F.map nn)) (hL : L ≤ w.heap.size) (h : Df fu dn B w g gs v S C) (hn : S.length / 2 = n) (hF : F.length ≤ 1000) :
    Calls Try.prog 8 #[.pointer (some ⟨p, 0, none⟩)] w fun e w' => (∃ x f', x < n ∧ (∀ i, i < x → taken U F i = true) ∧ taken U F x = false ∧ e = .returned (.tuple #[.int .i64 (x : Int), .int .i64 0]) ∧ Pb w' p T R (.map (some bm)) g f' ∧ Us w' bm k0 U ∧ w'.ownsRow L 3 1 f' (F.length + 1) ((F ++ [x]).map nn) ∧ Df fu dn B w' g gs v S C ∧ Ca p f f' w w') ∨ ((∀ i, i < n → taken U F i = true) ∧ e = .returned (.tuple #[.int .i64 0, .int .i64 6]) ∧ Below w.heap.size w w') := by
  have PG := Lib.hid (pages_anyF n w (row_c (i := 3) hp rfl) h hn)
  have n5 : n ≤ 512 := by have := h.n2; omega
  have HP := Lib.hid hp
  have HU := Lib.hid hu
  have HF := Lib.hid hf
  have HD := Lib.hid h
  have HL := Lib.hid hL
  have HFL := Lib.hid hF
  obtain ⟨A, c, rfl, hRl, hFr⟩ := rl_of_own hf
  have HR := Lib.hid hRl
  have N5 := Lib.hid n5
  have c5 := row_c (i := 5) hp rfl
  obtain ⟨i0, hi, hz0, hz1, hz2⟩ := info_parts (show (Try.prog.info? 3).map (fun i => (i.zero, i.size, i.bytes)) = some (some (.int .i64 0), 1, 8) by kernel_rfl)
  clear hp hu hf h hL hF hRl hFr hn n5
  go_enter Try.func8, Try.ntmps8
  go_wp2_with fail
  refine PG.out.mono ?_
  rintro e w1 ⟨rfl, hw⟩
  obtain rfl : w = w1 := hw.symm
  clear hw c5
  go_wp2_with fail
  go_loopw [11] (fun kv wr => ∃ k : Nat, k ≤ n ∧ kv = .int .i64 k ∧ Hid (∀ i, i < k → taken U F i = true) ∧ Hid (Below w.heap.size w wr)) (fun kv _ => n - (intOf kv).toNat)
  case atStart => exact ⟨0, by omega, rfl, Lib.hid (fun i hi => by omega), Lib.hid (Below.refl _ _)⟩
  case round =>
    obtain ⟨k, hk, rfl, hT, hb⟩ := hrel
    by_cases hk2 : k < n
    · have k1 : (k : Int) < (n : Int) := by omega
      have k5 : k < 512 := by have := N5.out; omega
      have KL := Lib.hid (And.intro hk2 k5)
      have kw := Lib.hid (wup (k := k) (by omega))
      obtain ⟨q, hq⟩ : ∃ q, U k = q := ⟨_, rfl⟩
      have P1 := Lib.hid (row_on HP.out hb.out)
      have UC := Lib.hid (uses_any (b := p) (k : Int) q wr (HU.out.below hb.out) (row_c (i := 2) P1.out rfl) (wf_nat k5) (by rw [taken_inU k5]; exact hq))
      have HQ := Lib.hid hq
      clear hq k5 hk2 hk
      go_wp2_with fail
      refine UC.out.mono ?_
      rintro e w2 ⟨rfl, hb2⟩
      have B2 := Lib.hid (bon hb.out hb2)
      clear UC hb2
      cases q
      · obtain ⟨r, hr⟩ : ∃ r, F.contains k = r := ⟨_, rfl⟩
        have CT := Lib.hid (contains_any F A c k r w2 (HR.out.below B2.out) (by have := HFL.out; omega) hr)
        have HQR := Lib.hid hr
        have c4 := row_c (i := 4) (row_on HP.out B2.out) rfl
        clear hr
        go_wp2_with fail
        refine CT.out.mono ?_
        rintro e w3 ⟨rfl, hw⟩
        obtain rfl : w2 = w3 := hw.symm
        clear hw CT
        cases r
        · have P2 := Lib.hid (row_on HP.out B2.out)
          have o1 := Lib.hid (own_below (w' := w2) HF.out B2.out)
          have z4 := frozen_of_row _ _ 4 _ _ P2.out
          have bz : L ≤ w2.heap.size := Nat.le_trans HL.out B2.out.size
          have F1 := Lib.hid (show F.length + 1 ≤ 1001 by have := HFL.out; omega)
          go_wp2_with (at_builtin; refine wpList_append_lies _ rfl _ _ 23 rfl L 3 i0 (.int .i64 0) 1 8 Try.underlying23 hi hz0 hz1 hz2 rfl (by decide) _ _ _ rfl (o1.out.alloc _) ⟨w2.heap.size, 0, none⟩ 1 1 [.int .i64 (k : Int)] rfl rfl (fun j u hj => one_newG hj) (by intro u hu; simp at hu; subst hu; rfl) (by have := F1.out; omega) (by unfold maxLen; have := F1.out; omega) (by have := F1.out; omega) (by simp; omega) (w2.heap.size + 1) (by simp) ?_)
          intro g1 cap w3 hown1 hgrow hat hgl1
          have P3 := Lib.hid (show w3.heap[p]? = _ from (hgrow.block p (by have := heap_lt P2.out; simp; omega) (fun e => by
            obtain ⟨cc, fz, h3⟩ := Lib.ownsRow_kind o1.out p e.symm
            exact ne_rows h3 P2.out (by decide) rfl)).trans (row_on P2.out (bda _ _)))
          have NE := Lib.hid (fun b (e : some b = (Value.slice A F.length c).ownBlock) => Lib.ownsRow_kind o1.out b e.symm)
          have U3 := Lib.hid (show Us w3 bm k0 U from ((HU.out.below B2.out).below (bda _ _)).kept hgrow (fun e => by
            obtain ⟨cc, fz, h3⟩ := NE.out bm e
            obtain ⟨es, cl, hb⟩ := (HU.out.below B2.out).isMap
            exact ne_map hb h3 rfl))
          have D3 := Lib.hid (((HD.out.below B2.out).below (bda w2 (.cells #[.int .i64 (k : Int)] 3))).grown hgrow (fun b e => by
            obtain ⟨cc, fz, h3⟩ := NE.out b e
            exact ⟨cc, _, fz, row_on h3 (bda _ _), by decide, by decide, by decide⟩))
          have C3 := Lib.hid (show Ca p (.slice A F.length c) (.slice (some ⟨g1, 0, none⟩) (F.length + 1) cap) w w3 from (Ca.of_below (p := p) (bon B2.out (bda _ _))).trans ⟨hgrow.os, hgrow.tape, hgrow.output, hgrow.size, fun k h1 _ h3 => hgrow.block k h1 h3, fun k hk => by
            have hkg : g1 = k := by simpa [Value.ownBlock] using hk
            subst hkg
            rcases hat with h1 | h1
            · exact .inl h1
            · exact .inr (by simp; omega)⟩)
          have p4 := row_c (i := 4) P3.out rfl
          have y4 := frozen_of_row _ _ 4 _ _ P3.out
          have O3 := Lib.hid hown1
          have TK := Lib.hid (show taken U F k = false by unfold taken; rw [HQ.out, HQR.out]; rfl)
          clear hown1 hgrow hat c4 z4
          go_wp2
          try rw [Exit.noGoto_ret]
          go_ret2
          have r4 := heap_setCell_same _ _ 4 _ _ (.slice (some ⟨g1, 0, none⟩) (F.length + 1) cap) P3.out
          refine .inl ⟨k, .slice (some ⟨g1, 0, none⟩) (F.length + 1) cap, KL.out.1, hT.out, TK.out, rfl, r4, ?_, ?_, ?_, ?_⟩
          · obtain ⟨es, cl, hb⟩ := U3.out.isMap
            exact U3.out.same (Below.heap_setCell _ _ _ _ (ne_map hb P3.out))
          · have h := O3.out.kept (grown_set p 4 (.slice (some ⟨g1, 0, none⟩) (F.length + 1) cap)) (.inr (fun e => by
              obtain ⟨cc, fz, h3⟩ := Lib.ownsRow_kind O3.out p e
              exact ne_rows h3 P3.out (by decide) rfl))
            rw [List.map_append]
            exact h
          · have pn := D3.out.p_ne P3.out
            exact D3.out.pset P3.out (by decide) pn.1 pn.2 _ _
          · exact C3.out.trans ⟨rfl, rfl, rfl, by simp [World.setCell], fun k _ hk _ => Below.heap_setCell _ _ _ _ hk, fun _ h => .inl h⟩
        · go_wp2_with fail
          go_roundw
          case rel => exact ⟨k + 1, KL.out.1, by rw [kw.out]; rfl, Lib.hid (fun i hi => by
            rcases Nat.lt_or_ge i k with h | h
            · exact hT.out i h
            · obtain rfl : i = k := by omega
              unfold taken; rw [HQR.out, Bool.or_true]), B2⟩
          case measure => exact meas_up KL.out.1 kw.out
      · go_wp2_with fail
        go_roundw
        case rel => exact ⟨k + 1, KL.out.1, by rw [kw.out]; rfl, Lib.hid (fun i hi => by
          rcases Nat.lt_or_ge i k with h | h
          · exact hT.out i h
          · obtain rfl : i = k := by omega
            unfold taken; rw [HQ.out, Bool.true_or]), B2⟩
        case measure => exact meas_up KL.out.1 kw.out
    · obtain rfl : k = n := by omega
      clear hk2 hk
      go_wp2
      go_ret2
      exact .inr ⟨hT.out, rfl, hb.out⟩
/-- Two disks, of which one may have a fuse, and the pagers on them, behind so many commits. -/
structure Sx (fu : Int) (w0 w : World) (bw d t p q bh bm bq ds ts i : Nat) (S : List (List UInt8)) : Prop where
  tw : Tw w bw d t p q bh
  hh : Hs w bh (2 * (i + 1)) (Iof i)
  pp : Pb w p ((i + 1 : Nat) : Int) (rootOf (i + 1) : Nat) (.map (some bm)) d (.slice none 0 0)
  up : Us w bm (2 + 3 * i) (Uj (i + 1))
  dd : Df fu false w.heap.size w d ds (.slice none 0 0) S []
  pq : Pb w q ((i + 1 : Nat) : Int) (rootOf (i + 1) : Nat) (.map (some bq)) t (.slice none 0 0)
  uq : Us w bq (2 + 3 * i) (Uj (i + 1))
  dt : Dk w.heap.size w t ts (.slice none 0 0) S []
  npq : p ≠ q
  ndt : d ≠ t
  nst : ds ≠ ts
  bl : Below w0.heap.size w0 w
  lp : w0.heap.size ≤ bw ∧ w0.heap.size ≤ p ∧ w0.heap.size ≤ q ∧ w0.heap.size ≤ d ∧ w0.heap.size ≤ t ∧ w0.heap.size ≤ ds ∧ w0.heap.size ≤ ts
theorem Df.rebase {fu : Int} {dn : Bool} {B B' g gs : Nat} {S : List (List UInt8)} {w : World} (h : Df fu dn B w g gs (.slice none 0 0) S []) (h1 : B ≤ B') (h2 : B' ≤ w.heap.size) : Df fu dn B' w g gs (.slice none 0 0) S [] :=
  ⟨h.hg, h.hs, World.ownsRow_nil _ _ _ _, by have := h.gB; omega, by have := h.sB; omega, h.ne, h2, h.s64, h.c64, h.cn, h.n1, h.n2⟩
theorem Dk.rebaseN {B B' g gs : Nat} {S : List (List UInt8)} {w : World} (h : Dk B w g gs (.slice none 0 0) S []) (h1 : B ≤ B') (h2 : B' ≤ w.heap.size) : Dk B' w g gs (.slice none 0 0) S [] :=
  ⟨h.hg, h.hs, World.ownsRow_nil _ _ _ _, by have := h.gB; omega, by have := h.sB; omega, h.ne, h2, h.s64, h.c64, h.cn, h.n1, h.n2⟩
/-- What a call on one disk leaves as it is. -/
theorem ch_row {fu : Int} {dn : Bool} {B g gs b : Nat} {v : Value} {S : List (List UInt8)} {C : List Wt} {w w' : World} {cs : Array Value} {T : TypeId} {fr : Nat × Nat} (hr : w.heap[b]? = some (.cells cs T fr)) (d : Df fu dn B w g gs v S C) (k : Ch B g gs w w') (h1 : T ≠ 70) (h2 : T ≠ 57) (h3 : T ≠ 68) : w'.heap[b]? = some (.cells cs T fr) :=
  (k.typ b (heap_lt hr) (ne_rows hr d.hg h2) (ne_rows hr d.hs h3) (fun cs' fr' e => by rw [hr] at e; injection e with e; injection e with e1 e2; exact h1 e2)).trans hr
theorem ch_hs {fu : Int} {dn : Bool} {B g gs b n : Nat} {I : List UInt8 → Bool} {v : Value} {S : List (List UInt8)} {C : List Wt} {w w' : World} (h : Hs w b n I) (d : Df fu dn B w g gs v S C) (k : Ch B g gs w w') : Hs w' b n I := by
  obtain ⟨es, cl, hm⟩ := h.isMap
  exact h.same (k.typ b (heap_lt hm) (ne_map hm d.hg) (ne_map hm d.hs) (fun cs fr e => by rw [hm] at e; cases e))
theorem ch_dk {fu : Int} {dn : Bool} {B B2 g gs t ts : Nat} {v : Value} {S S2 : List (List UInt8)} {C : List Wt} {w w' : World} (h : Dk B2 w t ts (.slice none 0 0) S2 []) (d : Df fu dn B w g gs v S C) (k : Ch B g gs w w') (h1 : t ≠ g) (h2 : ts ≠ gs) : Dk B2 w' t ts (.slice none 0 0) S2 [] :=
  ⟨(k.typ t (heap_lt h.hg) h1 (ne_rows h.hg d.hs (by decide)) (fun cs' fr' e => by rw [h.hg] at e; injection e with e; injection e with e1 e2; exact absurd e2 (by decide))).trans h.hg,
   (k.typ ts (heap_lt h.hs) (ne_rows h.hs d.hg (by decide)) h2 (fun cs' fr' e => by rw [h.hs] at e; injection e with e; injection e with e1 e2; exact absurd e2 (by decide))).trans h.hs,
   World.ownsRow_nil _ _ _ _, h.gB, h.sB, h.ne, Nat.le_trans h.hB k.size, h.s64, h.c64, h.cn, h.n1, h.n2⟩
theorem hs_set {w : World} {b n i : Nat} {I : List UInt8 → Bool} {bw : Nat} {cs : Array Value} {T : TypeId} {fr : Nat × Nat} {u : Value} (h : Hs w b n I) (hr : w.heap[bw]? = some (.cells cs T fr)) : Hs (w.setCell ⟨bw, i, none⟩ u) b n I := by
  obtain ⟨es, cl, hm⟩ := h.isMap
  exact h.same (Below.heap_setCell _ _ _ _ (ne_map hm hr))
theorem us_set {w : World} {b n i : Nat} {I : Nat → Bool} {bw : Nat} {cs : Array Value} {T : TypeId} {fr : Nat × Nat} {u : Value} (h : Us w b n I) (hr : w.heap[bw]? = some (.cells cs T fr)) : Us (w.setCell ⟨bw, i, none⟩ u) b n I := by
  obtain ⟨es, cl, hm⟩ := h.isMap
  exact h.same (Below.heap_setCell _ _ _ _ (ne_map hm hr))
theorem row_set2 {w : World} {b i bw : Nat} {cs c2 : Array Value} {T T2 : TypeId} {fr f2 : Nat × Nat} {u : Value} (h : w.heap[b]? = some (.cells c2 T2 f2)) (hr : w.heap[bw]? = some (.cells cs T fr)) (ht : T2 ≠ T) : (w.setCell ⟨bw, i, none⟩ u).heap[b]? = some (.cells c2 T2 f2) :=
  (Below.heap_setCell _ _ _ _ (ne_rows h hr ht)).trans h
set_option maxRecDepth 100000 in
theorem us_ne_hs {w : World} {b b' n m : Nat} {U : Nat → Bool} {I : List UInt8 → Bool} (h : Us w b n U) (h' : Hs w b' m I) (h0 : U 0 = true) : b ≠ b' := by
  intro e
  subst e
  obtain ⟨D, ⟨es, cl, hb, hf, _, hD⟩, hU⟩ := h
  obtain ⟨D', ⟨es', cl', hb', hf', _, _⟩, _⟩ := h'
  rw [hb] at hb'
  injection hb' with hb'
  injection hb' with e1 e2
  subst e1
  have hh : Maps.has D (.int .i64 ((0 : Nat) : Int)) = true := by rw [hU, inU_nat, h0]; rfl
  cases hl : es.toList with
  | nil =>
    rw [hl] at hD
    subst hD
    cases hh
  | cons x r =>
    have hx : x ∈ es.toList := by rw [hl]; exact List.mem_cons_self
    obtain ⟨y, hy⟩ := hf.reads x hx
    obtain ⟨z, hz, _⟩ := Go.WideElems.rd_val hy
    obtain ⟨y', hy'⟩ := hf'.reads x hx
    obtain ⟨z', hz', _⟩ := Go.WideElems.rd_val hy'
    have hv := (unitElem_inv hz).1
    rw [hv] at hz'
    unfold plainElem at hz'
    rw [Try.underlying4] at hz'
    simp at hz'
theorem set_size (w : World) (a : Addr) (u : Value) : (w.setCell a u).heap.size = w.heap.size := by simp [World.setCell]
theorem ch_below {B g gs N : Nat} {w0 a b : World} (h : Ch B g gs a b) (hb : Below N w0 a) (h0 : N ≤ B) (h1 : N ≤ g) (h2 : N ≤ gs) : Below N w0 b := (Cp.of_ch (p := g) h).below hb h0 h1 h1 h2
set_option maxHeartbeats 8000000 in
set_option maxRecDepth 100000 in
theorem twins_any (w : World) :
    Calls Try.prog 5 #[.int .i64 32] w fun e w' => ∃ bw d t p q bh bm bq ds ts S, e = .returned (.tuple #[.pointer (some ⟨bw, 0, none⟩), .bool true]) ∧ Sx (-1) w w' bw d t p q bh bm bq ds ts 0 S ∧ (∀ X, PS S 0 X) ∧ w.heap.size ≤ bh := by
  have hmm := @run_makeMap Try.prog
  obtain ⟨V, hV⟩ : ∃ V : World, V = (w.alloc (.map #[] 0)).alloc (.cells #[.pointer none, .pointer none, .pointer none, .pointer none, .map (some w.heap.size)] 32) := ⟨_, rfl⟩
  have hbV : Below w.heap.size w V := by rw [hV]; exact bon (bda _ _) (bda _ _)
  have RV := Lib.hid (show V.heap[w.heap.size + 1]? = some (.cells #[.pointer none, .pointer none, .pointer none, .pointer none, .map (some w.heap.size)] 32 (0, 0)) by rw [hV]; have := heap_alloc_new (w.alloc (.map #[] 0)) (.cells #[.pointer none, .pointer none, .pointer none, .pointer none, .map (some w.heap.size)] 32); simpa using this)
  have HV := Lib.hid (show Hs V w.heap.size 0 (fun _ => false) by rw [hV]; exact (Hs.made w).below (bda _ _))
  have BV := Lib.hid hbV
  have NW := Lib.hid (fun X => show Calls Try.prog 19 #[.int .i64 32] X fun e w' => ∃ g gs, e = .returned (.tuple #[.pointer (some ⟨g, 0, none⟩), .int .i64 0]) ∧ Dk w'.heap.size w' g gs (.slice none 0 0) (List.replicate 32 z64) [] ∧ Below X.heap.size X w' ∧ X.heap.size ≤ g ∧ X.heap.size ≤ gs from new_any 32 (by omega) (by omega) X)
  have zl := Lib.hid (show (List.replicate 32 z64).length = 32 from List.length_replicate)
  obtain ⟨Z, hZ⟩ : ∃ Z, List.replicate 32 z64 = Z := ⟨_, rfl⟩
  have HZ := Lib.hid hZ
  rw [hZ] at NW zl
  have hbw : w.heap.size + 1 = w.heap.size + 1 := rfl
  obtain ⟨bw, hbw⟩ : ∃ z, w.heap.size + 1 = z := ⟨_, rfl⟩
  rw [hbw] at RV
  have lbw := Lib.hid (show w.heap.size ≤ bw by omega)
  clear hbV hZ
  go_enter Try.func5, Try.ntmps5
  go_wp2_with fail
  rw [← hV]
  try rw [hbw]
  clear hV hbw hmm
  obtain ⟨bh, hbh⟩ : ∃ z, w.heap.size = z := ⟨_, rfl⟩
  have RV := Lib.hid (show V.heap[bw]? = some (.cells #[.pointer none, .pointer none, .pointer none, .pointer none, .map (some bh)] 32 (0, 0)) by rw [← hbh]; exact RV.out)
  have HV := Lib.hid (show Hs V bh 0 (fun _ => false) by rw [← hbh]; exact HV.out)
  try rw [hbh]
  have HB := Lib.hid hbh
  clear hbh
  refine (NW.out V).mono ?_
  rintro e w1 ⟨d, ds, rfl, hd, hb, l1, l2⟩
  have R1 := Lib.hid (row_on RV.out hb)
  have H1 := Lib.hid (HV.out.below hb)
  have B1 := Lib.hid (bon BV.out hb)
  have D1 := Lib.hid hd
  have L1 := Lib.hid (show w.heap.size ≤ d ∧ w.heap.size ≤ ds by have := BV.out.size; omega)
  have c0 := row_c (i := 0) R1.out rfl
  have z0 := frozen_of_row _ _ 0 _ _ R1.out
  clear hb hd l1 l2
  go_wp2_with fail
  obtain ⟨X1, hX1⟩ : ∃ x : World, w1.setCell ⟨bw, 0, none⟩ (.pointer (some ⟨d, 0, none⟩)) = x := ⟨_, rfl⟩
  have R2 := Lib.hid (show X1.heap[bw]? = some (.cells #[.pointer (some ⟨d, 0, none⟩), .pointer none, .pointer none, .pointer none, .map (some bh)] 32 (0, 0)) by rw [← hX1]; exact heap_setCell_same _ _ 0 _ _ _ R1.out)
  have H2 := Lib.hid (show Hs X1 bh 0 (fun _ => false) by rw [← hX1]; exact hs_set H1.out R1.out)
  have D2 := Lib.hid (show Dk w1.heap.size X1 d ds (.slice none 0 0) Z [] by rw [← hX1]; exact D1.out.pset R1.out (by decide) (ne_rows R1.out D1.out.hg (by decide)) (ne_rows R1.out D1.out.hs (by decide)) _ _)
  have B2 := Lib.hid (show Below w.heap.size w X1 by rw [← hX1]; exact B1.out.setCell lbw.out _)
  rw [hX1]
  clear hX1 c0 z0
  refine (NW.out X1).mono ?_
  rintro e w2 ⟨t, ts, rfl, ht, hb, l1, l2⟩
  have NT := Lib.hid (show d ≠ t ∧ ds ≠ ts from ⟨by have := heap_lt D2.out.hg; omega, by have := heap_lt D2.out.hs; omega⟩)
  have L2 := Lib.hid (show w.heap.size ≤ t ∧ w.heap.size ≤ ts by have := B2.out.size; omega)
  have R3 := Lib.hid (row_on R2.out hb)
  have H3 := Lib.hid (H2.out.below hb)
  have B3 := Lib.hid (bon B2.out hb)
  have D3 := Lib.hid (D2.out.below hb)
  have T3 := Lib.hid ht
  have c0 := row_c (i := 0) R3.out rfl
  have c1 := row_c (i := 1) R3.out rfl
  have z1 := frozen_of_row _ _ 1 _ _ R3.out
  clear hb ht l1 l2
  go_wp2_with fail
  obtain ⟨X2, hX2⟩ : ∃ x : World, w2.setCell ⟨bw, 1, none⟩ (.pointer (some ⟨t, 0, none⟩)) = x := ⟨_, rfl⟩
  have R4 := Lib.hid (show X2.heap[bw]? = some (.cells #[.pointer (some ⟨d, 0, none⟩), .pointer (some ⟨t, 0, none⟩), .pointer none, .pointer none, .map (some bh)] 32 (0, 0)) by rw [← hX2]; exact heap_setCell_same _ _ 1 _ _ _ R3.out)
  have H4 := Lib.hid (show Hs X2 bh 0 (fun _ => false) by rw [← hX2]; exact hs_set H3.out R3.out)
  have D4 := Lib.hid (show Dk X2.heap.size X2 d ds (.slice none 0 0) Z [] by rw [← hX2]; exact (D3.out.pset R3.out (by decide) (ne_rows R3.out D3.out.hg (by decide)) (ne_rows R3.out D3.out.hs (by decide)) _ _).rebaseN (by rw [set_size]; exact D3.out.hB) (by simp))
  have T4 := Lib.hid (show Dk X2.heap.size X2 t ts (.slice none 0 0) Z [] by rw [← hX2]; exact (T3.out.pset R3.out (by decide) (ne_rows R3.out T3.out.hg (by decide)) (ne_rows R3.out T3.out.hs (by decide)) _ _).rebaseN (by rw [set_size]; exact T3.out.hB) (by simp))
  have B4 := Lib.hid (show Below w.heap.size w X2 by rw [← hX2]; exact B3.out.setCell lbw.out _)
  try rw [hX2]
  clear hX2 c0 c1 z1
  refine (format_yes X2 D4.out (by rw [zl.out]; omega) (by simp)).mono ?_
  rintro e w3 ⟨p, bm, rfl, lp, hpb, hus, hdk, hch⟩
  obtain ⟨S, hS⟩ : ∃ S, flush Z ([] ++ hdW 1 0 (nU [])) = S := ⟨_, rfl⟩
  rw [hS] at hdk
  have LP := Lib.hid (show w.heap.size ≤ p by have := B4.out.size; omega)
  have R5 := Lib.hid (ch_row R4.out D4.out.toF hch (by decide) (by decide) (by decide))
  have H5 := Lib.hid (ch_hs H4.out D4.out.toF hch)
  have T5 := Lib.hid (ch_dk T4.out D4.out.toF hch (fun h => NT.out.1 h.symm) (fun h => NT.out.2 h.symm))
  have D5 := Lib.hid hdk
  have P5 := Lib.hid hpb
  have U5 := Lib.hid hus
  have B5 := Lib.hid (ch_below hch B4.out B4.out.size L1.out.1 L1.out.2)
  have HS := Lib.hid hS
  have c1 := row_c (i := 1) R5.out rfl
  have c2 := row_c (i := 2) R5.out rfl
  have z2 := frozen_of_row _ _ 2 _ _ R5.out
  clear hpb hus hdk hch hS lp
  go_wp2_with fail
  obtain ⟨X3, hX3⟩ : ∃ x : World, w3.setCell ⟨bw, 2, none⟩ (.pointer (some ⟨p, 0, none⟩)) = x := ⟨_, rfl⟩
  have R6 := Lib.hid (show X3.heap[bw]? = some (.cells #[.pointer (some ⟨d, 0, none⟩), .pointer (some ⟨t, 0, none⟩), .pointer (some ⟨p, 0, none⟩), .pointer none, .map (some bh)] 32 (0, 0)) by rw [← hX3]; exact heap_setCell_same _ _ 2 _ _ _ R5.out)
  have H6 := Lib.hid (show Hs X3 bh 0 (fun _ => false) by rw [← hX3]; exact hs_set H5.out R5.out)
  have D6 := Lib.hid (show Dk X3.heap.size X3 d ds (.slice none 0 0) S [] by rw [← hX3]; exact (D5.out.pset R5.out (by decide) (ne_rows R5.out D5.out.hg (by decide)) (ne_rows R5.out D5.out.hs (by decide)) _ _).rebaseN (by rw [set_size]; exact D5.out.hB) (by simp))
  have T6 := Lib.hid (show Dk X3.heap.size X3 t ts (.slice none 0 0) Z [] by rw [← hX3]; exact (T5.out.pset R5.out (by decide) (ne_rows R5.out T5.out.hg (by decide)) (ne_rows R5.out T5.out.hs (by decide)) _ _).rebaseN (by rw [set_size]; exact T5.out.hB) (by simp))
  have P6 := Lib.hid (show Pb X3 p 1 0 (.map (some bm)) d (.slice none 0 0) by rw [← hX3]; exact row_set2 P5.out R5.out (by decide))
  have U6 := Lib.hid (show Us X3 bm 2 (nU []) by rw [← hX3]; exact us_set U5.out R5.out)
  have B6 := Lib.hid (show Below w.heap.size w X3 by rw [← hX3]; exact B5.out.setCell lbw.out _)
  try rw [hX3]
  clear hX3 c1 c2 z2
  refine (format_yes X3 T6.out (by rw [zl.out]; omega) (by simp)).mono ?_
  rintro e w4 ⟨q, bq, rfl, lq, hpb, hus, hdk, hch⟩
  rw [HS.out] at hdk
  have LQ := Lib.hid (show w.heap.size ≤ q by have := B6.out.size; omega)
  have NP := Lib.hid (show p ≠ q by have := heap_lt P6.out; omega)
  have R7 := Lib.hid (ch_row R6.out T6.out.toF hch (by decide) (by decide) (by decide))
  have H7 := Lib.hid (ch_hs H6.out T6.out.toF hch)
  have D7 := Lib.hid (ch_dk D6.out T6.out.toF hch NT.out.1 NT.out.2)
  have P7 := Lib.hid (show Pb w4 p 1 0 (.map (some bm)) d (.slice none 0 0) from ch_row P6.out T6.out.toF hch (by decide) (by decide) (by decide))
  have U7 := Lib.hid (U6.out.ch T6.out hch)
  have T7 := Lib.hid hdk
  have Q7 := Lib.hid hpb
  have V7 := Lib.hid hus
  have B7 := Lib.hid (ch_below hch B6.out B6.out.size L2.out.1 L2.out.2)
  have c2 := row_c (i := 2) R7.out rfl
  have c3 := row_c (i := 3) R7.out rfl
  have z3 := frozen_of_row _ _ 3 _ _ R7.out
  clear hpb hus hdk hch lq
  go_wp2_with fail
  obtain ⟨X4, hX4⟩ : ∃ x : World, w4.setCell ⟨bw, 3, none⟩ (.pointer (some ⟨q, 0, none⟩)) = x := ⟨_, rfl⟩
  have R8 := Lib.hid (show Tw X4 bw d t p q bh by rw [← hX4]; exact heap_setCell_same _ _ 3 _ _ _ R7.out)
  have H8 := Lib.hid (show Hs X4 bh 0 (fun _ => false) by rw [← hX4]; exact hs_set H7.out R7.out)
  have D8 := Lib.hid (show Dk X4.heap.size X4 d ds (.slice none 0 0) S [] by rw [← hX4]; exact (D7.out.pset R7.out (by decide) (ne_rows R7.out D7.out.hg (by decide)) (ne_rows R7.out D7.out.hs (by decide)) _ _).rebaseN (by rw [set_size]; exact D7.out.hB) (by simp))
  have T8 := Lib.hid (show Dk X4.heap.size X4 t ts (.slice none 0 0) S [] by rw [← hX4]; exact (T7.out.pset R7.out (by decide) (ne_rows R7.out T7.out.hg (by decide)) (ne_rows R7.out T7.out.hs (by decide)) _ _).rebaseN (by rw [set_size]; exact T7.out.hB) (by simp))
  have P8 := Lib.hid (show Pb X4 p 1 0 (.map (some bm)) d (.slice none 0 0) by rw [← hX4]; exact row_set2 P7.out R7.out (by decide))
  have U8 := Lib.hid (show Us X4 bm 2 (nU []) by rw [← hX4]; exact us_set U7.out R7.out)
  have Q8 := Lib.hid (show Pb X4 q 1 0 (.map (some bq)) t (.slice none 0 0) by rw [← hX4]; exact row_set2 Q7.out R7.out (by decide))
  have V8 := Lib.hid (show Us X4 bq 2 (nU []) by rw [← hX4]; exact us_set V7.out R7.out)
  have B8 := Lib.hid (show Below w.heap.size w X4 by rw [← hX4]; exact B7.out.setCell lbw.out _)
  have LS := Lib.hid (show S.length = 32 by rw [← HS.out, flush_len, zl.out])
  try rw [hX4]
  clear hX4 c2 c3 z3
  refine (note_any X4 R8.out T8.out (by rw [LS.out]; omega) H8.out (by omega)).mono ?_
  rintro e w5 ⟨rfl, hh, hg⟩
  have G5 := Lib.hid hg
  have H9 := Lib.hid hh
  clear hh hg
  go_wp2
  go_ret2
  have hps : ∀ X, PS S 0 X := fun X => PS0 (by rw [HZ.out]; exact HS.out)
  have h1 := (hps (fun _ => [])).hd
  have h0 := (hps (fun _ => [])).od
  have hg := G5.out
  have hm := H8.out.isMap
  have hbw : bw ≠ bh := fun e => by obtain ⟨es, cl, h⟩ := hm; exact ne_map h R8.out e.symm
  have hp : p ≠ bh := fun e => by obtain ⟨es, cl, h⟩ := hm; exact ne_map h P8.out e.symm
  have hq : q ≠ bh := fun e => by obtain ⟨es, cl, h⟩ := hm; exact ne_map h Q8.out e.symm
  have n0 : nU [] 0 = true := rfl
  refine ⟨bw, d, t, p, q, bh, bm, bq, ds, ts, S, rfl, ⟨grown_row hg R8.out hbw, H9.out.ext (fun l => ?_), grown_row hg P8.out hp, ?_, ?_, grown_row hg Q8.out hq, ?_, ?_, NP.out, NT.out.1, NT.out.2, ?_, lbw.out, LP.out, LQ.out, L1.out.1, L2.out.1, L1.out.2, L2.out.2⟩, hps, by have := HB.out; omega⟩
  · show ((false || l == pg S 0) || l == pg S 1) = ((l == z128) || l == Hj 1)
    rw [show pg S 0 = z128 from h0, show pg S 1 = Hj 1 from h1, Bool.false_or]
  · have := (U8.out.grown hg (us_ne_hs U8.out H8.out n0)).mono (show 2 ≤ 2 + 3 * 0 by omega)
    rw [U1_eq] at this
    exact this
  · exact ((D8.out.grownM hg (fun b e => by cases e; exact hm)).rebaseN hg.size (Nat.le_refl _)).toF
  · have := (V8.out.grown hg (us_ne_hs V8.out H8.out n0)).mono (show 2 ≤ 2 + 3 * 0 by omega)
    rw [U1_eq] at this
    exact this
  · exact (T8.out.grownM hg (fun b e => by cases e; exact hm)).rebaseN hg.size (Nat.le_refl _)
  · exact B8.out.trans (below_of_grown hg (by have := BV.out.size; have := HB.out; omega) B8.out.size)
end Go.Proofs.Ytnpopbobpbbamaa
end

section
/-
  PagerLasts: frames, words.
-/
namespace Go.Proofs.Ytnpopbobpbbamaa
open Go.RowKit
set_option linter.unusedSimpArgs false
set_option linter.unusedVariables false
/-- All blocks that there are stay, but those of Z. -/
structure Kp (Z : Nat → Prop) (w w' : World) : Prop where
  os : w'.os = w.os
  tape : w'.tape = w.tape
  output : w'.output = w.output
  size : w.heap.size ≤ w'.heap.size
  block : ∀ k, k < w.heap.size → ¬ Z k → w'.heap[k]? = w.heap[k]?
theorem Kp.of_ca {p : Nat} {f' : Value} {w w' : World} (h : Ca p (.slice none 0 0) f' w w') : Kp (fun k => k = p) w w' :=
  ⟨h.os, h.tape, h.output, h.size, fun k h1 h2 => h.block k h1 h2 (fun e => by cases e)⟩
theorem Kp.of_cp {p g gs : Nat} {w w' : World} (h : Cp w.heap.size p g gs w w') : Kp (fun k => k = p ∨ k = g ∨ k = gs) w w' :=
  ⟨h.os, h.tape, h.output, h.size, fun k h1 h2 => h.block k h1 (fun e => h2 (.inl e)) (fun e => h2 (.inr (.inl e))) (fun e => h2 (.inr (.inr e)))⟩
theorem Kp.of_grown {r : Option Nat} {w w' : World} (h : w.grownBy w' r) : Kp (fun k => some k = r) w w' :=
  ⟨h.os, h.tape, h.output, h.size, fun k h1 h2 => h.block k h1 h2⟩
theorem Kp.row {Z : Nat → Prop} {w w' : World} {b : Nat} {o : Obj} (h : Kp Z w w') (hr : w.heap[b]? = some o) (hz : ¬ Z b) : w'.heap[b]? = some o := (h.block b (heap_lt hr) hz).trans hr
theorem Kp.us {Z : Nat → Prop} {w w' : World} {b n : Nat} {U : Nat → Bool} (h : Kp Z w w') (hu : Us w b n U) (hz : ¬ Z b) : Us w' b n U := hu.same (h.block b hu.lt hz)
theorem Kp.hs {Z : Nat → Prop} {w w' : World} {b n : Nat} {I : List UInt8 → Bool} (h : Kp Z w w') (hu : Hs w b n I) (hz : ¬ Z b) : Hs w' b n I := hu.same (h.block b hu.lt hz)
theorem Kp.own {Z : Nat → Prop} {w w' : World} {T : TypeId} {B m n : Nat} {v : Value} {xs : List Value} (h : Kp Z w w') (ho : w.ownsRow B T m v n xs) (hz : ∀ b cs fr, v.ownBlock = some b → w.heap[b]? = some (.cells cs T fr) → ¬ Z b) : w'.ownsRow B T m v n xs := by
  refine ⟨ho.1, ?_⟩
  rcases ho.2 with h0 | ⟨b, cap, cur, h1, h2, h3, h4⟩
  · exact .inl h0
  · exact .inr ⟨b, cap, cur, h1, h2, h.row h3 (hz b _ _ (by rw [h1]; rfl) h3), h4⟩
theorem Kp.df {Z : Nat → Prop} {w w' : World} {fu : Int} {dn : Bool} {B g gs : Nat} {v : Value} {S : List (List UInt8)} {C : List Wt} (h : Kp Z w w') (d : Df fu dn B w g gs v S C) (h1 : ¬ Z g) (h2 : ¬ Z gs) (hz : ∀ b cs fr, w.heap[b]? = some (.cells cs 70 fr) → ¬ Z b) : Df fu dn B w' g gs v S C :=
  ⟨h.row d.hg h1, h.row d.hs h2, h.own d.ho (fun b cs fr _ hb => hz b cs fr hb), d.gB, d.sB, d.ne, Nat.le_trans d.hB h.size, d.s64, d.c64, d.cn, d.n1, d.n2⟩
theorem Kp.dk {Z : Nat → Prop} {w w' : World} {B g gs : Nat} {S : List (List UInt8)} (h : Kp Z w w') (d : Dk B w g gs (.slice none 0 0) S []) (h1 : ¬ Z g) (h2 : ¬ Z gs) : Dk B w' g gs (.slice none 0 0) S [] :=
  ⟨h.row d.hg h1, h.row d.hs h2, World.ownsRow_nil _ _ _ _, d.gB, d.sB, d.ne, Nat.le_trans d.hB h.size, d.s64, d.c64, d.cn, d.n1, d.n2⟩
theorem Kp.below {Z : Nat → Prop} {w0 w w' : World} (h : Kp Z w w') (hb : Below w0.heap.size w0 w) (hz : ∀ k, k < w0.heap.size → ¬ Z k) : Below w0.heap.size w0 w' :=
  ⟨h.os.trans hb.os, h.tape.trans hb.tape, h.output.trans hb.output, Nat.le_trans hb.size h.size, fun k hk => (h.block k (Nat.lt_of_lt_of_le hk hb.size) (hz k hk)).trans (hb.block k hk)⟩
theorem Df.toDk {B g gs : Nat} {v : Value} {S : List (List UInt8)} {C : List Wt} {w : World} (h : Df (-1) false B w g gs v S C) : Dk B w g gs v S C := ⟨h.hg, h.hs, h.ho, h.gB, h.sB, h.ne, h.hB, h.s64, h.c64, h.cn, h.n1, h.n2⟩
theorem Df.dk {fu : Int} {dn : Bool} {B g gs : Nat} {v : Value} {S : List (List UInt8)} {C : List Wt} {w : World} (d : Df fu dn B w g gs v S C) {p : Nat} {T R : Int} {m f : Value} {g' : Nat} (hp : Pb w p T R m g' f) : p ≠ g ∧ p ≠ gs := d.p_ne hp
theorem us_ne {w : World} {b n p : Nat} {U : Nat → Bool} {cs : Array Value} {T : TypeId} {fr : Nat × Nat} (h : Us w b n U) (hr : w.heap[p]? = some (.cells cs T fr)) : b ≠ p := by
  obtain ⟨es, cl, hm⟩ := h.isMap
  exact ne_map hm hr
theorem hs_ne {w : World} {b n p : Nat} {I : List UInt8 → Bool} {cs : Array Value} {T : TypeId} {fr : Nat × Nat} (h : Hs w b n I) (hr : w.heap[p]? = some (.cells cs T fr)) : b ≠ p := by
  obtain ⟨es, cl, hm⟩ := h.isMap
  exact ne_map hm hr
/-- The page that is handed out. -/
theorem page_is {i x : Nat} (h1 : ∀ j, j < x → taken (Uj (i + 1)) [] j = true) (h2 : taken (Uj (i + 1)) [] x = false) : x = i + 2 := by
  have e : ∀ j, taken (Uj (i + 1)) [] j = decide (j < i + 2) := fun j => by unfold taken Uj; simp
  rw [e] at h2
  have h3 : ¬ x < i + 2 := by simpa using h2
  rcases Nat.lt_or_ge (i + 2) x with h | h
  · have := h1 _ h
    rw [e] at this
    simp at this
  · omega
theorem full_no {i n : Nat} (hn : i + 2 < n) (h : ∀ j, j < n → taken (Uj (i + 1)) [] j = true) : False := by
  have := h _ hn
  unfold taken Uj at this
  simp at this
theorem root_new {i x : Nat} (hx : x = i + 2) (hi : i ≤ 8) : rootB (fun k => nU [x] k || Uj (i + 1) k) (x : Int) = true := by
  subst hx
  unfold rootB
  rw [inU_nat, Uj_next (fun _ => rfl)]
  unfold Uj
  simp
  omega
theorem rootOf_next {i x : Nat} (hx : x = i + 2) : ((rootOf (i + 1 + 1) : Nat) : Int) = (x : Int) := by
  subst hx
  unfold rootOf
  rw [if_neg (by omega)]
/-- The pages, in their order. -/
def pgs (i : Nat) : List Nat := (List.range i).map (· + 2)
theorem pgs_len (i : Nat) : (pgs i).length = i := by unfold pgs; simp
theorem pgs_next {i x : Nat} (hx : x = i + 2) : (pgs i).map nn ++ [nn x] = (pgs (i + 1)).map nn := by
  subst hx
  unfold pgs
  rw [List.range_succ, List.map_append, List.map_append]
  rfl
theorem pgs_at {i j : Nat} (h : j < i) : (pgs i)[j]? = some (j + 2) := by
  unfold pgs
  rw [List.getElem?_map, List.getElem?_range h]
  rfl
theorem used_Uj {n : Nat} (h : n ≤ 9) : (usedL (Uj (n + 1))).length = n + 2 := by
  unfold usedL Uj
  have e : (List.range 512).filter (fun i => decide (i < n + 1 + 1)) = List.range (n + 2) := by
    rw [show 512 = (n + 2) + (510 - n) by omega, List.range_add, List.filter_append, List.filter_eq_self.2 (fun a ha => by simpa using List.mem_range.1 ha), List.filter_eq_nil_iff.2 (fun a ha => by
      obtain ⟨c, _, rfl⟩ := List.mem_map.1 ha
      simp), List.append_nil]
  rw [e, List.length_range]
theorem Iof_ext {S : List (List UInt8)} {i : Nat} {X : Nat → List UInt8} (h : PS S (i + 1) X) (l : List UInt8) : ((Iof i l || l == pg S 0) || l == pg S 1) = Iof (i + 1) l := by
  have e : ∀ a b : List UInt8, Iof i a = true → ((Iof i l || l == a) || l == b) = (Iof i l || l == b) := by
    intro a b ha
    by_cases hl : l = a
    · subst hl; rw [ha]; simp
    · rw [show (l == a) = false by simpa using hl, Bool.or_false]
  have e2 : ∀ a b : List UInt8, Iof i b = true → ((Iof i l || l == a) || l == b) = (Iof i l || l == a) := by
    intro a b hb
    by_cases hl : l = b
    · subst hl; rw [hb]; simp
    · rw [show (l == b) = false by simpa using hl, Bool.or_false]
  have h1 := h.hd
  have h0 := h.od
  unfold oldOf at h0
  rw [if_neg (by omega)] at h0
  have hI : Iof i (Hj (i + 1)) = true := Iof_Hj (by omega) (by omega)
  by_cases hm : (i + 1) % 2 = 0
  · rw [hm] at h0
    rw [show (i + 1 + 1) % 2 = 1 by omega] at h1
    rw [h0, h1, e _ _ hI]; rfl
  · rw [show (i + 1) % 2 = 1 by omega] at h0
    rw [show (i + 1 + 1) % 2 = 0 by omega] at h1
    rw [h0, h1, e2 _ _ hI]; rfl
theorem cat_wr2 (C : List Wt) (x : Nat) (a b : List UInt8) : (C ++ [(2 * x, a)]) ++ [(2 * x + 1, b)] = C ++ wr2 x a b := by rw [List.append_assoc]; rfl
end Go.Proofs.Ytnpopbobpbbamaa
end
