/-
  A disk with a fuse: plain words, as of one without.
-/
import Derived.Test.YtnpopbobpbbamaaEc
namespace Go.Proofs.Ytnpopbobpbbamaa
open Go.RowKit
set_option linter.unusedSimpArgs false
set_option linter.unusedVariables false
/-- A disk with a fuse: as Dk. -/
structure Df (fu : Int) (dn : Bool) (B : Nat) (w : World) (g gs : Nat) (v : Value) (S : List (List UInt8)) (C : List Wt) : Prop where
  hg : w.heap[g]? = some (.cells #[.slice (some ⟨gs, 0, none⟩) S.length S.length, v, .int .i64 fu, .bool dn] 57 (0, 0))
  hs : w.heap[gs]? = some (.cells (bc S.flatten).toArray 68 (0, 0))
  ho : w.ownsRow B 70 65 v C.length (wcells C)
  gB : g < B
  sB : gs < B
  ne : g ≠ gs
  hB : B ≤ w.heap.size
  s64 : ∀ s ∈ S, s.length = 64
  c64 : ∀ c ∈ C, c.2.length = 64
  cn : ∀ c ∈ C, c.1 < S.length
  n1 : 1 ≤ S.length
  n2 : S.length ≤ 1024
theorem Dk.toF {B g gs : Nat} {v : Value} {S : List (List UInt8)} {C : List Wt} {w : World} (h : Dk B w g gs v S C) : Df (-1) false B w g gs v S C := ⟨h.hg, h.hs, h.ho, h.gB, h.sB, h.ne, h.hB, h.s64, h.c64, h.cn, h.n1, h.n2⟩
/-- A cell of the disk's box turned: the fuse, or whether it is down. -/
theorem Df.fuse {fu : Int} {dn : Bool} {B g gs : Nat} {v : Value} {S : List (List UInt8)} {C : List Wt} {w : World} (h : Df fu dn B w g gs v S C) (n : Int) : Df n dn B (w.setCell ⟨g, 2, none⟩ (.int .i64 n)) g gs v S C ∧ Ch B g gs w (w.setCell ⟨g, 2, none⟩ (.int .i64 n)) :=
  ⟨⟨heap_setCell_same _ _ 2 _ _ _ h.hg, (Below.heap_setCell _ _ _ _ (fun e => h.ne e.symm)).trans h.hs, h.ho.kept ⟨rfl, rfl, rfl, by simp [World.setCell], fun k _ hk => Below.heap_setCell _ _ _ _ (fun e => hk (by subst e; rfl))⟩ (by
    cases e : v.ownBlock with
    | none => exact .inl rfl
    | some k => exact .inr (fun e2 => by have h1 := h.ho.lt k e; have h2 := h.gB; have h3 := Option.some.inj e2; omega)), h.gB, h.sB, h.ne, by simpa [World.setCell] using h.hB, h.s64, h.c64, h.cn, h.n1, h.n2⟩, (Ch.refl _ _ _ _).setCell _ _⟩
theorem Df.dead {fu : Int} {dn : Bool} {B g gs : Nat} {v : Value} {S : List (List UInt8)} {C : List Wt} {w : World} (h : Df fu dn B w g gs v S C) (q : Bool) : Df fu q B (w.setCell ⟨g, 3, none⟩ (.bool q)) g gs v S C ∧ Ch B g gs w (w.setCell ⟨g, 3, none⟩ (.bool q)) :=
  ⟨⟨heap_setCell_same _ _ 3 _ _ _ h.hg, (Below.heap_setCell _ _ _ _ (fun e => h.ne e.symm)).trans h.hs, h.ho.kept ⟨rfl, rfl, rfl, by simp [World.setCell], fun k _ hk => Below.heap_setCell _ _ _ _ (fun e => hk (by subst e; rfl))⟩ (by
    cases e : v.ownBlock with
    | none => exact .inl rfl
    | some k => exact .inr (fun e2 => by have h1 := h.ho.lt k e; have h2 := h.gB; have h3 := Option.some.inj e2; omega)), h.gB, h.sB, h.ne, by simpa [World.setCell] using h.hB, h.s64, h.c64, h.cn, h.n1, h.n2⟩, (Ch.refl _ _ _ _).setCell _ _⟩
/-- What leaves all older memory alone leaves a disk. -/
theorem Df.below {fu : Int} {dn : Bool} {B g gs : Nat} {v : Value} {S : List (List UInt8)} {C : List Wt} {w w' : World} (h : Df fu dn B w g gs v S C) (hb : Below w.heap.size w w') : Df fu dn B w' g gs v S C :=
  ⟨row_on h.hg hb, row_on h.hs hb, own_below h.ho hb, h.gB, h.sB, h.ne, Nat.le_trans h.hB hb.size, h.s64, h.c64, h.cn, h.n1, h.n2⟩
set_option maxHeartbeats 1000000 in
set_option maxRecDepth 100000 in
theorem has_anyF {fu : Int} {dn : Bool} {B g gs : Nat} {v : Value} {S : List (List UInt8)} {C : List Wt} (i : Int) (q : Bool) (w : World) (h : Df fu dn B w g gs v S C) (hq : decide (0 ≤ i ∧ i < (S.length : Int)) = q) :
    Calls Try.prog 54 #[.pointer (some ⟨g, 0, none⟩), .int .i64 i] w fun e w' => e = .returned (.bool q) ∧ w' = w := by
  have f0 := row_c (i := 0) h.hg rfl
  obtain ⟨n, hn⟩ : ∃ n, S.length = n := ⟨_, rfl⟩
  rw [hn] at f0 hq
  clear h hn
  by_cases h0 : 0 ≤ i
  · have d0 : decide (0 ≤ i) = true := decide_eq_true h0
    by_cases h1 : i < (n : Int)
    · have d1 : decide (i < (n : Int)) = true := decide_eq_true h1
      obtain rfl : true = q := by rw [← hq]; simp [h0, h1]
      go_enter Try.func54, Try.ntmps54
      go_wp2
      go_ret
      exact ⟨rfl, rfl⟩
    · have d1 : decide (i < (n : Int)) = false := decide_eq_false h1
      obtain rfl : false = q := by rw [← hq]; simp [h0, h1]
      go_enter Try.func54, Try.ntmps54
      go_wp2
      go_ret
      exact ⟨rfl, rfl⟩
  · have d0 : decide (0 ≤ i) = false := decide_eq_false h0
    obtain rfl : false = q := by rw [← hq]; simp [h0]
    go_enter Try.func54, Try.ntmps54
    go_wp2
    go_ret
    exact ⟨rfl, rfl⟩

set_option maxHeartbeats 1000000 in
set_option maxRecDepth 100000 in
theorem sectors_anyF {fu : Int} {dn : Bool} {B g gs : Nat} {v : Value} {S : List (List UInt8)} {C : List Wt} (w : World) (h : Df fu dn B w g gs v S C) :
    Calls Try.prog 46 #[.pointer (some ⟨g, 0, none⟩)] w fun e w' => e = .returned (.int .i64 S.length) ∧ w' = w := by
  skip
  have f := row_c (i := 0) h.hg rfl
  clear h
  go_enter Try.func46, Try.ntmps46
  go_wp2
  go_ret
  exact ⟨rfl, rfl⟩

set_option maxHeartbeats 1000000 in
set_option maxRecDepth 100000 in
theorem down_anyF {fu : Int} {dn : Bool} {B g gs : Nat} {v : Value} {S : List (List UInt8)} {C : List Wt} (w : World) (h : Df fu dn B w g gs v S C) :
    Calls Try.prog 7 #[.pointer (some ⟨g, 0, none⟩)] w fun e w' => e = .returned (.bool dn) ∧ w' = w := by
  skip
  have f := row_c (i := 3) h.hg rfl
  clear h
  go_enter Try.func7, Try.ntmps7
  go_wp2
  go_ret
  exact ⟨rfl, rfl⟩

theorem Df.setS {fu : Int} {dn : Bool} {B g gs : Nat} {v : Value} {S S' : List (List UInt8)} {C : List Wt} {w : World} (h : Df fu dn B w g gs v S C) (hl : S'.length = S.length) (h64 : ∀ s ∈ S', s.length = 64) : Df fu dn B (w.setRow gs (bc S'.flatten).toArray) g gs v S' C :=
  ⟨by rw [heap_setRow _ _ _ _ h.ne, hl]; exact h.hg, setRow_heap w gs _ _ _ _ h.hs, own_kept h.ho (fun k hk _ => heap_setRow _ _ _ _ (by have := h.sB; omega)), h.gB, h.sB, h.ne, by simpa [World.setRow] using h.hB, h64, h.c64, by rw [hl]; exact h.cn, by rw [hl]; exact h.n1, by rw [hl]; exact h.n2⟩
set_option maxHeartbeats 4000000 in
set_option maxRecDepth 100000 in
theorem last_anyF {fu : Int} {dn : Bool} {B g gs : Nat} {v : Value} {S : List (List UInt8)} {C : List Wt} (ix : Nat) (t : List UInt8) (k : Nat) (w : World) (h : Df fu dn B w g gs v S C) (hi : ix < S.length) (ht : t.length = 64) (hk : k ≤ 64) :
    Calls Try.prog 31 #[.pointer (some ⟨g, 0, none⟩), .agg (wcell (ix, t)).toArray, .int .i64 (k : Int)] w fun e w' => e = .returned (.tuple #[]) ∧ Df fu dn B w' g gs v (put S ix t k) C ∧ Ch w.heap.size gs gs w w' := by
  obtain ⟨V, hV⟩ : ∃ V : World, V = w.alloc (.cells (wcell (ix, t)).toArray 70) := ⟨_, rfl⟩
  have hbV : Below w.heap.size w V := by rw [hV]; exact bda _ _
  have D1 := Lib.hid (h.below hbV)
  have RB := Lib.hid (show V.heap[w.heap.size]? = some (.cells (wcell (ix, t)).toArray 70 (0, 0)) by rw [hV]; exact heap_alloc_new _ _)
  have BV := Lib.hid (Ch.of_below (g := gs) (gs := gs) hbV (Nat.le_refl _))
  have SV := Lib.hid hbV.size
  have HI := Lib.hid hi
  have HT := Lib.hid ht
  have HK := Lib.hid hk
  have F0 := Lib.hid (fun x (K : Below V.heap.size V x) => row_c (i := 0) (row_on D1.out.hg K) rfl)
  have F1 := Lib.hid (fun x (K : Below V.heap.size V x) => row_c (i := 0) (row_on RB.out K) (show (wcell (ix, t)).toArray[0]? = some (.int .i64 (ix : Int)) from rfl))
  have LN := Lib.hid D1.out.n2
  have hcs := Lib.hid (rfl : (wcell (ix, t)).toArray = (wcell (ix, t)).toArray)
  obtain ⟨cs, hcs2⟩ : ∃ cs, (wcell (ix, t)).toArray = cs := ⟨_, rfl⟩
  rw [hcs2] at hV ⊢
  obtain ⟨n, hn⟩ : ∃ n, S.length = n := ⟨_, rfl⟩
  rw [hn] at F0 HI LN
  have HN := Lib.hid hn
  clear h hi ht hk hbV hcs hcs2 hn
  go_enter Try.func31, Try.ntmps31
  go_upto_region 1 with (fail)
  rw [← hV]
  clear hV
  refine wp_operands (W := V) rfl 11 [6, 7, 8, 9, 10, 11, 12, 13, 14, 15, 16] (fun i u x => match i with | 0 => u = .pointer (some ⟨g, 0, none⟩) | 1 => u = .pointer (some ⟨g, 0, none⟩) | 2 => u = .pointer (some ⟨g, 0, none⟩) | 3 => u = .slice (some ⟨gs, 0, none⟩) n n | 4 => u = .pointer (some ⟨w.heap.size, 0, none⟩) | 5 => u = .int .i64 (ix : Int) | 6 => u = .pointer (some ⟨gs, ix * 64, none⟩) | 7 => u = .slice (some ⟨gs, ix * 64, none⟩) 64 64 | 8 => u = .pointer (some ⟨w.heap.size, 1, none⟩) | 9 => u = .int .i64 (k : Int) | 10 => u = .slice (some ⟨w.heap.size, 1, none⟩) k 64 | _ => True) (fun _ => false)
    (by decide) rfl (by kernel_rfl) (by kernel_rfl) (by decide) (by kernel_rfl) ?_ (fun _ _ _ h => by cases h) ?_ ?_
  · intro i u x x' hi hR hb'
    have hi' : i = 0 ∨ i = 1 ∨ i = 2 ∨ i = 3 ∨ i = 4 ∨ i = 5 ∨ i = 6 ∨ i = 7 ∨ i = 8 ∨ i = 9 ∨ i = 10 := by omega
    rcases hi' with rfl | rfl | rfl | rfl | rfl | rfl | rfl | rfl | rfl | rfl | rfl
    · exact hR
    · exact hR
    · exact hR
    · exact hR
    · exact hR
    · exact hR
    · exact hR
    · exact hR
    · exact hR
    · exact hR
    · exact hR
  · intro i av x K hi hF hb' hw hK
    have hi' : i = 0 ∨ i = 1 ∨ i = 2 ∨ i = 3 ∨ i = 4 ∨ i = 5 ∨ i = 6 ∨ i = 7 ∨ i = 8 ∨ i = 9 ∨ i = 10 := by omega
    rcases hi' with rfl | rfl | rfl | rfl | rfl | rfl | rfl | rfl | rfl | rfl | rfl
    · simp only [wpOp, List.getElem?_toArray, List.getElem?_cons_zero, Region.wanted, if_true]
      refine Or.inl ?_
      have e0 : av.tmps.getD 0 undef = .pointer (some ⟨g, 0, none⟩) := hF.2.2 0 (by decide)
      have e0e : av.eval (.tmp 0) = .pointer (some ⟨g, 0, none⟩) := e0
      have e0g : av.tmps[0]?.getD undef = .pointer (some ⟨g, 0, none⟩) := by have := e0; simp only [Array.getD_eq_getD_getElem?] at this; exact this
      clear hw hF
      simp only [Oper.wp, execOp]
      try simp only [e0e]
      go_simp
      exact hK _ x (by first | rfl | (simp only [Nat.add_zero]; done) | (congr 1; omega)) (Below.refl _ _) (fun h => by cases h)
    · simp only [wpOp, List.getElem?_toArray, List.getElem?_cons_succ, List.getElem?_cons_zero, Region.wanted, if_true]
      refine Or.inl ?_
      have e0 : av.tmps.getD 6 undef = .pointer (some ⟨g, 0, none⟩) := (hw 0 (by kernel_rfl))
      have e0e : av.eval (.tmp 6) = .pointer (some ⟨g, 0, none⟩) := e0
      have e0g : av.tmps[6]?.getD undef = .pointer (some ⟨g, 0, none⟩) := by have := e0; simp only [Array.getD_eq_getD_getElem?] at this; exact this
      clear hw hF
      simp only [Oper.wp, execOp]
      try simp only [e0e]
      go_simp
      exact hK _ x (by first | rfl | (simp only [Nat.add_zero]; done) | (congr 1; omega)) (Below.refl _ _) (fun h => by cases h)
    · simp only [wpOp, List.getElem?_toArray, List.getElem?_cons_succ, List.getElem?_cons_zero, Region.wanted, if_true]
      refine Or.inl ?_
      have e0 : av.tmps.getD 7 undef = .pointer (some ⟨g, 0, none⟩) := (hw 1 (by kernel_rfl))
      have e0e : av.eval (.tmp 7) = .pointer (some ⟨g, 0, none⟩) := e0
      have e0g : av.tmps[7]?.getD undef = .pointer (some ⟨g, 0, none⟩) := by have := e0; simp only [Array.getD_eq_getD_getElem?] at this; exact this
      clear hw hF
      simp only [Oper.wp, execOp]
      try simp only [e0e]
      go_simp
      exact hK _ x (by first | rfl | (simp only [Nat.add_zero]; done) | (congr 1; omega)) (Below.refl _ _) (fun h => by cases h)
    · simp only [wpOp, List.getElem?_toArray, List.getElem?_cons_succ, List.getElem?_cons_zero, Region.wanted, if_true]
      refine Or.inl ?_
      have e0 : av.tmps.getD 8 undef = .pointer (some ⟨g, 0, none⟩) := (hw 2 (by kernel_rfl))
      have e0e : av.eval (.tmp 8) = .pointer (some ⟨g, 0, none⟩) := e0
      have e0g : av.tmps[8]?.getD undef = .pointer (some ⟨g, 0, none⟩) := by have := e0; simp only [Array.getD_eq_getD_getElem?] at this; exact this
      have fq := F0.out x hb'
      clear hw hF
      simp only [Oper.wp, execOp]
      try simp only [e0e]
      go_simp
      exact hK _ x (by first | rfl | (simp only [Nat.add_zero]; done) | (congr 1; omega)) (Below.refl _ _) (fun h => by cases h)
    · simp only [wpOp, List.getElem?_toArray, List.getElem?_cons_succ, List.getElem?_cons_zero, Region.wanted, if_true]
      refine Or.inl ?_
      have e0 : av.tmps.getD 4 undef = .pointer (some ⟨w.heap.size, 0, none⟩) := hF.2.2 4 (by decide)
      have e0e : av.eval (.tmp 4) = .pointer (some ⟨w.heap.size, 0, none⟩) := e0
      have e0g : av.tmps[4]?.getD undef = .pointer (some ⟨w.heap.size, 0, none⟩) := by have := e0; simp only [Array.getD_eq_getD_getElem?] at this; exact this
      clear hw hF
      simp only [Oper.wp, execOp]
      try simp only [e0e]
      go_simp
      exact hK _ x (by first | rfl | (simp only [Nat.add_zero]; done) | (congr 1; omega)) (Below.refl _ _) (fun h => by cases h)
    · simp only [wpOp, List.getElem?_toArray, List.getElem?_cons_succ, List.getElem?_cons_zero, Region.wanted, if_true]
      refine Or.inl ?_
      have e0 : av.tmps.getD 10 undef = .pointer (some ⟨w.heap.size, 0, none⟩) := (hw 4 (by kernel_rfl))
      have e0e : av.eval (.tmp 10) = .pointer (some ⟨w.heap.size, 0, none⟩) := e0
      have e0g : av.tmps[10]?.getD undef = .pointer (some ⟨w.heap.size, 0, none⟩) := by have := e0; simp only [Array.getD_eq_getD_getElem?] at this; exact this
      have fq := F1.out x hb'
      clear hw hF
      simp only [Oper.wp, execOp]
      try simp only [e0e]
      go_simp
      exact hK _ x (by first | rfl | (simp only [Nat.add_zero]; done) | (congr 1; omega)) (Below.refl _ _) (fun h => by cases h)
    · simp only [wpOp, List.getElem?_toArray, List.getElem?_cons_succ, List.getElem?_cons_zero, Region.wanted, if_true]
      refine Or.inl ?_
      have e0 : av.tmps.getD 9 undef = .slice (some ⟨gs, 0, none⟩) n n := (hw 3 (by kernel_rfl))
      have e0e : av.eval (.tmp 9) = .slice (some ⟨gs, 0, none⟩) n n := e0
      have e0g : av.tmps[9]?.getD undef = .slice (some ⟨gs, 0, none⟩) n n := by have := e0; simp only [Array.getD_eq_getD_getElem?] at this; exact this
      have e1 : av.tmps.getD 11 undef = .int .i64 (ix : Int) := (hw 5 (by kernel_rfl))
      have e1e : av.eval (.tmp 11) = .int .i64 (ix : Int) := e1
      have e1g : av.tmps[11]?.getD undef = .int .i64 (ix : Int) := by have := e1; simp only [Array.getD_eq_getD_getElem?] at this; exact this
      have i1 : (ix : Int) < (n : Int) := by have := HI.out; omega
      clear hw hF
      simp only [Oper.wp, execOp]
      try simp only [e0e, e1e]
      go_simp
      exact hK _ x (by first | rfl | (simp only [Nat.add_zero]; done) | (congr 1; omega)) (Below.refl _ _) (fun h => by cases h)
    · simp only [wpOp, List.getElem?_toArray, List.getElem?_cons_succ, List.getElem?_cons_zero, Region.wanted, if_true]
      refine Or.inl ?_
      have e0 : av.tmps.getD 12 undef = .pointer (some ⟨gs, ix * 64, none⟩) := (hw 6 (by kernel_rfl))
      have e0e : av.eval (.tmp 12) = .pointer (some ⟨gs, ix * 64, none⟩) := e0
      have e0g : av.tmps[12]?.getD undef = .pointer (some ⟨gs, ix * 64, none⟩) := by have := e0; simp only [Array.getD_eq_getD_getElem?] at this; exact this
      clear hw hF
      simp only [Oper.wp, execOp]
      try simp only [e0e]
      go_simp
      exact hK _ x (by first | rfl | (simp only [Nat.add_zero]; done) | (congr 1; omega)) (Below.refl _ _) (fun h => by cases h)
    · simp only [wpOp, List.getElem?_toArray, List.getElem?_cons_succ, List.getElem?_cons_zero, Region.wanted, if_true]
      refine Or.inl ?_
      have e0 : av.tmps.getD 4 undef = .pointer (some ⟨w.heap.size, 0, none⟩) := hF.2.2 4 (by decide)
      have e0e : av.eval (.tmp 4) = .pointer (some ⟨w.heap.size, 0, none⟩) := e0
      have e0g : av.tmps[4]?.getD undef = .pointer (some ⟨w.heap.size, 0, none⟩) := by have := e0; simp only [Array.getD_eq_getD_getElem?] at this; exact this
      clear hw hF
      simp only [Oper.wp, execOp]
      try simp only [e0e]
      go_simp
      exact hK _ x (by first | rfl | (simp only [Nat.add_zero]; done) | (congr 1; omega)) (Below.refl _ _) (fun h => by cases h)
    · simp only [wpOp, List.getElem?_toArray, List.getElem?_cons_succ, List.getElem?_cons_zero, Region.wanted, if_true]
      refine Or.inl ?_
      have e0 : av.tmps.getD 2 undef = .int .i64 (k : Int) := hF.2.2 2 (by decide)
      have e0e : av.eval (.tmp 2) = .int .i64 (k : Int) := e0
      have e0g : av.tmps[2]?.getD undef = .int .i64 (k : Int) := by have := e0; simp only [Array.getD_eq_getD_getElem?] at this; exact this
      clear hw hF
      simp only [Oper.wp, execOp]
      try simp only [e0e]
      go_simp
      exact hK _ x (by first | rfl | (simp only [Nat.add_zero]; done) | (congr 1; omega)) (Below.refl _ _) (fun h => by cases h)
    · simp only [wpOp, List.getElem?_toArray, List.getElem?_cons_succ, List.getElem?_cons_zero, Region.wanted, if_true]
      refine Or.inl ?_
      have e0 : av.tmps.getD 14 undef = .pointer (some ⟨w.heap.size, 1, none⟩) := (hw 8 (by kernel_rfl))
      have e0e : av.eval (.tmp 14) = .pointer (some ⟨w.heap.size, 1, none⟩) := e0
      have e0g : av.tmps[14]?.getD undef = .pointer (some ⟨w.heap.size, 1, none⟩) := by have := e0; simp only [Array.getD_eq_getD_getElem?] at this; exact this
      have e1 : av.tmps.getD 15 undef = .int .i64 (k : Int) := (hw 9 (by kernel_rfl))
      have e1e : av.eval (.tmp 15) = .int .i64 (k : Int) := e1
      have e1g : av.tmps[15]?.getD undef = .int .i64 (k : Int) := by have := e1; simp only [Array.getD_eq_getD_getElem?] at this; exact this
      have k1 : (k : Int) ≤ 64 := by have := HK.out; omega
      clear hw hF
      simp only [Oper.wp, execOp]
      try simp only [e0e, e1e]
      go_simp
      exact hK _ x (by first | rfl | (simp only [Nat.add_zero]; done) | (congr 1; omega)) (Below.refl _ _) (fun h => by cases h)
  · intro av x hF hb' hR _
    have e0 : av.tmps.getD 6 undef = .pointer (some ⟨g, 0, none⟩) := hR 0 (by decide)
    have e1 : av.tmps.getD 7 undef = .pointer (some ⟨g, 0, none⟩) := hR 1 (by decide)
    have e2 : av.tmps.getD 8 undef = .pointer (some ⟨g, 0, none⟩) := hR 2 (by decide)
    have e3 : av.tmps.getD 9 undef = .slice (some ⟨gs, 0, none⟩) n n := hR 3 (by decide)
    have e4 : av.tmps.getD 10 undef = .pointer (some ⟨w.heap.size, 0, none⟩) := hR 4 (by decide)
    have e5 : av.tmps.getD 11 undef = .int .i64 (ix : Int) := hR 5 (by decide)
    have e6 : av.tmps.getD 12 undef = .pointer (some ⟨gs, ix * 64, none⟩) := hR 6 (by decide)
    have e7 : av.tmps.getD 13 undef = .slice (some ⟨gs, ix * 64, none⟩) 64 64 := hR 7 (by decide)
    have e8 : av.tmps.getD 14 undef = .pointer (some ⟨w.heap.size, 1, none⟩) := hR 8 (by decide)
    have e9 : av.tmps.getD 15 undef = .int .i64 (k : Int) := hR 9 (by decide)
    have e10 : av.tmps.getD 16 undef = .slice (some ⟨w.heap.size, 1, none⟩) k 64 := hR 10 (by decide)
    rw [hF.fold (by kernel_rfl)]
    simp only [List.foldl_cons, List.foldl_nil, e0, e1, e2, e3, e4, e5, e6, e7, e8, e9, e10]
    simp only [Act.put, List.setIfInBounds_toArray, List.set_cons_zero, List.set_cons_succ]
    change wpOps _ _ _ [11] _ _
    simp only [wpOps_cons]
    clear e0 e1 e2 e3 e4 e5 e6 e7 e8 e9 e10 hR hF
    have hcp := run_copy_row (P := Try.prog) x 90 90 3 5 gs (ix * 64) 64 64 ⟨w.heap.size, 1, none⟩ k 64 (bc S.flatten).toArray 68 (bc (t.take k)) Try.underlying90 (by kernel_rfl) (row_on D1.out.hs hb') (by rw [bc_len, List.length_take, HT.out, Nat.min_eq_left HK.out]; exact (Nat.min_eq_left HK.out).symm) (fun j u hj => box_read (row_on RB.out hb') j u (by rw [← bc_take, List.getElem?_take] at hj; split at hj; exact hj; cases hj)) (by rw [bc_len, List.length_take, HT.out]; have h1 := flat_len D1.out.s64; have h2 := HI.out; have h3 := HN.out; have h4 := HK.out; simp only [List.size_toArray]; rw [bc_len, h1]; omega) (bc_one _)
    have hrow : ((bc S.flatten).toArray.toList.take (ix * 64) ++ bc (t.take k) ++ (bc S.flatten).toArray.toList.drop (ix * 64 + (bc (t.take k)).length)).toArray = (bc (put S ix t k).flatten).toArray := by
      rw [put_flat (by rw [HN.out]; exact HI.out) D1.out.s64 HT.out HK.out, bc_app, bc_app, bc_len, List.length_take, HT.out, Nat.min_eq_left HK.out]
      simp only [bc_take, bc_drop]
    have hln : (bc (t.take k)).length = k := by rw [bc_len, List.length_take, HT.out, Nat.min_eq_left HK.out]
    rw [hrow, hln] at hcp
    clear hrow hln
    simp only [wpOp, List.getElem?_toArray, List.getElem?_cons_succ, List.getElem?_cons_zero, Region.wanted, if_true]
    refine Or.inl ?_
    simp only [Oper.wp, execOp]
    go_simp
    try simp only [wpOps]
    have DX := Lib.hid ((D1.out.below hb').setS (put_len S ix t k) (put_64 (by rw [HN.out]; exact HI.out) D1.out.s64 HT.out HK.out))
    have CX := Lib.hid ((BV.out.trans (Ch.of_below hb' SV.out)).setRow (bc (put S ix t k).flatten).toArray)
    clear hcp hb'
    go_wp2
    go_end0
    exact ⟨rfl, DX.out, CX.out⟩
end Go.Proofs.Ytnpopbobpbbamaa
