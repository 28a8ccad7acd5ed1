/-
  The first bytes of a write made to last.
-/
import Derived.Test.YtmgdpchjimlmeaaEa
namespace Go.Proofs.Ytmgdpchjimlmeaa
open Go.RowKit
set_option linter.unusedSimpArgs false
set_option linter.unusedVariables false
theorem heap_setRow (w : World) (g : Nat) (c : Array Value) (k : Nat) (h : k ≠ g) : (w.setRow g c).heap[k]? = w.heap[k]? := by
  simp only [World.setRow, Array.getElem?_modify]
  rw [if_neg (by omega)]
theorem own_kept {w w' : World} {B : Nat} {e : TypeId} {size : Nat} {v : Value} {n : Nat} {xs : List Value} (h : w.ownsRow B e size v n xs) (hk : ∀ k, B ≤ k → k < w.heap.size → w'.heap[k]? = w.heap[k]?) : w'.ownsRow B e size v n xs := by
  refine ⟨h.1, ?_⟩
  rcases h.2 with h0 | ⟨g, cap, cur, h1, h2, h3, h4⟩
  · exact .inl h0
  · exact .inr ⟨g, cap, cur, h1, h2, (hk g h2 (heap_lt h3)).trans h3, h4⟩
theorem Dk.setS {B g gs : Nat} {v : Value} {S S' : List (List UInt8)} {C : List Wt} {w : World} (h : Dk B w g gs v S C) (hl : S'.length = S.length) (h64 : ∀ s ∈ S', s.length = 64) : Dk B (w.setRow gs (bc S'.flatten).toArray) g gs v S' C :=
  ⟨by rw [heap_setRow _ _ _ _ h.ne, hl]; exact h.hg, setRow_heap w gs _ _ _ _ h.hs, own_kept h.ho (fun k hk _ => heap_setRow _ _ _ _ (by have := h.sB; omega)), h.gB, h.sB, h.ne, by simpa [World.setRow] using h.hB, h64, h.c64, by rw [hl]; exact h.cn, by rw [hl]; exact h.n1, by rw [hl]; exact h.n2⟩
/-- Sector i with the first k bytes of t. -/
def put (S : List (List UInt8)) (i : Nat) (t : List UInt8) (k : Nat) : List (List UInt8) := S.set i (t.take k ++ (S[i]?.getD []).drop k)
theorem put_len (S : List (List UInt8)) (i : Nat) (t : List UInt8) (k : Nat) : (put S i t k).length = S.length := by unfold put; rw [List.length_set]
theorem put_64 {S : List (List UInt8)} {i : Nat} {t : List UInt8} {k : Nat} (hi : i < S.length) (h : ∀ s ∈ S, s.length = 64) (ht : t.length = 64) (hk : k ≤ 64) : ∀ s ∈ put S i t k, s.length = 64 := by
  intro s hs
  unfold put at hs
  rcases List.mem_or_eq_of_mem_set hs with h1 | rfl
  · exact h s h1
  · rw [List.getElem?_eq_getElem hi, Option.getD_some, List.length_append, List.length_take, List.length_drop, h _ (List.getElem_mem hi), ht]; omega
theorem put_flat {S : List (List UInt8)} {i : Nat} {t : List UInt8} {k : Nat} (hi : i < S.length) (h : ∀ s ∈ S, s.length = 64) (ht : t.length = 64) (hk : k ≤ 64) :
    (put S i t k).flatten = S.flatten.take (i * 64) ++ t.take k ++ S.flatten.drop (i * 64 + k) := by
  obtain ⟨a, b⟩ := flat_at hi h
  unfold put
  have h1 := h _ (List.getElem_mem hi)
  rw [List.getElem?_eq_getElem hi, Option.getD_some, b _ (by rw [List.length_append, List.length_take, List.length_drop, h1, ht]; omega), List.append_assoc, List.append_assoc, List.append_assoc]
  congr 2
  have e2 : S.flatten.drop (i * 64 + k) = (S.flatten.drop (i * 64)).drop k := by rw [List.drop_drop]
  have e1 : S.flatten.drop (i * 64 + 64) = ((S.flatten.drop (i * 64)).drop k).drop (64 - k) := by rw [List.drop_drop, List.drop_drop]; congr 1; omega
  rw [← a, e1, e2, List.drop_take]
  exact List.take_append_drop _ _
theorem Ch.widen {B N g gs : Nat} {w w' : World} (h : Ch N gs gs w w') (hB : B ≤ N) : Ch B g gs w w' := ⟨h.os, h.tape, h.output, h.size, fun k hk _ h2 => h.block k (by omega) h2 h2, fun k hk _ h2 h4 => h.typ k hk h2 h2 h4⟩
theorem Ch.narrow {B N g gs : Nat} {w w' : World} (h : Ch N g gs w w') (hB : B ≤ N) : Ch B g gs w w' := ⟨h.os, h.tape, h.output, h.size, fun k hk h1 h2 => h.block k (by omega) h1 h2, h.typ⟩
theorem box_read {w : World} {g i : Nat} {t : List UInt8} {T : TypeId} (h : w.heap[g]? = some (.cells (wcell (i, t)).toArray T (0, 0))) (j : Nat) (v : Value) (hj : (bc t)[j]? = some v) : w.cell? ((⟨g, 1, none⟩ : Addr).add j) = some v := by
  rw [Addr.add_lit]
  refine row_c h ?_
  rw [List.getElem?_toArray, Nat.add_comm]
  unfold wcell
  rw [List.getElem?_cons_succ]; exact hj
theorem addr_off (g a b : Nat) : (⟨g, a, none⟩ : Addr).add b = ⟨g, a + b, none⟩ := by unfold Addr.add; split <;> simp_all

set_option maxHeartbeats 4000000 in
set_option maxRecDepth 100000 in
theorem last_any {B g gs : Nat} {v : Value} {S : List (List UInt8)} {C : List Wt} (ix : Nat) (t : List UInt8) (k : Nat) (w : World) (h : Dk B w g gs v S C) (hi : ix < S.length) (ht : t.length = 64) (hk : k ≤ 64) :
    Calls Try.prog 51 #[.pointer (some ⟨g, 0, none⟩), .agg (wcell (ix, t)).toArray, .int .i64 (k : Int)] w fun e w' => e = .returned (.tuple #[]) ∧ Dk B w' g gs v (put S ix t k) C ∧ Ch w.heap.size gs gs w w' := by
  obtain ⟨V, hV⟩ : ∃ V : World, V = w.alloc (.cells (wcell (ix, t)).toArray 107) := ⟨_, rfl⟩
  have hbV : Below w.heap.size w V := by rw [hV]; exact bda _ _
  have D1 := Lib.hid (h.below hbV)
  have RB := Lib.hid (show V.heap[w.heap.size]? = some (.cells (wcell (ix, t)).toArray 107 (0, 0)) by rw [hV]; exact heap_alloc_new _ _)
  have BV := Lib.hid (Ch.of_below (g := gs) (gs := gs) hbV (Nat.le_refl _))
  have SV := Lib.hid hbV.size
  have HI := Lib.hid hi
  have HT := Lib.hid ht
  have HK := Lib.hid hk
  have F0 := Lib.hid (fun x (K : Below V.heap.size V x) => row_c (i := 0) (row_on D1.out.hg K) rfl)
  have F1 := Lib.hid (fun x (K : Below V.heap.size V x) => row_c (i := 0) (row_on RB.out K) (show (wcell (ix, t)).toArray[0]? = some (.int .i64 (ix : Int)) from rfl))
  have LN := Lib.hid D1.out.n2
  have hcs := Lib.hid (rfl : (wcell (ix, t)).toArray = (wcell (ix, t)).toArray)
  obtain ⟨cs, hcs2⟩ : ∃ cs, (wcell (ix, t)).toArray = cs := ⟨_, rfl⟩
  rw [hcs2] at hV ⊢
  obtain ⟨n, hn⟩ : ∃ n, S.length = n := ⟨_, rfl⟩
  rw [hn] at F0 HI LN
  have HN := Lib.hid hn
  clear h hi ht hk hbV hcs hcs2 hn
  go_enter Try.func51, Try.ntmps51
  go_upto_region 1 with (fail)
  rw [← hV]
  clear hV
  refine wp_operands (W := V) rfl 11 [6, 7, 8, 9, 10, 11, 12, 13, 14, 15, 16] (fun i u x => match i with | 0 => u = .pointer (some ⟨g, 0, none⟩) | 1 => u = .pointer (some ⟨g, 0, none⟩) | 2 => u = .pointer (some ⟨g, 0, none⟩) | 3 => u = .slice (some ⟨gs, 0, none⟩) n n | 4 => u = .pointer (some ⟨w.heap.size, 0, none⟩) | 5 => u = .int .i64 (ix : Int) | 6 => u = .pointer (some ⟨gs, ix * 64, none⟩) | 7 => u = .slice (some ⟨gs, ix * 64, none⟩) 64 64 | 8 => u = .pointer (some ⟨w.heap.size, 1, none⟩) | 9 => u = .int .i64 (k : Int) | 10 => u = .slice (some ⟨w.heap.size, 1, none⟩) k 64 | _ => True) (fun _ => false)
    (by decide) rfl (by kernel_rfl) (by kernel_rfl) (by decide) (by kernel_rfl) ?_ (fun _ _ _ h => by cases h) ?_ ?_
  · intro i u x x' hi hR hb'
    have hi' : i = 0 ∨ i = 1 ∨ i = 2 ∨ i = 3 ∨ i = 4 ∨ i = 5 ∨ i = 6 ∨ i = 7 ∨ i = 8 ∨ i = 9 ∨ i = 10 := by omega
    rcases hi' with rfl | rfl | rfl | rfl | rfl | rfl | rfl | rfl | rfl | rfl | rfl
    · exact hR
    · exact hR
    · exact hR
    · exact hR
    · exact hR
    · exact hR
    · exact hR
    · exact hR
    · exact hR
    · exact hR
    · exact hR
  · intro i av x K hi hF hb' hw hK
    have hi' : i = 0 ∨ i = 1 ∨ i = 2 ∨ i = 3 ∨ i = 4 ∨ i = 5 ∨ i = 6 ∨ i = 7 ∨ i = 8 ∨ i = 9 ∨ i = 10 := by omega
    rcases hi' with rfl | rfl | rfl | rfl | rfl | rfl | rfl | rfl | rfl | rfl | rfl
    · simp only [wpOp, List.getElem?_toArray, List.getElem?_cons_zero, Region.wanted, if_true]
      refine Or.inl ?_
      have e0 : av.tmps.getD 0 undef = .pointer (some ⟨g, 0, none⟩) := hF.2.2 0 (by decide)
      have e0e : av.eval (.tmp 0) = .pointer (some ⟨g, 0, none⟩) := e0
      have e0g : av.tmps[0]?.getD undef = .pointer (some ⟨g, 0, none⟩) := by have := e0; simp only [Array.getD_eq_getD_getElem?] at this; exact this
      clear hw hF
      simp only [Oper.wp, execOp]
      try simp only [e0e]
      go_simp
      exact hK _ x (by first | rfl | (simp only [Nat.add_zero]; done) | (congr 1; omega)) (Below.refl _ _) (fun h => by cases h)
    · simp only [wpOp, List.getElem?_toArray, List.getElem?_cons_succ, List.getElem?_cons_zero, Region.wanted, if_true]
      refine Or.inl ?_
      have e0 : av.tmps.getD 6 undef = .pointer (some ⟨g, 0, none⟩) := (hw 0 (by kernel_rfl))
      have e0e : av.eval (.tmp 6) = .pointer (some ⟨g, 0, none⟩) := e0
      have e0g : av.tmps[6]?.getD undef = .pointer (some ⟨g, 0, none⟩) := by have := e0; simp only [Array.getD_eq_getD_getElem?] at this; exact this
      clear hw hF
      simp only [Oper.wp, execOp]
      try simp only [e0e]
      go_simp
      exact hK _ x (by first | rfl | (simp only [Nat.add_zero]; done) | (congr 1; omega)) (Below.refl _ _) (fun h => by cases h)
    · simp only [wpOp, List.getElem?_toArray, List.getElem?_cons_succ, List.getElem?_cons_zero, Region.wanted, if_true]
      refine Or.inl ?_
      have e0 : av.tmps.getD 7 undef = .pointer (some ⟨g, 0, none⟩) := (hw 1 (by kernel_rfl))
      have e0e : av.eval (.tmp 7) = .pointer (some ⟨g, 0, none⟩) := e0
      have e0g : av.tmps[7]?.getD undef = .pointer (some ⟨g, 0, none⟩) := by have := e0; simp only [Array.getD_eq_getD_getElem?] at this; exact this
      clear hw hF
      simp only [Oper.wp, execOp]
      try simp only [e0e]
      go_simp
      exact hK _ x (by first | rfl | (simp only [Nat.add_zero]; done) | (congr 1; omega)) (Below.refl _ _) (fun h => by cases h)
    · simp only [wpOp, List.getElem?_toArray, List.getElem?_cons_succ, List.getElem?_cons_zero, Region.wanted, if_true]
      refine Or.inl ?_
      have e0 : av.tmps.getD 8 undef = .pointer (some ⟨g, 0, none⟩) := (hw 2 (by kernel_rfl))
      have e0e : av.eval (.tmp 8) = .pointer (some ⟨g, 0, none⟩) := e0
      have e0g : av.tmps[8]?.getD undef = .pointer (some ⟨g, 0, none⟩) := by have := e0; simp only [Array.getD_eq_getD_getElem?] at this; exact this
      have fq := F0.out x hb'
      clear hw hF
      simp only [Oper.wp, execOp]
      try simp only [e0e]
      go_simp
      exact hK _ x (by first | rfl | (simp only [Nat.add_zero]; done) | (congr 1; omega)) (Below.refl _ _) (fun h => by cases h)
    · simp only [wpOp, List.getElem?_toArray, List.getElem?_cons_succ, List.getElem?_cons_zero, Region.wanted, if_true]
      refine Or.inl ?_
      have e0 : av.tmps.getD 4 undef = .pointer (some ⟨w.heap.size, 0, none⟩) := hF.2.2 4 (by decide)
      have e0e : av.eval (.tmp 4) = .pointer (some ⟨w.heap.size, 0, none⟩) := e0
      have e0g : av.tmps[4]?.getD undef = .pointer (some ⟨w.heap.size, 0, none⟩) := by have := e0; simp only [Array.getD_eq_getD_getElem?] at this; exact this
      clear hw hF
      simp only [Oper.wp, execOp]
      try simp only [e0e]
      go_simp
      exact hK _ x (by first | rfl | (simp only [Nat.add_zero]; done) | (congr 1; omega)) (Below.refl _ _) (fun h => by cases h)
    · simp only [wpOp, List.getElem?_toArray, List.getElem?_cons_succ, List.getElem?_cons_zero, Region.wanted, if_true]
      refine Or.inl ?_
      have e0 : av.tmps.getD 10 undef = .pointer (some ⟨w.heap.size, 0, none⟩) := (hw 4 (by kernel_rfl))
      have e0e : av.eval (.tmp 10) = .pointer (some ⟨w.heap.size, 0, none⟩) := e0
      have e0g : av.tmps[10]?.getD undef = .pointer (some ⟨w.heap.size, 0, none⟩) := by have := e0; simp only [Array.getD_eq_getD_getElem?] at this; exact this
      have fq := F1.out x hb'
      clear hw hF
      simp only [Oper.wp, execOp]
      try simp only [e0e]
      go_simp
      exact hK _ x (by first | rfl | (simp only [Nat.add_zero]; done) | (congr 1; omega)) (Below.refl _ _) (fun h => by cases h)
    · simp only [wpOp, List.getElem?_toArray, List.getElem?_cons_succ, List.getElem?_cons_zero, Region.wanted, if_true]
      refine Or.inl ?_
      have e0 : av.tmps.getD 9 undef = .slice (some ⟨gs, 0, none⟩) n n := (hw 3 (by kernel_rfl))
      have e0e : av.eval (.tmp 9) = .slice (some ⟨gs, 0, none⟩) n n := e0
      have e0g : av.tmps[9]?.getD undef = .slice (some ⟨gs, 0, none⟩) n n := by have := e0; simp only [Array.getD_eq_getD_getElem?] at this; exact this
      have e1 : av.tmps.getD 11 undef = .int .i64 (ix : Int) := (hw 5 (by kernel_rfl))
      have e1e : av.eval (.tmp 11) = .int .i64 (ix : Int) := e1
      have e1g : av.tmps[11]?.getD undef = .int .i64 (ix : Int) := by have := e1; simp only [Array.getD_eq_getD_getElem?] at this; exact this
      have i1 : (ix : Int) < (n : Int) := by have := HI.out; omega
      clear hw hF
      simp only [Oper.wp, execOp]
      try simp only [e0e, e1e]
      go_simp
      exact hK _ x (by first | rfl | (simp only [Nat.add_zero]; done) | (congr 1; omega)) (Below.refl _ _) (fun h => by cases h)
    · simp only [wpOp, List.getElem?_toArray, List.getElem?_cons_succ, List.getElem?_cons_zero, Region.wanted, if_true]
      refine Or.inl ?_
      have e0 : av.tmps.getD 12 undef = .pointer (some ⟨gs, ix * 64, none⟩) := (hw 6 (by kernel_rfl))
      have e0e : av.eval (.tmp 12) = .pointer (some ⟨gs, ix * 64, none⟩) := e0
      have e0g : av.tmps[12]?.getD undef = .pointer (some ⟨gs, ix * 64, none⟩) := by have := e0; simp only [Array.getD_eq_getD_getElem?] at this; exact this
      clear hw hF
      simp only [Oper.wp, execOp]
      try simp only [e0e]
      go_simp
      exact hK _ x (by first | rfl | (simp only [Nat.add_zero]; done) | (congr 1; omega)) (Below.refl _ _) (fun h => by cases h)
    · simp only [wpOp, List.getElem?_toArray, List.getElem?_cons_succ, List.getElem?_cons_zero, Region.wanted, if_true]
      refine Or.inl ?_
      have e0 : av.tmps.getD 4 undef = .pointer (some ⟨w.heap.size, 0, none⟩) := hF.2.2 4 (by decide)
      have e0e : av.eval (.tmp 4) = .pointer (some ⟨w.heap.size, 0, none⟩) := e0
      have e0g : av.tmps[4]?.getD undef = .pointer (some ⟨w.heap.size, 0, none⟩) := by have := e0; simp only [Array.getD_eq_getD_getElem?] at this; exact this
      clear hw hF
      simp only [Oper.wp, execOp]
      try simp only [e0e]
      go_simp
      exact hK _ x (by first | rfl | (simp only [Nat.add_zero]; done) | (congr 1; omega)) (Below.refl _ _) (fun h => by cases h)
    · simp only [wpOp, List.getElem?_toArray, List.getElem?_cons_succ, List.getElem?_cons_zero, Region.wanted, if_true]
      refine Or.inl ?_
      have e0 : av.tmps.getD 2 undef = .int .i64 (k : Int) := hF.2.2 2 (by decide)
      have e0e : av.eval (.tmp 2) = .int .i64 (k : Int) := e0
      have e0g : av.tmps[2]?.getD undef = .int .i64 (k : Int) := by have := e0; simp only [Array.getD_eq_getD_getElem?] at this; exact this
      clear hw hF
      simp only [Oper.wp, execOp]
      try simp only [e0e]
      go_simp
      exact hK _ x (by first | rfl | (simp only [Nat.add_zero]; done) | (congr 1; omega)) (Below.refl _ _) (fun h => by cases h)
    · simp only [wpOp, List.getElem?_toArray, List.getElem?_cons_succ, List.getElem?_cons_zero, Region.wanted, if_true]
      refine Or.inl ?_
      have e0 : av.tmps.getD 14 undef = .pointer (some ⟨w.heap.size, 1, none⟩) := (hw 8 (by kernel_rfl))
      have e0e : av.eval (.tmp 14) = .pointer (some ⟨w.heap.size, 1, none⟩) := e0
      have e0g : av.tmps[14]?.getD undef = .pointer (some ⟨w.heap.size, 1, none⟩) := by have := e0; simp only [Array.getD_eq_getD_getElem?] at this; exact this
      have e1 : av.tmps.getD 15 undef = .int .i64 (k : Int) := (hw 9 (by kernel_rfl))
      have e1e : av.eval (.tmp 15) = .int .i64 (k : Int) := e1
      have e1g : av.tmps[15]?.getD undef = .int .i64 (k : Int) := by have := e1; simp only [Array.getD_eq_getD_getElem?] at this; exact this
      have k1 : (k : Int) ≤ 64 := by have := HK.out; omega
      clear hw hF
      simp only [Oper.wp, execOp]
      try simp only [e0e, e1e]
      go_simp
      exact hK _ x (by first | rfl | (simp only [Nat.add_zero]; done) | (congr 1; omega)) (Below.refl _ _) (fun h => by cases h)
  · intro av x hF hb' hR _
    have e0 : av.tmps.getD 6 undef = .pointer (some ⟨g, 0, none⟩) := hR 0 (by decide)
    have e1 : av.tmps.getD 7 undef = .pointer (some ⟨g, 0, none⟩) := hR 1 (by decide)
    have e2 : av.tmps.getD 8 undef = .pointer (some ⟨g, 0, none⟩) := hR 2 (by decide)
    have e3 : av.tmps.getD 9 undef = .slice (some ⟨gs, 0, none⟩) n n := hR 3 (by decide)
    have e4 : av.tmps.getD 10 undef = .pointer (some ⟨w.heap.size, 0, none⟩) := hR 4 (by decide)
    have e5 : av.tmps.getD 11 undef = .int .i64 (ix : Int) := hR 5 (by decide)
    have e6 : av.tmps.getD 12 undef = .pointer (some ⟨gs, ix * 64, none⟩) := hR 6 (by decide)
    have e7 : av.tmps.getD 13 undef = .slice (some ⟨gs, ix * 64, none⟩) 64 64 := hR 7 (by decide)
    have e8 : av.tmps.getD 14 undef = .pointer (some ⟨w.heap.size, 1, none⟩) := hR 8 (by decide)
    have e9 : av.tmps.getD 15 undef = .int .i64 (k : Int) := hR 9 (by decide)
    have e10 : av.tmps.getD 16 undef = .slice (some ⟨w.heap.size, 1, none⟩) k 64 := hR 10 (by decide)
    rw [hF.fold (by kernel_rfl)]
    simp only [List.foldl_cons, List.foldl_nil, e0, e1, e2, e3, e4, e5, e6, e7, e8, e9, e10]
    simp only [Act.put, List.setIfInBounds_toArray, List.set_cons_zero, List.set_cons_succ]
    change wpOps _ _ _ [11] _ _
    simp only [wpOps_cons]
    clear e0 e1 e2 e3 e4 e5 e6 e7 e8 e9 e10 hR hF
    have hcp := run_copy_row (P := Try.prog) x 68 68 3 5 gs (ix * 64) 64 64 ⟨w.heap.size, 1, none⟩ k 64 (bc S.flatten).toArray 105 (bc (t.take k)) Try.underlying68 (by kernel_rfl) (row_on D1.out.hs hb') (by rw [bc_len, List.length_take, HT.out, Nat.min_eq_left HK.out]; exact (Nat.min_eq_left HK.out).symm) (fun j u hj => box_read (row_on RB.out hb') j u (by rw [← bc_take, List.getElem?_take] at hj; split at hj; exact hj; cases hj)) (by rw [bc_len, List.length_take, HT.out]; have h1 := flat_len D1.out.s64; have h2 := HI.out; have h3 := HN.out; have h4 := HK.out; simp only [List.size_toArray]; rw [bc_len, h1]; omega) (bc_one _)
    have hrow : ((bc S.flatten).toArray.toList.take (ix * 64) ++ bc (t.take k) ++ (bc S.flatten).toArray.toList.drop (ix * 64 + (bc (t.take k)).length)).toArray = (bc (put S ix t k).flatten).toArray := by
      rw [put_flat (by rw [HN.out]; exact HI.out) D1.out.s64 HT.out HK.out, bc_app, bc_app, bc_len, List.length_take, HT.out, Nat.min_eq_left HK.out]
      simp only [bc_take, bc_drop]
    have hln : (bc (t.take k)).length = k := by rw [bc_len, List.length_take, HT.out, Nat.min_eq_left HK.out]
    rw [hrow, hln] at hcp
    clear hrow hln
    simp only [wpOp, List.getElem?_toArray, List.getElem?_cons_succ, List.getElem?_cons_zero, Region.wanted, if_true]
    refine Or.inl ?_
    simp only [Oper.wp, execOp]
    go_simp
    try simp only [wpOps]
    have DX := Lib.hid ((D1.out.below hb').setS (put_len S ix t k) (put_64 (by rw [HN.out]; exact HI.out) D1.out.s64 HT.out HK.out))
    have CX := Lib.hid ((BV.out.trans (Ch.of_below hb' SV.out)).setRow (bc (put S ix t k).flatten).toArray)
    clear hcp hb'
    go_wp2
    go_end0
    exact ⟨rfl, DX.out, CX.out⟩
end Go.Proofs.Ytmgdpchjimlmeaa
