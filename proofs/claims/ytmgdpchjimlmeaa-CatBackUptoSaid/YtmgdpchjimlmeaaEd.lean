/-
  What waits grows: the closure of Write.
-/
import Derived.Test.YtmgdpchjimlmeaaEc
import Derived.Test.YtmgdpchjimlmeaaRegD
import Derived.Deep.WholeRow
import Derived.Lib.BufferWrite
import Derived.Great.BuildSlice
import Derived.Lib.OwnKind
namespace Go.Proofs.Ytmgdpchjimlmeaa
open Go.RowKit
set_option linter.unusedSimpArgs false
set_option linter.unusedVariables false
set_option maxRecDepth 100000 in
theorem zero_w : (Try.prog.info? 107).map (fun i => (i.zero, i.size)) = some (some (.agg (Value.int .i64 0 :: List.replicate 64 (Value.int .u8 0)).toArray), 65) := by kernel_rfl
set_option maxRecDepth 100000 in
theorem info_w : (Try.prog.info? 107).map (fun i => (i.zero, i.size, i.bytes)) = some (some (.agg (Value.int .i64 0 :: List.replicate 64 (Value.int .u8 0)).toArray), 65, 72) := by kernel_rfl
theorem size_w : (Try.prog.info? 107).map (·.size) = some 65 := (zero_of_info zero_w).2
theorem wcell_zero (ix : Nat) : (Value.int .i64 (ix : Int) :: List.replicate 64 (Value.int .u8 0)).toArray = (wcell (ix, z64)).toArray := by unfold wcell z64 bc; rw [List.map_replicate]; rfl
theorem wcell_size (ix : Nat) (t : List UInt8) (ht : t.length = 64) : (wcell (ix, t)).toArray.size = 65 := by unfold wcell; simp [bc_len, ht]
theorem wcell_all (c : Wt) : (wcell c).toArray.all (·.oneCell') = true := by
  rw [Array.all_eq_true_iff_forall_mem]
  intro v hv
  exact wcell_one c v (by simpa using hv)
theorem wcells_one (c : Wt) : wcells [c] = wcell c := by unfold wcells; simp
/-- A write more waits. -/
theorem Dk.more {B g gs : Nat} {v v' : Value} {S : List (List UInt8)} {C : List Wt} {w w1 : World} {c : Wt} (h : Dk B w g gs v S C) (hg : w.grownBy w1 v.ownBlock) (ho : w1.ownsRow B 107 65 v' (C.length + 1) (wcells C ++ wcell c)) (h64 : c.2.length = 64) (hn : c.1 < S.length) :
    Dk B (w1.setCell ⟨g, 1, none⟩ v') g gs v' S (C ++ [c]) ∧ Ch B g gs w (w1.setCell ⟨g, 1, none⟩ v') := by
  have hlt := h.ho.lt
  have hne : ∀ k, k < B → some k ≠ v.ownBlock := fun k hk e => by have := hlt k e.symm; omega
  have hg1 : w1.heap[g]? = _ := (hg.block g (by have := h.gB; have := h.hB; omega) (hne g h.gB)).trans h.hg
  have hs1 : w1.heap[gs]? = _ := (hg.block gs (by have := h.sB; have := h.hB; omega) (hne gs h.sB)).trans h.hs
  refine ⟨⟨?_, ?_, ?_, h.gB, h.sB, h.ne, ?_, h.s64, ?_, ?_, h.n1, h.n2⟩, ?_⟩
  · have := heap_setCell_same _ _ 1 _ _ v' hg1
    simpa using this
  · rw [heap_setCell_other _ _ _ _ (fun e => h.ne e.symm)]; exact hs1
  · have e : wcells (C ++ [c]) = wcells C ++ wcell c := by rw [wcells_app, wcells_one]
    rw [e, List.length_append]
    exact own_set ho h.gB 1 v'
  · have := hg.size; have := h.hB; simp [World.setCell]; omega
  · intro x hx
    rcases List.mem_append.1 hx with hx | hx
    · exact h.c64 x hx
    · rw [List.mem_singleton] at hx; subst hx; exact h64
  · intro x hx
    rcases List.mem_append.1 hx with hx | hx
    · exact h.cn x hx
    · rw [List.mem_singleton] at hx; subst hx; exact hn
  · exact (Ch.mk hg.os hg.tape hg.output hg.size (fun k hk _ _ => hg.block k (by have := h.hB; omega) (hne k hk)) (fun k hk _ _ h4 => hg.block k hk (fun e => by
      obtain ⟨c, fz, h1⟩ := Lib.ownsRow_kind h.ho k e.symm
      exact h4 _ _ h1))).setCell 1 v'
theorem grown_g {B g gs : Nat} {v : Value} {S : List (List UInt8)} {C : List Wt} {w w1 : World} (h : Dk B w g gs v S C) (hg : w.grownBy w1 v.ownBlock) : w1.heap[g]? = some (.cells #[.slice (some ⟨gs, 0, none⟩) S.length S.length, v, .int .i64 (-1), .bool false] 58 (0, 0)) :=
  (hg.block g (by have := h.gB; have := h.hB; omega) (fun e => by have := h.ho.lt g e.symm; have := h.gB; omega)).trans h.hg
theorem grown_other {B g gs b : Nat} {v : Value} {S : List (List UInt8)} {C : List Wt} {w w1 : World} {cs : Array Value} {T : TypeId} {fr : Nat × Nat} (h : Dk B w g gs v S C) (hg : w.grownBy w1 v.ownBlock) (hb : w.heap[b]? = some (.cells cs T fr)) (hT : T ≠ 107) : w1.heap[b]? = some (.cells cs T fr) :=
  (hg.block b (heap_lt hb) (fun e => by
    obtain ⟨c, fz, h1⟩ := Lib.ownsRow_kind h.ho b e.symm
    rw [h1] at hb
    injection hb with hb
    injection hb with _ h2 _
    exact hT h2.symm)).trans hb
theorem fill_one {a : Act} {cz : Array Value} {t : Tmp} {ie : TypeInfo} {zs : Array Value} (he : a.eval (.tmp t) = .agg cz) (hs : cz.size = 65) (hi : ie.size = 65) :
    Instr.fill (fun i => some (i * ie.size, ie.size)) ((Array.range (1 * ie.size)).map (zs[· % zs.size]!)) ((#[(0, Operand.tmp t)] : Array (Nat × Operand)).map fun (i, x) => (i, a.eval x)).toList = some cz := by
  have h := Great.fill_whole (s := 65) (by omega) [.agg cz] ((Array.range (1 * 65)).map (zs[· % zs.size]!)) (fun v hv => by rw [List.mem_singleton] at hv; subst hv; exact hs) (by simp)
  have e : ((#[(0, Operand.tmp t)] : Array (Nat × Operand)).map fun (i, x) => (i, a.eval x)).toList = [(0, .agg cz)] := by
    simp [he]
  rw [hi, e]
  have e2 : ([Value.agg cz].flatMap fun v => v.cells.toList).toArray = cz := by
    show (cz.toList ++ []).toArray = cz
    rw [List.append_nil]
  rw [e2] at h
  exact h

set_option maxHeartbeats 4000000 in
set_option maxRecDepth 100000 in
theorem wr1_any {B g gs b3 b4 b5 : Nat} {v : Value} {S : List (List UInt8)} {C : List Wt} (ix : Nat) (s : ByteArray) (w : World) (h : Dk B w g gs v S C) (hi : ix < S.length) (h64 : s.data.toList.length = 64) (hC : C.length ≤ 1000000)
    (h3 : w.heap[b3]? = some (.cells #[.pointer (some ⟨g, 0, none⟩)] 27 (0, 0))) (h4 : w.cell? ⟨b4, 0, none⟩ = some (.int .i64 (ix : Int))) (h5 : w.cell? ⟨b5, 0, none⟩ = some (.string s)) :
    Calls Try.prog 67 #[.pointer (some ⟨b4, 0, none⟩), .pointer (some ⟨b5, 0, none⟩), .pointer (some ⟨b3, 0, none⟩)] w fun e w' => e = .returned (.tuple #[]) ∧ ∃ v', Dk B w' g gs v' S (C ++ [(ix, s.data.toList)]) ∧ Ch B g gs w w' := by
  obtain ⟨hz, hsz⟩ := zero_of_info zero_w
  have hst := run_storeCells_new (P := Try.prog) w 107 (Value.int .i64 0 :: List.replicate 64 (Value.int .u8 0)).toArray (wcell (ix, z64)).toArray (by rw [hsz, wcell_size _ _ z64_len]) (by rw [wcell_size _ _ z64_len]; rfl) (wcell_all _)
  have hset : (wcell (ix, z64)).toArray.toList = (Value.int .i64 0 :: List.replicate 64 (Value.int .u8 0)).toArray.toList.set 0 (.int .i64 (ix : Int)) := by rw [← wcell_zero]; rfl
  have hzs : (Value.int .i64 0 :: List.replicate 64 (Value.int .u8 0)).toArray.size = 65 := rfl
  rw [hset] at hst
  generalize (Value.int .i64 0 :: List.replicate 64 (Value.int .u8 0)).toArray = Z0 at *
  have hze : ¬ Z0 = #[] := fun e => by subst e; simp at hzs
  obtain ⟨V, hV⟩ : ∃ V : World, V = w.alloc (.cells (wcell (ix, z64)).toArray 107) := ⟨_, rfl⟩
  have hbV : Below w.heap.size w V := by rw [hV]; exact bda _ _
  rw [← hV] at hst
  have D1 := Lib.hid (h.below hbV)
  have RB := Lib.hid (show V.heap[w.heap.size]? = some (.cells (wcell (ix, z64)).toArray 107 (0, 0)) by rw [hV]; exact heap_alloc_new _ _)
  have BV := Lib.hid hbV
  have D0 := Lib.hid h
  have HB := Lib.hid h.hB
  have F3 := Lib.hid (And.intro (row_c (i := 0) h3 rfl) (heap_lt h3))
  have R3 := Lib.hid h3
  have F5 := Lib.hid (And.intro h5 (World.block_lt_of_cell? w _ h5))
  have HI := Lib.hid hi
  have HS := Lib.hid h64
  have HC := Lib.hid hC
  have esz : s.size = 64 := by rw [← h64]; simp
  have ES := Lib.hid esz
  clear hset hsz h hi h64 hC hbV hV esz h3 h5
  go_enter Try.func67, Try.ntmps67
  go_upto_region 1 with (fail)
  clear hst hz hzs hze h4
  refine wp_operands (W := V) rfl 3 [6, 7, 8] (fun i u x => match i with | 0 => u = .pointer (some ⟨w.heap.size, 1, none⟩) | 1 => u = .slice (some ⟨w.heap.size, 1, none⟩) 64 64 | 2 => u = .string s | _ => True) (fun _ => false)
    (by decide) rfl (by kernel_rfl) (by kernel_rfl) (by decide) (by kernel_rfl) ?_ (fun _ _ _ h => by cases h) ?_ ?_
  · intro i u x x' hi hR hb'
    have hi' : i = 0 ∨ i = 1 ∨ i = 2 := by omega
    rcases hi' with rfl | rfl | rfl
    · exact hR
    · exact hR
    · exact hR
  · intro i av x K hi hF hb' hw hK
    have hi' : i = 0 ∨ i = 1 ∨ i = 2 := by omega
    rcases hi' with rfl | rfl | rfl
    · simp only [wpOp, List.getElem?_toArray, List.getElem?_cons_zero, Region.wanted, if_true]
      refine Or.inl ?_
      have e0 : av.tmps.getD 3 undef = .pointer (some ⟨w.heap.size, 0, none⟩) := hF.2.2 3 (by decide)
      have e0e : av.eval (.tmp 3) = .pointer (some ⟨w.heap.size, 0, none⟩) := e0
      have e0g : av.tmps[3]?.getD undef = .pointer (some ⟨w.heap.size, 0, none⟩) := by have := e0; simp only [Array.getD_eq_getD_getElem?] at this; exact this
      clear hw hF
      simp only [Oper.wp, execOp]
      try simp only [e0e]
      go_simp
      exact hK _ x (by first | rfl | (simp only [Nat.add_zero]; done) | (congr 1; omega)) (Below.refl _ _) (fun h => by cases h)
    · simp only [wpOp, List.getElem?_toArray, List.getElem?_cons_succ, List.getElem?_cons_zero, Region.wanted, if_true]
      refine Or.inl ?_
      have e0 : av.tmps.getD 6 undef = .pointer (some ⟨w.heap.size, 1, none⟩) := (hw 0 (by kernel_rfl))
      have e0e : av.eval (.tmp 6) = .pointer (some ⟨w.heap.size, 1, none⟩) := e0
      have e0g : av.tmps[6]?.getD undef = .pointer (some ⟨w.heap.size, 1, none⟩) := by have := e0; simp only [Array.getD_eq_getD_getElem?] at this; exact this
      clear hw hF
      simp only [Oper.wp, execOp]
      try simp only [e0e]
      go_simp
      exact hK _ x (by first | rfl | (simp only [Nat.add_zero]; done) | (congr 1; omega)) (Below.refl _ _) (fun h => by cases h)
    · simp only [wpOp, List.getElem?_toArray, List.getElem?_cons_succ, List.getElem?_cons_zero, Region.wanted, if_true]
      refine Or.inl ?_
      have e0 : av.tmps.getD 1 undef = .pointer (some ⟨b5, 0, none⟩) := hF.2.2 1 (by decide)
      have e0e : av.eval (.tmp 1) = .pointer (some ⟨b5, 0, none⟩) := e0
      have e0g : av.tmps[1]?.getD undef = .pointer (some ⟨b5, 0, none⟩) := by have := e0; simp only [Array.getD_eq_getD_getElem?] at this; exact this
      have fq := ((BV.out.trans (hb'.mono BV.out.size)).cell (p := ⟨b5, 0, none⟩) F5.out.2).trans F5.out.1
      clear hw hF
      simp only [Oper.wp, execOp]
      try simp only [e0e]
      go_simp
      exact hK _ x (by first | rfl | (simp only [Nat.add_zero]; done) | (congr 1; omega)) (Below.refl _ _) (fun h => by cases h)
  · intro av x hF hb' hR _
    have e0 : av.tmps.getD 6 undef = .pointer (some ⟨w.heap.size, 1, none⟩) := hR 0 (by decide)
    have e1 : av.tmps.getD 7 undef = .slice (some ⟨w.heap.size, 1, none⟩) 64 64 := hR 1 (by decide)
    have e2 : av.tmps.getD 8 undef = .string s := hR 2 (by decide)
    rw [hF.fold (by kernel_rfl)]
    simp only [List.foldl_cons, List.foldl_nil, e0, e1, e2]
    simp only [Act.put, List.setIfInBounds_toArray, List.set_cons_zero, List.set_cons_succ]
    change wpOps _ _ _ [3] _ _
    simp only [wpOps_cons]
    clear e0 e1 e2 hR hF
    have hcp := Lib.run_copy_row_string (P := Try.prog) x 68 9 3 5 w.heap.size 1 64 64 s (wcell (ix, z64)).toArray 107 Try.underlying68 (by kernel_rfl) (row_on RB.out hb') (by rw [ES.out]; omega) (by rw [ES.out, wcell_size _ _ z64_len]; omega)
    have hrow : ((wcell (ix, z64)).toArray.toList.take 1 ++ Lib.byteCells s.data.toList ++ (wcell (ix, z64)).toArray.toList.drop (1 + s.size)).toArray = (wcell (ix, s.data.toList)).toArray := by
      rw [ES.out, List.drop_of_length_le (by have := wcell_size ix z64 z64_len; simpa using Nat.le_of_eq this), List.append_nil]; rfl
    rw [hrow] at hcp
    clear hrow
    simp only [wpOp, List.getElem?_toArray, List.getElem?_cons_succ, List.getElem?_cons_zero, Region.wanted, if_true]
    refine Or.inl ?_
    simp only [Oper.wp, execOp]
    go_simp
    try simp only [wpOps]
    obtain ⟨Y, hY⟩ : ∃ Y : World, Y = x.setRow w.heap.size (wcell (ix, s.data.toList)).toArray := ⟨_, rfl⟩
    rw [← hY]
    have hbY : Below w.heap.size w Y := by
      rw [hY]; exact ⟨hb'.os.trans BV.out.os, hb'.tape.trans BV.out.tape, hb'.output.trans BV.out.output, by have := hb'.size; have := BV.out.size; simp [World.setRow]; omega, fun k hk => (heap_setRow _ _ _ _ (by omega)).trans ((BV.out.trans (hb'.mono BV.out.size)).block k hk)⟩
    have RY := Lib.hid (show Y.heap[w.heap.size]? = some (.cells (wcell (ix, s.data.toList)).toArray 107 (0, 0)) by rw [hY]; exact setRow_heap x _ _ _ _ _ (row_on RB.out hb'))
    have hbx := BV.out.trans (hb'.mono BV.out.size)
    clear hY hcp hb'
    have D2 := Lib.hid (D0.out.below hbY)
    have FG := Lib.hid (fun x (K : Below Y.heap.size Y x) => row_c (i := 1) (row_on D2.out.hg K) rfl)
    have BY := Lib.hid hbY
    clear hbY hbx
    obtain ⟨cz, hcz⟩ : ∃ cz, (wcell (ix, s.data.toList)).toArray = cz := ⟨_, rfl⟩
    rw [hcz] at RY
    have HCZ := Lib.hid hcz
    have SZ := Lib.hid (show cz.size = 65 by rw [← hcz]; exact wcell_size _ _ HS.out)
    clear hcz
    obtain ⟨i0, hi0, hz0, hz1, hz2⟩ := info_parts info_w
    have I0 := Lib.hid (And.intro hi0 (And.intro hz0 (And.intro hz1 hz2)))
    clear hi0 hz0 hz1 hz2
    go_upto_region 2 with (fail)
    refine wp_operands_x (W := Y) rfl 0 7 5 4 [1, 2, 3, 4, 5, 6] [10, 11, 12, 13, 14, 15, 16] (fun i u x => match i with | 0 => u = .pointer (some ⟨g, 0, none⟩) | 1 => u = .pointer (some ⟨g, 0, none⟩) | 2 => u = .pointer (some ⟨g, 0, none⟩) | 3 => u = .pointer (some ⟨g, 1, none⟩) | 4 => u = v | 5 => u = .agg cz | 6 => ∃ gb, u = .slice (some ⟨gb, 0, none⟩) 1 1 ∧ x.heap[gb]? = some (.cells cz 107 (0, 0)) | _ => True)
      (by kernel_rfl) (by decide) (by decide) (by decide) (by kernel_rfl) (by kernel_rfl) (by kernel_rfl) (by decide) (by kernel_rfl) (by kernel_rfl) (by kernel_rfl) ?_ ?_ ?_
    · intro i u x x' hi hR hb'
      have hi' : i = 0 ∨ i = 1 ∨ i = 2 ∨ i = 3 ∨ i = 4 ∨ i = 5 ∨ i = 6 := by simpa using hi
      rcases hi' with rfl | rfl | rfl | rfl | rfl | rfl | rfl
      · exact hR
      · exact hR
      · exact hR
      · exact hR
      · exact hR
      · exact hR
      · obtain ⟨gb, e, hg⟩ := hR; exact ⟨gb, e, (hb'.block gb (heap_lt hg)).trans hg⟩
    · intro i av x K hi hF hb' hw hK
      have hi' : i = 0 ∨ i = 1 ∨ i = 2 ∨ i = 3 ∨ i = 4 ∨ i = 5 ∨ i = 6 := by simpa using hi
      rcases hi' with rfl | rfl | rfl | rfl | rfl | rfl | rfl
      · simp only [wpOp, List.getElem?_toArray, List.getElem?_cons_zero, Region.wanted, if_true]
        refine Or.inl ?_
        have e0 : av.tmps.getD 2 undef = .pointer (some ⟨b3, 0, none⟩) := hF.2.2 2 (by decide)
        have e0e : av.eval (.tmp 2) = .pointer (some ⟨b3, 0, none⟩) := e0
        have e0g : av.tmps[2]?.getD undef = .pointer (some ⟨b3, 0, none⟩) := by have := e0; simp only [Array.getD_eq_getD_getElem?] at this; exact this
        have fq := ((BY.out.trans (hb'.mono BY.out.size)).cell (p := ⟨b3, 0, none⟩) F3.out.2).trans F3.out.1
        clear hw hF
        simp only [Oper.wp, execOp]
        try simp only [e0e]
        go_simp
        exact hK _ x (by first | rfl | (simp only [Nat.add_zero]; done) | (congr 1; omega)) (Below.refl _ _)
      · simp only [wpOp, List.getElem?_toArray, List.getElem?_cons_succ, List.getElem?_cons_zero, Region.wanted, if_true]
        refine Or.inl ?_
        have e0 : av.tmps.getD 2 undef = .pointer (some ⟨b3, 0, none⟩) := hF.2.2 2 (by decide)
        have e0e : av.eval (.tmp 2) = .pointer (some ⟨b3, 0, none⟩) := e0
        have e0g : av.tmps[2]?.getD undef = .pointer (some ⟨b3, 0, none⟩) := by have := e0; simp only [Array.getD_eq_getD_getElem?] at this; exact this
        have fq := ((BY.out.trans (hb'.mono BY.out.size)).cell (p := ⟨b3, 0, none⟩) F3.out.2).trans F3.out.1
        clear hw hF
        simp only [Oper.wp, execOp]
        try simp only [e0e]
        go_simp
        exact hK _ x (by first | rfl | (simp only [Nat.add_zero]; done) | (congr 1; omega)) (Below.refl _ _)
      · simp only [wpOp, List.getElem?_toArray, List.getElem?_cons_succ, List.getElem?_cons_zero, Region.wanted, if_true]
        refine Or.inl ?_
        have e0 : av.tmps.getD 11 undef = .pointer (some ⟨g, 0, none⟩) := hw 1 (by kernel_rfl)
        have e0e : av.eval (.tmp 11) = .pointer (some ⟨g, 0, none⟩) := e0
        have e0g : av.tmps[11]?.getD undef = .pointer (some ⟨g, 0, none⟩) := by have := e0; simp only [Array.getD_eq_getD_getElem?] at this; exact this
        clear hw hF
        simp only [Oper.wp, execOp]
        try simp only [e0e]
        go_simp
        exact hK _ x (by first | rfl | (simp only [Nat.add_zero]; done) | (congr 1; omega)) (Below.refl _ _)
      · simp only [wpOp, List.getElem?_toArray, List.getElem?_cons_succ, List.getElem?_cons_zero, Region.wanted, if_true]
        refine Or.inl ?_
        have e0 : av.tmps.getD 12 undef = .pointer (some ⟨g, 0, none⟩) := hw 2 (by kernel_rfl)
        have e0e : av.eval (.tmp 12) = .pointer (some ⟨g, 0, none⟩) := e0
        have e0g : av.tmps[12]?.getD undef = .pointer (some ⟨g, 0, none⟩) := by have := e0; simp only [Array.getD_eq_getD_getElem?] at this; exact this
        clear hw hF
        simp only [Oper.wp, execOp]
        try simp only [e0e]
        go_simp
        exact hK _ x (by first | rfl | (simp only [Nat.add_zero]; done) | (congr 1; omega)) (Below.refl _ _)
      · simp only [wpOp, List.getElem?_toArray, List.getElem?_cons_succ, List.getElem?_cons_zero, Region.wanted, if_true]
        refine Or.inl ?_
        have e0 : av.tmps.getD 13 undef = .pointer (some ⟨g, 1, none⟩) := hw 3 (by kernel_rfl)
        have e0e : av.eval (.tmp 13) = .pointer (some ⟨g, 1, none⟩) := e0
        have e0g : av.tmps[13]?.getD undef = .pointer (some ⟨g, 1, none⟩) := by have := e0; simp only [Array.getD_eq_getD_getElem?] at this; exact this
        have fq := FG.out x hb'
        clear hw hF
        simp only [Oper.wp, execOp]
        try simp only [e0e]
        go_simp
        exact hK _ x (by first | rfl | (simp only [Nat.add_zero]; done) | (congr 1; omega)) (Below.refl _ _)
      · simp only [wpOp, List.getElem?_toArray, List.getElem?_cons_succ, List.getElem?_cons_zero, Region.wanted, if_true]
        refine Or.inl ?_
        have e0 : av.tmps.getD 3 undef = .pointer (some ⟨w.heap.size, 0, none⟩) := hF.2.2 3 (by decide)
        have e0e : av.eval (.tmp 3) = .pointer (some ⟨w.heap.size, 0, none⟩) := e0
        have e0g : av.tmps[3]?.getD undef = .pointer (some ⟨w.heap.size, 0, none⟩) := by have := e0; simp only [Array.getD_eq_getD_getElem?] at this; exact this
        clear hw hF
        exact wp_load_row 107 (.tmp 3) rfl _ e0e 107 cz (0, 0) _ (row_on RY.out hb') Try.underlying107 rfl (by rw [size_w, SZ.out]) (hK _ x rfl (Below.refl _ _))
      · simp only [wpOp, List.getElem?_toArray, List.getElem?_cons_succ, List.getElem?_cons_zero, Region.wanted, if_true]
        refine Or.inl ?_
        have e0 : av.tmps.getD 15 undef = .agg cz := hw 5 (by kernel_rfl)
        have e0e : av.eval (.tmp 15) = .agg cz := e0
        have e0g : av.tmps[15]?.getD undef = .agg cz := by have := e0; simp only [Array.getD_eq_getD_getElem?] at this; exact this
        clear hw hF
        exact wp_buildSlice 56 107 1 _ rfl cz i0 _ Try.underlying56 I0.out.1 I0.out.2.1 (by rw [I0.out.2.2.1]; decide) (by rw [I0.out.2.2.1]; decide) (fill_one e0e SZ.out I0.out.2.2.1) (hK _ _ ⟨_, rfl, heap_alloc_new _ _⟩ ((Below.refl _ _).alloc (Nat.le_refl _) _))
    · intro av x hF0 hb' hR
      have hF : Fr6 [10, 11, 12, 13, 14, 15, 16] _ av := hF0
      have e1 : av.tmps.getD 11 undef = .pointer (some ⟨g, 0, none⟩) := hR 1 (by decide)
      have e2 : av.tmps.getD 12 undef = .pointer (some ⟨g, 0, none⟩) := hR 2 (by decide)
      have e3 : av.tmps.getD 13 undef = .pointer (some ⟨g, 1, none⟩) := hR 3 (by decide)
      have e4 : av.tmps.getD 14 undef = v := hR 4 (by decide)
      have e5 : av.tmps.getD 15 undef = .agg cz := hR 5 (by decide)
      obtain ⟨gb6, e6, hgb6⟩ := hR 6 (by decide)
      replace e6 : av.tmps.getD 16 undef = .slice (some ⟨gb6, 0, none⟩) 1 1 := e6
      refine ⟨fun f => ?_, fun hx f => ?_⟩
      · rw [hF.fold (by kernel_rfl)]
        simp only [List.foldl_cons, List.foldl_nil, e1, e2, e3, e4, e5, e6]
        generalize av.tmps.getD 10 undef = vx at *
        simp only [Act.put, List.setIfInBounds_toArray, List.set_cons_zero, List.set_cons_succ]
        clear e1 e2 e3 e4 e5 e6 hR hF hF0
        change wpAny _ _ _ _ (f + 5) _ _ _
        have DX := Lib.hid (D2.out.below hb')
        have CX := Lib.hid (Ch.of_below (g := g) (gs := gs) (BY.out.trans (hb'.mono BY.out.size)) HB.out)
        have RX3 := Lib.hid (row_on (row_on R3.out BY.out) hb')
        have fq := row_c (i := 0) RX3.out rfl
        have HGB := Lib.hid hgb6
        clear hb' hgb6
        refine wpAny_go2 (fuel := f + 4) (i := 0) (j := 7) (by kernel_rfl) ?_ ?_
        · simp only [wpOp, List.getElem?_toArray, List.getElem?_cons_succ, List.getElem?_cons_zero, Region.wanted, if_true]
          refine Or.inl ?_
          simp only [Oper.wp, execOp]
          go_simp
          refine wpAny_go1 (fuel := f + 3) (i := 7) (by kernel_rfl) ?_
          simp only [wpOp, List.getElem?_toArray, List.getElem?_cons_succ, List.getElem?_cons_zero, Region.wanted, if_true]
          refine Or.inl ?_
          refine wp_append_lies _ (.tmp 14) (.tmp 16) 56 rfl B 107 i0 _ 65 72 Try.underlying56 I0.out.1 I0.out.2.1 I0.out.2.2.1 I0.out.2.2.2 rfl (by omega) v C.length (wcells C) rfl DX.out.ho ⟨gb6, 0, none⟩ 1 1 cz.toList rfl (by rw [Array.length_toList, SZ.out]) (fun j u hj => by rw [addr_off, Nat.zero_add]; exact row_c HGB.out (by simpa using hj)) (fun u hu => by rw [← HCZ.out] at hu; exact wcell_one _ u (by simpa using hu)) (by omega) (by have := HC.out; unfold maxLen; omega) (by have := HC.out; omega) DX.out.hB _ rfl ?_
          intro g2 cap w2 hown hgrow _ _
          have DM := Lib.hid (DX.out.more (c := (ix, s.data.toList)) hgrow (by rw [← HCZ.out] at hown; exact hown) HS.out HI.out)
          have fq2 := row_c (i := 0) (grown_other DX.out hgrow RX3.out (by decide)) rfl
          have fg := row_c (i := 1) (grown_g DX.out hgrow) rfl
          have fz := frozen_of_row _ _ 1 _ _ (grown_g DX.out hgrow)
          clear hown hgrow
          refine wpAny_go1 (fuel := f + 2) (i := 8) (by kernel_rfl) ?_
          simp only [wpOp, List.getElem?_toArray, List.getElem?_cons_succ, List.getElem?_cons_zero, Region.wanted, if_true]
          refine Or.inl ?_
          simp only [Oper.wp, execOp]
          go_simp
          refine wpAny_go1 (fuel := f + 1) (i := 9) (by kernel_rfl) ?_
          simp only [wpOp, List.getElem?_toArray, List.getElem?_cons_succ, List.getElem?_cons_zero, Region.wanted, if_true]
          refine Or.inl ?_
          simp only [Oper.wp, execOp]
          go_simp
          refine wpAny_go1 (fuel := f + 0) (i := 10) (by kernel_rfl) ?_
          simp only [wpOp, List.getElem?_toArray, List.getElem?_cons_succ, List.getElem?_cons_zero, Region.wanted, if_true]
          refine Or.inl ?_
          simp only [Oper.wp, execOp]
          go_simp
          refine wpAny_end (by kernel_rfl) ?_
          go_wp2
          go_end0
          first | exact ⟨rfl, ⟨_, DM.out.1⟩, CX.out.trans DM.out.2⟩ | exact ⟨⟨_, DM.out.1⟩, CX.out.trans DM.out.2⟩
        · simp only [wpOp, List.getElem?_toArray, List.getElem?_cons_succ, List.getElem?_cons_zero, Region.wanted, if_true]
          refine Or.inl ?_
          refine wp_append_lies _ (.tmp 14) (.tmp 16) 56 rfl B 107 i0 _ 65 72 Try.underlying56 I0.out.1 I0.out.2.1 I0.out.2.2.1 I0.out.2.2.2 rfl (by omega) v C.length (wcells C) rfl DX.out.ho ⟨gb6, 0, none⟩ 1 1 cz.toList rfl (by rw [Array.length_toList, SZ.out]) (fun j u hj => by rw [addr_off, Nat.zero_add]; exact row_c HGB.out (by simpa using hj)) (fun u hu => by rw [← HCZ.out] at hu; exact wcell_one _ u (by simpa using hu)) (by omega) (by have := HC.out; unfold maxLen; omega) (by have := HC.out; omega) DX.out.hB _ rfl ?_
          intro g2 cap w2 hown hgrow _ _
          have DM := Lib.hid (DX.out.more (c := (ix, s.data.toList)) hgrow (by rw [← HCZ.out] at hown; exact hown) HS.out HI.out)
          have fq2 := row_c (i := 0) (grown_other DX.out hgrow RX3.out (by decide)) rfl
          have fg := row_c (i := 1) (grown_g DX.out hgrow) rfl
          have fz := frozen_of_row _ _ 1 _ _ (grown_g DX.out hgrow)
          clear hown hgrow
          refine wpAny_go1 (fuel := f + 3) (i := 0) (by kernel_rfl) ?_
          simp only [wpOp, List.getElem?_toArray, List.getElem?_cons_succ, List.getElem?_cons_zero, Region.wanted, if_true]
          refine Or.inl ?_
          simp only [Oper.wp, execOp]
          go_simp
          refine wpAny_go1 (fuel := f + 2) (i := 8) (by kernel_rfl) ?_
          simp only [wpOp, List.getElem?_toArray, List.getElem?_cons_succ, List.getElem?_cons_zero, Region.wanted, if_true]
          refine Or.inl ?_
          simp only [Oper.wp, execOp]
          go_simp
          refine wpAny_go1 (fuel := f + 1) (i := 9) (by kernel_rfl) ?_
          simp only [wpOp, List.getElem?_toArray, List.getElem?_cons_succ, List.getElem?_cons_zero, Region.wanted, if_true]
          refine Or.inl ?_
          simp only [Oper.wp, execOp]
          go_simp
          refine wpAny_go1 (fuel := f + 0) (i := 10) (by kernel_rfl) ?_
          simp only [wpOp, List.getElem?_toArray, List.getElem?_cons_succ, List.getElem?_cons_zero, Region.wanted, if_true]
          refine Or.inl ?_
          simp only [Oper.wp, execOp]
          go_simp
          refine wpAny_end (by kernel_rfl) ?_
          go_wp2
          go_end0
          first | exact ⟨rfl, ⟨_, DM.out.1⟩, CX.out.trans DM.out.2⟩ | exact ⟨⟨_, DM.out.1⟩, CX.out.trans DM.out.2⟩
      · have e0 : av.tmps.getD 10 undef = .pointer (some ⟨g, 0, none⟩) := hx
        rw [hF.fold (by kernel_rfl)]
        simp only [List.foldl_cons, List.foldl_nil, e1, e2, e3, e4, e5, e6, e0]
        simp only [Act.put, List.setIfInBounds_toArray, List.set_cons_zero, List.set_cons_succ]
        clear e1 e2 e3 e4 e5 e6 e0 hR hF hF0 hx
        change wpAny _ _ _ _ (f + 4) _ _ _
        have DX := Lib.hid (D2.out.below hb')
        have CX := Lib.hid (Ch.of_below (g := g) (gs := gs) (BY.out.trans (hb'.mono BY.out.size)) HB.out)
        have RX3 := Lib.hid (row_on (row_on R3.out BY.out) hb')
        have fq := row_c (i := 0) RX3.out rfl
        have HGB := Lib.hid hgb6
        clear hb' hgb6
        refine wpAny_go1 (fuel := f + 3) (i := 7) (by kernel_rfl) ?_
        simp only [wpOp, List.getElem?_toArray, List.getElem?_cons_succ, List.getElem?_cons_zero, Region.wanted, if_true]
        refine Or.inl ?_
        refine wp_append_lies _ (.tmp 14) (.tmp 16) 56 rfl B 107 i0 _ 65 72 Try.underlying56 I0.out.1 I0.out.2.1 I0.out.2.2.1 I0.out.2.2.2 rfl (by omega) v C.length (wcells C) rfl DX.out.ho ⟨gb6, 0, none⟩ 1 1 cz.toList rfl (by rw [Array.length_toList, SZ.out]) (fun j u hj => by rw [addr_off, Nat.zero_add]; exact row_c HGB.out (by simpa using hj)) (fun u hu => by rw [← HCZ.out] at hu; exact wcell_one _ u (by simpa using hu)) (by omega) (by have := HC.out; unfold maxLen; omega) (by have := HC.out; omega) DX.out.hB _ rfl ?_
        intro g2 cap w2 hown hgrow _ _
        have DM := Lib.hid (DX.out.more (c := (ix, s.data.toList)) hgrow (by rw [← HCZ.out] at hown; exact hown) HS.out HI.out)
        have fq2 := row_c (i := 0) (grown_other DX.out hgrow RX3.out (by decide)) rfl
        have fg := row_c (i := 1) (grown_g DX.out hgrow) rfl
        have fz := frozen_of_row _ _ 1 _ _ (grown_g DX.out hgrow)
        clear hown hgrow
        refine wpAny_go1 (fuel := f + 2) (i := 8) (by kernel_rfl) ?_
        simp only [wpOp, List.getElem?_toArray, List.getElem?_cons_succ, List.getElem?_cons_zero, Region.wanted, if_true]
        refine Or.inl ?_
        simp only [Oper.wp, execOp]
        go_simp
        refine wpAny_go1 (fuel := f + 1) (i := 9) (by kernel_rfl) ?_
        simp only [wpOp, List.getElem?_toArray, List.getElem?_cons_succ, List.getElem?_cons_zero, Region.wanted, if_true]
        refine Or.inl ?_
        simp only [Oper.wp, execOp]
        go_simp
        refine wpAny_go1 (fuel := f + 0) (i := 10) (by kernel_rfl) ?_
        simp only [wpOp, List.getElem?_toArray, List.getElem?_cons_succ, List.getElem?_cons_zero, Region.wanted, if_true]
        refine Or.inl ?_
        simp only [Oper.wp, execOp]
        go_simp
        refine wpAny_end (by kernel_rfl) ?_
        go_wp2
        go_end0
        first | exact ⟨rfl, ⟨_, DM.out.1⟩, CX.out.trans DM.out.2⟩ | exact ⟨⟨_, DM.out.1⟩, CX.out.trans DM.out.2⟩
end Go.Proofs.Ytmgdpchjimlmeaa
