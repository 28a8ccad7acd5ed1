import Derived.Test.YtdmfapgclppmhaaGreatDoorMB6
import Derived.Test.YtdmfapgclppmhaaGreatDoorMB1
import Derived.Test.YtdmfapgclppmhaaGreatDoorMB3
import Derived.Test.YtdmfapgclppmhaaGreatDoorMB4
import Derived.Test.YtdmfapgclppmhaaGreatDoorMB0
import Derived.Test.YtdmfapgclppmhaaGreatDoorMB2
section
namespace Go.Proofs.YtdmfapgclppmhaaGreatDoor
open Go.RowKit
set_option linter.unusedSimpArgs false
set_option linter.unusedVariables false
/-- The least table. -/
def lz : List PdZ := [⟨(1, 0), 0, [(1, 0), (0, 0)], (0, 0)⟩]
theorem lzp : lz.map PdZ.to = [⟨(false, [1], 0), 0, [(false, [1], 0), (false, [], 0)], (false, [], 0)⟩] := by
  have e1 : digs (1 : Int).natAbs = [1] := digs_one (by decide) (by decide)
  have e0 : digs (0 : Int).natAbs = [] := digs_zero
  unfold lz PdZ.to nmOf
  simp only [List.map_cons, List.map_nil, e1, e0]
  rfl
theorem line_dg {w : World} {b : Nat} {T : TypeId} {fr : Nat × Nat} (h : w.heap[b]? = some (.cells #[.int .u32 1] T fr)) : Dg w (some ⟨b, 0, none⟩) 1 [1] := by
  refine ⟨Nat.le_refl _, fun x hx => by simp at hx; omega, fun _ => ⟨b, 0, rfl, heap_lt h, fun j hj => ?_⟩⟩
  obtain rfl : j = 0 := by simp at hj; omega
  exact row_c (i := 0) h rfl
theorem line_ps {w : World} {b1 b2 b3 : Nat} {fr fr2 : Nat × Nat} {T T2 : TypeId} (h3 : w.heap[b2]? = some (.cells #[.bool false, .slice (some ⟨b1, 0, none⟩) 1 1, .int .i64 0, .bool false, .slice none 0 0, .int .i64 0] T fr)) (h4 : w.heap[b3]? = some (.cells #[.bool false, .slice (some ⟨b1, 0, none⟩) 1 1, .int .i64 0, .int .i64 0, .slice (some ⟨b2, 0, none⟩) 2 2, .bool false, .slice none 0 0, .int .i64 0] T2 fr2)) (hd : Dg w (some ⟨b1, 0, none⟩) 1 [1]) : PsL w (some ⟨b3, 0, none⟩) (lz.map PdZ.to) := by
  rw [lzp]
  refine fun _ => ⟨b3, 0, rfl, heap_lt h4, fun i p hp => ?_⟩
  rcases i with _ | i
  · obtain rfl := Option.some.inj hp
    refine ⟨some ⟨b1, 0, none⟩, 1, none, 0, some ⟨b2, 0, none⟩, 2, row_c (i := 0) h4 rfl, row_c (i := 1) h4 rfl, row_c (i := 2) h4 rfl, row_c (i := 3) h4 rfl, row_c (i := 4) h4 rfl, row_c (i := 5) h4 rfl, row_c (i := 6) h4 rfl, row_c (i := 7) h4 rfl, hd, Dg.nil_ _ _, ?_⟩
    refine ⟨fun i => if i = 0 then some ⟨b1, 0, none⟩ else none, fun i => if i = 0 then 1 else 0, by decide, fun _ => ⟨b2, 0, rfl, heap_lt h3, fun i hi => ?_⟩⟩
    rcases i with _ | _ | i
    · exact ⟨row_c (i := 0) h3 rfl, row_c (i := 1) h3 rfl, row_c (i := 2) h3 rfl, hd⟩
    · exact ⟨row_c (i := 3) h3 rfl, row_c (i := 4) h3 rfl, row_c (i := 5) h3 rfl, Dg.nil_ _ _⟩
    · simp at hi; omega
  · simp at hp
theorem line_right : rightT 3 0 (nmOf (1, 0)) 0 4 1 (lz.map PdZ.to) = true := by
  rw [lzp, show nmOf (1, 0) = (false, [1], 0) by unfold nmOf; rw [show digs ((1, 0) : Int × Int).1.natAbs = [1] from digs_one (by decide) (by decide)]; rfl]
  decide +kernel
theorem line_enc : (encS 3 0 (nmOf (1, 0)) 0 4 1 (lz.map PdZ.to)).2 = 0 ∧ (encS 3 0 (nmOf (1, 0)) 0 4 1 (lz.map PdZ.to)).1.length = 32 := by
  rw [lzp, show nmOf (1, 0) = (false, [1], 0) by unfold nmOf; rw [show digs ((1, 0) : Int × Int).1.natAbs = [1] from digs_one (by decide) (by decide)]; rfl]
  decide +kernel
theorem dec_nil : decT [] = none := by
  cases h : decT [] with
  | none => rfl
  | some T =>
    exfalso
    obtain ⟨h1, h2⟩ := dec_back h
    unfold TbZ.enc at h1 h2
    obtain ⟨_, he, ee⟩ := enc_parts h1
    rw [ee] at h2
    unfold outB at h2
    rw [if_pos he] at h2
    have := encS_pos T.F T.O (nmOf T.a) T.W T.Q T.D (T.ps.map PdZ.to)
    rw [h2] at this
    simp at this
set_option maxHeartbeats 4000000 in
set_option maxRecDepth 100000 in
theorem line_any (w : World) :
    Calls Tryz.prog 13 #[] w fun e w' => ∃ A P, e = .returned (.agg #[.int .i64 3, .int .i64 0, .bool false, .slice A 1 1, .int .i64 0, .int .i64 0, .int .i64 4, .int .i64 1, .slice P 1 1]) ∧ Dg w' A 1 [1] ∧ PsL w' P (lz.map PdZ.to) ∧ Below w.heap.size w w' := by
  go_enter Tryz.func13, Tryz.ntmps13
  go_wp2
  obtain ⟨wz, hW⟩ : ∃ V : World, (((((w.alloc (.cells #[.int .i64 3, .int .i64 0, .bool false, .slice (some ⟨w.heap.size + 1, 0, none⟩) 1 1, .int .i64 0, .int .i64 0, .int .i64 4, .int .i64 1, .slice (some ⟨w.heap.size + 1 + 1 + 1 + 1, 0, none⟩) 1 1] 29)).alloc (.cells #[.int .u32 1] 67)).alloc (.cells #[.bool false, .slice (some ⟨w.heap.size + 1, 0, none⟩) 1 1, .int .i64 0] 26)).alloc (.cells #[.bool false, .slice (some ⟨w.heap.size + 1, 0, none⟩) 1 1, .int .i64 0, .bool false, .slice none 0 0, .int .i64 0] 26)).alloc (.cells #[.bool false, .slice (some ⟨w.heap.size + 1, 0, none⟩) 1 1, .int .i64 0, .int .i64 0, .slice (some ⟨w.heap.size + 1 + 1 + 1, 0, none⟩) 2 2, .bool false, .slice none 0 0, .int .i64 0] 49)) = V := ⟨_, rfl⟩
  rw [hW]
  have R0 := Lib.hid (show wz.heap[w.heap.size]? = some (.cells #[.int .i64 3, .int .i64 0, .bool false, .slice (some ⟨w.heap.size + 1, 0, none⟩) 1 1, .int .i64 0, .int .i64 0, .int .i64 4, .int .i64 1, .slice (some ⟨w.heap.size + 1 + 1 + 1 + 1, 0, none⟩) 1 1] 29 (0, 0)) by rw [← hW]; have := heap_alloc_new w (.cells #[.int .i64 3, .int .i64 0, .bool false, .slice (some ⟨w.heap.size + 1, 0, none⟩) 1 1, .int .i64 0, .int .i64 0, .int .i64 4, .int .i64 1, .slice (some ⟨w.heap.size + 1 + 1 + 1 + 1, 0, none⟩) 1 1] 29); rw [heap_alloc_old _ _ (by simp <;> omega)]; rw [heap_alloc_old _ _ (by simp <;> omega)]; rw [heap_alloc_old _ _ (by simp <;> omega)]; rw [heap_alloc_old _ _ (by simp <;> omega)]; simpa using this)
  have R1 := Lib.hid (show wz.heap[w.heap.size + 1]? = some (.cells #[.int .u32 1] 67 (0, 0)) by rw [← hW]; have := heap_alloc_new (w.alloc (.cells #[.int .i64 3, .int .i64 0, .bool false, .slice (some ⟨w.heap.size + 1, 0, none⟩) 1 1, .int .i64 0, .int .i64 0, .int .i64 4, .int .i64 1, .slice (some ⟨w.heap.size + 1 + 1 + 1 + 1, 0, none⟩) 1 1] 29)) (.cells #[.int .u32 1] 67); rw [heap_alloc_old _ _ (by simp <;> omega)]; rw [heap_alloc_old _ _ (by simp <;> omega)]; rw [heap_alloc_old _ _ (by simp <;> omega)]; simpa using this)
  have R2 := Lib.hid (show wz.heap[w.heap.size + 1 + 1]? = some (.cells #[.bool false, .slice (some ⟨w.heap.size + 1, 0, none⟩) 1 1, .int .i64 0] 26 (0, 0)) by rw [← hW]; have := heap_alloc_new ((w.alloc (.cells #[.int .i64 3, .int .i64 0, .bool false, .slice (some ⟨w.heap.size + 1, 0, none⟩) 1 1, .int .i64 0, .int .i64 0, .int .i64 4, .int .i64 1, .slice (some ⟨w.heap.size + 1 + 1 + 1 + 1, 0, none⟩) 1 1] 29)).alloc (.cells #[.int .u32 1] 67)) (.cells #[.bool false, .slice (some ⟨w.heap.size + 1, 0, none⟩) 1 1, .int .i64 0] 26); rw [heap_alloc_old _ _ (by simp <;> omega)]; rw [heap_alloc_old _ _ (by simp <;> omega)]; simpa using this)
  have R3 := Lib.hid (show wz.heap[w.heap.size + 1 + 1 + 1]? = some (.cells #[.bool false, .slice (some ⟨w.heap.size + 1, 0, none⟩) 1 1, .int .i64 0, .bool false, .slice none 0 0, .int .i64 0] 26 (0, 0)) by rw [← hW]; have := heap_alloc_new (((w.alloc (.cells #[.int .i64 3, .int .i64 0, .bool false, .slice (some ⟨w.heap.size + 1, 0, none⟩) 1 1, .int .i64 0, .int .i64 0, .int .i64 4, .int .i64 1, .slice (some ⟨w.heap.size + 1 + 1 + 1 + 1, 0, none⟩) 1 1] 29)).alloc (.cells #[.int .u32 1] 67)).alloc (.cells #[.bool false, .slice (some ⟨w.heap.size + 1, 0, none⟩) 1 1, .int .i64 0] 26)) (.cells #[.bool false, .slice (some ⟨w.heap.size + 1, 0, none⟩) 1 1, .int .i64 0, .bool false, .slice none 0 0, .int .i64 0] 26); rw [heap_alloc_old _ _ (by simp <;> omega)]; simpa using this)
  have R4 := Lib.hid (show wz.heap[w.heap.size + 1 + 1 + 1 + 1]? = some (.cells #[.bool false, .slice (some ⟨w.heap.size + 1, 0, none⟩) 1 1, .int .i64 0, .int .i64 0, .slice (some ⟨w.heap.size + 1 + 1 + 1, 0, none⟩) 2 2, .bool false, .slice none 0 0, .int .i64 0] 49 (0, 0)) by rw [← hW]; have := heap_alloc_new ((((w.alloc (.cells #[.int .i64 3, .int .i64 0, .bool false, .slice (some ⟨w.heap.size + 1, 0, none⟩) 1 1, .int .i64 0, .int .i64 0, .int .i64 4, .int .i64 1, .slice (some ⟨w.heap.size + 1 + 1 + 1 + 1, 0, none⟩) 1 1] 29)).alloc (.cells #[.int .u32 1] 67)).alloc (.cells #[.bool false, .slice (some ⟨w.heap.size + 1, 0, none⟩) 1 1, .int .i64 0] 26)).alloc (.cells #[.bool false, .slice (some ⟨w.heap.size + 1, 0, none⟩) 1 1, .int .i64 0, .bool false, .slice none 0 0, .int .i64 0] 26)) (.cells #[.bool false, .slice (some ⟨w.heap.size + 1, 0, none⟩) 1 1, .int .i64 0, .int .i64 0, .slice (some ⟨w.heap.size + 1 + 1 + 1, 0, none⟩) 2 2, .bool false, .slice none 0 0, .int .i64 0] 49); simpa using this)
  have BZ := Lib.hid (show Below w.heap.size w wz by rw [← hW]; exact ((((((Below.refl _ _).alloc (by simp <;> omega) _).alloc (by simp <;> omega) _).alloc (by simp <;> omega) _).alloc (by simp <;> omega) _).alloc (by simp <;> omega) _))
  clear hW
  have g0 := row_c (i := 0) R0.out rfl
  have g1 := row_c (i := 1) R0.out rfl
  have g2 := row_c (i := 2) R0.out rfl
  have g3 := row_c (i := 3) R0.out rfl
  have g4 := row_c (i := 4) R0.out rfl
  have g5 := row_c (i := 5) R0.out rfl
  have g6 := row_c (i := 6) R0.out rfl
  have g7 := row_c (i := 7) R0.out rfl
  have g8 := row_c (i := 8) R0.out rfl
  refine bodyPost_ret (v := .agg #[.int .i64 3, .int .i64 0, .bool false, .slice (some ⟨w.heap.size + 1, 0, none⟩) 1 1, .int .i64 0, .int .i64 0, .int .i64 4, .int .i64 1, .slice (some ⟨w.heap.size + 1 + 1 + 1 + 1, 0, none⟩) 1 1]) (by simp [results, Tryz.results13, go_sem, g0, g1, g2, g3, g4, g5, g6, g7, g8]) rfl ?_
  have HD := line_dg R1.out
  refine ⟨_, _, rfl, HD, line_ps R3.out R4.out HD, BZ.out⟩
/-- The least table's bytes. -/
def encL : List UInt8 := (encS 3 0 (nmOf (1, 0)) 0 4 1 (lz.map PdZ.to)).1
theorem encL_len : encL.length = 32 := line_enc.2
theorem nm1 : nmOf (1, 0) = (false, [1], 0) := by unfold nmOf; rw [show digs ((1, 0) : Int × Int).1.natAbs = [1] from digs_one (by decide) (by decide)]; rfl
theorem line_encO : encO 3 0 (false, [1], 0) 0 4 1 (lz.map PdZ.to) = (encL, 0) := by
  rw [← nm1]
  unfold encO
  rw [if_pos line_right]
  exact Prod.ext rfl line_enc.1
theorem line_sm : SmP (lz.map PdZ.to) := by
  rw [lzp]
  intro p hp
  rw [List.mem_singleton] at hp
  subst hp
  exact ⟨by decide, by decide, by decide⟩
theorem enc_line {A P : Option Addr} {w : World} (hd : Dg w A 1 [1]) (hp : PsL w P (lz.map PdZ.to)) (hT : T32 w) :
    Calls Tryz.prog 7 #[.agg #[.int .i64 3, .int .i64 0, .bool false, .slice A 1 1, .int .i64 0, .int .i64 0, .int .i64 4, .int .i64 1, .slice P 1 1]] w fun e w' => e = .returned (.tuple #[.string ⟨encL.toArray⟩, .int .i64 0]) ∧ Below w.heap.size w w' := by
  have h := encode_any (A := A) (P := P) (c := 1) (k := 1) (F := 3) (O := 0) (W := 0) (Q := 4) (D := 1) (a := (false, [1], 0)) (ps := lz.map PdZ.to) hd (by decide) hT hp line_sm
  rw [line_encO] at h
  refine Calls.mono h ?_
  rintro e w' ⟨⟨t, rfl, ht⟩, hb⟩
  have e1 : t = ⟨encL.toArray⟩ := by apply ByteArray.ext; apply Array.toList_inj.1; exact ht
  subst e1
  exact ⟨rfl, hb⟩
theorem size_line {A P : Option Addr} {w : World} (hd : Dg w A 1 [1]) (hp : PsL w P (lz.map PdZ.to)) (hT : T32 w) :
    Calls Tryz.prog 9 #[.agg #[.int .i64 3, .int .i64 0, .bool false, .slice A 1 1, .int .i64 0, .int .i64 0, .int .i64 4, .int .i64 1, .slice P 1 1]] w fun e w' => e = .returned (.int .i64 32) ∧ Below w.heap.size w w' := by
  have h := size_any (A := A) (P := P) (c := 1) (k := 1) (F := 3) (O := 0) (W := 0) (Q := 4) (D := 1) (a := (false, [1], 0)) (ps := lz.map PdZ.to) hd (by decide) hT hp line_sm
  rw [line_encO, show (outB (encL, 0)).length = 32 from encL_len] at h
  exact h
theorem decode_any {l : List UInt8} {w : World} (hT : T32 w) (hl : l.length ≤ 9223372036854775807) :
    Calls Tryz.prog 10 #[.string ⟨l.toArray⟩] w fun e w' => DecP (decT l) e w' ∧ Below w.heap.size w w' := by
  obtain ⟨t, s1, e0⟩ : ∃ t s1, rdS (l, false) = (t, s1) := ⟨(rdS (l, false)).1, (rdS (l, false)).2, rfl⟩
  obtain ⟨sx, hsx⟩ : ∃ z, (if t = 84 then s1 else (s1.1, true)) = z := ⟨_, rfl⟩
  obtain ⟨F, s2, e1⟩ : ∃ t s1, rdS sx = (t, s1) := ⟨(rdS sx).1, (rdS sx).2, rfl⟩
  obtain ⟨O, s3, e2⟩ : ∃ t s1, rdS s2 = (t, s1) := ⟨(rdS s2).1, (rdS s2).2, rfl⟩
  obtain ⟨Q, s4, e3⟩ : ∃ t s1, rdS s3 = (t, s1) := ⟨(rdS s3).1, (rdS s3).2, rfl⟩
  obtain ⟨D, s5, e4⟩ : ∃ t s1, rdS s4 = (t, s1) := ⟨(rdS s4).1, (rdS s4).2, rfl⟩
  obtain ⟨W, s6, e5⟩ : ∃ t s1, rdS s5 = (t, s1) := ⟨(rdS s5).1, (rdS s5).2, rfl⟩
  obtain ⟨n, s7, e6⟩ : ∃ t s1, rdS s6 = (t, s1) := ⟨(rdS s6).1, (rdS s6).2, rfl⟩
  obtain ⟨a, s8, e7⟩ : ∃ t s1, rdN s7 = (t, s1) := ⟨(rdN s7).1, (rdN s7).2, rfl⟩
  refine decode_go l w hT hl (l, false) s1 s2 s3 s4 s5 s6 s7 s8 t F O Q D W n a e0 (by rw [hsx]; exact e1) e2 e3 e4 e5 e6 e7 (decT l) (fun ps nx s hps => ?_)
  have hh : rdH (l, false) = (F, O, Q, D, W - 128, n, a, s8) := by
    unfold rdH
    simp only [e0, hsx, e1, e2, e3, e4, e5, e6, e7]
  have ht : rdT (l, false) = (⟨F, O, Q, D, W - 128, a, ps⟩, s.2) := by
    unfold rdT
    rw [hh]
    dsimp only
    rw [hps]
  unfold decT
  rw [ht]
  rfl
theorem dec_line (w : World) (hT : T32 w) :
    Calls Tryz.prog 10 #[.string ⟨encL.toArray⟩] w fun e w' => ∃ A c P k, e = .returned (.tuple #[.agg #[.int .i64 3, .int .i64 0, .bool false, .slice A 1 c, .int .i64 0, .int .i64 0, .int .i64 4, .int .i64 1, .slice P 1 k], .int .i64 0]) ∧ Dg w' A c [1] ∧ PsL w' P (lz.map PdZ.to) ∧ Below w.heap.size w w' := by
  refine (decode_any hT (by rw [encL_len]; decide)).mono ?_
  rintro e w' ⟨h, hb⟩
  have hd : decT encL = some (tOf 3 0 (nmOf (1, 0)) 0 4 1 (lz.map PdZ.to)) := dec_enc line_right (okZ _ _) line_enc.1
  have hz : tOf 3 0 (nmOf (1, 0)) 0 4 1 (lz.map PdZ.to) = ⟨3, 0, 4, 1, 0, (1, 0), (lz.map PdZ.to).map zOf⟩ := by unfold tOf; rw [nm1]; rfl
  rw [hd, hz] at h
  obtain ⟨A, c, P, k, rfl, h1, h2⟩ := h
  have e1 : digs ((1, 0) : Int × Int).1.natAbs = [1] := digs_one (by decide) (by decide)
  have h3 : ((lz.map PdZ.to).map zOf).map PdZ.to = lz.map PdZ.to := (tOf_back line_right (okZ _ _) line_enc.1).2
  rw [e1] at h1
  rw [h3] at h2
  refine ⟨A, c, P, k, ?_, h1, h2, hb⟩
  rw [e1, List.length_map, List.length_map]
  rfl
theorem dec_empty (w : World) (hT : T32 w) :
    Calls Tryz.prog 10 #[.string ⟨#[]⟩] w fun e w' => e = .returned (.tuple #[.agg #[.int .i64 0, .int .i64 0, .bool false, .slice none 0 0, .int .i64 0, .int .i64 0, .int .i64 0, .int .i64 0, .slice none 0 0], .int .i64 2]) ∧ Below w.heap.size w w' := by
  have h := decode_any (l := []) hT (by decide)
  rw [dec_nil] at h
  exact h
theorem same_line {A P A2 P2 : Option Addr} {c k : Nat} {w : World} (h1 : Dg w A c [1]) (h2 : PsL w P (lz.map PdZ.to)) (h3 : Dg w A2 1 [1]) (h4 : PsL w P2 (lz.map PdZ.to)) :
    Calls Tryz.prog 12 #[.agg #[.int .i64 3, .int .i64 0, .bool false, .slice A 1 c, .int .i64 0, .int .i64 0, .int .i64 4, .int .i64 1, .slice P 1 k], .agg #[.int .i64 3, .int .i64 0, .bool false, .slice A2 1 1, .int .i64 0, .int .i64 0, .int .i64 4, .int .i64 1, .slice P2 1 1]] w fun e w' => e = .returned (.bool true) ∧ Below w.heap.size w w' := by
  have e1 : digs ((1, 0) : Int × Int).1.natAbs = [1] := digs_one (by decide) (by decide)
  have h := tsame_any (A := A) (P := P) (A' := A2) (P' := P2) (c := c) (k := k) (c' := 1) (k' := 1) (F := 3) (O := 0) (W := 0) (Q := 4) (D := 1) (a := (1, 0)) (zs := lz) (w := w) (by rw [e1]; exact h1) h2 (by rw [e1]; exact h3) h4 (by rw [e1]; decide) (fun p hp => ?_) (by decide)
  · rw [e1] at h; exact h
  · unfold lz at hp
    rw [List.mem_singleton] at hp
    subst hp
    have d0 : (digs (0 : Int).natAbs).length = 0 := by rw [show digs (0 : Int).natAbs = [] from digs_zero]; rfl
    refine ⟨⟨by show (digs (1 : Int).natAbs).length ≤ 10000; rw [show digs (1 : Int).natAbs = [1] from e1]; decide, by show (digs (0 : Int).natAbs).length ≤ 400; omega, fun q hq => ?_⟩, by decide⟩
    simp at hq
    rcases hq with rfl | rfl
    · show (digs (1 : Int).natAbs).length ≤ 400; rw [show digs (1 : Int).natAbs = [1] from e1]; decide
    · show (digs (0 : Int).natAbs).length ≤ 400; omega
set_option maxHeartbeats 4000000 in
set_option maxRecDepth 100000 in
theorem examples_any (w : World) (hT : T32 w) :
    Calls Tryz.prog 5 #[] w fun e w' => e = .returned (.bool true) ∧ Below w.heap.size w w' := by
  have HT := Lib.hid hT
  obtain ⟨bt, hbt⟩ : ∃ d : ByteArray, (⟨encL.toArray⟩ : ByteArray) = d := ⟨_, rfl⟩
  have HS := Lib.hid (show bt.size = 32 by rw [← hbt]; exact encL_len)
  have HE := Lib.hid (fun (A P : Option Addr) (V : World) (hd : Dg V A 1 [1]) (hp : PsL V P (lz.map PdZ.to)) (hT : T32 V) => enc_line hd hp hT)
  have HDL := Lib.hid dec_line
  rw [hbt] at HE HDL
  clear hT hbt
  go_enter Tryz.func5, Tryz.ntmps5
  go_wp2_with fail
  refine (line_any w).mono ?_
  rintro e w1 ⟨A1, P1, rfl, hd, hp, hb⟩
  have D1 := Lib.hid hd
  have P1' := Lib.hid hp
  have B1 := Lib.hid hb
  clear hd hp hb
  go_wp2_with fail
  refine (HE.out A1 P1 w1 D1.out P1'.out (t32_below HT.out B1.out)).mono ?_
  rintro e w2 ⟨rfl, hb⟩
  have B2 := Lib.hid (B1.out.trans (hb.mono B1.out.size))
  clear hb D1 P1'
  go_wp2_with fail
  refine (HDL.out w2 (t32_below HT.out B2.out)).mono ?_
  rintro e w3 ⟨A3, c3, P3, k3, rfl, hd, hp, hb⟩
  have B3 := Lib.hid (B2.out.trans (hb.mono B2.out.size))
  have D3 := Lib.hid hd
  have P3' := Lib.hid hp
  clear hd hp hb
  go_upto_region 3 with fail
  obtain ⟨w4, hW⟩ : ∃ V : World, w3.alloc (.cells #[.int .i64 3, .int .i64 0, .bool false, .slice A3 1 c3, .int .i64 0, .int .i64 0, .int .i64 4, .int .i64 1, .slice P3 1 k3] 29) = V := ⟨_, rfl⟩
  rw [hW]
  have hb : Below w3.heap.size w3 w4 := by rw [← hW]; exact below1 _ _
  obtain ⟨tb, htb⟩ : ∃ n, w3.heap.size = n := ⟨_, rfl⟩
  have R4 := Lib.hid (show w4.heap[tb]? = some (.cells #[.int .i64 3, .int .i64 0, .bool false, .slice A3 1 c3, .int .i64 0, .int .i64 0, .int .i64 4, .int .i64 1, .slice P3 1 k3] 29 (0, 0)) by rw [← hW, ← htb]; exact heap_alloc_new _ _)
  have B4 := Lib.hid (B3.out.trans (hb.mono B3.out.size))
  have D4 := Lib.hid (D3.out.below hb)
  have P4 := Lib.hid (P3'.out.below hb)
  rw [htb]
  clear hb hW htb D3 P3'
  go_wp2_with fail
  refine (dec_empty w4 (t32_below HT.out B4.out)).mono ?_
  rintro e w5 ⟨rfl, hb⟩
  have B5 := Lib.hid (B4.out.trans (hb.mono B4.out.size))
  have R5 := co R4 hb
  have D5 := Lib.hid (D4.out.below hb)
  have P5 := Lib.hid (P4.out.below hb)
  clear hb D4 P4
  go_upto_region 4 with (fail)
  obtain ⟨w6, hW⟩ : ∃ V : World, w5.alloc (.cells #[.int .i64 0, .int .i64 0, .bool false, .slice none 0 0, .int .i64 0, .int .i64 0, .int .i64 0, .int .i64 0, .slice none 0 0] 29) = V := ⟨_, rfl⟩
  rw [hW]
  have hb : Below w5.heap.size w5 w6 := by rw [← hW]; exact below1 _ _
  have B6 := Lib.hid (B5.out.trans (hb.mono B5.out.size))
  have R6 := co R5 hb
  have D6 := Lib.hid (D5.out.below hb)
  have P6 := Lib.hid (P5.out.below hb)
  clear hb hW D5 P5
  have r0 := row_c (i := 0) R6.out rfl
  have r1 := row_c (i := 1) R6.out rfl
  have r2 := row_c (i := 2) R6.out rfl
  have r3 := row_c (i := 3) R6.out rfl
  have r4 := row_c (i := 4) R6.out rfl
  have r5 := row_c (i := 5) R6.out rfl
  have r6 := row_c (i := 6) R6.out rfl
  have r7 := row_c (i := 7) R6.out rfl
  have r8 := row_c (i := 8) R6.out rfl
  have xr := heap_lt R6.out
  have KD := Lib.hid (bd0 w6)
  go_region_held3 (fun w' => ∀ b o, b < w6.heap.size → w'.cell? ⟨b, o, none⟩ = w6.cell? ⟨b, o, none⟩)
    (first | with_reducible exact (bcell KD.out).1 | with_reducible exact (bcell K7.out).1 | with_reducible exact (bcell K8.out).1)
    (first
      | (go_at_call 13; (refine (line_any _).mono ?_); rintro e w7 ⟨A7, P7, rfl, hd, hp, hb⟩; (have K7 := Lib.hid (Below.trans KD.out (Below.mono hb KD.out.size))); (have D7 := Lib.hid hd); (have P7' := Lib.hid hp); clear hb hd hp)
      | (go_at_call 12; (with_reducible refine (same_line (D6.out.below K7.out) (P6.out.below K7.out) D7.out P7'.out).mono ?_); rintro e w8 ⟨rfl, hb⟩; (have K8 := Lib.hid (Below.trans K7.out (Below.mono hb K7.out.size))); clear hb))
  rename_i hHeld
  clear hHeld
  have B8 := Lib.hid (B6.out.trans (K8.out.mono B6.out.size))
  clear r0 r1 r2 r3 r4 r5 r6 r7 r8 xr KD K7 K8 D7 P7' D6 P6
  have hsz : ((bt.size : Nat) : Int) = 32 := by rw [HS.out]; rfl
  go_wp2_with fail
  refine (line_any w8).mono ?_
  rintro e w9 ⟨A9, P9, rfl, hd, hp, hb⟩
  have B9 := Lib.hid (B8.out.trans (hb.mono B8.out.size))
  have D9 := Lib.hid hd
  have P9' := Lib.hid hp
  clear hd hp hb
  go_wp2_with fail
  refine (size_line D9.out P9'.out (t32_below HT.out B9.out)).mono ?_
  rintro e wA ⟨rfl, hb⟩
  have BA := Lib.hid (B9.out.trans (hb.mono B9.out.size))
  clear hb
  go_wp2
  go_ret
  exact ⟨rfl, BA.out⟩
end Go.Proofs.YtdmfapgclppmhaaGreatDoor
end

section
namespace Go.Proofs.YtdmfapgclppmhaaGreatDoor
open Go.RowKit
set_option linter.unusedSimpArgs false
set_option linter.unusedVariables false
set_option maxHeartbeats 4000000 in
set_option maxRecDepth 100000 in
theorem cut_ (A : Option Addr) (c : Nat) (s : Bool) (xs : List Nat) (v N K : Int) (w : World) (hmin : min (xs.length : Int) N = K) (k0 : 0 ≤ K) (k1 : K ≤ (c : Int)):
    Calls Tryz.prog 14 #[.agg #[.bool s, .slice A xs.length c, .int .i64 v], .int .i64 N] w fun e w' => e = .returned (.agg #[.bool s, .slice A K.toNat c, .int .i64 v]) ∧ Below w.heap.size w w' := by
  have L0 := Lib.hid (live_start w)
  go_enter Tryz.func14, Tryz.ntmps14
  go_upto_region 1 with fail
  obtain ⟨v1, hW, hb, Rx_1, Rr_1⟩ := new2 w (.cells #[.bool s, .slice A xs.length c, .int .i64 v] 26) (.cells #[.bool false, .slice none 0 0, .int .i64 0] 26)
  rw [← hW]
  have L1 := ls L0 hb
  have Gx := gl0 L0.out
  have Gr := gl1 L0.out
  have Nxr : w.heap.size < w.heap.size + 1 := by omega
  clear hW hb
  refine wp_operands (W := v1) rfl 17 [5, 6, 7, 8, 9, 10, 11, 12, 13, 14, 15, 16, 17, 18, 19, 20, 21] (fun i u ww => match i with | 0 => u = .pointer (some ⟨w.heap.size, 0, none⟩) | 1 => u = .pointer (some ⟨w.heap.size, 0, none⟩) | 2 => u = .bool s | 3 => u = .pointer (some ⟨w.heap.size, 0, none⟩) | 4 => u = .pointer (some ⟨w.heap.size, 1, none⟩) | 5 => u = .slice A xs.length c | 6 => u = .pointer (some ⟨w.heap.size, 0, none⟩) | 7 => u = .pointer (some ⟨w.heap.size, 1, none⟩) | 8 => u = .slice A xs.length c | 9 => u = .int .i64 xs.length | 10 => u = .int .i64 N | 11 => u = .int .i64 K | 12 => u = .slice A K.toNat c | 13 => u = .agg #[.bool s, .slice A K.toNat c] | 14 => u = .pointer (some ⟨w.heap.size, 2, none⟩) | 15 => u = .int .i64 v | 16 => u = .agg #[.bool s, .slice A K.toNat c, .int .i64 v] | _ => True) (fun i => decide (i ∈ ([] : List Nat)))
    (by decide) rfl (by kernel_rfl) (by kernel_rfl) (by decide) (by kernel_rfl) ?_ ?_ ?_ ?_
  · intro i u x y hi h hb
    have hi' : i = 0 ∨ i = 1 ∨ i = 2 ∨ i = 3 ∨ i = 4 ∨ i = 5 ∨ i = 6 ∨ i = 7 ∨ i = 8 ∨ i = 9 ∨ i = 10 ∨ i = 11 ∨ i = 12 ∨ i = 13 ∨ i = 14 ∨ i = 15 ∨ i = 16 := by omega
    rcases hi' with rfl | rfl | rfl | rfl | rfl | rfl | rfl | rfl | rfl | rfl | rfl | rfl | rfl | rfl | rfl | rfl | rfl
    · exact h
    · exact h
    · exact h
    · exact h
    · exact h
    · exact h
    · exact h
    · exact h
    · exact h
    · exact h
    · exact h
    · exact h
    · exact h
    · exact h
    · exact h
    · exact h
    · exact h
  · intro i u x hi; simp at hi
  · intro i a x KK hi hF hb hw hK
    have hi' : i = 0 ∨ i = 1 ∨ i = 2 ∨ i = 3 ∨ i = 4 ∨ i = 5 ∨ i = 6 ∨ i = 7 ∨ i = 8 ∨ i = 9 ∨ i = 10 ∨ i = 11 ∨ i = 12 ∨ i = 13 ∨ i = 14 ∨ i = 15 ∨ i = 16 := by omega
    rcases hi' with rfl | rfl | rfl | rfl | rfl | rfl | rfl | rfl | rfl | rfl | rfl | rfl | rfl | rfl | rfl | rfl | rfl
    · simp only [wpOp, List.getElem?_toArray, List.getElem?_cons_zero, Region.wanted, if_true]
      refine Or.inl ?_
      have e0 : a.eval (.tmp 2) = .pointer (some ⟨w.heap.size, 0, none⟩) := hF.2.2 2 (by decide)
      clear hw hF
      simp only [Oper.wp, execOp]
      rw [e0]
      go_simp
      exact hK _ x (by first | rfl | simp) (Below.refl _ _) (fun h => by simp at h)
    · simp only [wpOp, List.getElem?_toArray, List.getElem?_cons_succ, List.getElem?_cons_zero, Region.wanted, if_true]
      refine Or.inl ?_
      have e0 : a.eval (.tmp 5) = .pointer (some ⟨w.heap.size, 0, none⟩) := hw 0 (by kernel_rfl)
      clear hw hF
      simp only [Oper.wp, execOp]
      rw [e0]
      go_simp
      exact hK _ x (by first | rfl | simp) (Below.refl _ _) (fun h => by simp at h)
    · simp only [wpOp, List.getElem?_toArray, List.getElem?_cons_succ, List.getElem?_cons_zero, Region.wanted, if_true]
      refine Or.inl ?_
      have e0 : a.eval (.tmp 6) = .pointer (some ⟨w.heap.size, 0, none⟩) := hw 1 (by kernel_rfl)
      have f0 := row_cell Rx_1.out hb 0
      have f1 := row_cell Rx_1.out hb 1
      have f2 := row_cell Rx_1.out hb 2
      simp only [List.getElem?_toArray, List.getElem?_cons_succ, List.getElem?_cons_zero] at f0 f1 f2
      clear hw hF
      simp only [Oper.wp, execOp]
      rw [e0]
      go_simp
      exact hK _ x (by first | rfl | simp) (Below.refl _ _) (fun h => by simp at h)
    · simp only [wpOp, List.getElem?_toArray, List.getElem?_cons_succ, List.getElem?_cons_zero, Region.wanted, if_true]
      refine Or.inl ?_
      have e0 : a.eval (.tmp 2) = .pointer (some ⟨w.heap.size, 0, none⟩) := hF.2.2 2 (by decide)
      clear hw hF
      simp only [Oper.wp, execOp]
      rw [e0]
      go_simp
      exact hK _ x (by first | rfl | simp) (Below.refl _ _) (fun h => by simp at h)
    · simp only [wpOp, List.getElem?_toArray, List.getElem?_cons_succ, List.getElem?_cons_zero, Region.wanted, if_true]
      refine Or.inl ?_
      have e0 : a.eval (.tmp 8) = .pointer (some ⟨w.heap.size, 0, none⟩) := hw 3 (by kernel_rfl)
      clear hw hF
      simp only [Oper.wp, execOp]
      rw [e0]
      go_simp
      exact hK _ x (by first | rfl | simp) (Below.refl _ _) (fun h => by simp at h)
    · simp only [wpOp, List.getElem?_toArray, List.getElem?_cons_succ, List.getElem?_cons_zero, Region.wanted, if_true]
      refine Or.inl ?_
      have e0 : a.eval (.tmp 9) = .pointer (some ⟨w.heap.size, 1, none⟩) := hw 4 (by kernel_rfl)
      have f0 := row_cell Rx_1.out hb 0
      have f1 := row_cell Rx_1.out hb 1
      have f2 := row_cell Rx_1.out hb 2
      simp only [List.getElem?_toArray, List.getElem?_cons_succ, List.getElem?_cons_zero] at f0 f1 f2
      clear hw hF
      simp only [Oper.wp, execOp]
      rw [e0]
      go_simp
      exact hK _ x (by first | rfl | simp) (Below.refl _ _) (fun h => by simp at h)
    · simp only [wpOp, List.getElem?_toArray, List.getElem?_cons_succ, List.getElem?_cons_zero, Region.wanted, if_true]
      refine Or.inl ?_
      have e0 : a.eval (.tmp 2) = .pointer (some ⟨w.heap.size, 0, none⟩) := hF.2.2 2 (by decide)
      clear hw hF
      simp only [Oper.wp, execOp]
      rw [e0]
      go_simp
      exact hK _ x (by first | rfl | simp) (Below.refl _ _) (fun h => by simp at h)
    · simp only [wpOp, List.getElem?_toArray, List.getElem?_cons_succ, List.getElem?_cons_zero, Region.wanted, if_true]
      refine Or.inl ?_
      have e0 : a.eval (.tmp 11) = .pointer (some ⟨w.heap.size, 0, none⟩) := hw 6 (by kernel_rfl)
      clear hw hF
      simp only [Oper.wp, execOp]
      rw [e0]
      go_simp
      exact hK _ x (by first | rfl | simp) (Below.refl _ _) (fun h => by simp at h)
    · simp only [wpOp, List.getElem?_toArray, List.getElem?_cons_succ, List.getElem?_cons_zero, Region.wanted, if_true]
      refine Or.inl ?_
      have e0 : a.eval (.tmp 12) = .pointer (some ⟨w.heap.size, 1, none⟩) := hw 7 (by kernel_rfl)
      have f0 := row_cell Rx_1.out hb 0
      have f1 := row_cell Rx_1.out hb 1
      have f2 := row_cell Rx_1.out hb 2
      simp only [List.getElem?_toArray, List.getElem?_cons_succ, List.getElem?_cons_zero] at f0 f1 f2
      clear hw hF
      simp only [Oper.wp, execOp]
      rw [e0]
      go_simp
      exact hK _ x (by first | rfl | simp) (Below.refl _ _) (fun h => by simp at h)
    · simp only [wpOp, List.getElem?_toArray, List.getElem?_cons_succ, List.getElem?_cons_zero, Region.wanted, if_true]
      refine Or.inl ?_
      have e0 : a.tmps.getD 13 undef = .slice A xs.length c := hw 8 (by kernel_rfl)
      clear hw hF
      simp only [Oper.wp, execOp]
      go_simp
      exact hK _ x (by first | rfl | simp) (Below.refl _ _) (fun h => by simp at h)
    · simp only [wpOp, List.getElem?_toArray, List.getElem?_cons_succ, List.getElem?_cons_zero, Region.wanted, if_true]
      refine Or.inl ?_
      have e0 : a.eval (.tmp 1) = .int .i64 N := hF.2.2 1 (by decide)
      clear hw hF
      simp only [Oper.wp, execOp]
      rw [e0]
      go_simp
      exact hK _ x (by first | rfl | simp) (Below.refl _ _) (fun h => by simp at h)
    · simp only [wpOp, List.getElem?_toArray, List.getElem?_cons_succ, List.getElem?_cons_zero, Region.wanted, if_true]
      refine Or.inl ?_
      have e0 : a.tmps.getD 14 undef = .int .i64 xs.length := hw 9 (by kernel_rfl)
      have e1 : a.tmps.getD 15 undef = .int .i64 N := hw 10 (by kernel_rfl)
      clear hw hF
      simp only [Oper.wp, execOp]
      go_simp
      exact hK _ x (by first | rfl | simp) (Below.refl _ _) (fun h => by simp at h)
    · simp only [wpOp, List.getElem?_toArray, List.getElem?_cons_succ, List.getElem?_cons_zero, Region.wanted, if_true]
      refine Or.inl ?_
      have e0 : a.tmps.getD 10 undef = .slice A xs.length c := hw 5 (by kernel_rfl)
      have e1 : a.tmps.getD 16 undef = .int .i64 K := hw 11 (by kernel_rfl)
      clear hw hF
      simp only [Oper.wp, execOp]
      go_simp
      exact hK _ x (by first | rfl | simp) (Below.refl _ _) (fun h => by simp at h)
    · simp only [wpOp, List.getElem?_toArray, List.getElem?_cons_succ, List.getElem?_cons_zero, Region.wanted, if_true]
      refine Or.inl ?_
      have e0 : a.eval (.tmp 7) = .bool s := hw 2 (by kernel_rfl)
      have e1 : a.eval (.tmp 17) = .slice A K.toNat c := hw 12 (by kernel_rfl)
      clear hw hF
      simp only [Oper.wp, execOp]
      simp only [List.map_toArray, List.map_cons, List.map_nil, e0, e1]
      go_simp
      exact hK _ x (by first | rfl | simp) (Below.refl _ _) (fun h => by simp at h)
    · simp only [wpOp, List.getElem?_toArray, List.getElem?_cons_succ, List.getElem?_cons_zero, Region.wanted, if_true]
      refine Or.inl ?_
      have e0 : a.eval (.tmp 2) = .pointer (some ⟨w.heap.size, 0, none⟩) := hF.2.2 2 (by decide)
      clear hw hF
      simp only [Oper.wp, execOp]
      rw [e0]
      go_simp
      exact hK _ x (by first | rfl | simp) (Below.refl _ _) (fun h => by simp at h)
    · simp only [wpOp, List.getElem?_toArray, List.getElem?_cons_succ, List.getElem?_cons_zero, Region.wanted, if_true]
      refine Or.inl ?_
      have e0 : a.eval (.tmp 19) = .pointer (some ⟨w.heap.size, 2, none⟩) := hw 14 (by kernel_rfl)
      have f0 := row_cell Rx_1.out hb 0
      have f1 := row_cell Rx_1.out hb 1
      have f2 := row_cell Rx_1.out hb 2
      simp only [List.getElem?_toArray, List.getElem?_cons_succ, List.getElem?_cons_zero] at f0 f1 f2
      clear hw hF
      simp only [Oper.wp, execOp]
      rw [e0]
      go_simp
      exact hK _ x (by first | rfl | simp) (Below.refl _ _) (fun h => by simp at h)
    · simp only [wpOp, List.getElem?_toArray, List.getElem?_cons_succ, List.getElem?_cons_zero, Region.wanted, if_true]
      refine Or.inl ?_
      have e0 : a.eval (.tmp 18) = .agg #[.bool s, .slice A K.toNat c] := hw 13 (by kernel_rfl)
      have e1 : a.eval (.tmp 20) = .int .i64 v := hw 15 (by kernel_rfl)
      clear hw hF
      simp only [Oper.wp, execOp]
      simp only [List.map_toArray, List.map_cons, List.map_nil, e0, e1]
      go_simp
      exact hK _ x (by first | rfl | simp) (Below.refl _ _) (fun h => by simp at h)
  · intro a x hF0 hb hR _
    have hF : Fr6 [5, 6, 7, 8, 9, 10, 11, 12, 13, 14, 15, 16, 17, 18, 19, 20, 21] _ a := hF0
    have e0 : a.tmps.getD 5 undef = .pointer (some ⟨w.heap.size, 0, none⟩) := hR 0 (by decide)
    have e1 : a.tmps.getD 6 undef = .pointer (some ⟨w.heap.size, 0, none⟩) := hR 1 (by decide)
    have e2 : a.tmps.getD 7 undef = .bool s := hR 2 (by decide)
    have e3 : a.tmps.getD 8 undef = .pointer (some ⟨w.heap.size, 0, none⟩) := hR 3 (by decide)
    have e4 : a.tmps.getD 9 undef = .pointer (some ⟨w.heap.size, 1, none⟩) := hR 4 (by decide)
    have e5 : a.tmps.getD 10 undef = .slice A xs.length c := hR 5 (by decide)
    have e6 : a.tmps.getD 11 undef = .pointer (some ⟨w.heap.size, 0, none⟩) := hR 6 (by decide)
    have e7 : a.tmps.getD 12 undef = .pointer (some ⟨w.heap.size, 1, none⟩) := hR 7 (by decide)
    have e8 : a.tmps.getD 13 undef = .slice A xs.length c := hR 8 (by decide)
    have e9 : a.tmps.getD 14 undef = .int .i64 xs.length := hR 9 (by decide)
    have e10 : a.tmps.getD 15 undef = .int .i64 N := hR 10 (by decide)
    have e11 : a.tmps.getD 16 undef = .int .i64 K := hR 11 (by decide)
    have e12 : a.tmps.getD 17 undef = .slice A K.toNat c := hR 12 (by decide)
    have e13 : a.tmps.getD 18 undef = .agg #[.bool s, .slice A K.toNat c] := hR 13 (by decide)
    have e14 : a.tmps.getD 19 undef = .pointer (some ⟨w.heap.size, 2, none⟩) := hR 14 (by decide)
    have e15 : a.tmps.getD 20 undef = .int .i64 v := hR 15 (by decide)
    have e16 : a.tmps.getD 21 undef = .agg #[.bool s, .slice A K.toNat c, .int .i64 v] := hR 16 (by decide)
    rw [hF.fold (by kernel_rfl)]
    simp only [List.foldl_cons, List.foldl_nil, e0, e1, e2, e3, e4, e5, e6, e7, e8, e9, e10, e11, e12, e13, e14, e15, e16]
    simp only [Act.put, List.setIfInBounds_toArray, List.set_cons_zero, List.set_cons_succ]
    clear e0 e1 e2 e3 e4 e5 e6 e7 e8 e9 e10 e11 e12 e13 e14 e15 e16 hR hF hF0
    obtain ⟨w2, hW⟩ : ∃ W : World, W = x := ⟨_, rfl⟩
    rw [← hW]
    rw [← hW] at hb 
    have L2 := ls L1 hb
    have Rx_2 := co Rx_1 hb
    have Rr_2 := co Rr_1 hb
    clear hW hb 
    obtain ⟨fr0, zr0, fr1, zr1, fr2, zr2, xr⟩ := ly3 Rr_2.out
    first | simp only [wpOps_cons] | rw [wpOps_cons] | (change wpOps _ _ _ [17] _ _; simp only [wpOps_cons])
    simp only [wpOp, List.getElem?_toArray, List.getElem?_cons_succ, List.getElem?_cons_zero, Region.wanted, if_true]
    refine Or.inl ?_
    simp only [Oper.wp, execOp]
    go_simp
    try simp only [wpOps]
    clear fr0 zr0 fr1 zr1 fr2 zr2 xr
    obtain ⟨w3, hW⟩ : ∃ W : World, W = (((w2.setCell ⟨w.heap.size + 1, 0, none⟩ (.bool s)).setCell ⟨w.heap.size + 1, 1, none⟩ (.slice A K.toNat c)).setCell ⟨w.heap.size + 1, 2, none⟩ (.int .i64 v)) := ⟨_, rfl⟩
    rw [← hW]
    have hO : Only (w.heap.size + 1) w2 w3 := by rw [hW]; exact ((((Only.refl (w.heap.size + 1) w2).setCell 0 _).setCell 1 _).setCell 2 _)
    have L3 := Lib.hid (live_only L2.out hO Rr_2.out noint_dy Gr)
    have Rx_3 := Lib.hid ((hO.block _ (by omega)).trans Rx_2.out)
    have Rr_3 := Lib.hid (show w3.heap[w.heap.size + 1]? = some (.cells #[.bool s, .slice A K.toNat c, .int .i64 v] 26 (0, 0)) by rw [hW]; exact (heap_setCell_same _ _ 2 _ _ _ (heap_setCell_same _ _ 1 _ _ _ (heap_setCell_same _ _ 0 _ _ _ Rr_2.out))))
    clear hW hO
    obtain ⟨fr0, zr0, fr1, zr1, fr2, zr2, xr⟩ := ly3 Rr_3.out
    go_wp2
    refine bodyPost_ret (v := .agg #[.bool s, .slice A K.toNat c, .int .i64 v]) (by simp [results, Tryz.results14, go_sem, fr0, fr1, fr2]) rfl ?_
    exact ⟨rfl, L3.out.1⟩
theorem cut_l {A : Option Addr} {c : Nat} {s : Bool} {xs ts : List Nat} {x N : Int} {w : World} (hmin : min (xs.length : Int) N = (ts.length : Int)) (hc : ts.length ≤ c) :
    Calls Tryz.prog 14 #[.agg #[.bool s, .slice A xs.length c, .int .i64 x], .int .i64 N] w fun e w' => e = .returned (.agg #[.bool s, .slice A ts.length c, .int .i64 x]) ∧ Below w.heap.size w w' := by
  have := cut_ A c s xs x N ts.length w hmin (by omega) (by omega)
  rw [Int.toNat_natCast] at this; exact this

/-- A number of at most eight digits; a piece, a table of such. -/
def cutN (v : Nm) : Nm := (v.1, v.2.1.take 8, v.2.2)
def cutP (p : Pd) : Pd := ⟨cutN p.a, p.w, (p.cs.take 20).map cutN, cutN p.er⟩
/-- Numbers in a row: old, or in cells of numbers; their digits are those of W0. -/
def CsR (W0 w : World) (P : Option Addr) (k : Nat) (cs : List Nm) : Prop := cs.length ≤ k ∧ (cs.length ≠ 0 → ∃ b o, P = some ⟨b, o, none⟩ ∧ b < w.heap.size ∧ (b < W0.heap.size ∨ ∃ cur fr, w.heap[b]? = some (.cells cur 26 fr)) ∧
  ∀ (i : Nat) v, cs[i]? = some v → ∃ A c, w.cell? ⟨b, o + i * 3, none⟩ = some (.bool v.1) ∧ w.cell? ⟨b, o + i * 3 + 1, none⟩ = some (.slice A v.2.1.length c) ∧ w.cell? ⟨b, o + i * 3 + 2, none⟩ = some (.int .i64 v.2.2) ∧ Dg W0 A c v.2.1)
theorem NsL.csr {W0 w : World} {P : Option Addr} {k : Nat} {cs : List Nm} (h : NsL W0 P k cs) (hB : Below W0.heap.size W0 w) : CsR W0 w P k cs := by
  have hr := h.rowq
  obtain ⟨A, C, hc, h⟩ := h
  refine ⟨hc, fun h0 => ?_⟩
  obtain ⟨b, o, rfl, hb, _⟩ := h h0
  refine ⟨b, o, rfl, Nat.lt_of_lt_of_le hb hB.size, .inl hb, fun i v hv => ?_⟩
  obtain ⟨b2, o2, A2, c2, e, c0, c1, c2', hd⟩ := hr i v hv
  injection e with e; injection e with e1 e2 e3
  subst e1 e2
  have ce : ∀ j, w.cell? ⟨b, j, none⟩ = W0.cell? ⟨b, j, none⟩ := fun j => hB.cell (p := ⟨b, j, none⟩) hb
  exact ⟨A2, c2, (ce _).trans c0, (ce _).trans c1, (ce _).trans c2', hd⟩
theorem CsR.same {W0 w w' : World} {P : Option Addr} {k : Nat} {cs : List Nm} (h : CsR W0 w P k cs) (hs : w.heap.size ≤ w'.heap.size) (hk : ∀ b, b < w.heap.size → (b < W0.heap.size ∨ ∃ cur fr, w.heap[b]? = some (.cells cur 26 fr)) → w'.heap[b]? = w.heap[b]?) : CsR W0 w' P k cs := by
  refine ⟨h.1, fun h0 => ?_⟩
  obtain ⟨b, o, e, hb, hd, hc⟩ := h.2 h0
  have e1 := hk b hb hd
  have ce : ∀ j, w'.cell? ⟨b, j, none⟩ = w.cell? ⟨b, j, none⟩ := fun j => World.cell?_of_block (a := ⟨b, j, none⟩) e1
  refine ⟨b, o, e, Nat.lt_of_lt_of_le hb hs, hd.imp id (fun ⟨cur, fr, h⟩ => ⟨cur, fr, e1.trans h⟩), fun i v hv => ?_⟩
  obtain ⟨A, c, c0, c1, c2, hg⟩ := hc i v hv
  exact ⟨A, c, (ce _).trans c0, (ce _).trans c1, (ce _).trans c2, hg⟩
/-- The cells of some pieces. -/
def PcR (W0 w : World) (xs : List Value) (ps : List Pd) : Prop := xs.length = ps.length * 8 ∧ ∀ (i : Nat) p, ps[i]? = some p → ∃ A c P k B d, xs[i * 8]? = some (.bool p.a.1) ∧ xs[i * 8 + 1]? = some (.slice A p.a.2.1.length c) ∧ xs[i * 8 + 2]? = some (.int .i64 p.a.2.2) ∧ xs[i * 8 + 3]? = some (.int .i64 p.w) ∧ xs[i * 8 + 4]? = some (.slice P p.cs.length k) ∧ xs[i * 8 + 5]? = some (.bool p.er.1) ∧ xs[i * 8 + 6]? = some (.slice B p.er.2.1.length d) ∧ xs[i * 8 + 7]? = some (.int .i64 p.er.2.2) ∧ Dg W0 A c p.a.2.1 ∧ CsR W0 w P k p.cs ∧ Dg W0 B d p.er.2.1
theorem PcR.same {W0 w w' : World} {xs : List Value} {ps : List Pd} (h : PcR W0 w xs ps) (hs : w.heap.size ≤ w'.heap.size) (hk : ∀ b, b < w.heap.size → (b < W0.heap.size ∨ ∃ cur fr, w.heap[b]? = some (.cells cur 26 fr)) → w'.heap[b]? = w.heap[b]?) : PcR W0 w' xs ps :=
  ⟨h.1, fun i p hp => by obtain ⟨A, c, P, k, B, d, h0, h1, h2, h3, h4, h5, h6, h7, ha, hn, hb⟩ := h.2 i p hp; exact ⟨A, c, P, k, B, d, h0, h1, h2, h3, h4, h5, h6, h7, ha, hn.same hs hk, hb⟩⟩
/-- A copy of a row, out of nothing. -/
theorem wp_append_copy {w : World} {o : Oper} {a : Act} {K : Act → World → Prop} {Q : Exit → Act → World → Prop} (s x : Operand) (t e : TypeId) (ho : o.op = .call { callee := .builtin .append, args := #[s, x], argTypes := #[t, t] }) (base : Nat) (i0 : TypeInfo) (z : Value) (size bytes : Nat) (ht : Tryz.prog.underlying t = some (.slice e)) (hi : Tryz.prog.info? e = some i0) (hz : i0.zero = some z) (hsize : i0.size = size) (hby : i0.bytes = bytes) (hzs : z.cells.size = size) (hsz : 0 < size)
    (X : Option Addr) (n c : Nat) (news : List Value) (hs : a.eval s = .slice none 0 0) (hx : a.eval x = .slice X n c) (hl : news.length = n * size) (hX : n ≠ 0 → ∃ ad, X = some ad ∧ ∀ j u, news[j]? = some u → w.cell? (ad.add j) = some u) (h1 : ∀ u ∈ news, u.oneCell' = true) (h63 : n ≤ maxLen) (hbytes : n * bytes ≤ 140737488355328) (hbase : base ≤ w.heap.size)
    (h : ∀ v' w', w'.ownsRow base e size v' n news → Below w.heap.size w w' → K (a.put o.dst v') w') : o.wp Tryz.prog a w K Q := by
  rcases X with _ | ad
  · obtain rfl : n = 0 := by
      rcases Nat.eq_zero_or_pos n with h0 | h0
      · exact h0
      · obtain ⟨_, e, _⟩ := hX (by omega); cases e
    obtain rfl : news = [] := List.length_eq_zero_iff.1 (by rw [hl]; omega)
    have hrun := run_append_nilcap (P := Tryz.prog) (w := w) base t o.type e i0 size c ht hi (.slice none 0 0) 0 [] (World.ownsRow_nil _ _ _ _)
    unfold Oper.wp
    simp [execOp, ho, resolve, invoke, builtin, hs, hx, hrun, Result.andThen]
    exact h _ w (World.ownsRow_nil _ _ _ _) (Below.refl _ _)
  · refine wp_append_own w s x t ho base e i0 z size bytes ht hi hz hsize hby hzs hsz (.slice none 0 0) 0 [] hs (World.ownsRow_nil _ _ _ _) ad n c news hx hl (fun j u hj => ?_) h1 (by omega) (by rw [Nat.zero_add]; exact hbytes) hbase (fun v' w' h2 h3 _ => ?_)
    · rcases Nat.eq_zero_or_pos n with h0 | h0
      · subst h0
        have e : news = [] := List.length_eq_zero_iff.1 (by rw [hl]; omega)
        rw [e] at hj
        simp at hj
      · obtain ⟨ad2, e2, hc2⟩ := hX (by omega)
        obtain rfl : ad = ad2 := Option.some.inj e2
        exact hc2 j u hj
    · rw [Nat.zero_add] at h2
      exact h v' w' h2 ⟨h3.os, h3.tape, h3.output, h3.size, fun k hk => h3.block k hk (by simp [Value.ownBlock])⟩
set_option maxRecDepth 100000 in
theorem wpList_append_copy {w : World} {ops : Array Oper} {rest : List Oper} {o : Oper} {a : Act} {Q : Exit → Act → World → Prop} (hgd : o.guard = none) (s x : Operand) (t e : TypeId) (ho : o.op = .call { callee := .builtin .append, args := #[s, x], argTypes := #[t, t] }) (base : Nat) (i0 : TypeInfo) (z : Value) (size bytes : Nat) (ht : Tryz.prog.underlying t = some (.slice e)) (hi : Tryz.prog.info? e = some i0) (hz : i0.zero = some z) (hsize : i0.size = size) (hby : i0.bytes = bytes) (hzs : z.cells.size = size) (hsz : 0 < size)
    (X : Option Addr) (n c : Nat) (news : List Value) (hs : a.eval s = .slice none 0 0) (hx : a.eval x = .slice X n c) (hl : news.length = n * size) (hX : n ≠ 0 → ∃ ad, X = some ad ∧ ∀ j u, news[j]? = some u → w.cell? (ad.add j) = some u) (h1 : ∀ u ∈ news, u.oneCell' = true) (h63 : n ≤ maxLen) (hbytes : n * bytes ≤ 140737488355328) (hbase : base ≤ w.heap.size)
    (h : ∀ v' w', w'.ownsRow base e size v' n news → Below w.heap.size w w' → wpList Tryz.prog ops Q rest (a.put o.dst v') w') : wpList Tryz.prog ops Q (o :: rest) a w := by
  refine wpList_plain hgd fun K hK => ?_
  exact wp_append_copy (w := w) (a := a) (Q := Q) s x t e ho base i0 z size bytes ht hi hz hsize hby hzs hsz X n c news hs hx hl hX h1 h63 hbytes hbase (fun v' w' h2 h3 => hK _ _ (h v' w' h2 h3))
/-- The cells that stand from a place on. -/
def cellsAt (w : World) (b o m : Nat) : List Value := (List.range m).map fun j => (w.cell? ⟨b, o + j, none⟩).getD (.bool false)
theorem cellsAt_get {w : World} {b o m j : Nat} {v : Value} (hj : j < m) (h : w.cell? ⟨b, o + j, none⟩ = some v) : (cellsAt w b o m)[j]? = some v := by
  unfold cellsAt
  rw [List.getElem?_map, List.getElem?_range hj]
  simp [h]
theorem own_upd {w : World} {base n size g cap : Nat} {e : TypeId} {xs : List Value} (h : w.ownsRow base e size (.slice (some ⟨g, 0, none⟩) n cap) n xs) {j : Nat} (v : Value) : (w.setCell ⟨g, j, none⟩ v).ownsRow base e size (.slice (some ⟨g, 0, none⟩) n cap) n (xs.set j v) := by
  refine ⟨by rw [List.length_set]; exact h.1, ?_⟩
  rcases h.2 with ⟨h1, _⟩ | ⟨q, cap2, cur, h1, hb, hq, h3, h4, h5, h6⟩
  · cases h1
  · have h1c := h1
    injection h1 with e1 e2 e3
    injection e1 with e1; injection e1 with e1 _ _
    subst e1
    refine .inr ⟨g, cap2, cur.setIfInBounds j v, h1c, hb, heap_setCell_same _ _ j _ _ v hq, h3, h4, by simpa using h5, ?_⟩
    rw [Array.toList_setIfInBounds, List.take_set, h6]
end Go.Proofs.YtdmfapgclppmhaaGreatDoor
end

section
namespace Go.Proofs.YtdmfapgclppmhaaGreatDoor
open Go.RowKit
set_option linter.unusedSimpArgs false
set_option linter.unusedVariables false
theorem mix_get {α β : Type} (f : α → β) (g : α → β) (L : List α) (k : Nat) {x : α} (h : L[k]? = some x) : ((L.take k).map f ++ (L.drop k).map g)[k]? = some (g x) := by
  have hk : k < L.length := by
    rcases Nat.lt_or_ge k L.length with h1 | h1
    · exact h1
    · rw [List.getElem?_eq_none_iff.2 h1] at h; cases h
  rw [List.getElem?_append_right (by simp; omega)]
  simp only [List.length_map, List.length_take, Nat.min_eq_left (Nat.le_of_lt hk), Nat.sub_self, List.getElem?_map, List.getElem?_drop, Nat.add_zero, h, Option.map_some]
theorem mix_set {α : Type} (f : α → α) (L : List α) (k : Nat) {x : α} (h : L[k]? = some x) : ((L.take k).map f ++ L.drop k).set k (f x) = (L.take (k + 1)).map f ++ L.drop (k + 1) := by
  have hk : k < L.length := by
    rcases Nat.lt_or_ge k L.length with h1 | h1
    · exact h1
    · rw [List.getElem?_eq_none_iff.2 h1] at h; cases h
  have e : (L.drop k).set 0 (f x) = f x :: L.drop (k + 1) := by rw [List.drop_eq_getElem_cons hk]; rfl
  have el : ((L.take k).map f).length = k := by simp; omega
  rw [List.set_append_right _ _ (by omega), el, Nat.sub_self, e, List.take_add_one, h, List.map_append]
  simp
theorem mix_at {α : Type} (f : α → α) (L : List α) (k : Nat) {x : α} (h : L[k]? = some x) : ((L.take k).map f ++ L.drop k)[k]? = some x := by
  have := mix_get f id L k h
  simpa using this
/-- The cells of some numbers. -/
def CyR (W0 : World) (ys : List Value) (cs : List Nm) : Prop := ys.length = cs.length * 3 ∧ ∀ (i : Nat) v, cs[i]? = some v → ∃ A c, ys[i * 3]? = some (.bool v.1) ∧ ys[i * 3 + 1]? = some (.slice A v.2.1.length c) ∧ ys[i * 3 + 2]? = some (.int .i64 v.2.2) ∧ Dg W0 A c v.2.1
theorem CyR.set {W0 : World} {ys : List Value} {cs : List Nm} (h : CyR W0 ys cs) {j : Nat} (hj : j < cs.length) {v : Nm} {A : Option Addr} {c : Nat} (hd : Dg W0 A c v.2.1) : CyR W0 (((ys.set (j * 3) (.bool v.1)).set (j * 3 + 1) (.slice A v.2.1.length c)).set (j * 3 + 2) (.int .i64 v.2.2)) (cs.set j v) := by
  have hl := h.1
  refine ⟨by simp only [List.length_set]; exact hl, fun i u hu => ?_⟩
  by_cases e : i = j
  · subst e
    rw [List.getElem?_set_self hj] at hu
    obtain rfl : v = u := Option.some.inj hu
    refine ⟨A, c, ?_, ?_, ?_, hd⟩
    · rw [List.getElem?_set_ne (by omega), List.getElem?_set_ne (by omega), List.getElem?_set_self (by omega)]
    · rw [List.getElem?_set_ne (by omega), List.getElem?_set_self (by simp; omega)]
    · rw [List.getElem?_set_self (by simp; omega)]
  · rw [List.getElem?_set_ne (fun x => e x.symm)] at hu
    obtain ⟨A2, c2, h0, h1, h2, hd2⟩ := h.2 i u hu
    refine ⟨A2, c2, ?_, ?_, ?_, hd2⟩
    · rw [List.getElem?_set_ne (by omega), List.getElem?_set_ne (by omega), List.getElem?_set_ne (by omega)]; exact h0
    · rw [List.getElem?_set_ne (by omega), List.getElem?_set_ne (by omega), List.getElem?_set_ne (by omega)]; exact h1
    · rw [List.getElem?_set_ne (by omega), List.getElem?_set_ne (by omega), List.getElem?_set_ne (by omega)]; exact h2
theorem PcR.upd {W0 w : World} {xs xs' : List Value} {ps : List Pd} (h : PcR W0 w xs ps) {j : Nat} {p : Pd} (hj : j < ps.length) (hl : xs'.length = xs.length) (ho : ∀ i, i / 8 ≠ j → xs'[i]? = xs[i]?) {A P B : Option Addr} {c k d : Nat}
    (hc : xs'[j * 8]? = some (.bool p.a.1) ∧ xs'[j * 8 + 1]? = some (.slice A p.a.2.1.length c) ∧ xs'[j * 8 + 2]? = some (.int .i64 p.a.2.2) ∧ xs'[j * 8 + 3]? = some (.int .i64 p.w) ∧ xs'[j * 8 + 4]? = some (.slice P p.cs.length k) ∧ xs'[j * 8 + 5]? = some (.bool p.er.1) ∧ xs'[j * 8 + 6]? = some (.slice B p.er.2.1.length d) ∧ xs'[j * 8 + 7]? = some (.int .i64 p.er.2.2)) (ha : Dg W0 A c p.a.2.1) (hn : CsR W0 w P k p.cs) (hb : Dg W0 B d p.er.2.1) : PcR W0 w xs' (ps.set j p) := by
  refine ⟨by rw [hl, List.length_set]; exact h.1, fun i u hu => ?_⟩
  by_cases e : i = j
  · subst e
    rw [List.getElem?_set_self hj] at hu
    obtain rfl : p = u := Option.some.inj hu
    obtain ⟨h0, h1, h2, h3, h4, h5, h6, h7⟩ := hc
    exact ⟨A, c, P, k, B, d, h0, h1, h2, h3, h4, h5, h6, h7, ha, hn, hb⟩
  · rw [List.getElem?_set_ne (fun x => e x.symm)] at hu
    obtain ⟨A2, c2, P2, k2, B2, d2, h0, h1, h2, h3, h4, h5, h6, h7, ha2, hn2, hb2⟩ := h.2 i u hu
    have oo : ∀ t, t < 8 → xs'[i * 8 + t]? = xs[i * 8 + t]? := fun t ht => ho _ (by omega)
    exact ⟨A2, c2, P2, k2, B2, d2, (oo 0 (by omega)).trans h0, (oo 1 (by omega)).trans h1, (oo 2 (by omega)).trans h2, (oo 3 (by omega)).trans h3, (oo 4 (by omega)).trans h4, (oo 5 (by omega)).trans h5, (oo 6 (by omega)).trans h6, (oo 7 (by omega)).trans h7, ha2, hn2, hb2⟩
theorem news_of {w : World} {P : Option Addr} {ps : List Pd} (hps : PsL w P ps) (m : Nat) : ∃ news : List Value, news.length = (ps.take m).length * 8 ∧ (∀ u ∈ news, u.oneCell' = true) ∧ PcR w w news (ps.take m) ∧ ((ps.take m).length ≠ 0 → ∃ ad, P = some ad ∧ ∀ j u, news[j]? = some u → w.cell? (ad.add j) = some u) := by
  by_cases h0 : (ps.take m).length = 0
  · refine ⟨[], by rw [h0]; rfl, fun u hu => by simp at hu, ⟨by rw [h0]; rfl, fun i p hp => ?_⟩, fun h => absurd h0 h⟩
    rw [List.getElem?_eq_none (by omega)] at hp; cases hp
  · have hn : ps.length ≠ 0 := by rw [List.length_take] at h0; omega
    obtain ⟨b, o, rfl, hb, hr⟩ := hps hn
    have hlt : (ps.take m).length ≤ ps.length := by rw [List.length_take]; omega
    have hp : ∀ i p, (ps.take m)[i]? = some p → ps[i]? = some p := fun i p h => by
      rw [List.getElem?_take] at h
      split at h
      · exact h
      · cases h
    have key : ∀ i p, (ps.take m)[i]? = some p → ∃ A c P k B d, (cellsAt w b o ((ps.take m).length * 8))[i * 8]? = some (.bool p.a.1) ∧ (cellsAt w b o ((ps.take m).length * 8))[i * 8 + 1]? = some (.slice A p.a.2.1.length c) ∧ (cellsAt w b o ((ps.take m).length * 8))[i * 8 + 2]? = some (.int .i64 p.a.2.2) ∧ (cellsAt w b o ((ps.take m).length * 8))[i * 8 + 3]? = some (.int .i64 p.w) ∧ (cellsAt w b o ((ps.take m).length * 8))[i * 8 + 4]? = some (.slice P p.cs.length k) ∧ (cellsAt w b o ((ps.take m).length * 8))[i * 8 + 5]? = some (.bool p.er.1) ∧ (cellsAt w b o ((ps.take m).length * 8))[i * 8 + 6]? = some (.slice B p.er.2.1.length d) ∧ (cellsAt w b o ((ps.take m).length * 8))[i * 8 + 7]? = some (.int .i64 p.er.2.2) ∧ Dg w A c p.a.2.1 ∧ CsR w w P k p.cs ∧ Dg w B d p.er.2.1 := fun i p h => by
      obtain ⟨A, c, B, d, P2, k2, e0, e1, e2, e3, e4, e5, e6, e7, ha, he, hn⟩ := hr i p (hp i p h)
      have hi : i < (ps.take m).length := by
        rcases Nat.lt_or_ge i (ps.take m).length with h1 | h1
        · exact h1
        · rw [List.getElem?_eq_none_iff.2 h1] at h; cases h
      exact ⟨A, c, P2, k2, B, d, cellsAt_get (by omega) e0, cellsAt_get (j := i * 8 + 1) (by omega) e1, cellsAt_get (j := i * 8 + 2) (by omega) e2, cellsAt_get (j := i * 8 + 3) (by omega) e3, cellsAt_get (j := i * 8 + 4) (by omega) e4, cellsAt_get (j := i * 8 + 5) (by omega) e5, cellsAt_get (j := i * 8 + 6) (by omega) e6, cellsAt_get (j := i * 8 + 7) (by omega) e7, ha, hn.csr (Below.refl _ _), he⟩
    have hlen : (cellsAt w b o ((ps.take m).length * 8)).length = (ps.take m).length * 8 := by unfold cellsAt; simp
    have each : ∀ j, j < (ps.take m).length * 8 → ∃ u, w.cell? ⟨b, o + j, none⟩ = some u ∧ u.oneCell' = true := fun j hj => by
      have hi : j / 8 < (ps.take m).length := by omega
      obtain ⟨p, hpp⟩ : ∃ p, (ps.take m)[j / 8]? = some p := ⟨_, List.getElem?_eq_getElem hi⟩
      obtain ⟨A, c, B, d, P2, k2, e0, e1, e2, e3, e4, e5, e6, e7, _⟩ := hr (j / 8) p (hp _ p hpp)
      have h8 : j % 8 = 0 ∨ j % 8 = 1 ∨ j % 8 = 2 ∨ j % 8 = 3 ∨ j % 8 = 4 ∨ j % 8 = 5 ∨ j % 8 = 6 ∨ j % 8 = 7 := by omega
      rcases h8 with h | h | h | h | h | h | h | h
      · exact ⟨_, by rw [show o + j = o + j / 8 * 8 by omega]; exact e0, rfl⟩
      · exact ⟨_, by rw [show o + j = o + j / 8 * 8 + 1 by omega]; exact e1, rfl⟩
      · exact ⟨_, by rw [show o + j = o + j / 8 * 8 + 2 by omega]; exact e2, rfl⟩
      · exact ⟨_, by rw [show o + j = o + j / 8 * 8 + 3 by omega]; exact e3, rfl⟩
      · exact ⟨_, by rw [show o + j = o + j / 8 * 8 + 4 by omega]; exact e4, rfl⟩
      · exact ⟨_, by rw [show o + j = o + j / 8 * 8 + 5 by omega]; exact e5, rfl⟩
      · exact ⟨_, by rw [show o + j = o + j / 8 * 8 + 6 by omega]; exact e6, rfl⟩
      · exact ⟨_, by rw [show o + j = o + j / 8 * 8 + 7 by omega]; exact e7, rfl⟩
    refine ⟨cellsAt w b o ((ps.take m).length * 8), hlen, fun u hu => ?_, ⟨hlen, key⟩, fun _ => ⟨⟨b, o, none⟩, rfl, fun j u hj => ?_⟩⟩
    · obtain ⟨j, hj, e⟩ := List.mem_map.1 hu
      obtain ⟨u2, h1, h2⟩ := each j (by simpa using hj)
      rw [h1] at e
      simp at e; rw [← e]; exact h2
    · have hj2 : j < (ps.take m).length * 8 := by rw [← hlen]; exact (List.getElem?_eq_some_iff.1 hj).1
      obtain ⟨u2, h1, _⟩ := each j hj2
      rw [cellsAt_get hj2 h1] at hj
      rw [Addr.add_lit, h1]; exact hj
theorem newc_of {W0 w : World} {P : Option Addr} {k : Nat} {cs : List Nm} (hcs : CsR W0 w P k cs) (m : Nat) : ∃ news : List Value, news.length = (cs.take m).length * 3 ∧ (∀ u ∈ news, u.oneCell' = true) ∧ CyR W0 news (cs.take m) ∧ ((cs.take m).length ≠ 0 → ∃ ad, P = some ad ∧ ∀ j u, news[j]? = some u → w.cell? (ad.add j) = some u) := by
  by_cases h0 : (cs.take m).length = 0
  · refine ⟨[], by rw [h0]; rfl, fun u hu => by simp at hu, ⟨by rw [h0]; rfl, fun i p hp => ?_⟩, fun h => absurd h0 h⟩
    rw [List.getElem?_eq_none (by omega)] at hp; cases hp
  · have hn : cs.length ≠ 0 := by rw [List.length_take] at h0; omega
    obtain ⟨b, o, rfl, hb, _, hr⟩ := hcs.2 hn
    have hp : ∀ i p, (cs.take m)[i]? = some p → cs[i]? = some p := fun i p h => by
      rw [List.getElem?_take] at h
      split at h
      · exact h
      · cases h
    have key : ∀ i v, (cs.take m)[i]? = some v → ∃ A c, (cellsAt w b o ((cs.take m).length * 3))[i * 3]? = some (.bool v.1) ∧ (cellsAt w b o ((cs.take m).length * 3))[i * 3 + 1]? = some (.slice A v.2.1.length c) ∧ (cellsAt w b o ((cs.take m).length * 3))[i * 3 + 2]? = some (.int .i64 v.2.2) ∧ Dg W0 A c v.2.1 := fun i v h => by
      obtain ⟨A, c, e0, e1, e2, hd⟩ := hr i v (hp i v h)
      have hi : i < (cs.take m).length := by
        rcases Nat.lt_or_ge i (cs.take m).length with h1 | h1
        · exact h1
        · rw [List.getElem?_eq_none_iff.2 h1] at h; cases h
      exact ⟨A, c, cellsAt_get (by omega) e0, cellsAt_get (j := i * 3 + 1) (by omega) e1, cellsAt_get (j := i * 3 + 2) (by omega) e2, hd⟩
    have hlen : (cellsAt w b o ((cs.take m).length * 3)).length = (cs.take m).length * 3 := by unfold cellsAt; simp
    have each : ∀ j, j < (cs.take m).length * 3 → ∃ u, w.cell? ⟨b, o + j, none⟩ = some u ∧ u.oneCell' = true := fun j hj => by
      have hi : j / 3 < (cs.take m).length := by omega
      obtain ⟨p, hpp⟩ : ∃ p, (cs.take m)[j / 3]? = some p := ⟨_, List.getElem?_eq_getElem hi⟩
      obtain ⟨A, c, e0, e1, e2, _⟩ := hr (j / 3) p (hp _ p hpp)
      have h8 : j % 3 = 0 ∨ j % 3 = 1 ∨ j % 3 = 2 := by omega
      rcases h8 with h | h | h
      · exact ⟨_, by rw [show o + j = o + j / 3 * 3 by omega]; exact e0, rfl⟩
      · exact ⟨_, by rw [show o + j = o + j / 3 * 3 + 1 by omega]; exact e1, rfl⟩
      · exact ⟨_, by rw [show o + j = o + j / 3 * 3 + 2 by omega]; exact e2, rfl⟩
    refine ⟨cellsAt w b o ((cs.take m).length * 3), hlen, fun u hu => ?_, ⟨hlen, key⟩, fun _ => ⟨⟨b, o, none⟩, rfl, fun j u hj => ?_⟩⟩
    · obtain ⟨j, hj, e⟩ := List.mem_map.1 hu
      obtain ⟨u2, h1, h2⟩ := each j (by simpa using hj)
      rw [h1] at e
      simp at e; rw [← e]; exact h2
    · have hj2 : j < (cs.take m).length * 3 := by rw [← hlen]; exact (List.getElem?_eq_some_iff.1 hj).1
      obtain ⟨u2, h1, _⟩ := each j hj2
      rw [cellsAt_get hj2 h1] at hj
      rw [Addr.add_lit, h1]; exact hj
/-- What stands in cells, when a row of the walk's own holds them. -/
theorem own_at8 {w : World} {base n size g cap : Nat} {e : TypeId} {xs : List Value} (h : w.ownsRow base e size (.slice (some ⟨g, 0, none⟩) n cap) n xs) {j : Nat} {u : Value} (hj : xs[j]? = some u) : w.cell? ⟨g, j, none⟩ = some u ∧ w.frozen? ⟨g, j, none⟩ = false := by
  have h1 := h.cells (g := g) rfl j u hj
  rw [Addr.add_lit, Nat.zero_add] at h1
  refine ⟨h1, ?_⟩
  rcases h.2 with ⟨h2, _⟩ | ⟨q, cap2, cur, h2, _, hq, _⟩
  · cases h2
  · injection h2 with e1 _ _
    injection e1 with e1; injection e1 with e1 _ _
    subst e1
    exact frozen_of_row _ _ j _ _ hq
theorem own_formT {w : World} {base n size : Nat} {e : TypeId} {v : Value} {xs : List Value} (h : w.ownsRow base e size v n xs) : ∃ X c, v = .slice X n c ∧ (n ≠ 0 → ∃ g, X = some ⟨g, 0, none⟩) := by
  rcases h.2 with ⟨rfl, h0⟩ | ⟨q, cap, cur, rfl, _⟩
  · exact ⟨none, 0, by rw [h0], fun h => absurd h0 h⟩
  · exact ⟨_, _, rfl, fun _ => ⟨q, rfl⟩⟩
theorem own_blk {w : World} {base n size g cap : Nat} {e : TypeId} {xs : List Value} (h : w.ownsRow base e size (.slice (some ⟨g, 0, none⟩) n cap) n xs) : base ≤ g ∧ ∃ cur, w.heap[g]? = some (.cells cur e (0, 0)) := by
  rcases h.2 with ⟨h2, _⟩ | ⟨q, cap2, cur, h2, hb, hq, _⟩
  · cases h2
  · injection h2 with e1 _ _
    injection e1 with e1; injection e1 with e1 _ _
    subst e1
    exact ⟨hb, cur, hq⟩
theorem own_still {w w' : World} {base n size : Nat} {e : TypeId} {v : Value} {xs : List Value} (h : w.ownsRow base e size v n xs) (hk : ∀ k, v.ownBlock = some k → w'.heap[k]? = w.heap[k]?) : w'.ownsRow base e size v n xs := by
  refine ⟨h.1, ?_⟩
  rcases h.2 with h1 | ⟨g, cap, cur, rfl, hb, hg, hr⟩
  · exact .inl h1
  · exact .inr ⟨g, cap, cur, rfl, hb, (hk g rfl).trans hg, hr⟩
end Go.Proofs.YtdmfapgclppmhaaGreatDoor
end

section
namespace Go.Proofs.YtdmfapgclppmhaaGreatDoor
open Go.RowKit
set_option linter.unusedSimpArgs false
set_option linter.unusedVariables false
theorem only_setRow (w : World) (g : Nat) (cs : Array Value) : Only g w (w.setRow g cs) := ⟨rfl, rfl, rfl, by simp, fun k hk => setRow_other w g k cs hk⟩
/-- A whole struct is stored into a box that is there. -/
theorem wpList_store_box {P : Program} {ops : Array Oper} {rest : List Oper} {o : Oper} {a : Act} {w : World} {Q : Exit → Act → World → Prop} (hgd : o.guard = none) (ty : TypeId) (x v : Operand) (ho : o.op = .store ty x v) (g : Nat) (hx : a.eval x = .pointer (some ⟨g, 0, none⟩)) (cells : Array Value) (hv : a.eval v = .agg cells) (old : Array Value) (T : TypeId) (hg : w.heap[g]? = some (.cells old T (0, 0)))
    (hi : (P.info? ty).map (·.size) = some cells.size) (hz : old.size = cells.size) (h1 : cells.all (·.oneCell') = true) (h : ∀ w', Only g w w' → w'.heap[g]? = some (.cells cells T (0, 0)) → wpList P ops Q rest (a.put o.dst undef) w') : wpList P ops Q (o :: rest) a w :=
  wpList_plain hgd fun K hK => by
    have hs := run_storeVar_row (P := P) w g T ty old cells hg hi hz h1
    unfold Oper.wp execOp
    simp only [ho, hx, hv, Instr.storeAt, Instr.sureAddr, Sem.run_bind, Sem.run_pure, Result.andThen_ok, hs]
    exact hK _ _ (h _ (only_setRow w g cells) (setRow_heap w g old cells T (0, 0) hg))
/-- A whole struct out of a box. -/
theorem wpList_load_box {P : Program} {ops : Array Oper} {rest : List Oper} {o : Oper} {a : Act} {w : World} {Q : Exit → Act → World → Prop} (hgd : o.guard = none) (ty : TypeId) (x : Operand) (ho : o.op = .load ty x) (g : Nat) (hx : a.eval x = .pointer (some ⟨g, 0, none⟩)) (cells : Array Value) (T : TypeId) (hg : w.heap[g]? = some (.cells cells T (0, 0))) (d : TypeDesc)
    (hu : P.underlying ty = some d) (hd : (match d with | .struct _ | .array _ _ => true | _ => false) = true) (hi : (P.info? ty).map (·.size) = some cells.size)
    (h : wpList P ops Q rest (a.put o.dst (.agg cells)) w) : wpList P ops Q (o :: rest) a w :=
  wpList_plain hgd fun _ hK => by
    have hl : (loadCells ⟨g, 0, none⟩ cells.size).run P w = .ok cells w := by
      have hl := run_loadCells_list (P := P) w ⟨g, 0, none⟩ cells.toList (fun j v hv => by
        rw [Addr.add_lit, Nat.zero_add]
        exact row_c hg (by simpa using hv))
      simpa using hl
    have hld : (loadVar ty ⟨g, 0, none⟩).run P w = .ok (.agg cells) w := by
      cases hq : P.info? ty with
      | none => simp [hq] at hi
      | some i =>
        have hs : i.size = cells.size := by simpa [hq] using hi
        have hagg : (isAgg ty).run P w = .ok true w := by
          unfold isAgg
          rw [Sem.run_bind, run_underlying hu w]
          cases d <;> simp_all
        simp [loadVar, Sem.run_bind, hagg, sizeOf, typeInfo, hq, hs, hl]
    unfold Oper.wp execOp
    simp only [ho, hx, Instr.loadAt, Instr.sureAddr, Sem.run_bind, Sem.run_pure, Result.andThen_ok, hld]
    exact hK _ _ h
theorem tab_one {F O W Q D x : Int} {s : Bool} {A P : Option Addr} {n c m k : Nat} : (#[.int .i64 F, .int .i64 O, .bool s, .slice A n c, .int .i64 x, .int .i64 W, .int .i64 Q, .int .i64 D, .slice P m k] : Array Value).all (·.oneCell') = true := by simp [Value.oneCell']
theorem tab_size : (Tryz.prog.info? 29).map (·.size) = some 9 := by kernel_rfl
end Go.Proofs.YtdmfapgclppmhaaGreatDoor
end

section
namespace Go.Proofs.YtdmfapgclppmhaaGreatDoor
open Go.RowKit
set_option linter.unusedSimpArgs false
set_option linter.unusedVariables false
theorem set3 (xs : List Value) {a b c : Nat} (u0 u1 u2 : Value) (h1 : a ≠ b) (h2 : a ≠ c) (h3 : b ≠ c) (ha : a < xs.length) (hb : b < xs.length) (hc : c < xs.length) : (((xs.set a u0).set b u1).set c u2).length = xs.length ∧ (((xs.set a u0).set b u1).set c u2)[a]? = some u0 ∧ (((xs.set a u0).set b u1).set c u2)[b]? = some u1 ∧ (((xs.set a u0).set b u1).set c u2)[c]? = some u2 ∧ ∀ i, i ≠ a → i ≠ b → i ≠ c → (((xs.set a u0).set b u1).set c u2)[i]? = xs[i]? := by
  refine ⟨by simp, ?_, ?_, ?_, fun i i1 i2 i3 => ?_⟩
  · rw [List.getElem?_set_ne (Ne.symm h2), List.getElem?_set_ne (Ne.symm h1), List.getElem?_set_self ha]
  · rw [List.getElem?_set_ne (Ne.symm h3), List.getElem?_set_self (by simp; omega)]
  · rw [List.getElem?_set_self (by simp; omega)]
  · rw [List.getElem?_set_ne (Ne.symm i3), List.getElem?_set_ne (Ne.symm i2), List.getElem?_set_ne (Ne.symm i1)]
theorem PcR.only {W0 w w' : World} {xs : List Value} {ps : List Pd} (h : PcR W0 w xs ps) {b : Nat} (hO : Only b w w') (hb : W0.heap.size ≤ b) {cur : Array Value} {T : TypeId} {fr : Nat × Nat} (hT : w.heap[b]? = some (.cells cur T fr)) (hne : T ≠ 26) : PcR W0 w' xs ps :=
  h.same (Nat.le_of_eq hO.size.symm) (fun k _ hk => hO.block k (fun e => by
    subst e
    rcases hk with hk | ⟨c2, f2, hk⟩
    · omega
    · rw [hT] at hk; exact hne (by injection hk with hk; injection hk)))
theorem CsR.only {W0 w w' : World} {P : Option Addr} {k : Nat} {cs : List Nm} (h : CsR W0 w P k cs) {b : Nat} (hO : Only b w w') (hb : W0.heap.size ≤ b) {cur : Array Value} {T : TypeId} {fr : Nat × Nat} (hT : w.heap[b]? = some (.cells cur T fr)) (hne : T ≠ 26) : CsR W0 w' P k cs :=
  h.same (Nat.le_of_eq hO.size.symm) (fun k _ hk => hO.block k (fun e => by
    subst e
    rcases hk with hk | ⟨c2, f2, hk⟩
    · omega
    · rw [hT] at hk; exact hne (by injection hk with hk; injection hk)))
theorem CsR.below {W0 w w' : World} {P : Option Addr} {k : Nat} {cs : List Nm} (h : CsR W0 w P k cs) (hB : Below w.heap.size w w') : CsR W0 w' P k cs := h.same hB.size (fun b h1 _ => hB.block b h1)
theorem PcR.below {W0 w w' : World} {xs : List Value} {ps : List Pd} (h : PcR W0 w xs ps) (hB : Below w.heap.size w w') : PcR W0 w' xs ps := h.same hB.size (fun b h1 _ => hB.block b h1)
theorem own_below {w w' : World} {base n size : Nat} {e : TypeId} {v : Value} {xs : List Value} (h : w.ownsRow base e size v n xs) (hB : Below w.heap.size w w') : w'.ownsRow base e size v n xs := own_still h (fun k hk => hB.block k (h.lt k hk).2)
theorem CsR.ns {W0 w : World} {P : Option Addr} {k : Nat} {cs : List Nm} (h : CsR W0 w P k cs) (hB : Below W0.heap.size W0 w) : NsL w P k cs := by
  by_cases h0 : cs.length = 0
  · have : cs = [] := List.length_eq_zero_iff.1 h0
    subst this
    exact ⟨fun _ => none, fun _ => 0, Nat.zero_le _, fun h => absurd rfl h⟩
  · obtain ⟨b, o, rfl, hb, _, hc⟩ := h.2 h0
    have key : ∀ i, ∃ Ac : Option Addr × Nat, i < cs.length → w.cell? ⟨b, o + i * 3, none⟩ = some (.bool ((cs[i]?.getD (false, [], 0)).1)) ∧ w.cell? ⟨b, o + i * 3 + 1, none⟩ = some (.slice Ac.1 ((cs[i]?.getD (false, [], 0)).2.1).length Ac.2) ∧ w.cell? ⟨b, o + i * 3 + 2, none⟩ = some (.int .i64 (cs[i]?.getD (false, [], 0)).2.2) ∧ Dg w Ac.1 Ac.2 (cs[i]?.getD (false, [], 0)).2.1 := by
      intro i
      by_cases hi : i < cs.length
      · obtain ⟨A, c, c0, c1, c2, hd⟩ := hc i cs[i] (List.getElem?_eq_getElem hi)
        refine ⟨(A, c), fun _ => ?_⟩
        have e : cs[i]?.getD (false, [], 0) = cs[i] := by rw [List.getElem?_eq_getElem hi]; rfl
        rw [e]
        exact ⟨c0, c1, c2, hd.below hB⟩
      · exact ⟨(none, 0), fun h => absurd h hi⟩
    exact ⟨fun i => (Classical.choose (key i)).1, fun i => (Classical.choose (key i)).2, h.1, fun _ => ⟨b, o, rfl, hb, fun i hi => Classical.choose_spec (key i) hi⟩⟩
theorem csr_of_own {W0 w : World} {base n cap : Nat} {Y : Option Addr} {ys : List Value} {cs : List Nm} (h : w.ownsRow base 26 3 (.slice Y n cap) n ys) (hc : CyR W0 ys cs) : CsR W0 w Y cap cs := by
  have hl : n = cs.length := by have h1 := h.1; have h2 := hc.1; omega
  rcases h.2 with ⟨h2, h0⟩ | ⟨q, cap2, cur, h2, hb, hq, h3, _⟩
  · exact ⟨by omega, fun h1 => absurd (by omega) h1⟩
  · injection h2 with e1 _ e3
    subst e1
    refine ⟨by omega, fun _ => ⟨q, 0, rfl, heap_lt hq, .inr ⟨cur, _, hq⟩, fun i v hv => ?_⟩⟩
    obtain ⟨A, c, c0, c1, c2, hd⟩ := hc.2 i v hv
    have ce : ∀ j u, ys[j]? = some u → w.cell? ⟨q, 0 + j, none⟩ = some u := fun j u hu => by
      have := h.cells (g := q) rfl j u hu
      rwa [Addr.add_lit] at this
    exact ⟨A, c, ce _ _ c0, ce _ _ c1, ce _ _ c2, hd⟩
/-- The rows of numbers of the first m pieces lie in cells of numbers. -/
def TyR (w : World) (xs : List Value) (m : Nat) : Prop := ∀ i, i < m → ∀ P n k, xs[i * 8 + 4]? = some (.slice P n k) → n ≠ 0 → ∃ b o cur fr, P = some ⟨b, o, none⟩ ∧ w.heap[b]? = some (.cells cur 26 fr)
theorem TyR.below {w w' : World} {xs : List Value} {m : Nat} (h : TyR w xs m) (hB : Below w.heap.size w w') : TyR w' xs m := fun i hi P n k hx hn => by
  obtain ⟨b, o, cur, fr, e, hc⟩ := h i hi P n k hx hn
  exact ⟨b, o, cur, fr, e, (hB.block b (heap_lt hc)).trans hc⟩
theorem TyR.only {w w' : World} {xs : List Value} {m b : Nat} (h : TyR w xs m) (hO : Only b w w') {cur : Array Value} {T : TypeId} {fr : Nat × Nat} (hT : w.heap[b]? = some (.cells cur T fr)) (hne : T ≠ 26) : TyR w' xs m := fun i hi P n k hx hn => by
  obtain ⟨b2, o, cur2, fr2, e, hc⟩ := h i hi P n k hx hn
  refine ⟨b2, o, cur2, fr2, e, (hO.block b2 (fun e2 => ?_)).trans hc⟩
  subst e2
  rw [hT] at hc; exact hne (by injection hc with hc; injection hc)
theorem TyR.xs {w : World} {xs ys : List Value} {m : Nat} (h : TyR w xs m) (hx : ∀ i, i < m → ys[i * 8 + 4]? = xs[i * 8 + 4]?) : TyR w ys m := fun i hi P n k hc hn => h i hi P n k ((hx i hi).symm.trans hc) hn
/-- Numbers, pieces in cells of their own kind. -/
def CsT (w : World) (P : Option Addr) (k : Nat) (cs : List Nm) : Prop := cs.length ≤ k ∧ (cs.length ≠ 0 → ∃ b o cur fr, P = some ⟨b, o, none⟩ ∧ w.heap[b]? = some (.cells cur 26 fr) ∧ ∀ (i : Nat) v, cs[i]? = some v → ∃ A c, w.cell? ⟨b, o + i * 3, none⟩ = some (.bool v.1) ∧ w.cell? ⟨b, o + i * 3 + 1, none⟩ = some (.slice A v.2.1.length c) ∧ w.cell? ⟨b, o + i * 3 + 2, none⟩ = some (.int .i64 v.2.2) ∧ Dg w A c v.2.1)
def PsT (w : World) (P : Option Addr) (ps : List Pd) : Prop := ps.length ≠ 0 → ∃ b o cur fr, P = some ⟨b, o, none⟩ ∧ w.heap[b]? = some (.cells cur 49 fr) ∧ ∀ (i : Nat) p, ps[i]? = some p → ∃ A c B d P k, w.cell? ⟨b, o + i * 8, none⟩ = some (.bool p.a.1) ∧ w.cell? ⟨b, o + i * 8 + 1, none⟩ = some (.slice A p.a.2.1.length c) ∧ w.cell? ⟨b, o + i * 8 + 2, none⟩ = some (.int .i64 p.a.2.2) ∧ w.cell? ⟨b, o + i * 8 + 3, none⟩ = some (.int .i64 p.w) ∧ w.cell? ⟨b, o + i * 8 + 4, none⟩ = some (.slice P p.cs.length k) ∧ w.cell? ⟨b, o + i * 8 + 5, none⟩ = some (.bool p.er.1) ∧ w.cell? ⟨b, o + i * 8 + 6, none⟩ = some (.slice B p.er.2.1.length d) ∧ w.cell? ⟨b, o + i * 8 + 7, none⟩ = some (.int .i64 p.er.2.2) ∧ Dg w A c p.a.2.1 ∧ Dg w B d p.er.2.1 ∧ CsT w P k p.cs
theorem CsT.ns {w : World} {P : Option Addr} {k : Nat} {cs : List Nm} (h : CsT w P k cs) : NsL w P k cs := by
  refine CsR.ns (W0 := w) ⟨h.1, fun h0 => ?_⟩ (Below.refl _ _)
  obtain ⟨b, o, cur, fr, e, hc, hr⟩ := h.2 h0
  exact ⟨b, o, e, heap_lt hc, .inl (heap_lt hc), hr⟩
theorem PsT.ps {w : World} {P : Option Addr} {ps : List Pd} (h : PsT w P ps) : PsL w P ps := fun h0 => by
  obtain ⟨b, o, cur, fr, e, hc, hr⟩ := h h0
  refine ⟨b, o, e, heap_lt hc, fun i p hp => ?_⟩
  obtain ⟨A, c, B, d, P2, k, e0, e1, e2, e3, e4, e5, e6, e7, ha, he, hn⟩ := hr i p hp
  exact ⟨A, c, B, d, P2, k, e0, e1, e2, e3, e4, e5, e6, e7, ha, he, hn.ns⟩
theorem PsT.keep {w w' : World} {P : Option Addr} {ps : List Pd} (h : PsT w P ps) (hk : Kept w w') (hb : ∀ (b : Nat) (cur : Array Value) (T : TypeId) (fr : Nat × Nat), w.heap[b]? = some (.cells cur T fr) → (T = 49 ∨ T = 26) → w'.heap[b]? = some (.cells cur T fr)) : PsT w' P ps := fun h0 => by
  obtain ⟨b, o, cur, fr, e, hc, hr⟩ := h h0
  have hc' := hb b cur _ fr hc (.inl rfl)
  have ce : ∀ j, w'.cell? ⟨b, j, none⟩ = w.cell? ⟨b, j, none⟩ := fun j => World.cell?_of_block (a := ⟨b, j, none⟩) (hc'.trans hc.symm)
  refine ⟨b, o, cur, fr, e, hc', fun i p hp => ?_⟩
  obtain ⟨A, c, B, d, P2, k, e0, e1, e2, e3, e4, e5, e6, e7, ha, he, hn⟩ := hr i p hp
  refine ⟨A, c, B, d, P2, k, (ce _).trans e0, (ce _).trans e1, (ce _).trans e2, (ce _).trans e3, (ce _).trans e4, (ce _).trans e5, (ce _).trans e6, (ce _).trans e7, ha.kept hk, he.kept hk, hn.1, fun h1 => ?_⟩
  obtain ⟨b2, o2, cur2, fr2, e8, hc2, hr2⟩ := hn.2 h1
  have hc2' := hb b2 cur2 _ fr2 hc2 (.inr rfl)
  have ce2 : ∀ j, w'.cell? ⟨b2, j, none⟩ = w.cell? ⟨b2, j, none⟩ := fun j => World.cell?_of_block (a := ⟨b2, j, none⟩) (hc2'.trans hc2.symm)
  refine ⟨b2, o2, cur2, fr2, e8, hc2', fun i v hv => ?_⟩
  obtain ⟨A3, c3, x0, x1, x2, hd⟩ := hr2 i v hv
  exact ⟨A3, c3, (ce2 _).trans x0, (ce2 _).trans x1, (ce2 _).trans x2, hd.kept hk⟩
theorem PsT.below {w w' : World} {P : Option Addr} {ps : List Pd} (h : PsT w P ps) (hB : Below w.heap.size w w') : PsT w' P ps := h.keep (Kept.below hB) (fun b cur T fr hc _ => (hB.block b (heap_lt hc)).trans hc)
theorem PsT.only {w w' : World} {P : Option Addr} {ps : List Pd} (h : PsT w P ps) {g : Nat} (hO : Only g w w') {cur : Array Value} {T : TypeId} (hT : w.heap[g]? = some (.cells cur T (0, 0))) (hz : ∀ (i : Nat) (n : Int), cur[i]? ≠ some (.int .u32 n)) (h1 : T ≠ 49) (h2 : T ≠ 26) : PsT w' P ps :=
  h.keep (hO.kept hT hz) (fun b cur2 T2 fr2 hc hT2 => (hO.block b (fun e => by
    subst e
    rw [hT] at hc
    injection hc with hc; injection hc with _ e2 _
    rcases hT2 with e3 | e3
    · exact h1 (e2.trans e3)
    · exact h2 (e2.trans e3))).trans hc)
theorem pst_of_own {W0 w : World} {base n cap : Nat} {X : Option Addr} {xs : List Value} {ps : List Pd} (h : w.ownsRow base 49 8 (.slice X n cap) n xs) (hp : PcR W0 w xs ps) (hB : Below W0.heap.size W0 w) (hy : TyR w xs n) : PsT w X ps := by
  intro hn
  have hl : n = ps.length := by have h1 := h.1; have h2 := hp.1; omega
  rcases h.2 with ⟨h2, h0⟩ | ⟨q, cap2, cur, h2, hb, hq, h3, _⟩
  · omega
  · injection h2 with e1 _ e3
    subst e1
    refine ⟨q, 0, cur, _, rfl, hq, fun i p hip => ?_⟩
    have hi : i < n := by
      rcases Nat.lt_or_ge i ps.length with h1 | h1
      · omega
      · rw [List.getElem?_eq_none_iff.2 h1] at hip; cases hip
    obtain ⟨A, c, P, k, B, d, c0, c1, c2, c3, c4, c5, c6, c7, ha, hcs, hb2⟩ := hp.2 i p hip
    have ce : ∀ j u, xs[j]? = some u → w.cell? ⟨q, 0 + j, none⟩ = some u := fun j u hu => by
      have := h.cells (g := q) rfl j u hu
      rwa [Addr.add_lit] at this
    refine ⟨A, c, B, d, P, k, ce _ _ c0, ce _ _ c1, ce _ _ c2, ce _ _ c3, ce _ _ c4, ce _ _ c5, ce _ _ c6, ce _ _ c7, ha.below hB, hb2.below hB, hcs.1, fun h1 => ?_⟩
    obtain ⟨b, o, cur3, fr3, e8, hc3⟩ := hy i hi P _ k c4 h1
    obtain ⟨b2, o2, e9, _, _, hr⟩ := hcs.2 h1
    rw [e8] at e9
    injection e9 with e9; injection e9 with e10 e11 _
    subst e10 e11
    refine ⟨b, o, cur3, fr3, e8, hc3, fun i2 v hv => ?_⟩
    obtain ⟨A3, c3', x0, x1, x2, hd⟩ := hr i2 v hv
    exact ⟨A3, c3', x0, x1, x2, hd.below hB⟩
theorem own_neT {w : World} {base n size k : Nat} {e : TypeId} {v : Value} {xs : List Value} (h : w.ownsRow base e size v n xs) {cs : Array Value} {T : TypeId} {fr : Nat × Nat} (hr : w.heap[k]? = some (.cells cs T fr)) (hT : T ≠ e) : v.ownBlock ≠ some k := by
  intro ek
  rcases h.2 with ⟨rfl, _⟩ | ⟨q, cap, cur, rfl, _, hq, _⟩
  · cases ek
  · obtain rfl : q = k := by simpa [Value.ownBlock] using ek
    rw [hq] at hr
    exact hT (by injection hr with hr; injection hr with _ h2 _; exact h2.symm)
theorem cell_ltA {w : World} {p : Addr} {v : Value} (h : w.cell? p = some v) : p.block < w.heap.size := by
  rcases Nat.lt_or_ge p.block w.heap.size with h' | h'
  · exact h'
  · simp [World.cell?, Array.getElem?_eq_none h'] at h
theorem NXB {w w3 : World} {P : Option Addr} {n : Nat} {news : List Value} (h : n ≠ 0 → ∃ ad, P = some ad ∧ ∀ j u, news[j]? = some u → w.cell? (ad.add j) = some u) (hB : Below w.heap.size w w3) (h0 : n ≠ 0) : ∃ ad, P = some ad ∧ ∀ j u, news[j]? = some u → w3.cell? (ad.add j) = some u := by
  obtain ⟨ad, e, hc⟩ := h h0
  refine ⟨ad, e, fun j u hj => ?_⟩
  have h1 := hc j u hj
  have hb : (ad.add j).block < w.heap.size := cell_ltA h1
  exact (hB.cell (p := ad.add j) hb).trans h1

set_option maxHeartbeats 8000000 in
set_option maxRecDepth 100000 in
theorem trims_any (A P : Option Addr) (c k : Nat) (F O W Q D : Int) (a : Nm) (ps : List Pd) (w : World) (h : Dg w A c a.2.1) (hps : PsL w P ps) (hk : ps.length ≤ k) (hk2 : ps.length ≤ 9223372036854775807) (hk3 : a.2.1.length ≤ 9223372036854775807) :
    Calls Tryz.prog 6 #[.agg #[.int .i64 F, .int .i64 O, .bool a.1, .slice A a.2.1.length c, .int .i64 a.2.2, .int .i64 W, .int .i64 Q, .int .i64 D, .slice P ps.length k]] w fun e w' => ∃ P2 k2, e = .returned (.agg #[.int .i64 F, .int .i64 O, .bool a.1, .slice A (a.2.1.take 8).length c, .int .i64 a.2.2, .int .i64 W, .int .i64 Q, .int .i64 D, .slice P2 ((ps.take 40).map cutP).length k2]) ∧ PsT w' P2 ((ps.take 40).map cutP) ∧ Below w.heap.size w w' := by
  have HD := Lib.hid h
  obtain ⟨n, hn⟩ : ∃ n, (ps.take 40).length = n := ⟨_, rfl⟩
  have HNE := Lib.hid hn
  have hmin : min (ps.length : Int) 40 = (n : Int) := by rw [← hn, List.length_take]; omega
  have n0 : (0 : Int) ≤ (n : Int) := by omega
  have n1 : (n : Int) ≤ (k : Int) := by rw [← hn, List.length_take]; omega
  have NB := Lib.hid (show n ≤ 40 by rw [← hn, List.length_take]; omega)
  obtain ⟨news, hnl, hno, hnc, hnx⟩ := news_of hps 40
  rw [hn] at hnl hnx
  have HNL := Lib.hid hnl
  have HNO := Lib.hid hno
  have HNC := Lib.hid hnc
  have HNX := Lib.hid hnx
  have C8 := Lib.hid (And.intro (show min (a.2.1.length : Int) 8 = ((a.2.1.take 8).length : Int) by rw [List.length_take]; omega) (show (a.2.1.take 8).length ≤ c by have := h.1; rw [List.length_take]; omega))
  obtain ⟨qs, hqs⟩ : ∃ l, ps.take 40 = l := ⟨_, rfl⟩
  rw [hqs] at HNE HNC ⊢
  clear hqs
  obtain ⟨i0, hi, hz0, hz1, hz2⟩ := pc_info
  obtain ⟨j0, hj, hy0, hy1, hy2⟩ := dy_info
  have II := Lib.hid (And.intro hi (And.intro hz0 (And.intro hz1 hz2)))
  have JJ := Lib.hid (And.intro hj (And.intro hy0 (And.intro hy1 hy2)))
  clear h hps hk hk3 hn hnl hno hnc hnx hi hz0 hz1 hz2 hj hy0 hy1 hy2
  obtain ⟨s, ds, ax⟩ := a
  dsimp only at *
  obtain ⟨es, hes⟩ : ∃ l, ds.take 8 = l := ⟨_, rfl⟩
  have HES := Lib.hid hes
  rw [hes] at C8 ⊢
  clear hes
  go_enter Tryz.func6, Tryz.ntmps6
  go_wp2_with fail
  obtain ⟨v1, hW⟩ : ∃ V : World, (w.alloc (.cells #[.int .i64 F, .int .i64 O, .bool s, .slice A ds.length c, .int .i64 ax, .int .i64 W, .int .i64 Q, .int .i64 D, .slice P ps.length k] 29)).alloc (.cells #[.int .i64 0, .int .i64 0, .bool false, .slice none 0 0, .int .i64 0, .int .i64 0, .int .i64 0, .int .i64 0, .slice none 0 0] 29) = V := ⟨_, rfl⟩
  rw [hW]
  have B1 := Lib.hid (show Below w.heap.size w v1 by rw [← hW]; exact ((Below.refl _ _).alloc (by simp <;> omega) _).alloc (by simp <;> omega) _)
  have T1 := Lib.hid (show v1.heap[w.heap.size]? = some (.cells #[.int .i64 F, .int .i64 O, .bool s, .slice A ds.length c, .int .i64 ax, .int .i64 W, .int .i64 Q, .int .i64 D, .slice P ps.length k] 29 (0, 0)) by rw [← hW, heap_alloc_old _ _ (by simp)]; exact heap_alloc_new _ _)
  have R1 := Lib.hid (show v1.heap[w.heap.size + 1]? = some (.cells #[.int .i64 0, .int .i64 0, .bool false, .slice none 0 0, .int .i64 0, .int .i64 0, .int .i64 0, .int .i64 0, .slice none 0 0] 29 (0, 0)) by rw [← hW]; have := heap_alloc_new (w.alloc (.cells #[.int .i64 F, .int .i64 O, .bool s, .slice A ds.length c, .int .i64 ax, .int .i64 W, .int .i64 Q, .int .i64 D, .slice P ps.length k] 29)) (.cells #[.int .i64 0, .int .i64 0, .bool false, .slice none 0 0, .int .i64 0, .int .i64 0, .int .i64 0, .int .i64 0, .slice none 0 0] 29); simpa using this)
  clear hW
  refine (cut_l (A := A) (c := c) (s := s) (xs := ds) (ts := es) (x := ax) (N := 8) C8.out.1 C8.out.2).mono ?_
  rintro e w2 ⟨rfl, hb⟩
  have T2 := co T1 hb
  have R2 := co R1 hb
  have B2 := Lib.hid (B1.out.trans (hb.mono B1.out.size))
  clear hb
  have f0 := row_c (i := 0) T2.out rfl
  have z0 := frozen_of_row _ _ 0 _ _ T2.out
  have f1 := row_c (i := 1) T2.out rfl
  have z1 := frozen_of_row _ _ 1 _ _ T2.out
  have f2 := row_c (i := 2) T2.out rfl
  have z2 := frozen_of_row _ _ 2 _ _ T2.out
  have f3 := row_c (i := 3) T2.out rfl
  have z3 := frozen_of_row _ _ 3 _ _ T2.out
  have f4 := row_c (i := 4) T2.out rfl
  have z4 := frozen_of_row _ _ 4 _ _ T2.out
  have f5 := row_c (i := 5) T2.out rfl
  have z5 := frozen_of_row _ _ 5 _ _ T2.out
  have f6 := row_c (i := 6) T2.out rfl
  have z6 := frozen_of_row _ _ 6 _ _ T2.out
  have f7 := row_c (i := 7) T2.out rfl
  have z7 := frozen_of_row _ _ 7 _ _ T2.out
  have f8 := row_c (i := 8) T2.out rfl
  have z8 := frozen_of_row _ _ 8 _ _ T2.out
  have xt := heap_lt T2.out
  go_upto_region 2 with fail
  clear f0 z0 f1 z1 f2 z2 f3 z3 f4 z4 f5 z5 f6 z6 f7 z7 f8 z8 xt
  obtain ⟨w3, hW⟩ : ∃ V : World, ((w2.setCell ⟨w.heap.size, 2, none⟩ (.bool s)).setCell ⟨w.heap.size, 3, none⟩ (.slice A es.length c)).setCell ⟨w.heap.size, 4, none⟩ (.int .i64 ax) = V := ⟨_, rfl⟩
  rw [hW]
  have hO : Only w.heap.size w2 w3 := by rw [← hW]; exact (((Only.refl _ w2).setCell 2 _).setCell 3 _).setCell 4 _
  have T3 := Lib.hid (show w3.heap[w.heap.size]? = some (.cells #[.int .i64 F, .int .i64 O, .bool s, .slice A es.length c, .int .i64 ax, .int .i64 W, .int .i64 Q, .int .i64 D, .slice P ps.length k] 29 (0, 0)) by rw [← hW]; exact heap_setCell_same _ _ 4 _ _ _ (heap_setCell_same _ _ 3 _ _ _ (heap_setCell_same _ _ 2 _ _ _ T2.out)))
  have R3 := Lib.hid ((hO.block _ (by omega)).trans R2.out)
  have B3 := Lib.hid (hO.below B2.out (Nat.le_refl _))
  clear hW hO
  have f8 := row_c (i := 8) T3.out rfl
  have hb3 := B3.out.size
  go_wp2_with (at_builtin; refine wpList_append_copy rfl _ _ 27 49 rfl w.heap.size i0 zpc 8 112 Tryz.underlying27 II.out.1 II.out.2.1 II.out.2.2.1 II.out.2.2.2 rfl (by decide) P n k news rfl rfl HNL.out (fun h0 => NXB HNX.out B3.out h0) HNO.out (by have := NB.out; unfold maxLen; omega) (by have := NB.out; omega) hb3 ?_)
  intro v4 w4 hown hb
  obtain ⟨X, cap, rfl, hX⟩ := own_formT hown
  have O4 := Lib.hid hown
  have P4 := Lib.hid (show PcR w w4 news ((List.map cutP (qs.take 0)) ++ qs.drop 0) by simpa using HNC.out.same (B3.out.trans (hb.mono B3.out.size)).size (fun b h1 _ => (B3.out.trans (hb.mono B3.out.size)).block b h1))
  have T4 := co T3 hb
  have R4 := co R3 hb
  have B4 := Lib.hid (B3.out.trans (hb.mono B3.out.size))
  have HXX := Lib.hid hX
  clear hown hb hX f8 hb3 hmin n0 n1
  go_wp2_with fail
  go_loopw [4] (fun i wr => ∃ (j : Nat) (xs : List Value), j ≤ n ∧ i = .int .i64 j ∧ Hid (wr.ownsRow w.heap.size 49 8 (.slice X n cap) n xs) ∧ Hid (PcR w wr xs ((qs.take j).map cutP ++ qs.drop j) ∧ TyR wr xs j) ∧ Hid (Below w.heap.size w wr) ∧ Hid (wr.heap[w.heap.size]? = some (.cells #[.int .i64 F, .int .i64 O, .bool s, .slice A es.length c, .int .i64 ax, .int .i64 W, .int .i64 Q, .int .i64 D, .slice P ps.length k] 29 (0, 0))) ∧ Hid (wr.heap[w.heap.size + 1]? = some (.cells #[.int .i64 0, .int .i64 0, .bool false, .slice none 0 0, .int .i64 0, .int .i64 0, .int .i64 0, .int .i64 0, .slice none 0 0] 29 (0, 0)))) (fun i _ => n - (intOf i).toNat)
  case atStart => exact ⟨0, news, Nat.zero_le _, rfl, O4, Lib.hid ⟨P4.out, fun i hi => absurd hi (Nat.not_lt_zero i)⟩, B4, T4, R4⟩
  case round =>
    obtain ⟨j, xs, hj, rfl, HO, HPY, HB, HTT, HRR⟩ := hrel
    have HP := Lib.hid HPY.out.1
    have HTY := Lib.hid HPY.out.2
    clear HPY
    by_cases hlt : j < n
    · obtain ⟨lb, rfl⟩ := HXX.out (by omega)
      obtain ⟨p, hp⟩ : ∃ p, qs[j]? = some p := ⟨_, List.getElem?_eq_getElem (by rw [HNE.out]; exact hlt)⟩
      have HPQ := Lib.hid hp
      obtain ⟨A1, c1, P1, k1, B1, d1, e0, e1, e2, e3, e4, e5, e6, e7, hda, hcs, hde⟩ := HP.out.2 j p (mix_at cutP qs j hp)
      have HXL := Lib.hid (show xs.length = n * 8 by rw [HP.out.1]; simp; rw [HNE.out]; omega)
      have HE := Lib.hid (And.intro e0 (And.intro e1 (And.intro e2 (And.intro e3 (And.intro e4 (And.intro e5 (And.intro e6 e7)))))))
      obtain ⟨x1, hx1⟩ : ∃ l, p.a.2.1.take 8 = l := ⟨_, rfl⟩
      obtain ⟨x2, hx2⟩ : ∃ l, p.er.2.1.take 8 = l := ⟨_, rfl⟩
      have CA := Lib.hid (And.intro (show min (p.a.2.1.length : Int) 8 = (x1.length : Int) by rw [← hx1, List.length_take]; omega) (show x1.length ≤ c1 by have := hda.1; rw [← hx1, List.length_take]; omega))
      have CE := Lib.hid (And.intro (show min (p.er.2.1.length : Int) 8 = (x2.length : Int) by rw [← hx2, List.length_take]; omega) (show x2.length ≤ d1 by have := hde.1; rw [← hx2, List.length_take]; omega))
      have HA1 := Lib.hid (show Dg w A1 c1 x1 by rw [← hx1]; exact hda.take 8)
      have HE1 := Lib.hid (show Dg w B1 d1 x2 by rw [← hx2]; exact hde.take 8)
      have HX1 := Lib.hid hx1
      have HX2 := Lib.hid hx2
      have HCS := Lib.hid hcs
      have HDA := Lib.hid hda
      have HDE := Lib.hid hde
      have HLT := Lib.hid hlt
      have LB := Lib.hid (own_blk HO.out)
      have hjn : ((j : Nat) : Int) < (n : Int) := by omega
      clear hp e0 e1 e2 e3 e4 e5 e6 e7 hda hcs hde hx1 hx2
      obtain ⟨g0, y0⟩ := own_at8 HO.out HE.out.1
      obtain ⟨g1, y1⟩ := own_at8 HO.out HE.out.2.1
      obtain ⟨g2, y2⟩ := own_at8 HO.out HE.out.2.2.1
      go_wp2_with fail
      clear g0 g1 g2 y0 y1 y2
      refine (cut_l (A := A1) (c := c1) (s := p.a.1) (xs := p.a.2.1) (ts := x1) (x := p.a.2.2) (N := 8) CA.out.1 CA.out.2).mono ?_
      rintro e wa ⟨rfl, hb⟩
      have OA := Lib.hid (own_still HO.out (fun k hk => hb.block k (HO.out.lt k hk).2))
      have PA := Lib.hid (HP.out.same hb.size (fun b h1 _ => hb.block b h1))
      have BA := Lib.hid (HB.out.trans (hb.mono HB.out.size))
      have HWA := Lib.hid hb
      have TA := co HTT hb
      have RA := co HRR hb
      clear hb
      obtain ⟨g0, y0⟩ := own_at8 OA.out HE.out.1
      obtain ⟨g1, y1⟩ := own_at8 OA.out HE.out.2.1
      obtain ⟨g2, y2⟩ := own_at8 OA.out HE.out.2.2.1
      go_upto_region 7 with fail
      clear g0 g1 g2 y0 y1 y2
      obtain ⟨wb, hW⟩ : ∃ V : World, ((wa.setCell ⟨lb, j * 8, none⟩ (.bool p.a.1)).setCell ⟨lb, j * 8 + 1, none⟩ (.slice A1 x1.length c1)).setCell ⟨lb, j * 8 + 2, none⟩ (.int .i64 p.a.2.2) = V := ⟨_, rfl⟩
      rw [hW]
      obtain ⟨xb, hxb⟩ : ∃ l, ((xs.set (j * 8) (.bool p.a.1)).set (j * 8 + 1) (.slice A1 x1.length c1)).set (j * 8 + 2) (.int .i64 p.a.2.2) = l := ⟨_, rfl⟩
      have S3 := set3 xs (a := j * 8) (b := j * 8 + 1) (c := j * 8 + 2) (.bool p.a.1) (.slice A1 x1.length c1) (.int .i64 p.a.2.2) (by omega) (by omega) (by omega) (by have := HXL.out; omega) (by have := HXL.out; omega) (by have := HXL.out; omega)
      rw [hxb] at S3
      have OB := Lib.hid (show wb.ownsRow w.heap.size 49 8 (.slice (some ⟨lb, 0, none⟩) n cap) n xb by rw [← hW, ← hxb]; exact own_upd (own_upd (own_upd OA.out _) _) _)
      have hO : Only lb wa wb := by rw [← hW]; exact (((Only.refl lb wa).setCell _ _).setCell _ _).setCell _ _
      obtain ⟨hlb, cura, hcura⟩ := own_blk OA.out
      have hjl : j < ((qs.take j).map cutP ++ qs.drop j).length := by simp; rw [HNE.out]; omega
      have PB := Lib.hid (PcR.upd (PA.out.only hO hlb hcura (by decide)) (j := j) (p := ⟨(p.a.1, x1, p.a.2.2), p.w, p.cs, p.er⟩) hjl S3.1 (fun i hi => S3.2.2.2.2 i (by omega) (by omega) (by omega)) (A := A1) (c := c1) (P := P1) (k := k1) (B := B1) (d := d1) ⟨S3.2.1, S3.2.2.1, S3.2.2.2.1, (S3.2.2.2.2 _ (by omega) (by omega) (by omega)).trans HE.out.2.2.2.1, (S3.2.2.2.2 _ (by omega) (by omega) (by omega)).trans HE.out.2.2.2.2.1, (S3.2.2.2.2 _ (by omega) (by omega) (by omega)).trans HE.out.2.2.2.2.2.1, (S3.2.2.2.2 _ (by omega) (by omega) (by omega)).trans HE.out.2.2.2.2.2.2.1, (S3.2.2.2.2 _ (by omega) (by omega) (by omega)).trans HE.out.2.2.2.2.2.2.2⟩ HA1.out ((HCS.out.same (by have := HWA.out.size; exact this) (fun b h1 _ => HWA.out.block b h1)).only hO hlb hcura (by decide)) HDE.out)
      have EB := Lib.hid (And.intro S3.2.1 (And.intro S3.2.2.1 (And.intro S3.2.2.2.1 (And.intro ((S3.2.2.2.2 (j * 8 + 3) (by omega) (by omega) (by omega)).trans HE.out.2.2.2.1) (And.intro ((S3.2.2.2.2 (j * 8 + 4) (by omega) (by omega) (by omega)).trans HE.out.2.2.2.2.1) (And.intro ((S3.2.2.2.2 (j * 8 + 5) (by omega) (by omega) (by omega)).trans HE.out.2.2.2.2.2.1) (And.intro ((S3.2.2.2.2 (j * 8 + 6) (by omega) (by omega) (by omega)).trans HE.out.2.2.2.2.2.2.1) ((S3.2.2.2.2 (j * 8 + 7) (by omega) (by omega) (by omega)).trans HE.out.2.2.2.2.2.2.2))))))))
      have LBX := Lib.hid (show xb.length = n * 8 by rw [S3.1, HXL.out])
      have BB := Lib.hid (hO.below BA.out hlb)
      have TB := Lib.hid ((hO.block _ (fun e => by have := TA.out; rw [e, hcura] at this; injection this with h1; injection h1 with _ h2; exact absurd h2 (by decide))).trans TA.out)
      have RB := Lib.hid ((hO.block _ (fun e => by have := RA.out; rw [e, hcura] at this; injection this with h1; injection h1 with _ h2; exact absurd h2 (by decide))).trans RA.out)
      have YB := Lib.hid (((HTY.out.below HWA.out).only hO hcura (by decide)).xs (fun i hi => S3.2.2.2.2 _ (by omega) (by omega) (by omega)))
      have CSB := Lib.hid ((HCS.out.same (by have := HWA.out.size; exact this) (fun b h1 _ => HWA.out.block b h1)).only hO hlb hcura (by decide))
      clear hW hxb S3 hO hlb hcura hjl
      obtain ⟨g5, y5⟩ := own_at8 OB.out EB.out.2.2.2.2.2.1
      obtain ⟨g6, y6⟩ := own_at8 OB.out EB.out.2.2.2.2.2.2.1
      obtain ⟨g7, y7⟩ := own_at8 OB.out EB.out.2.2.2.2.2.2.2
      go_wp2_with fail
      clear g5 g6 g7 y5 y6 y7
      refine (cut_l (A := B1) (c := d1) (s := p.er.1) (xs := p.er.2.1) (ts := x2) (x := p.er.2.2) (N := 8) CE.out.1 CE.out.2).mono ?_
      rintro e wc ⟨rfl, hb⟩
      have OC := Lib.hid (own_below OB.out hb)
      have PC := Lib.hid (PB.out.below hb)
      have BC := Lib.hid (BB.out.trans (hb.mono BB.out.size))
      have TC := co TB hb
      have RC := co RB hb
      have CSC := Lib.hid (CSB.out.below hb)
      have YC := Lib.hid (YB.out.below hb)
      clear hb
      obtain ⟨g5, y5⟩ := own_at8 OC.out EB.out.2.2.2.2.2.1
      obtain ⟨g6, y6⟩ := own_at8 OC.out EB.out.2.2.2.2.2.2.1
      obtain ⟨g7, y7⟩ := own_at8 OC.out EB.out.2.2.2.2.2.2.2
      go_upto_region 8 with (fail)
      clear g5 g6 g7 y5 y6 y7
      obtain ⟨wd, hW⟩ : ∃ V : World, ((wc.setCell ⟨lb, j * 8 + 5, none⟩ (.bool p.er.1)).setCell ⟨lb, j * 8 + 6, none⟩ (.slice B1 x2.length d1)).setCell ⟨lb, j * 8 + 7, none⟩ (.int .i64 p.er.2.2) = V := ⟨_, rfl⟩
      rw [hW]
      obtain ⟨xd, hxd⟩ : ∃ l, ((xb.set (j * 8 + 5) (.bool p.er.1)).set (j * 8 + 6) (.slice B1 x2.length d1)).set (j * 8 + 7) (.int .i64 p.er.2.2) = l := ⟨_, rfl⟩
      have S3 := set3 xb (a := j * 8 + 5) (b := j * 8 + 6) (c := j * 8 + 7) (.bool p.er.1) (.slice B1 x2.length d1) (.int .i64 p.er.2.2) (by omega) (by omega) (by omega) (by have := LBX.out; omega) (by have := LBX.out; omega) (by have := LBX.out; omega)
      rw [hxd] at S3
      have OD := Lib.hid (show wd.ownsRow w.heap.size 49 8 (.slice (some ⟨lb, 0, none⟩) n cap) n xd by rw [← hW, ← hxd]; exact own_upd (own_upd (own_upd OC.out _) _) _)
      have hO : Only lb wc wd := by rw [← hW]; exact (((Only.refl lb wc).setCell _ _).setCell _ _).setCell _ _
      obtain ⟨hlb, cura, hcura⟩ := own_blk OC.out
      have hjl : j < (((qs.take j).map cutP ++ qs.drop j).set j ⟨(p.a.1, x1, p.a.2.2), p.w, p.cs, p.er⟩).length := by simp; rw [HNE.out]; omega
      have CSD := Lib.hid (CSC.out.only hO hlb hcura (by decide))
      have YD := Lib.hid ((YC.out.only hO hcura (by decide)).xs (fun i hi => S3.2.2.2.2 _ (by omega) (by omega) (by omega)))
      have ED := Lib.hid (And.intro ((S3.2.2.2.2 (j * 8) (by omega) (by omega) (by omega)).trans EB.out.1) (And.intro ((S3.2.2.2.2 (j * 8 + 1) (by omega) (by omega) (by omega)).trans EB.out.2.1) (And.intro ((S3.2.2.2.2 (j * 8 + 2) (by omega) (by omega) (by omega)).trans EB.out.2.2.1) (And.intro ((S3.2.2.2.2 (j * 8 + 3) (by omega) (by omega) (by omega)).trans EB.out.2.2.2.1) (And.intro ((S3.2.2.2.2 (j * 8 + 4) (by omega) (by omega) (by omega)).trans EB.out.2.2.2.2.1) (And.intro S3.2.1 (And.intro S3.2.2.1 S3.2.2.2.1)))))))
      have PD := Lib.hid (PcR.upd (PC.out.only hO hlb hcura (by decide)) (j := j) (p := ⟨(p.a.1, x1, p.a.2.2), p.w, p.cs, (p.er.1, x2, p.er.2.2)⟩) hjl S3.1 (fun i hi => S3.2.2.2.2 i (by omega) (by omega) (by omega)) (A := A1) (c := c1) (P := P1) (k := k1) (B := B1) (d := d1) ED.out HA1.out CSD.out HE1.out)
      have LDX := Lib.hid (show xd.length = n * 8 by rw [S3.1, LBX.out])
      have BD := Lib.hid (hO.below BC.out hlb)
      have TD := Lib.hid ((hO.block _ (fun e => by have := TC.out; rw [e, hcura] at this; injection this with h1; injection h1 with _ h2; exact absurd h2 (by decide))).trans TC.out)
      have RD := Lib.hid ((hO.block _ (fun e => by have := RC.out; rw [e, hcura] at this; injection this with h1; injection h1 with _ h2; exact absurd h2 (by decide))).trans RC.out)
      clear hW hxd S3 hO hlb hcura hjl
      rw [List.set_set] at PD
      obtain ⟨cs2, hcs2⟩ : ∃ l, p.cs.take 20 = l := ⟨_, rfl⟩
      obtain ⟨q, hq⟩ : ∃ n, cs2.length = n := ⟨_, rfl⟩
      obtain ⟨news2, hnl2, hno2, hnc2, hnx2⟩ := newc_of CSD.out 20
      rw [hcs2] at hnl2 hnc2 hnx2
      rw [hq] at hnl2 hnx2
      have hm2 : min ((p.cs.length : Nat) : Int) 20 = ((q : Nat) : Int) := by rw [← hq, ← hcs2, List.length_take]; omega
      have q0 : (0 : Int) ≤ ((q : Nat) : Int) := by omega
      have q1 : ((q : Nat) : Int) ≤ ((k1 : Nat) : Int) := by have := CSD.out.1; rw [← hq, ← hcs2, List.length_take]; omega
      have HQ20 := Lib.hid (show q ≤ 20 by rw [← hq, ← hcs2, List.length_take]; omega)
      have N2L := Lib.hid hnl2
      have N2O := Lib.hid hno2
      have N2C := Lib.hid hnc2
      have N2X := Lib.hid hnx2
      have HCQ := Lib.hid hq
      have HC2 := Lib.hid hcs2
      have FC := Lib.hid (fun (V : World) (hb : Below wd.heap.size wd V) => (own_at8 (own_below OD.out hb) ED.out.2.2.2.2.1).1)
      clear hnl2 hno2 hnc2 hnx2 hq hcs2
      refine wp_operands (W := wd) rfl 13 [45, 46, 47, 48, 49, 50, 51, 52, 53, 54, 55, 56, 57] (fun i u x => match i with | 0 => u = .slice (some ⟨lb, 0, none⟩) n cap | 1 => u = .int .i64 ((j : Nat) : Int) | 2 => u = .pointer (some ⟨lb, j * 8, none⟩) | 3 => u = .pointer (some ⟨lb, j * 8 + 4, none⟩) | 4 => u = .slice P1 p.cs.length k1 | 5 => u = .slice (some ⟨lb, 0, none⟩) n cap | 6 => u = .int .i64 ((j : Nat) : Int) | 7 => u = .pointer (some ⟨lb, j * 8, none⟩) | 8 => u = .pointer (some ⟨lb, j * 8 + 4, none⟩) | 9 => u = .slice P1 p.cs.length k1 | 10 => u = .int .i64 ((p.cs.length : Nat) : Int) | 11 => u = .int .i64 ((q : Nat) : Int) | 12 => u = .slice P1 q k1 | _ => True) (fun _ => false)
        (by decide) rfl (by kernel_rfl) (by kernel_rfl) (by decide) (by kernel_rfl) ?_ (fun _ _ _ h => by cases h) ?_ ?_
      · intro i u x x' hi hR hb'
        have hi' : i = 0 ∨ i = 1 ∨ i = 2 ∨ i = 3 ∨ i = 4 ∨ i = 5 ∨ i = 6 ∨ i = 7 ∨ i = 8 ∨ i = 9 ∨ i = 10 ∨ i = 11 ∨ i = 12 := by omega
        rcases hi' with rfl | rfl | rfl | rfl | rfl | rfl | rfl | rfl | rfl | rfl | rfl | rfl | rfl
        · exact hR
        · exact hR
        · exact hR
        · exact hR
        · exact hR
        · exact hR
        · exact hR
        · exact hR
        · exact hR
        · exact hR
        · exact hR
        · exact hR
        · exact hR
      · intro i av x K hi hF hb' hw hK
        have hi' : i = 0 ∨ i = 1 ∨ i = 2 ∨ i = 3 ∨ i = 4 ∨ i = 5 ∨ i = 6 ∨ i = 7 ∨ i = 8 ∨ i = 9 ∨ i = 10 ∨ i = 11 ∨ i = 12 := by omega
        rcases hi' with rfl | rfl | rfl | rfl | rfl | rfl | rfl | rfl | rfl | rfl | rfl | rfl | rfl
        · simp only [wpOp, List.getElem?_toArray, List.getElem?_cons_zero, Region.wanted, if_true]
          refine Or.inl ?_
          have e0 : av.tmps.getD 3 undef = .slice (some ⟨lb, 0, none⟩) n cap := hF.2.2 3 (by decide)
          have e0e : av.eval (.tmp 3) = .slice (some ⟨lb, 0, none⟩) n cap := e0
          have e0g : av.tmps[3]?.getD undef = .slice (some ⟨lb, 0, none⟩) n cap := by have := e0; simp only [Array.getD_eq_getD_getElem?] at this; exact this
          clear hw hF
          simp only [Oper.wp, execOp]
          try simp only [e0e]
          go_simp
          exact hK _ x (by first | rfl | (simp only [Nat.add_zero]; done) | (congr 1; omega)) (Below.refl _ _) (fun h => by cases h)
        · simp only [wpOp, List.getElem?_toArray, List.getElem?_cons_succ, List.getElem?_cons_zero, Region.wanted, if_true]
          refine Or.inl ?_
          have e0 : av.tmps.getD 4 undef = .int .i64 ((j : Nat) : Int) := hF.2.2 4 (by decide)
          have e0e : av.eval (.tmp 4) = .int .i64 ((j : Nat) : Int) := e0
          have e0g : av.tmps[4]?.getD undef = .int .i64 ((j : Nat) : Int) := by have := e0; simp only [Array.getD_eq_getD_getElem?] at this; exact this
          clear hw hF
          simp only [Oper.wp, execOp]
          try simp only [e0e]
          go_simp
          exact hK _ x (by first | rfl | (simp only [Nat.add_zero]; done) | (congr 1; omega)) (Below.refl _ _) (fun h => by cases h)
        · simp only [wpOp, List.getElem?_toArray, List.getElem?_cons_succ, List.getElem?_cons_zero, Region.wanted, if_true]
          refine Or.inl ?_
          have e0 : av.tmps.getD 45 undef = .slice (some ⟨lb, 0, none⟩) n cap := (hw 0 (by kernel_rfl))
          have e0e : av.eval (.tmp 45) = .slice (some ⟨lb, 0, none⟩) n cap := e0
          have e0g : av.tmps[45]?.getD undef = .slice (some ⟨lb, 0, none⟩) n cap := by have := e0; simp only [Array.getD_eq_getD_getElem?] at this; exact this
          have e1 : av.tmps.getD 46 undef = .int .i64 ((j : Nat) : Int) := (hw 1 (by kernel_rfl))
          have e1e : av.eval (.tmp 46) = .int .i64 ((j : Nat) : Int) := e1
          have e1g : av.tmps[46]?.getD undef = .int .i64 ((j : Nat) : Int) := by have := e1; simp only [Array.getD_eq_getD_getElem?] at this; exact this
          clear hw hF
          simp only [Oper.wp, execOp]
          try simp only [e0e, e1e]
          go_simp
          exact hK _ x (by first | rfl | (simp only [Nat.add_zero]; done) | (congr 1; omega)) (Below.refl _ _) (fun h => by cases h)
        · simp only [wpOp, List.getElem?_toArray, List.getElem?_cons_succ, List.getElem?_cons_zero, Region.wanted, if_true]
          refine Or.inl ?_
          have e0 : av.tmps.getD 47 undef = .pointer (some ⟨lb, j * 8, none⟩) := (hw 2 (by kernel_rfl))
          have e0e : av.eval (.tmp 47) = .pointer (some ⟨lb, j * 8, none⟩) := e0
          have e0g : av.tmps[47]?.getD undef = .pointer (some ⟨lb, j * 8, none⟩) := by have := e0; simp only [Array.getD_eq_getD_getElem?] at this; exact this
          clear hw hF
          simp only [Oper.wp, execOp]
          try simp only [e0e]
          go_simp
          exact hK _ x (by first | rfl | (simp only [Nat.add_zero]; done) | (congr 1; omega)) (Below.refl _ _) (fun h => by cases h)
        · simp only [wpOp, List.getElem?_toArray, List.getElem?_cons_succ, List.getElem?_cons_zero, Region.wanted, if_true]
          refine Or.inl ?_
          have e0 : av.tmps.getD 48 undef = .pointer (some ⟨lb, j * 8 + 4, none⟩) := (hw 3 (by kernel_rfl))
          have e0e : av.eval (.tmp 48) = .pointer (some ⟨lb, j * 8 + 4, none⟩) := e0
          have e0g : av.tmps[48]?.getD undef = .pointer (some ⟨lb, j * 8 + 4, none⟩) := by have := e0; simp only [Array.getD_eq_getD_getElem?] at this; exact this
          have f4 := FC.out x hb'
          clear hw hF
          simp only [Oper.wp, execOp]
          try simp only [e0e]
          go_simp
          exact hK _ x (by first | rfl | (simp only [Nat.add_zero]; done) | (congr 1; omega)) (Below.refl _ _) (fun h => by cases h)
        · simp only [wpOp, List.getElem?_toArray, List.getElem?_cons_succ, List.getElem?_cons_zero, Region.wanted, if_true]
          refine Or.inl ?_
          have e0 : av.tmps.getD 3 undef = .slice (some ⟨lb, 0, none⟩) n cap := hF.2.2 3 (by decide)
          have e0e : av.eval (.tmp 3) = .slice (some ⟨lb, 0, none⟩) n cap := e0
          have e0g : av.tmps[3]?.getD undef = .slice (some ⟨lb, 0, none⟩) n cap := by have := e0; simp only [Array.getD_eq_getD_getElem?] at this; exact this
          clear hw hF
          simp only [Oper.wp, execOp]
          try simp only [e0e]
          go_simp
          exact hK _ x (by first | rfl | (simp only [Nat.add_zero]; done) | (congr 1; omega)) (Below.refl _ _) (fun h => by cases h)
        · simp only [wpOp, List.getElem?_toArray, List.getElem?_cons_succ, List.getElem?_cons_zero, Region.wanted, if_true]
          refine Or.inl ?_
          have e0 : av.tmps.getD 4 undef = .int .i64 ((j : Nat) : Int) := hF.2.2 4 (by decide)
          have e0e : av.eval (.tmp 4) = .int .i64 ((j : Nat) : Int) := e0
          have e0g : av.tmps[4]?.getD undef = .int .i64 ((j : Nat) : Int) := by have := e0; simp only [Array.getD_eq_getD_getElem?] at this; exact this
          clear hw hF
          simp only [Oper.wp, execOp]
          try simp only [e0e]
          go_simp
          exact hK _ x (by first | rfl | (simp only [Nat.add_zero]; done) | (congr 1; omega)) (Below.refl _ _) (fun h => by cases h)
        · simp only [wpOp, List.getElem?_toArray, List.getElem?_cons_succ, List.getElem?_cons_zero, Region.wanted, if_true]
          refine Or.inl ?_
          have e0 : av.tmps.getD 50 undef = .slice (some ⟨lb, 0, none⟩) n cap := (hw 5 (by kernel_rfl))
          have e0e : av.eval (.tmp 50) = .slice (some ⟨lb, 0, none⟩) n cap := e0
          have e0g : av.tmps[50]?.getD undef = .slice (some ⟨lb, 0, none⟩) n cap := by have := e0; simp only [Array.getD_eq_getD_getElem?] at this; exact this
          have e1 : av.tmps.getD 51 undef = .int .i64 ((j : Nat) : Int) := (hw 6 (by kernel_rfl))
          have e1e : av.eval (.tmp 51) = .int .i64 ((j : Nat) : Int) := e1
          have e1g : av.tmps[51]?.getD undef = .int .i64 ((j : Nat) : Int) := by have := e1; simp only [Array.getD_eq_getD_getElem?] at this; exact this
          clear hw hF
          simp only [Oper.wp, execOp]
          try simp only [e0e, e1e]
          go_simp
          exact hK _ x (by first | rfl | (simp only [Nat.add_zero]; done) | (congr 1; omega)) (Below.refl _ _) (fun h => by cases h)
        · simp only [wpOp, List.getElem?_toArray, List.getElem?_cons_succ, List.getElem?_cons_zero, Region.wanted, if_true]
          refine Or.inl ?_
          have e0 : av.tmps.getD 52 undef = .pointer (some ⟨lb, j * 8, none⟩) := (hw 7 (by kernel_rfl))
          have e0e : av.eval (.tmp 52) = .pointer (some ⟨lb, j * 8, none⟩) := e0
          have e0g : av.tmps[52]?.getD undef = .pointer (some ⟨lb, j * 8, none⟩) := by have := e0; simp only [Array.getD_eq_getD_getElem?] at this; exact this
          clear hw hF
          simp only [Oper.wp, execOp]
          try simp only [e0e]
          go_simp
          exact hK _ x (by first | rfl | (simp only [Nat.add_zero]; done) | (congr 1; omega)) (Below.refl _ _) (fun h => by cases h)
        · simp only [wpOp, List.getElem?_toArray, List.getElem?_cons_succ, List.getElem?_cons_zero, Region.wanted, if_true]
          refine Or.inl ?_
          have e0 : av.tmps.getD 53 undef = .pointer (some ⟨lb, j * 8 + 4, none⟩) := (hw 8 (by kernel_rfl))
          have e0e : av.eval (.tmp 53) = .pointer (some ⟨lb, j * 8 + 4, none⟩) := e0
          have e0g : av.tmps[53]?.getD undef = .pointer (some ⟨lb, j * 8 + 4, none⟩) := by have := e0; simp only [Array.getD_eq_getD_getElem?] at this; exact this
          have f4 := FC.out x hb'
          clear hw hF
          simp only [Oper.wp, execOp]
          try simp only [e0e]
          go_simp
          exact hK _ x (by first | rfl | (simp only [Nat.add_zero]; done) | (congr 1; omega)) (Below.refl _ _) (fun h => by cases h)
        · simp only [wpOp, List.getElem?_toArray, List.getElem?_cons_succ, List.getElem?_cons_zero, Region.wanted, if_true]
          refine Or.inl ?_
          have e0 : av.tmps.getD 54 undef = .slice P1 p.cs.length k1 := (hw 9 (by kernel_rfl))
          have e0e : av.eval (.tmp 54) = .slice P1 p.cs.length k1 := e0
          have e0g : av.tmps[54]?.getD undef = .slice P1 p.cs.length k1 := by have := e0; simp only [Array.getD_eq_getD_getElem?] at this; exact this
          clear hw hF
          simp only [Oper.wp, execOp]
          try simp only [e0e]
          go_simp
          exact hK _ x (by first | rfl | (simp only [Nat.add_zero]; done) | (congr 1; omega)) (Below.refl _ _) (fun h => by cases h)
        · simp only [wpOp, List.getElem?_toArray, List.getElem?_cons_succ, List.getElem?_cons_zero, Region.wanted, if_true]
          refine Or.inl ?_
          have e0 : av.tmps.getD 55 undef = .int .i64 ((p.cs.length : Nat) : Int) := (hw 10 (by kernel_rfl))
          have e0e : av.eval (.tmp 55) = .int .i64 ((p.cs.length : Nat) : Int) := e0
          have e0g : av.tmps[55]?.getD undef = .int .i64 ((p.cs.length : Nat) : Int) := by have := e0; simp only [Array.getD_eq_getD_getElem?] at this; exact this
          clear hw hF
          simp only [Oper.wp, execOp]
          try simp only [e0e]
          go_simp
          exact hK _ x (by first | rfl | (simp only [Nat.add_zero]; done) | (congr 1; omega)) (Below.refl _ _) (fun h => by cases h)
        · simp only [wpOp, List.getElem?_toArray, List.getElem?_cons_succ, List.getElem?_cons_zero, Region.wanted, if_true]
          refine Or.inl ?_
          have e0 : av.tmps.getD 49 undef = .slice P1 p.cs.length k1 := (hw 4 (by kernel_rfl))
          have e0e : av.eval (.tmp 49) = .slice P1 p.cs.length k1 := e0
          have e0g : av.tmps[49]?.getD undef = .slice P1 p.cs.length k1 := by have := e0; simp only [Array.getD_eq_getD_getElem?] at this; exact this
          have e1 : av.tmps.getD 56 undef = .int .i64 ((q : Nat) : Int) := (hw 11 (by kernel_rfl))
          have e1e : av.eval (.tmp 56) = .int .i64 ((q : Nat) : Int) := e1
          have e1g : av.tmps[56]?.getD undef = .int .i64 ((q : Nat) : Int) := by have := e1; simp only [Array.getD_eq_getD_getElem?] at this; exact this
          clear hw hF
          simp only [Oper.wp, execOp]
          try simp only [e0e, e1e]
          go_simp
          exact hK _ x (by first | rfl | (simp only [Nat.add_zero]; done) | (congr 1; omega)) (Below.refl _ _) (fun h => by cases h)
      · intro av x hF hb' hR _
        have e0 : av.tmps.getD 45 undef = .slice (some ⟨lb, 0, none⟩) n cap := hR 0 (by decide)
        have e1 : av.tmps.getD 46 undef = .int .i64 ((j : Nat) : Int) := hR 1 (by decide)
        have e2 : av.tmps.getD 47 undef = .pointer (some ⟨lb, j * 8, none⟩) := hR 2 (by decide)
        have e3 : av.tmps.getD 48 undef = .pointer (some ⟨lb, j * 8 + 4, none⟩) := hR 3 (by decide)
        have e4 : av.tmps.getD 49 undef = .slice P1 p.cs.length k1 := hR 4 (by decide)
        have e5 : av.tmps.getD 50 undef = .slice (some ⟨lb, 0, none⟩) n cap := hR 5 (by decide)
        have e6 : av.tmps.getD 51 undef = .int .i64 ((j : Nat) : Int) := hR 6 (by decide)
        have e7 : av.tmps.getD 52 undef = .pointer (some ⟨lb, j * 8, none⟩) := hR 7 (by decide)
        have e8 : av.tmps.getD 53 undef = .pointer (some ⟨lb, j * 8 + 4, none⟩) := hR 8 (by decide)
        have e9 : av.tmps.getD 54 undef = .slice P1 p.cs.length k1 := hR 9 (by decide)
        have e10 : av.tmps.getD 55 undef = .int .i64 ((p.cs.length : Nat) : Int) := hR 10 (by decide)
        have e11 : av.tmps.getD 56 undef = .int .i64 ((q : Nat) : Int) := hR 11 (by decide)
        have e12 : av.tmps.getD 57 undef = .slice P1 q k1 := hR 12 (by decide)
        rw [hF.fold (by kernel_rfl)]
        simp only [List.foldl_cons, List.foldl_nil, e0, e1, e2, e3, e4, e5, e6, e7, e8, e9, e10, e11, e12]
        simp only [Act.put, List.setIfInBounds_toArray, List.set_cons_zero, List.set_cons_succ]
        change wpOps _ _ _ [13, 14] _ _
        simp only [wpOps_cons]
        clear e0 e1 e2 e3 e4 e5 e6 e7 e8 e9 e10 e11 e12 hR hF
        simp only [wpOp, List.getElem?_toArray, List.getElem?_cons_succ, List.getElem?_cons_zero, Region.wanted, if_true]
        refine Or.inl ?_
        refine wp_append_copy _ (.tmp 57) 47 26 rfl wd.heap.size j0 zdy 3 40 Tryz.underlying47 JJ.out.1 JJ.out.2.1 JJ.out.2.2.1 JJ.out.2.2.2 rfl (by decide) P1 q k1 news2 rfl rfl N2L.out (fun h0 => NXB N2X.out hb' h0) N2O.out (by have := HQ20.out; unfold maxLen; omega) (by have := HQ20.out; omega) hb'.size ?_
        intro v5 we hown hb5
        obtain ⟨Y, capm, rfl, hY⟩ := own_formT hown
        have O5 := Lib.hid (hown)
        have BX5 := Lib.hid (hb'.trans (hb5.mono hb'.size))
        have HYY := Lib.hid hY
        have C5 := Lib.hid (show CyR w news2 ((List.map cutN (cs2.take 0)) ++ cs2.drop 0) by simpa using N2C.out)
        clear hown hb5 hb' hY
        try rw [wpOps_cons]
        simp only [wpOp, List.getElem?_toArray, List.getElem?_cons_succ, List.getElem?_cons_zero, Region.wanted, if_true]
        refine Or.inl ?_
        simp only [Oper.wp, execOp]
        go_simp
        try simp only [wpOps]
        clear hm2 q0 q1
        go_wp2
        go_loopw [6] (fun i w2r => ∃ (m : Nat) (ys : List Value), m ≤ q ∧ i = .int .i64 m ∧ Hid (w2r.ownsRow wd.heap.size 26 3 (.slice Y q capm) q ys) ∧ Hid (CyR w ys ((cs2.take m).map cutN ++ cs2.drop m)) ∧ Hid (Below wd.heap.size wd w2r)) (fun i _ => q - (intOf i).toNat)
        case atStart => exact ⟨0, news2, Nat.zero_le _, rfl, O5, C5, BX5⟩
        case round =>
          obtain ⟨m, ys, hm, rfl, HOM, HCM, HBM⟩ := hrel
          by_cases hlm : m < q
          · obtain ⟨mb, rfl⟩ := HYY.out (by omega)
            obtain ⟨v, hv⟩ : ∃ v, cs2[m]? = some v := ⟨_, List.getElem?_eq_getElem (by rw [HCQ.out]; exact hlm)⟩
            obtain ⟨A3, c3, e0, e1, e2, hd3⟩ := HCM.out.2 m v (mix_at cutN cs2 m hv)
            obtain ⟨x3, hx3⟩ : ∃ l, v.2.1.take 8 = l := ⟨_, rfl⟩
            have C3 := Lib.hid (And.intro (show min (v.2.1.length : Int) 8 = (x3.length : Int) by rw [← hx3, List.length_take]; omega) (show x3.length ≤ c3 by have := hd3.1; rw [← hx3, List.length_take]; omega))
            have HMS := Lib.hid (show (((cs2.take m).map cutN ++ cs2.drop m).set m (v.1, x3, v.2.2)) = (cs2.take (m + 1)).map cutN ++ cs2.drop (m + 1) by rw [← hx3]; exact mix_set cutN cs2 m hv)
            have HD3 := Lib.hid (show Dg w A3 c3 x3 by rw [← hx3]; exact hd3.take 8)
            have HE3 := Lib.hid (And.intro e0 (And.intro e1 e2))
            have HLM := Lib.hid hlm
            have hmq : ((m : Nat) : Int) < ((q : Nat) : Int) := by omega
            have HML := Lib.hid (show m < ((cs2.take m).map cutN ++ cs2.drop m).length by simp; rw [HCQ.out]; omega)
            clear hv e0 e1 e2 hd3 hx3
            obtain ⟨g0, y0⟩ := own_at8 HOM.out HE3.out.1
            obtain ⟨g1, y1⟩ := own_at8 HOM.out HE3.out.2.1
            obtain ⟨g2, y2⟩ := own_at8 HOM.out HE3.out.2.2
            go_wp2_with fail
            clear g0 g1 g2 y0 y1 y2
            refine (cut_l (A := A3) (c := c3) (s := v.1) (xs := v.2.1) (ts := x3) (x := v.2.2) (N := 8) C3.out.1 C3.out.2).mono ?_
            rintro e w6 ⟨rfl, hb⟩
            have O6 := Lib.hid (own_below HOM.out hb)
            have B6 := Lib.hid (HBM.out.trans (hb.mono HBM.out.size))
            clear hb
            obtain ⟨g0, y0⟩ := own_at8 O6.out HE3.out.1
            obtain ⟨g1, y1⟩ := own_at8 O6.out HE3.out.2.1
            obtain ⟨g2, y2⟩ := own_at8 O6.out HE3.out.2.2
            go_wp2_with fail
            clear g0 g1 g2 y0 y1 y2
            obtain ⟨w7, hW⟩ : ∃ V : World, ((w6.setCell ⟨mb, m * 3, none⟩ (.bool v.1)).setCell ⟨mb, m * 3 + 1, none⟩ (.slice A3 x3.length c3)).setCell ⟨mb, m * 3 + 2, none⟩ (.int .i64 v.2.2) = V := ⟨_, rfl⟩
            rw [hW]
            have O7 := Lib.hid (show w7.ownsRow wd.heap.size 26 3 (.slice (some ⟨mb, 0, none⟩) q capm) q (((ys.set (m * 3) (.bool v.1)).set (m * 3 + 1) (.slice A3 x3.length c3)).set (m * 3 + 2) (.int .i64 v.2.2)) by rw [← hW]; exact own_upd (own_upd (own_upd O6.out _) _) _)
            have C7 := Lib.hid (HCM.out.set HML.out (v := (v.1, x3, v.2.2)) HD3.out)
            rw [HMS.out] at C7
            have B7 := Lib.hid ((show Only mb w6 w7 by rw [← hW]; exact (((Only.refl mb w6).setCell _ _).setCell _ _).setCell _ _).below B6.out (own_blk O6.out).1)
            clear hW
            go_roundw
            case rel =>
              have hl1 := HLM.out
              have hd1 := HQ20.out
              have hw : wrap64 ((m : Int) + 1) = (m : Int) + 1 := IntWalk.wrap64_in _ ⟨by omega, by omega⟩
              exact ⟨m + 1, _, HLM.out, by rw [hw]; exact congrArg _ (by omega), O7, C7, B7⟩
            case measure =>
              have hl1 := HLM.out
              have hd1 := HQ20.out
              have hw : wrap64 ((m : Int) + 1) = (m : Int) + 1 := IntWalk.wrap64_in _ ⟨by omega, by omega⟩
              rw [hw]
              clear hw
              simp [intOf]; omega
          · obtain rfl : m = q := by omega
            have hmq : ¬ ((m : Nat) : Int) < ((m : Nat) : Int) := by omega
            have HCE := Lib.hid (show CyR w ys (cs2.map cutN) by have h := HCM.out; rw [List.take_of_length_le (by rw [HCQ.out]; exact Nat.le_refl _), List.drop_of_length_le (by rw [HCQ.out]; exact Nat.le_refl _), List.append_nil] at h; exact h)
            have OF := Lib.hid (own_below OD.out HBM.out)
            have CSF := Lib.hid (csr_of_own HOM.out HCE.out)
            obtain ⟨g4, y4⟩ := own_at8 OF.out ED.out.2.2.2.2.1
            go_wp2_with fail
            clear g4 y4 hmq
            obtain ⟨wg, hW⟩ : ∃ V : World, wr.setCell ⟨lb, j * 8 + 4, none⟩ (.slice Y m capm) = V := ⟨_, rfl⟩
            rw [hW]
            have OG := Lib.hid (show wg.ownsRow w.heap.size 49 8 (.slice (some ⟨lb, 0, none⟩) n cap) n (xd.set (j * 8 + 4) (.slice Y m capm)) by rw [← hW]; exact own_upd OF.out _)
            have hO : Only lb wr wg := by rw [← hW]; exact (Only.refl lb wr).setCell _ _
            obtain ⟨hlb, cura, hcura⟩ := own_blk OF.out
            have hne4 : ∀ i, i ≠ j * 8 + 4 → (xd.set (j * 8 + 4) (.slice Y m capm))[i]? = xd[i]? := fun i hi => List.getElem?_set_ne (Ne.symm hi)
            have PG := Lib.hid (PcR.upd ((PD.out.below HBM.out).only hO hlb hcura (by decide)) (j := j) (p := cutP p) (by simp; rw [HNE.out]; omega) (by simp) (fun i hi => hne4 i (by omega)) (A := A1) (c := c1) (P := Y) (k := capm) (B := B1) (d := d1) ⟨(hne4 _ (by omega)).trans ED.out.1, (by rw [hne4 _ (by omega)]; show _ = some (Value.slice A1 (p.a.2.1.take 8).length c1); rw [HX1.out]; exact ED.out.2.1), (hne4 _ (by omega)).trans ED.out.2.2.1, (hne4 _ (by omega)).trans ED.out.2.2.2.1, (by rw [List.getElem?_set_self (by rw [LDX.out]; omega)]; show _ = some (Value.slice Y ((p.cs.take 20).map cutN).length capm); rw [HC2.out, List.length_map, HCQ.out]), (hne4 _ (by omega)).trans ED.out.2.2.2.2.2.1, (by rw [hne4 _ (by omega)]; show _ = some (Value.slice B1 (p.er.2.1.take 8).length d1); rw [HX2.out]; exact ED.out.2.2.2.2.2.2.1), (hne4 _ (by omega)).trans ED.out.2.2.2.2.2.2.2⟩ (by show Dg w A1 c1 (p.a.2.1.take 8); rw [HX1.out]; exact HA1.out) (by show CsR w wg Y capm ((p.cs.take 20).map cutN); rw [HC2.out]; exact CSF.out.only hO hlb hcura (by decide)) (by show Dg w B1 d1 (p.er.2.1.take 8); rw [HX2.out]; exact HE1.out))
            rw [List.set_set, mix_set cutP qs j HPQ.out] at PG
            have YG := Lib.hid (show TyR wg (xd.set (j * 8 + 4) (.slice Y m capm)) (j + 1) from fun i hi P' n' k' hx' hn' => by
              rcases Nat.lt_succ_iff_lt_or_eq.1 hi with h1 | h1
              · rw [hne4 _ (by omega)] at hx'
                exact ((YD.out.below HBM.out).only hO hcura (by decide)) i h1 P' n' k' hx' hn'
              · subst h1
                rw [List.getElem?_set_self (by rw [LDX.out]; omega)] at hx'
                injection hx' with hx'; injection hx' with e1 e2 e3
                subst e1 e2 e3
                obtain ⟨mb, em⟩ := HYY.out hn'
                subst em
                obtain ⟨_, cur5, h5⟩ := own_blk HOM.out
                refine ⟨mb, 0, cur5, _, rfl, (hO.block mb (fun e => ?_)).trans h5⟩
                subst e
                rw [hcura] at h5; injection h5 with h5; injection h5 with _ h6 _; exact absurd h6 (by decide))
            have BF := BD.out.trans (HBM.out.mono BD.out.size)
            have BG := Lib.hid (hO.below BF hlb)
            have TF := cells_of TD.out HBM.out
            have RF := cells_of RD.out HBM.out
            have TG := Lib.hid ((hO.block _ (fun e => by have := TF; rw [e, hcura] at this; injection this with h1; injection h1 with _ h2; exact absurd h2 (by decide))).trans TF)
            have RG := Lib.hid ((hO.block _ (fun e => by have := RF; rw [e, hcura] at this; injection this with h1; injection h1 with _ h2; exact absurd h2 (by decide))).trans RF)
            clear hW hO hlb hcura hne4 BF TF RF
            go_roundw
            case rel =>
              have hl1 := HLT.out
              have hd1 := NB.out
              have hw : wrap64 ((j : Int) + 1) = (j : Int) + 1 := IntWalk.wrap64_in _ ⟨by omega, by omega⟩
              exact ⟨j + 1, _, HLT.out, by rw [hw]; exact congrArg _ (by omega), OG, Lib.hid ⟨PG.out, YG.out⟩, BG, TG, RG⟩
            case measure =>
              have hl1 := HLT.out
              have hd1 := NB.out
              have hw : wrap64 ((j : Int) + 1) = (j : Int) + 1 := IntWalk.wrap64_in _ ⟨by omega, by omega⟩
              rw [hw]
              clear hw
              simp [intOf]; omega
    · obtain rfl : j = n := by omega
      have hjn : ¬ ((j : Nat) : Int) < ((j : Nat) : Int) := by omega
      have HPE := Lib.hid (show PcR w wr xs (qs.map cutP) by have h := HP.out; rw [List.take_of_length_le (by rw [HNE.out]; exact Nat.le_refl _), List.drop_of_length_le (by rw [HNE.out]; exact Nat.le_refl _), List.append_nil] at h; exact h)
      have f8 := row_c (i := 8) HTT.out rfl
      have z8 := frozen_of_row _ _ 8 _ _ HTT.out
      have xt := heap_lt HTT.out
      go_upto_region 15 with fail
      clear f8 z8 xt hjn
      obtain ⟨wt, hW⟩ : ∃ V : World, wr.setCell ⟨w.heap.size, 8, none⟩ (.slice X j cap) = V := ⟨_, rfl⟩
      rw [hW]
      have hO : Only w.heap.size wr wt := by rw [← hW]; exact (Only.refl _ wr).setCell 8 _
      have TT := Lib.hid (show wt.heap[w.heap.size]? = some (.cells #[.int .i64 F, .int .i64 O, .bool s, .slice A es.length c, .int .i64 ax, .int .i64 W, .int .i64 Q, .int .i64 D, .slice X j cap] 29 (0, 0)) by rw [← hW]; exact heap_setCell_same _ _ 8 _ _ _ HTT.out)
      have RT := Lib.hid ((hO.block _ (by omega)).trans HRR.out)
      have BT := Lib.hid (hO.below HB.out (Nat.le_refl _))
      have OT := Lib.hid (own_still HO.out (fun k hk => hO.block k (fun e => own_neT HO.out HTT.out (by decide) (by rw [hk, e]))))
      have PT := Lib.hid (HPE.out.only hO (Nat.le_refl _) HTT.out (by decide))
      have hO2 := hO
      clear hW hO
      have YT := Lib.hid (HTY.out.only hO2 HTT.out (by decide))
      clear hO2
      go_wp2_with (first | (refine wpList_load_box rfl 29 _ rfl w.heap.size rfl #[.int .i64 F, .int .i64 O, .bool s, .slice A es.length c, .int .i64 ax, .int .i64 W, .int .i64 Q, .int .i64 D, .slice X j cap] _ TT.out _ Tryz.underlying29 rfl tab_size ?_) | (refine wpList_store_box rfl 29 _ _ rfl (w.heap.size + 1) rfl #[.int .i64 F, .int .i64 O, .bool s, .slice A es.length c, .int .i64 ax, .int .i64 W, .int .i64 Q, .int .i64 D, .slice X j cap] rfl #[.int .i64 0, .int .i64 0, .bool false, .slice none 0 0, .int .i64 0, .int .i64 0, .int .i64 0, .int .i64 0, .slice none 0 0] 29 RT.out tab_size rfl tab_one ?_))
      intro wz hO hR
      have BZ := Lib.hid (hO.below BT.out (by omega))
      have OZ := Lib.hid (own_still OT.out (fun k hk => hO.block k (fun e => own_neT OT.out RT.out (by decide) (by rw [hk, e]))))
      have PZ := Lib.hid (PT.out.only hO (by omega) RT.out (by decide))
      have YZ := Lib.hid (YT.out.only hO RT.out (by decide))
      have g0 := row_c (i := 0) hR rfl
      have g1 := row_c (i := 1) hR rfl
      have g2 := row_c (i := 2) hR rfl
      have g3 := row_c (i := 3) hR rfl
      have g4 := row_c (i := 4) hR rfl
      have g5 := row_c (i := 5) hR rfl
      have g6 := row_c (i := 6) hR rfl
      have g7 := row_c (i := 7) hR rfl
      have g8 := row_c (i := 8) hR rfl
      clear hO hR
      go_wp2
      refine bodyPost_ret (v := .agg #[.int .i64 F, .int .i64 O, .bool s, .slice A es.length c, .int .i64 ax, .int .i64 W, .int .i64 Q, .int .i64 D, .slice X j cap]) (by simp [results, Tryz.results6, go_sem, g0, g1, g2, g3, g4, g5, g6, g7, g8]) rfl ?_
      exact ⟨X, cap, by rw [List.length_map, HNE.out], pst_of_own OZ.out PZ.out BZ.out YZ.out, BZ.out⟩
end Go.Proofs.YtdmfapgclppmhaaGreatDoor
end

section
namespace Go.Proofs.YtdmfapgclppmhaaGreatDoor
open Go.RowKit
set_option linter.unusedSimpArgs false
set_option linter.unusedVariables false
/-- What Encode answers of a table. -/
theorem enc_tab {A P : Option Addr} {c k : Nat} {F O W Q D : Int} {a : Nm} {ps : List Pd} {w : World} (h : Dg w A c a.2.1) (hl : a.2.1.length ≤ 10000) (hT : T32 w) (hps : PsL w P ps) (hsm : SmP ps) {E : Int} {t : ByteArray} (hE : outE (encO F O a W Q D ps) = E) (ht : t.data.toList = outB (encO F O a W Q D ps)) :
    Calls Tryz.prog 7 #[.agg #[.int .i64 F, .int .i64 O, .bool a.1, .slice A a.2.1.length c, .int .i64 a.2.2, .int .i64 W, .int .i64 Q, .int .i64 D, .slice P ps.length k]] w fun e w' => e = .returned (.tuple #[.string t, .int .i64 E]) ∧ Below w.heap.size w w' := by
  refine (encode_any (F := F) (O := O) (W := W) (Q := Q) (D := D) (k := k) h hl hT hps hsm).mono ?_
  rintro e w' ⟨⟨t2, rfl, h2⟩, hb⟩
  obtain rfl : t2 = t := by apply ByteArray.ext; apply Array.toList_inj.1; rw [h2, ht]
  rw [hE]
  exact ⟨rfl, hb⟩
theorem trims_v {A P : Option Addr} {c k : Nat} {F O W Q D : Int} {a : Nm} {ps : List Pd} {w : World} (h : Dg w A c a.2.1) (hps : PsL w P ps) (hk : ps.length ≤ k) (hk2 : ps.length ≤ 9223372036854775807) (hk3 : a.2.1.length ≤ 9223372036854775807) {a2 : Nm} (ha2 : cutN a = a2) {ps2 : List Pd} (hp2 : (ps.take 40).map cutP = ps2) :
    Calls Tryz.prog 6 #[.agg #[.int .i64 F, .int .i64 O, .bool a.1, .slice A a.2.1.length c, .int .i64 a.2.2, .int .i64 W, .int .i64 Q, .int .i64 D, .slice P ps.length k]] w fun e w' => ∃ P2 k2, e = .returned (.agg #[.int .i64 F, .int .i64 O, .bool a2.1, .slice A a2.2.1.length c, .int .i64 a2.2.2, .int .i64 W, .int .i64 Q, .int .i64 D, .slice P2 ps2.length k2]) ∧ PsT w' P2 ps2 ∧ Below w.heap.size w w' := by
  subst ha2 hp2
  exact trims_any A P c k F O W Q D a ps w h hps hk hk2 hk3
theorem cut_sm {a : Nm} {ps : List Pd} : (cutN a).2.1.length ≤ 8 ∧ SmP ((ps.take 40).map cutP) := by
  refine ⟨by unfold cutN; simp; omega, fun p hp => ?_⟩
  obtain ⟨z, _, rfl⟩ := List.mem_map.1 hp
  refine ⟨by unfold cutP cutN; simp; omega, by unfold cutP cutN; simp; omega, fun v hv => ?_⟩
  obtain ⟨u, _, rfl⟩ := List.mem_map.1 hv
  unfold cutN; simp; omega
theorem psl_ok {w : World} {A P : Option Addr} {c : Nat} {a : Nm} {ps : List Pd} (h : Dg w A c a.2.1) (hp : PsL w P ps) : OkT a ps := by
  refine ⟨h.2.1, fun p hm => ?_⟩
  obtain ⟨i, hi⟩ := List.mem_iff_getElem?.1 hm
  obtain ⟨b, o, _, _, hr⟩ := hp (fun h0 => by rw [List.length_eq_zero_iff.1 h0] at hm; simp at hm)
  obtain ⟨_, _, _, _, _, _, _, _, _, _, _, _, _, _, ha, he, hn⟩ := hr i p hi
  exact ⟨ha.2.1, he.2.1, hn.ok⟩
end Go.Proofs.YtdmfapgclppmhaaGreatDoor
end

section
namespace Go.Proofs.YtdmfapgclppmhaaGreatDoor
open Go.RowKit
set_option linter.unusedSimpArgs false
set_option linter.unusedVariables false
end Go.Proofs.YtdmfapgclppmhaaGreatDoor
end

section
namespace Go.Proofs.YtdmfapgclppmhaaGreatDoor
open Go.RowKit
set_option maxHeartbeats 2000000 in
set_option maxRecDepth 100000 in
theorem rmake_any (A : Option Addr) (c : Nat) (s : Bool) (xs : List Nat) (w : World) (h : Dg w A c xs) (hl : xs.length ≤ 1000000) :
    Calls Tryz.prog 71 #[.bool s, .slice A xs.length c] w fun e w' => Zr (sg s (val xs)) w e w' := by
  have l1 := digs_len_le h.2.1
  obtain ⟨q, hq⟩ : ∃ q, decide (0 < (digs (val xs)).length) = q := ⟨_, rfl⟩
  have hq' : decide ((0 : Int) < ((digs (val xs)).length : Int)) = q := by rw [← hq, decide_eq_decide]; omega
  have HS := Lib.hid (show (s && q) = decide (sg s (val xs) < 0) by
    rw [← sg_neg, ← hq]
    congr 1
    rw [decide_eq_decide]
    constructor
    · intro h0 e; rw [e, digs_zero] at h0; simp at h0
    · intro h0; have : (digs (val xs)).length ≠ 0 := fun e => h0 (digs_nil.1 e); omega)
  have HA := Lib.hid (sg_abs s (val xs))
  generalize sg s (val xs) = z at *
  go_enter Tryz.func71, Tryz.ntmps71
  go_wp2_with fail
  refine (rtrim_any A c xs _ (h.below (below1 _ _)) (by omega)).mono ?_
  rintro e w1 ⟨A1, c1, rfl, hd, hb⟩
  have K1 := Lib.hid hb
  have G1 := Lib.hid hd
  have HO1 := Lib.hid (off_box (g := w.heap.size) hd hb rfl noint2')
  obtain ⟨hc1, hf1⟩ := bcell hb
  clear hb hd h
  cases s
  · go_wp2
    refine bodyPost_ret (v := .agg #[.bool false, .slice A1 (digs (val xs)).length c1]) (by simp [results, Tryz.results71, go_sem, hc1]) rfl ?_
    refine ⟨A1, c1, by rw [← HS.out, HA.out]; rfl, ?_, ?_⟩
    · rw [HA.out]; exact (G1.out.set_off HO1.out _ _).set_off HO1.out _ _
    · exact ((below1 w _).trans (K1.out.mono (by simp))).setCell (by simp) _ |>.setCell (by simp) _
  · go_wp2
    refine bodyPost_ret (v := .agg #[.bool q, .slice A1 (digs (val xs)).length c1]) (by simp [results, Tryz.results71, go_sem, hc1]) rfl ?_
    refine ⟨A1, c1, by rw [← HS.out, HA.out]; rfl, ?_, ?_⟩
    · rw [HA.out]; exact (G1.out.set_off HO1.out _ _).set_off HO1.out _ _
    · exact ((below1 w _).trans (K1.out.mono (by simp))).setCell (by simp) _ |>.setCell (by simp) _
end Go.Proofs.YtdmfapgclppmhaaGreatDoor
end

section
namespace Go.Proofs.YtdmfapgclppmhaaGreatDoor
open Go.RowKit
set_option linter.unusedSimpArgs false
set_option linter.unusedVariables false
theorem rmake_z {A : Option Addr} {c : Nat} {s : Bool} {xs : List Nat} {z : Int} {w : World} (h : Dg w A c xs) (hl : xs.length ≤ 1000000) (hz : sg s (val xs) = z) :
    Calls Tryz.prog 71 #[.bool s, .slice A xs.length c] w fun e w' => Zr z w e w' := by
  subst hz; exact rmake_any A c s xs w h hl
theorem rbit_z {A : Option Addr} {c v j : Nat} {q : Bool} {w : World} (h : Dg w A c (digs v)) (hl : (digs v).length ≤ 100000) (hj : j ≤ 10000000) (hq : bitAt v (j : Int) = q) :
    Calls Tryz.prog 85 #[.slice A (digs v).length c, .int .i64 j] w fun e w' => e = .returned (.bool q) ∧ w = w' := by
  have := rbit_any A c (digs v) (j : Int) w h (by omega) (by omega) (by omega)
  rwa [val_digs, hq] at this
theorem rshr_z {A : Option Addr} {c v n : Nat} {w : World} (h : Dg w A c (digs v)) (hl : (digs v).length ≤ 1048576) (hn : n ≤ 9223372036854775807) :
    Calls Tryz.prog 86 #[.slice A (digs v).length c, .int .i64 n] w fun e w' => ∃ A' c', e = .returned (.slice A' (digs (v / 2 ^ n)).length c') ∧ Dg w' A' c' (digs (v / 2 ^ n)) ∧ Below w.heap.size w w' := by
  have := rshr_any A c (digs v) n w h hl hn
  rwa [val_digs] at this
theorem len_shr {v j : Nat} (h : (digs v).length ≤ 100000) : (digs (v / 2 ^ j)).length ≤ 1000000 := Nat.le_trans (digs_shr_len _ _) (by omega)

set_option maxHeartbeats 4000000 in
set_option maxRecDepth 100000 in
theorem rnorm_any (A : Option Addr) (c : Nat) (s : Bool) (xs : List Nat) (y z m : Int) (k : Nat) (w : World) (h : Dg w A c xs) (hl : xs.length ≤ 100000) (hz : sg s (val xs) = z) (h0 : (digs z.natAbs).length ≠ 0) (hlz : (digs z.natAbs).length ≤ 100000) (hb : ∀ j, j < k → bitAt z.natAbs (j : Int) = false) (hk1 : bitAt z.natAbs (k : Int) = true) (hk : k ≤ 10000000) (hm : sg (decide (z < 0)) (z.natAbs / 2 ^ k) = m) (y0 : -1000000 ≤ y) (y1 : y ≤ 1000000):
    Calls Tryz.prog 49 #[.agg #[.bool s, .slice A xs.length c], .int .i64 y] w fun e w' => Yr m (y + k) w e w' := by
  have HZ := Lib.hid hz
  have HL := Lib.hid hl
  have HLZ := Lib.hid hlz
  have HB := Lib.hid hb
  have HK1 := Lib.hid hk1
  have HM := Lib.hid hm
  have n0 := Lib.hid (show ((((digs z.natAbs).length : Nat) : Int) == 0) = false by simp; exact fun e => h0 (by rw [e]; rfl))
  have L0 := Lib.hid ((live_start w).add h)
  clear h hl hz hlz hb hk1 hm h0
  go_enter Tryz.func49, Tryz.ntmps49
  go_wp2_with fail
  obtain ⟨v1, hW, hb, Ri_1, Rr_1⟩ := new2 w (.cells #[.bool s, .slice A xs.length c] 24) (.cells #[.bool false, .slice none 0 0, .int .i64 0] 26)
  rw [← hW]
  have L1 := ls L0 hb
  have Gi := gl0 L0.out
  have Gr := gl1 L0.out
  have Nir : w.heap.size < w.heap.size + 1 := by omega
  clear hW hb
  obtain ⟨fi0, zi0, fi1, zi1, xi⟩ := ly2 Ri_1.out
  go_wp2_with fail
  refine (rmake_z (L1.out.get (A := A) (c := c) (xs := xs) (by simp)) (Nat.le_trans HL.out (by omega)) HZ.out).mono ?_
  rintro e w2 ⟨A2, c2, rfl, hd, hb⟩
  have L2 := la L1 hb hd
  clear fi0 zi0 fi1 zi1 xi
  have Ri_2 := co Ri_1 hb
  have Rr_2 := co Rr_1 hb
  clear hb hd
  go_upto_region 2 with fail
  obtain ⟨w3, hW, hb, Rx_3⟩ := new1 w2 (.cells #[.bool (decide (z < 0)), .slice A2 (digs z.natAbs).length c2] 24)
  rw [← hW]
  have L3 := ls L2 hb
  have Ri_3 := co Ri_2 hb
  have Rr_3 := co Rr_2 hb
  have Gx := gl0 L2.out
  have Nix := nl0 Ri_2.out
  have Nrx := nl0 Rr_2.out
  clear hW hb
  have e0 := n0.out
  obtain ⟨fx0, zx0, fx1, zx1, xx⟩ := ly2 Rx_3.out
  go_wp2_with fail
  clear fx0 zx0 fx1 zx1 xx
  clear e0
  go_loopw [6] (fun iv wr => ∃ j : Nat, j ≤ k ∧ iv = .int .i64 j ∧ wr = w3) (fun iv _ => k - (intOf iv).toNat)
  case atStart => exact ⟨0, Nat.zero_le _, rfl, rfl⟩
  case round =>
    obtain ⟨j, hj, rfl, hwr⟩ := hrel
    subst hwr
    by_cases hlt : j < k
    · have bj := HB.out j hlt
      have BJ := Lib.hid bj
      clear bj
      obtain ⟨fx0, zx0, fx1, zx1, xx⟩ := ly2 Rx_3.out
      go_wp2_with fail
      refine (rbit_z (L3.out.get (A := A2) (c := c2) (xs := digs z.natAbs) (by simp)) HLZ.out (by omega) BJ.out).mono ?_
      rintro e w4 ⟨rfl, rfl⟩
      go_wp2
      go_roundw
      case rel => exact ⟨j + 1, by omega, by go_num, by first | trivial | rfl⟩
      case measure => simp [intOf]; omega
    · obtain rfl : j = k := by omega
      obtain ⟨fx0, zx0, fx1, zx1, xx⟩ := ly2 Rx_3.out
      go_wp2_with fail
      refine (rbit_z (L3.out.get (A := A2) (c := c2) (xs := digs z.natAbs) (by simp)) HLZ.out (by omega) HK1.out).mono ?_
      rintro e w5 ⟨rfl, rfl⟩
      clear fx0 zx0 fx1 zx1 xx
      have wj : IntKind.i64.wrap (y + (j : Int)) = y + (j : Int) := IntWalk.i64_in _ (by omega)
      go_upto_region 7 with fail
      obtain ⟨fx0, zx0, fx1, zx1, xx⟩ := ly2 Rx_3.out
      have KD := Lib.hid (bd0 wr)
      have LD := ls L3 KD.out
      have Mx : w2.heap.size ≠ w.heap.size + 1 := by omega
      go_region_held3 (fun w' => (∀ o, w'.cell? ⟨w2.heap.size, o, none⟩ = wr.cell? ⟨w2.heap.size, o, none⟩))
        (first | with_reducible exact keep_b KD.out xx | with_reducible exact keep_b K7.out xx | with_reducible exact keep_b K8.out xx | exact (keep_set (keep_b K8.out xx) Mx) | exact (keep_set (keep_set (keep_b K8.out xx) Mx) Mx) | exact (keep_set (keep_set (keep_set (keep_b K8.out xx) Mx) Mx) Mx))
        (first
          | (go_at_call 86; (with_reducible refine (rshr_z (LD.out.get (A := A2) (c := c2) (xs := digs z.natAbs) (by simp)) (Nat.le_trans HLZ.out (by omega)) (by omega)).mono ?_); rintro e w7 ⟨A7, c7, rfl, hd, hb⟩; (have K7 := bt KD hb); (have L7 := la LD hb hd); clear hb hd)
          | (go_at_call 71; (with_reducible refine (rmake_z (z := m) (L7.out.get (A := A7) (c := c7) (xs := digs (z.natAbs / 2 ^ j)) (by simp)) (len_shr HLZ.out) (by rw [val_digs]; exact HM.out)).mono ?_); rintro e w8 ⟨A8, c8, rfl, hd, hb⟩; (have K8 := bt K7 hb); (have L8 := la L7 hb hd); (have qr0_K8 := row_c (i := 0) (co Rr_3 K8.out).out rfl); (have pr0_K8 := frozen_of_row _ _ 0 _ _ (cells_of Rr_3.out K8.out)); (have qr1_K8 := row_c (i := 1) (co Rr_3 K8.out).out rfl); (have pr1_K8 := frozen_of_row _ _ 1 _ _ (cells_of Rr_3.out K8.out)); (have qr2_K8 := row_c (i := 2) (co Rr_3 K8.out).out rfl); (have pr2_K8 := frozen_of_row _ _ 2 _ _ (cells_of Rr_3.out K8.out)); clear hb hd))
      rename_i hHeld
      clear hHeld
      clear fx0 zx0 fx1 zx1 xx
      have Ri_8 := co Ri_3 K8.out
      have Rr_8 := co Rr_3 K8.out
      have Rx_8 := co Rx_3 K8.out
      obtain ⟨fr0, zr0, fr1, zr1, fr2, zr2, xr⟩ := ly3 Rr_8.out
      go_wp2
      refine bodyPost_ret (v := .agg #[.bool (decide (m < 0)), .slice A8 (digs m.natAbs).length c8, .int .i64 ((y + j))]) (by simp [results, Tryz.results49, go_sem, fr0, fr1, fr2, wj]) rfl ?_
      
      refine ⟨A8, c8, rfl, ?_, ?_⟩
      · exact (fin3 L8.out Rr_8.out noint3 Gr).get (A := A8) (c := c8) (xs := digs m.natAbs) (by simp)
      · exact (fin3 L8.out Rr_8.out noint3 Gr).1
end Go.Proofs.YtdmfapgclppmhaaGreatDoor
end

section
namespace Go.Proofs.YtdmfapgclppmhaaGreatDoor
open Go.RowKit
set_option maxHeartbeats 1000000 in
set_option maxRecDepth 100000 in
theorem rright_any (A : Option Addr) (c : Nat) (s : Bool) (xs : List Nat) (w : World) (h : Dg w A c xs) (q : Bool) (hq : rightB s xs = q) (hl : xs.length ≤ 9223372036854775807) :
    Calls Tryz.prog 68 #[.agg #[.bool s, .slice A xs.length c]] w fun e w' => e = .returned (.bool q) ∧ Below w.heap.size w w' := by
  by_cases h0 : xs.length = 0
  · have t0 : ((xs.length : Int) == 0) = true := by rw [h0]; rfl
    have t1 : decide (0 < xs.length) = false := by rw [h0]; rfl
    have HQ := Lib.hid (show (!s) = q by rw [← hq]; unfold rightB; rw [if_pos h0])
    clear h h0 hq
    cases s
    all_goals
      go_enter Tryz.func68, Tryz.ntmps68
      go_wp2
      go_ret
      exact ⟨by rw [← HQ.out]; rfl, below1 _ _⟩
  · have t0 : ((xs.length : Int) == 0) = false := beq_eq_false_iff_ne.2 (by omega)
    have t1 : decide (0 < xs.length) = true := by simp; omega
    obtain ⟨b, off, hA, hb, hc⟩ := h.2.2 (by omega)
    have hx := hc (xs.length - 1) (by omega)
    have hp : 0 < xs.length := by omega
    have hq' : decide (xs[xs.length - 1]?.getD 0 ≠ 0) = q := by rw [← hq]; unfold rightB; rw [if_neg h0]
    generalize xs[xs.length - 1]?.getD 0 = x at *
    have hxq : ((x : Int) != 0) = q := by
      rw [← hq', Bool.eq_iff_iff]; simp
    have HX := Lib.hid hxq
    clear h h0 hq hc hq' hxq
    subst hA
    go_enter Tryz.func68, Tryz.ntmps68
    go_wp2
    go_ret
    refine ⟨?_, below1 _ _⟩
    rw [← HX.out]
    rfl
set_option maxHeartbeats 2000000 in
set_option maxRecDepth 100000 in
theorem rzfrom_any (n : Int) (w : World) (h0 : -9223372036854775808 ≤ n) (h1 : n ≤ 9223372036854775807) :
    Calls Tryz.prog 39 #[.int .i64 n] w fun e w' => Zr n w e w' := by
  have lf := digs_small (n := n.natAbs) (by omega)
  by_cases hn : n < 0
  · have d0 : decide (n < 0) = true := by simp [hn]
    have TM := Lib.hid (fun A' c' W h => rmake_any A' c' true (digs n.natAbs) W h (by omega))
    rw [val_digs, show sg true n.natAbs = n by unfold sg; simp; omega] at TM
    go_enter Tryz.func39, Tryz.ntmps39
    go_wp2_with fail
    refine (rfrom_l (i := _) (k := n.natAbs) (live_start _) (by first | omega | (simp only [wrap_u64_eq]; omega)) (by omega)).mono ?_
    rintro e w1 ⟨A1, c1, rfl, hL⟩
    have K1 := Lib.hid hL.1
    have G1 := Lib.hid (hL.get (A := A1) (c := c1) (xs := digs n.natAbs) (by simp))
    clear hL
    go_wp2_with fail
    refine (TM.out A1 c1 _ G1.out).mono ?_
    rintro e w2 ⟨A2, c2, rfl, hd, hb⟩
    have K2 := Lib.hid (K1.out.trans (hb.mono K1.out.size))
    have G2 := Lib.hid hd
    have HO2 := Lib.hid (off_box (g := w.heap.size) hd K2.out rfl noint2')
    obtain ⟨hc2, hf2⟩ := bcell K2.out
    clear hb hd
    go_wp2
    refine bodyPost_ret (v := .agg #[.bool true, .slice A2 (digs n.natAbs).length c2]) (by simp [results, Tryz.results39, go_sem, hc2]) rfl ?_
    exact ⟨A2, c2, by rw [d0], (G2.out.set_off HO2.out _ _).set_off HO2.out _ _, (((below1 w _).trans (K2.out.mono (by simp))).setCell (by simp) _).setCell (by simp) _⟩
  · have d0 : decide (n < 0) = false := by simp; omega
    have TM := Lib.hid (fun A' c' W h => rmake_any A' c' false (digs n.natAbs) W h (by omega))
    rw [val_digs, show sg false n.natAbs = n by unfold sg; simp; omega] at TM
    go_enter Tryz.func39, Tryz.ntmps39
    go_wp2_with fail
    refine (rfrom_l (i := _) (k := n.natAbs) (live_start _) (by first | omega | (simp only [wrap_u64_eq]; omega)) (by omega)).mono ?_
    rintro e w1 ⟨A1, c1, rfl, hL⟩
    have K1 := Lib.hid hL.1
    have G1 := Lib.hid (hL.get (A := A1) (c := c1) (xs := digs n.natAbs) (by simp))
    clear hL
    go_wp2_with fail
    refine (TM.out A1 c1 _ G1.out).mono ?_
    rintro e w2 ⟨A2, c2, rfl, hd, hb⟩
    have K2 := Lib.hid (K1.out.trans (hb.mono K1.out.size))
    have G2 := Lib.hid hd
    have HO2 := Lib.hid (off_box (g := w.heap.size) hd K2.out rfl noint2')
    obtain ⟨hc2, hf2⟩ := bcell K2.out
    clear hb hd
    go_wp2
    refine bodyPost_ret (v := .agg #[.bool false, .slice A2 (digs n.natAbs).length c2]) (by simp [results, Tryz.results39, go_sem, hc2]) rfl ?_
    exact ⟨A2, c2, by rw [d0], (G2.out.set_off HO2.out _ _).set_off HO2.out _ _, (((below1 w _).trans (K2.out.mono (by simp))).setCell (by simp) _).setCell (by simp) _⟩
end Go.Proofs.YtdmfapgclppmhaaGreatDoor
end

section
namespace Go.Proofs.YtdmfapgclppmhaaGreatDoor
open Go.RowKit
set_option linter.unusedSimpArgs false
set_option linter.unusedVariables false
theorem sg_dz' (m : Int) : sg (decide (m < 0)) m.natAbs = m := by
  unfold sg; split <;> rename_i h <;> simp at h <;> omega

theorem tz_bit {z : Nat} (h : z ≠ 0) : bitAt z (tz z : Int) = true := by
  have ⟨a, b⟩ := tz_spec z h
  unfold bitAt
  simp only [Int.toNat_natCast, Bool.and_eq_true, decide_eq_true_eq]
  refine ⟨by omega, ?_⟩
  rw [Nat.testBit_eq_decide_div_mod_eq, decide_eq_true_eq]; exact a
theorem tz_lowb {z j : Nat} (h : z ≠ 0) (hj : j < tz z) : bitAt z (j : Int) = false := by
  have ⟨a, b⟩ := tz_spec z h
  unfold bitAt
  simp only [Int.toNat_natCast]
  rw [Bool.and_eq_false_iff]
  right
  rw [Nat.testBit_eq_decide_div_mod_eq, decide_eq_false_iff_not]
  have e : z = z / 2 ^ tz z * 2 ^ (tz z - j - 1) * 2 * 2 ^ j := by
    rw [Nat.mul_assoc _ 2, ← Nat.pow_succ', Nat.mul_assoc, ← Nat.pow_add]
    rw [show tz z - j - 1 + (j + 1) = tz z by omega]; exact b
  rw [e, Nat.mul_div_cancel _ (Nat.pow_pos (by omega))]
  omega
theorem nm_sgz {z : Int} (h : z ≠ 0) : sg (decide (z < 0)) (z.natAbs / 2 ^ tz z.natAbs) = nm z := by
  have ⟨a, b⟩ := tz_spec z.natAbs (by omega)
  have ⟨c, d, e⟩ := nm_back h
  rw [← e]
  have := nm_neg_iff z
  rw [← this]
  exact sg_dz' _

set_option maxHeartbeats 4000000 in
set_option maxRecDepth 100000 in
theorem r5right_z (A : Option Addr) (c : Nat) (m x : Int) (w : World) (h : Dg w A c (digs m.natAbs)) (hl : (digs m.natAbs).length ≤ 10000) (r : Rt m x) (m0 : m = 0):
    Calls Tryz.prog 36 #[.agg #[.bool (decide (m < 0)), .slice A (digs m.natAbs).length c, .int .i64 x]] w fun e w' => e = .returned (.bool true) ∧ Below w.heap.size w w' := by
  have hx0 := nf_zero r.1 m0
  have t0 : ((((digs m.natAbs).length : Nat) : Int) == 0) = true := by rw [m0, show digs (0 : Int).natAbs = [] from digs_zero]; rfl
  have x0 : (x == 0) = true := by simp [hx0]
  have HR := Lib.hid (show rightB (decide (m < 0)) (digs m.natAbs) = true by rw [m0, show digs (0 : Int).natAbs = [] from digs_zero]; rfl)
  have HL := Lib.hid hl
  have L0 := Lib.hid ((live_start w).add h)
  clear h hl r m0 hx0
  go_enter Tryz.func36, Tryz.ntmps36
  go_wp2_with fail
  obtain ⟨v1, hW, hb, Rx_1⟩ := new1 w (.cells #[.bool (decide (m < 0)), .slice A (digs m.natAbs).length c, .int .i64 x] 26)
  rw [← hW]
  have L1 := ls L0 hb
  have Gx := gl0 L0.out
  clear hW hb
  refine (rright_any A c _ _ _ (L1.out.get (A := A) (c := c) (xs := digs m.natAbs) (by simp)) true HR.out (Nat.le_trans HL.out (by omega))).mono ?_
  rintro e w2 ⟨rfl, hb⟩
  have L2 := ls L1 hb
  have Rx_2 := co Rx_1 hb
  clear hb 
  obtain ⟨fx0, zx0, fx1, zx1, fx2, zx2, xx⟩ := ly3 Rx_2.out
  go_wp2
  go_ret
  exact ⟨rfl, L2.out.1⟩
set_option maxHeartbeats 4000000 in
set_option maxRecDepth 100000 in
theorem r5right_p (A : Option Addr) (c : Nat) (m x : Int) (w : World) (h : Dg w A c (digs m.natAbs)) (hl : (digs m.natAbs).length ≤ 10000) (r : Rt m x) (m0 : m ≠ 0):
    Calls Tryz.prog 36 #[.agg #[.bool (decide (m < 0)), .slice A (digs m.natAbs).length c, .int .i64 x]] w fun e w' => e = .returned (.bool true) ∧ Below w.heap.size w w' := by
  have dr := dyR_num r
  unfold dyR at dr
  have n0 : (digs m.natAbs).length ≠ 0 := fun e => m0 (by have := digs_nil.1 e; omega)
  rw [if_neg n0] at dr
  simp only [Bool.and_eq_true, decide_eq_true_eq] at dr
  obtain ⟨⟨⟨dr, od⟩, x0⟩, x1⟩ := dr
  have HR := Lib.hid dr
  have HL := Lib.hid hl
  have t0 : ((((digs m.natAbs).length : Nat) : Int) == 0) = false := beq_eq_false_iff_ne.2 (by omega)
  have hp : 0 < (digs m.natAbs).length := by omega
  have hc1 : 0 < c := by have := h.1; omega
  obtain ⟨b, off, hA, hb, hc⟩ := h.2.2 hp
  have hx := hc 0 hp
  rw [Nat.add_zero] at hx
  have H := Lib.hid h
  generalize (digs m.natAbs)[0]?.getD 0 = d at *
  have hd : (((d : Nat) : Int).tmod 2 == 1) = true := by
    rw [Int.tmod_eq_emod_of_nonneg (by omega), beq_iff_eq]; omega
  have hd2 : (((d : Nat) : Int) % 2 == 1) = true := by rw [beq_iff_eq]; omega
  have d1 : decide (-131072 ≤ x) = true := decide_eq_true x0
  have d2 : decide (x ≤ 131072) = true := decide_eq_true x1
  have HB := Lib.hid hb
  have HX := Lib.hid hx
  clear hc hx hb
  subst hA
  have L0 := Lib.hid ((live_start w).add h)
  clear h hl r dr od x0 x1 m0 n0
  go_enter Tryz.func36, Tryz.ntmps36
  go_wp2_with fail
  obtain ⟨v1, hW, hb, Rx_1⟩ := new1 w (.cells #[.bool (decide (m < 0)), .slice (some ⟨b, off, none⟩) (digs m.natAbs).length c, .int .i64 x] 26)
  rw [← hW]
  have L1 := ls L0 hb
  have Gx := gl0 L0.out
  clear hW hb
  refine (rright_any (some ⟨b, off, none⟩) c _ _ _ (L1.out.get (A := (some ⟨b, off, none⟩)) (c := c) (xs := digs m.natAbs) (by simp)) true HR.out (Nat.le_trans HL.out (by omega))).mono ?_
  rintro e w2 ⟨rfl, hb⟩
  have L2 := ls L1 hb
  have Rx_2 := co Rx_1 hb
  clear hb 
  have hx := (L2.out.1.cell (p := ⟨b, off, none⟩) HB.out).trans HX.out
  obtain ⟨fx0, zx0, fx1, zx1, fx2, zx2, xx⟩ := ly3 Rx_2.out
  go_wp2
  go_ret
  exact ⟨rfl, L2.out.1⟩
theorem r5right_t {A : Option Addr} {c : Nat} {m x : Int} {w : World} (h : Dg w A c (digs m.natAbs)) (hl : (digs m.natAbs).length ≤ 10000) (r : Rt m x) :
    Calls Tryz.prog 36 #[.agg #[.bool (decide (m < 0)), .slice A (digs m.natAbs).length c, .int .i64 x]] w fun e w' => e = .returned (.bool true) ∧ Below w.heap.size w w' := by
  by_cases m0 : m = 0
  · exact r5right_z A c m x w h hl r m0
  · exact r5right_p A c m x w h hl r m0

theorem rbits_z {A : Option Addr} {c x : Nat} {z : Int} {w : World} (h : Dg w A c (digs x)) (hl : (digs x).length ≤ 1000000) (hz : (blen x : Int) = z) :
    Calls Tryz.prog 70 #[.slice A (digs x).length c] w fun e w' => e = .returned (.int .i64 z) ∧ Below w.heap.size w w' := by
  have := rbits_any A c (digs x) w h (by omega)
  rw [val_digs, hz] at this; exact this

set_option maxHeartbeats 4000000 in
set_option maxRecDepth 100000 in
theorem r5size_any (A : Option Addr) (c : Nat) (m x s : Int) (w : World) (h : Dg w A c (digs m.natAbs)) (hl : (digs m.natAbs).length ≤ 100000) (x0 : -10000000 ≤ x) (x1 : x ≤ 10000000) (hs : x + bl m = s):
    Calls Tryz.prog 69 #[.agg #[.bool (decide (m < 0)), .slice A (digs m.natAbs).length c, .int .i64 x]] w fun e w' => e = .returned (.int .i64 s) ∧ Below w.heap.size w w' := by
  have b1 := bl_bd hl
  unfold bl at hs
  obtain ⟨z, hz⟩ : ∃ z : Int, (blen m.natAbs : Int) = z := ⟨_, rfl⟩
  rw [hz] at hs
  have z0 : 0 ≤ z ∧ z ≤ 13000000 := by omega
  obtain ⟨z0, z1⟩ := z0
  have ws : IntKind.i64.wrap (x + z) = s := by rw [IntWalk.i64_in _ (by omega)]; exact hs
  have HZ := Lib.hid hz
  have HL := Lib.hid hl
  have L0 := Lib.hid ((live_start w).add h)
  clear h hl hz hs b1
  go_enter Tryz.func69, Tryz.ntmps69
  go_wp2_with fail
  obtain ⟨v1, hW, hb, Rx_1⟩ := new1 w (.cells #[.bool (decide (m < 0)), .slice A (digs m.natAbs).length c, .int .i64 x] 26)
  rw [← hW]
  have L1 := ls L0 hb
  have Gx := gl0 L0.out
  clear hW hb
  obtain ⟨fx0, zx0, fx1, zx1, fx2, zx2, xx⟩ := ly3 Rx_1.out
  have KD := Lib.hid (bd0 v1)
  have LD := ls L1 KD.out
  go_region_held3 (fun w' => ∀ b o, b < v1.heap.size → w'.cell? ⟨b, o, none⟩ = v1.cell? ⟨b, o, none⟩)
    (first | with_reducible exact (bcell KD.out).1 | with_reducible exact (bcell K3.out).1)
    (first
      | (go_at_call 70; (with_reducible refine (rbits_z (LD.out.get (A := A) (c := c) (xs := digs m.natAbs) (by simp)) (Nat.le_trans HL.out (by omega)) HZ.out).mono ?_); rintro e w3 ⟨rfl, hb⟩; (have K3 := bt KD hb); (have L3 := Lib.hid (LD.out.step hb)); clear hb ))
  rename_i hHeld
  clear hHeld
  clear fx0 zx0 fx1 zx1 fx2 zx2 xx
  have Rx_3 := co Rx_1 K3.out
  clear KD LD
  clear ws
  go_wp2
  go_ret
  exact ⟨rfl, L3.out.1⟩

set_option maxHeartbeats 1000000 in
set_option maxRecDepth 100000 in
theorem r5inr_z (A : Option Addr) (c : Nat) (m x : Int) (w : World) (m0 : m = 0) :
    Calls Tryz.prog 37 #[.agg #[.bool (decide (m < 0)), .slice A (digs m.natAbs).length c, .int .i64 x]] w fun e w' => e = .returned (.bool true) ∧ Below w.heap.size w w' := by
  have t0 : ((((digs m.natAbs).length : Nat) : Int) == 0) = true := by rw [m0, show digs (0 : Int).natAbs = [] from digs_zero]; rfl
  clear m0
  go_enter Tryz.func37, Tryz.ntmps37
  go_wp2
  go_ret
  exact ⟨rfl, below1 _ _⟩
set_option maxHeartbeats 4000000 in
set_option maxRecDepth 100000 in
theorem r5inr_p (A : Option Addr) (c : Nat) (m x : Int) (w : World) (h : Dg w A c (digs m.natAbs)) (hl : (digs m.natAbs).length ≤ 10000) (hq : inR m x = true) (m0 : m ≠ 0):
    Calls Tryz.prog 37 #[.agg #[.bool (decide (m < 0)), .slice A (digs m.natAbs).length c, .int .i64 x]] w fun e w' => e = .returned (.bool true) ∧ Below w.heap.size w w' := by
  unfold inR at hq
  rw [decide_eq_true_eq] at hq
  rcases hq with hq | ⟨x0, x1, hb, s0, s1⟩
  · exact absurd hq m0
  have t0 : ((((digs m.natAbs).length : Nat) : Int) == 0) = false := beq_eq_false_iff_ne.2 (fun e => m0 (by have := digs_nil.1 (show (digs m.natAbs).length = 0 by omega); omega))
  obtain ⟨s, hs⟩ : ∃ s : Int, x + bl m = s := ⟨_, rfl⟩
  rw [hs] at s0 s1
  obtain ⟨z, hz⟩ : ∃ z : Int, (blen m.natAbs : Int) = z := ⟨_, rfl⟩
  unfold bl at hb
  have zb : z ≤ 262144 := by omega
  have HZ := Lib.hid hz
  have HS := Lib.hid hs
  have HL := Lib.hid hl
  have SC := Lib.hid (show -10000000 ≤ x ∧ x ≤ 10000000 by omega)
  have d1 : decide (-65536 ≤ s) = true := decide_eq_true s0
  have d2 : decide (s ≤ 65536) = true := decide_eq_true s1
  have d3 : decide (-131072 ≤ x) = true := decide_eq_true x0
  have d4 : decide (x ≤ 131072) = true := decide_eq_true x1
  have d5 : decide (z ≤ 262144) = true := decide_eq_true zb
  have L0 := Lib.hid ((live_start w).add h)
  clear h hl hs hz hb zb s0 s1 x0 x1 m0
  go_enter Tryz.func37, Tryz.ntmps37
  go_wp2_with fail
  obtain ⟨v1, hW, hb, Rx_1⟩ := new1 w (.cells #[.bool (decide (m < 0)), .slice A (digs m.natAbs).length c, .int .i64 x] 26)
  rw [← hW]
  have L1 := ls L0 hb
  have Gx := gl0 L0.out
  clear hW hb
  obtain ⟨fx0, zx0, fx1, zx1, fx2, zx2, xx⟩ := ly3 Rx_1.out
  clear fx0 zx0 fx1 zx1 fx2 zx2 xx
  obtain ⟨fx0, zx0, fx1, zx1, fx2, zx2, xx⟩ := ly3 Rx_1.out
  go_wp2_with fail
  refine (r5size_any A c m x s _ (L1.out.get (A := A) (c := c) (xs := digs m.natAbs) (by simp)) (Nat.le_trans HL.out (by omega)) SC.out.1 SC.out.2 HS.out).mono ?_
  rintro e w2 ⟨rfl, hb⟩
  have L2 := ls L1 hb
  clear fx0 zx0 fx1 zx1 fx2 zx2 xx
  have Rx_2 := co Rx_1 hb
  clear hb 
  obtain ⟨fx0, zx0, fx1, zx1, fx2, zx2, xx⟩ := ly3 Rx_2.out
  go_wp2_with fail
  refine (rbits_z (L2.out.get (A := A) (c := c) (xs := digs m.natAbs) (by simp)) (Nat.le_trans HL.out (by omega)) HZ.out).mono ?_
  rintro e w3 ⟨rfl, hb⟩
  have L3 := ls L2 hb
  clear fx0 zx0 fx1 zx1 fx2 zx2 xx
  have Rx_3 := co Rx_2 hb
  clear hb 
  go_wp2
  go_ret
  exact ⟨rfl, L3.out.1⟩
theorem r5inr_t {A : Option Addr} {c : Nat} {m x : Int} {w : World} (h : Dg w A c (digs m.natAbs)) (hl : (digs m.natAbs).length ≤ 10000) (hq : inR m x = true) :
    Calls Tryz.prog 37 #[.agg #[.bool (decide (m < 0)), .slice A (digs m.natAbs).length c, .int .i64 x]] w fun e w' => e = .returned (.bool true) ∧ Below w.heap.size w w' := by
  by_cases m0 : m = 0
  · exact r5inr_z A c m x w m0
  · exact r5inr_p A c m x w h hl hq m0

set_option maxHeartbeats 4000000 in
set_option maxRecDepth 100000 in
theorem rnorm_0 (A : Option Addr) (c : Nat) (s : Bool) (xs : List Nat) (y z : Int) (w : World) (h : Dg w A c xs) (hl : xs.length ≤ 100000) (hz : sg s (val xs) = z) (z0 : z = 0):
    Calls Tryz.prog 49 #[.agg #[.bool s, .slice A xs.length c], .int .i64 y] w fun e w' => Yr 0 0 w e w' := by
  have HZ := Lib.hid hz
  have HL := Lib.hid hl
  have t0 : ((((digs z.natAbs).length : Nat) : Int) == 0) = true := by rw [z0, show digs (0 : Int).natAbs = [] from digs_zero]; rfl
  have L0 := Lib.hid ((live_start w).add h)
  clear h hl hz z0
  go_enter Tryz.func49, Tryz.ntmps49
  go_wp2_with fail
  obtain ⟨v1, hW, hb, Ri_1, Rr_1⟩ := new2 w (.cells #[.bool s, .slice A xs.length c] 24) (.cells #[.bool false, .slice none 0 0, .int .i64 0] 26)
  rw [← hW]
  have L1 := ls L0 hb
  have Gi := gl0 L0.out
  have Gr := gl1 L0.out
  have Nir : w.heap.size < w.heap.size + 1 := by omega
  clear hW hb
  refine (rmake_z (L1.out.get (A := A) (c := c) (xs := xs) (by simp)) (Nat.le_trans HL.out (by omega)) HZ.out).mono ?_
  rintro e w2 ⟨A2, c2, rfl, hd, hb⟩
  have L2 := la L1 hb hd
  have Ri_2 := co Ri_1 hb
  have Rr_2 := co Rr_1 hb
  clear hb hd
  go_upto_region 2 with fail
  obtain ⟨w3, hW, hb, Rx_3⟩ := new1 w2 (.cells #[.bool (decide (z < 0)), .slice A2 (digs z.natAbs).length c2] 24)
  rw [← hW]
  have L3 := ls L2 hb
  have Ri_3 := co Ri_2 hb
  have Rr_3 := co Rr_2 hb
  have Gx := gl0 L2.out
  have Nix := nl0 Ri_2.out
  have Nrx := nl0 Rr_2.out
  clear hW hb
  obtain ⟨fx0, zx0, fx1, zx1, xx⟩ := ly2 Rx_3.out
  obtain ⟨fr0, zr0, fr1, zr1, fr2, zr2, xr⟩ := ly3 Rr_3.out
  go_wp2
  refine bodyPost_ret (v := .agg #[.bool false, .slice none 0 0, .int .i64 0]) (by simp [results, Tryz.results49, go_sem, fx0, fx1, fr0, fr1, fr2]) rfl ?_
  exact zero_yr (fin3 L3.out Rr_3.out noint3 Gr).1
theorem rnorm_z {A : Option Addr} {c : Nat} {s : Bool} {xs : List Nat} {y z M E : Int} {w : World} (h : Dg w A c xs) (hl : xs.length ≤ 100000) (hz : sg s (val xs) = z) (hlz : (digs z.natAbs).length ≤ 100000) (y0 : -1000000 ≤ y) (y1 : y ≤ 1000000) (hM : nm z = M) (hE : nx z y = E) :
    Calls Tryz.prog 49 #[.agg #[.bool s, .slice A xs.length c], .int .i64 y] w fun e w' => Yr M E w e w' := by
  by_cases h0 : z = 0
  · subst hM hE; have := rnorm_0 A c s xs y z w h hl hz h0; rw [h0]; exact this
  · have hb := bl_bd hlz
    have hlt : tz z.natAbs < 2 * 3200000 := by
      have := (blen_bd z.natAbs (by omega)).2.1
      have := tz_lt (by omega) this
      omega
    have e2 : nx z y = y + tz z.natAbs := by unfold nx; rw [if_neg h0]
    rw [← hM, ← hE, e2]
    exact rnorm_any A c s xs y z _ (tz z.natAbs) w h hl hz (fun e => h0 (by have := digs_nil.1 e; omega)) hlz (fun j hj => tz_lowb (by omega) hj) (tz_bit (by omega)) (by omega) (nm_sgz h0) y0 y1

set_option maxHeartbeats 4000000 in
set_option maxRecDepth 100000 in
theorem r5make_yes (A : Option Addr) (c : Nat) (s : Bool) (xs : List Nat) (y M E : Int) (w : World) (h : Dg w A c xs) (hl : xs.length ≤ 9000) (y0 : -100000 ≤ y) (y1 : y ≤ 100000) (hM : nm (sg s (val xs)) = M) (hE : nx (sg s (val xs)) y = E) (hq : inR M E = true):
    Calls Tryz.prog 51 #[.agg #[.bool s, .slice A xs.length c], .int .i64 y] w fun e w' => Yb M E true w e w' := by
  have HL := Lib.hid hl
  have HM := Lib.hid hM
  have HE := Lib.hid hE
  have HQ := Lib.hid hq
  have LM := Lib.hid (inr_len hq)
  have LZ := Lib.hid (show (digs (sg s (val xs)).natAbs).length ≤ 100000 by rw [sg_abs]; exact Nat.le_trans (digs_len_le h.2.1) (by omega))
  have d1 : decide (y < -100000) = false := decide_eq_false (by omega)
  have d2 : decide (100000 < y) = false := decide_eq_false (by omega)
  have Y := Lib.hid (show -1000000 ≤ y ∧ y ≤ 1000000 by omega)
  have L0 := Lib.hid ((live_start w).add h)
  clear h hl hM hE hq y0 y1
  go_enter Tryz.func51, Tryz.ntmps51
  go_wp2_with fail
  obtain ⟨v1, hW, hb, Ri_1, Rr_1⟩ := new2 w (.cells #[.bool s, .slice A xs.length c] 24) (.cells #[.bool false, .slice none 0 0, .int .i64 0] 26)
  rw [← hW]
  have L1 := ls L0 hb
  have Gi := gl0 L0.out
  have Gr := gl1 L0.out
  have Nir : w.heap.size < w.heap.size + 1 := by omega
  clear hW hb
  refine (rnorm_z (z := sg s (val xs)) (L1.out.get (A := A) (c := c) (xs := xs) (by simp)) (Nat.le_trans HL.out (by omega)) rfl LZ.out Y.out.1 Y.out.2 HM.out HE.out).mono ?_
  rintro e w2 ⟨A2, c2, rfl, hd, hb⟩
  have L2 := la L1 hb hd
  have Ri_2 := co Ri_1 hb
  have Rr_2 := co Rr_1 hb
  clear hb hd
  go_wp2_with fail
  obtain ⟨w3, hW, hb, Rx_3⟩ := new1 w2 (.cells #[.bool (decide (M < 0)), .slice A2 (digs M.natAbs).length c2, .int .i64 E] 26)
  rw [← hW]
  have L3 := ls L2 hb
  have Ri_3 := co Ri_2 hb
  have Rr_3 := co Rr_2 hb
  have Gx := gl0 L2.out
  have Nix := nl0 Ri_2.out
  have Nrx := nl0 Rr_2.out
  clear hW hb
  refine (r5inr_t (L3.out.get (A := A2) (c := c2) (xs := digs M.natAbs) (by simp)) LM.out HQ.out).mono ?_
  rintro e w4 ⟨rfl, hb⟩
  have L4 := ls L3 hb
  have Ri_4 := co Ri_3 hb
  have Rr_4 := co Rr_3 hb
  have Rx_4 := co Rx_3 hb
  clear hb 
  obtain ⟨fx0, zx0, fx1, zx1, fx2, zx2, xx⟩ := ly3 Rx_4.out
  obtain ⟨fr0, zr0, fr1, zr1, fr2, zr2, xr⟩ := ly3 Rr_4.out
  go_wp2
  refine bodyPost_ret (v := .tuple #[.agg #[.bool (decide (M < 0)), .slice A2 (digs M.natAbs).length c2, .int .i64 E], .bool true]) (by simp [results, Tryz.results51, go_sem, fx0, fx1, fx2, fr0, fr1, fr2]) rfl ?_
  
  refine ⟨A2, c2, rfl, ?_, ?_⟩
  · exact (fin3 L4.out Rr_4.out noint3 Gr).get (A := A2) (c := c2) (xs := digs M.natAbs) (by simp)
  · exact (fin3 L4.out Rr_4.out noint3 Gr).1
end Go.Proofs.YtdmfapgclppmhaaGreatDoor
end

section
namespace Go.Proofs.YtdmfapgclppmhaaGreatDoor
open Go.RowKit
set_option linter.unusedSimpArgs false
set_option linter.unusedVariables false
theorem rshl_z {A : Option Addr} {c v n : Nat} {w : World} (h : Dg w A c (digs v)) (hl : (digs v).length ≤ 1048576) (hn : n ≤ 100000) :
    Calls Tryz.prog 108 #[.slice A (digs v).length c, .int .i64 n] w fun e w' => ∃ A' c', e = .returned (.tuple #[.slice A' (digs (v * 2 ^ n)).length c', .bool true]) ∧ Dg w' A' c' (digs (v * 2 ^ n)) ∧ Below w.heap.size w w' := by
  have := rshl_any A c (digs v) n w h hl hn
  rwa [val_digs] at this
theorem len_pow {v n k : Nat} (h : (digs v).length ≤ k) : (digs (v * 2 ^ n)).length ≤ k + n / 32 + 2 := by
  have h1 : blen v ≤ 32 * k := by
    refine blen_le ?_
    have := val_lt (ok_digs v)
    rw [val_digs] at this
    refine Nat.lt_of_lt_of_le this ?_
    rw [show (4294967296 : Nat) = 2 ^ 32 from rfl, ← Nat.pow_mul]
    exact Nat.pow_le_pow_right (by omega) (by omega)
  have h2 := len_bl ((v * 2 ^ n : Nat) : Int)
  simp only [Int.natAbs_natCast] at h2
  have h3 : bl ((v * 2 ^ n : Nat) : Int) ≤ 32 * k + n := by
    unfold bl
    simp only [Int.natAbs_natCast]
    by_cases h0 : v = 0
    · rw [h0, Nat.zero_mul, blen_zero]; omega
    · rw [blen_up h0]; omega
  omega
theorem pow_step (v d k : Nat) : v * 2 ^ d * 2 ^ k = v * 2 ^ (d + k) := by rw [Nat.mul_assoc, ← Nat.pow_add]

set_option maxHeartbeats 4000000 in
set_option maxRecDepth 100000 in
theorem r5up_any (A : Option Addr) (c : Nat) (s : Bool) (v n : Nat) (z : Int) (w : World) (h : Dg w A c (digs v)) (hl : (digs v).length ≤ 100000) (hn : n ≤ 300000) (hz : sg s (v * 2 ^ n) = z):
    Calls Tryz.prog 84 #[.agg #[.bool s, .slice A (digs v).length c], .int .i64 n] w fun e w' => Zr z w e w' := by
  have HL := Lib.hid hl
  have HZ := Lib.hid hz
  have L0 := Lib.hid ((live_start w).add h)
  clear h hl hz
  go_enter Tryz.func84, Tryz.ntmps84
  go_wp2_with fail
  obtain ⟨v1, hW, hb, Ri_1, Rr_1⟩ := new2 w (.cells #[.bool s, .slice A (digs v).length c] 24) (.cells #[.bool false, .slice none 0 0] 24)
  rw [← hW]
  have L1 := ls L0 hb
  have Gi := gl0 L0.out
  have Gr := gl1 L0.out
  have Nir : w.heap.size < w.heap.size + 1 := by omega
  clear hW hb
  obtain ⟨fi0, zi0, fi1, zi1, xi⟩ := ly2 Ri_1.out
  have D0 := Lib.hid (show Dg v1 A c (digs (v * 2 ^ 0)) by rw [Nat.pow_zero, Nat.mul_one]; exact L1.out.get (A := A) (c := c) (xs := digs v) (by simp))
  have EL := Lib.hid (show (digs v).length = (digs (v * 2 ^ 0)).length by rw [Nat.pow_zero, Nat.mul_one])
  go_loopw [1, 5, 6] (fun nv mv kv wr => ∃ (d : Nat) (A1 : Option Addr) (c1 : Nat), d ≤ n ∧ nv = .int .i64 ((n : Int) - (d : Int)) ∧ mv = .slice A1 (digs (v * 2 ^ d)).length c1 ∧ Dg wr A1 c1 (digs (v * 2 ^ d)) ∧ Below v1.heap.size v1 wr) (fun nv _ _ _ => (intOf nv).toNat)
  case atStart => exact ⟨0, A, c, Nat.zero_le _, by simp, by rw [← EL.out], D0.out, Below.refl _ _⟩
  case round =>
    obtain ⟨d, A1, c1, hd, rfl, rfl, hD, hb⟩ := hrel
    have HD := Lib.hid hD
    have HB := Lib.hid hb
    clear hD hb
    obtain ⟨q, hq⟩ : ∃ q : Int, (n : Int) - (d : Int) = q := ⟨_, rfl⟩
    rw [hq]
    by_cases hlt : d < n
    · obtain ⟨k, hk⟩ : ∃ k : Nat, min (n - d) 100000 = k := ⟨_, rfl⟩
      have mk : min q 100000 = (k : Int) := by omega
      have mk2 : (if q < 100000 then q else 100000) = (k : Int) := by split <;> omega
      have mk3 : (if 100000 < q then 100000 else q) = (k : Int) := by split <;> omega
      have d1 : decide (0 < q) = true := decide_eq_true (by omega)
      have hk1 : k ≤ 100000 := by omega
      have LL := Lib.hid (show (digs (v * 2 ^ d)).length ≤ 1048576 by have := len_pow (n := d) HL.out; omega)
      have hq0 : 0 ≤ q ∧ q ≤ 300000 := by omega
      have wk : IntKind.i64.wrap (q - (k : Int)) = q - (k : Int) := IntWalk.i64_in _ (by omega)
      have HK := Lib.hid (show q = (n : Int) - (d : Int) ∧ d + k ≤ n ∧ 0 < k by omega)
      obtain ⟨q0, q1⟩ := hq0
      clear hk hq hlt hd hn
      go_wp2_with fail
      refine (rshl_z HD.out LL.out hk1).mono ?_
      rintro e w2 ⟨A2, c2, rfl, hd2, hb2⟩
      rw [pow_step] at hd2 ⊢
      have HD2 := Lib.hid hd2
      have HB2 := Lib.hid (HB.out.trans (hb2.mono HB.out.size))
      clear hd2 hb2
      go_wp2
      go_roundw
      case rel => exact ⟨d + k, A2, c2, HK.out.2.1, by rw [HK.out.1]; congr 1; all_goals omega, rfl, HD2.out, HB2.out⟩
      case measure => have := HK.out; simp [intOf]; omega
    · obtain rfl : d = n := by omega
      have d1 : decide (0 < q) = false := decide_eq_false (by omega)
      clear hq hlt hd
      have L9 := ls L1 HB.out
      have Rwi := co Ri_1 HB.out
      have Rwr := co Rr_1 HB.out
      have LL := Lib.hid (show (digs (v * 2 ^ d)).length ≤ 1000000 by have := len_pow (n := d) HL.out; omega)
      clear fi0 zi0 fi1 zi1 xi
      obtain ⟨fi0, zi0, fi1, zi1, xi⟩ := ly2 Rwi.out
      go_wp2_with fail
      refine (rmake_z (z := z) HD.out LL.out (by rw [val_digs]; exact HZ.out)).mono ?_
      rintro e w22 ⟨A22, c22, rfl, hd, hb⟩
      have L22 := la L9 hb hd
      clear fi0 zi0 fi1 zi1 xi
      have Ri_22 := co Rwi hb
      have Rr_22 := co Rwr hb
      clear hb hd
      obtain ⟨fr0, zr0, fr1, zr1, xr⟩ := ly2 Rr_22.out
      go_wp2
      refine bodyPost_ret (v := .agg #[.bool (decide (z < 0)), .slice A22 (digs z.natAbs).length c22]) (by simp [results, Tryz.results84, go_sem, fr0, fr1]) rfl ?_
      
      refine ⟨A22, c22, rfl, ?_, ?_⟩
      · exact (fin2 L22.out Rr_22.out noint_int Gr).get (A := A22) (c := c22) (xs := digs z.natAbs) (by simp)
      · exact (fin2 L22.out Rr_22.out noint_int Gr).1

theorem r5up_z {A : Option Addr} {c : Nat} {m q x e0 k : Int} {w : World} (h : Dg w A c (digs m.natAbs)) (hl : (digs m.natAbs).length ≤ 100000) (h0 : e0 ≤ x) (h1 : x - e0 ≤ 300000) (hk : x - e0 = k) (hq : upto m x e0 = q) :
    Calls Tryz.prog 84 #[.agg #[.bool (decide (m < 0)), .slice A (digs m.natAbs).length c], .int .i64 k] w fun e w' => Zr q w e w' := by
  have := r5up_any A c (decide (m < 0)) m.natAbs (x - e0).toNat q w h hl (by omega) (by
    rw [← hq]
    have h2 := upto_abs m x e0
    have h3 := upto_neg m x e0
    rw [← h2, ← h3]
    exact sg_dz' _)
  rw [show (((x - e0).toNat : Nat) : Int) = k by omega] at this
  exact this
end Go.Proofs.YtdmfapgclppmhaaGreatDoor
end

section
namespace Go.Proofs.YtdmfapgclppmhaaGreatDoor
open Go.RowKit
set_option linter.unusedSimpArgs false
set_option linter.unusedVariables false
set_option maxHeartbeats 4000000 in
set_option maxRecDepth 100000 in
theorem r5lift_gt (A B : Option Addr) (c d : Nat) (m n x y : Int) (w : World) (h : Dg w A c (digs m.natAbs)) (h' : Dg w B d (digs n.natAbs)) (hl : (digs m.natAbs).length ≤ 10000) (hl' : (digs n.natAbs).length ≤ 10000) (x0 : -131072 ≤ x) (x1 : x ≤ 131072) (y0 : -131072 ≤ y) (y1 : y ≤ 131072) (m0 : m ≠ 0) (n0 : n ≠ 0) {p q e0 : Int} (he : min x y = e0) (hp : upto m x e0 = p) (hq : upto n y e0 = q) (hc : y < x):
    Calls Tryz.prog 47 #[.agg #[.bool (decide (m < 0)), .slice A (digs m.natAbs).length c, .int .i64 x], .agg #[.bool (decide (n < 0)), .slice B (digs n.natAbs).length d, .int .i64 y]] w fun e w' => Ybs p q e0 w e w' := by
  have t1 : ((((digs m.natAbs).length : Nat) : Int) == 0) = false := beq_eq_false_iff_ne.2 (fun e => m0 (by have := digs_nil.1 (show (digs m.natAbs).length = 0 by omega); omega))
  have t2 : ((((digs n.natAbs).length : Nat) : Int) == 0) = false := beq_eq_false_iff_ne.2 (fun e => n0 (by have := digs_nil.1 (show (digs n.natAbs).length = 0 by omega); omega))
  have d1 : decide (y < x) = true := by simp; omega
  obtain rfl : y = e0 := by omega
  obtain ⟨k, hk⟩ : ∃ k : Int, x - y = k := ⟨_, rfl⟩
  have wk : IntKind.i64.wrap (x - y) = k := by rw [IntWalk.i64_in _ (by omega)]; exact hk
  obtain rfl : n = q := by rw [← hq, upto_self]
  have HK := Lib.hid hk
  have HU := Lib.hid hp
  have lx := Lib.hid hl
  have ly := Lib.hid hl'
  have HC := Lib.hid (show y ≤ x ∧ x - y ≤ 300000 by omega)
  have L0 := Lib.hid (((live_start w).add h).add h')
  clear h h' hl hl' m0 n0 he hp hq hc hk
  go_enter Tryz.func47, Tryz.ntmps47
  go_wp2_with fail
  obtain ⟨v1, hW, hb, Rx_1, Ry_1, Ra_1, Rb_1⟩ := new4 w (.cells #[.bool (decide (m < 0)), .slice A (digs m.natAbs).length c, .int .i64 x] 26) (.cells #[.bool (decide (n < 0)), .slice B (digs n.natAbs).length d, .int .i64 y] 26) (.cells #[.bool false, .slice none 0 0] 24) (.cells #[.bool false, .slice none 0 0] 24)
  rw [← hW]
  have L1 := ls L0 hb
  have Gx := gl0 L0.out
  have Gy := gl1 L0.out
  have Nxy : w.heap.size < w.heap.size + 1 := by omega
  have Ga := gl2 L0.out
  have Nxa : w.heap.size < w.heap.size + 1 + 1 := by omega
  have Nya : w.heap.size + 1 < w.heap.size + 1 + 1 := by omega
  have Gb := gl3 L0.out
  have Nxb : w.heap.size < w.heap.size + 1 + 1 + 1 := by omega
  have Nyb : w.heap.size + 1 < w.heap.size + 1 + 1 + 1 := by omega
  have Nab : w.heap.size + 1 + 1 < w.heap.size + 1 + 1 + 1 := by omega
  clear hW hb
  obtain ⟨fx0, zx0, fx1, zx1, fx2, zx2, xx⟩ := ly3 Rx_1.out
  obtain ⟨fy0, zy0, fy1, zy1, fy2, zy2, xy⟩ := ly3 Ry_1.out
  go_upto_region 6 with fail
  clear fx0 zx0 fx1 zx1 fx2 zx2 xx fy0 zy0 fy1 zy1 fy2 zy2 xy
  obtain ⟨fx0, zx0, fx1, zx1, fx2, zx2, xx⟩ := ly3 Rx_1.out
  obtain ⟨fy0, zy0, fy1, zy1, fy2, zy2, xy⟩ := ly3 Ry_1.out
  have KD := Lib.hid (bd0 v1)
  have LD := ls L1 KD.out
  have Mxa : w.heap.size ≠ w.heap.size + 1 + 1 := by omega
  have Mxb : w.heap.size ≠ w.heap.size + 1 + 1 + 1 := by omega
  have Mya : w.heap.size + 1 ≠ w.heap.size + 1 + 1 := by omega
  have Myb : w.heap.size + 1 ≠ w.heap.size + 1 + 1 + 1 := by omega
  go_region_held3 (fun w' => (∀ o, w'.cell? ⟨w.heap.size, o, none⟩ = v1.cell? ⟨w.heap.size, o, none⟩) ∧ (∀ o, w'.cell? ⟨w.heap.size + 1, o, none⟩ = v1.cell? ⟨w.heap.size + 1, o, none⟩))
    (first | with_reducible exact ⟨keep_b KD.out xx, keep_b KD.out xy⟩ | with_reducible exact ⟨keep_b K3.out xx, keep_b K3.out xy⟩ | exact ⟨(keep_set (keep_b K3.out xx) Mxa), (keep_set (keep_b K3.out xy) Mya)⟩ | exact ⟨(keep_set (keep_set (keep_b K3.out xx) Mxa) Mxa), (keep_set (keep_set (keep_b K3.out xy) Mya) Mya)⟩ | exact ⟨(keep_set (keep_set (keep_set (keep_b K3.out xx) Mxa) Mxa) Mxb), (keep_set (keep_set (keep_set (keep_b K3.out xy) Mya) Mya) Myb)⟩ | exact ⟨(keep_set (keep_set (keep_set (keep_set (keep_b K3.out xx) Mxa) Mxa) Mxb) Mxb), (keep_set (keep_set (keep_set (keep_set (keep_b K3.out xy) Mya) Mya) Myb) Myb)⟩)
    (first
      | (go_at_call 84; (with_reducible refine (r5up_z (LD.out.get (A := A) (c := c) (xs := digs m.natAbs) (by simp)) (Nat.le_trans lx.out (by omega)) HC.out.1 HC.out.2 HK.out HU.out).mono ?_); rintro e w3 ⟨A3, c3, rfl, hd, hb⟩; (have K3 := bt KD hb); (have L3 := la LD hb hd); (have qa0_K3 := row_c (i := 0) (co Ra_1 K3.out).out rfl); (have pa0_K3 := frozen_of_row _ _ 0 _ _ (cells_of Ra_1.out K3.out)); (have qa1_K3 := row_c (i := 1) (co Ra_1 K3.out).out rfl); (have pa1_K3 := frozen_of_row _ _ 1 _ _ (cells_of Ra_1.out K3.out)); (have qb0_K3 := row_c (i := 0) (co Rb_1 K3.out).out rfl); (have pb0_K3 := frozen_of_row _ _ 0 _ _ (cells_of Rb_1.out K3.out)); (have qb1_K3 := row_c (i := 1) (co Rb_1 K3.out).out rfl); (have pb1_K3 := frozen_of_row _ _ 1 _ _ (cells_of Rb_1.out K3.out)); clear hb hd))
  rename_i hHeld
  clear hHeld
  clear fx0 zx0 fx1 zx1 fx2 zx2 xx fy0 zy0 fy1 zy1 fy2 zy2 xy
  have Rx_3 := co Rx_1 K3.out
  have Ry_3 := co Ry_1 K3.out
  have Ra_3 := co Ra_1 K3.out
  have Rb_3 := co Rb_1 K3.out
  clear wk
  -- the end
  obtain ⟨w4, hW⟩ : ∃ W : World, W = ((w3.setCell ⟨w.heap.size + 1 + 1, 0, none⟩ (.bool (decide (p < 0)))).setCell ⟨w.heap.size + 1 + 1, 1, none⟩ (.slice A3 (digs p.natAbs).length c3)) := ⟨_, rfl⟩
  rw [← hW]
  have hO : Only (w.heap.size + 1 + 1) w3 w4 := by rw [hW]; exact (((Only.refl (w.heap.size + 1 + 1) w3).setCell 0 _).setCell 1 _)
  have L4 := Lib.hid (live_only L3.out hO Ra_3.out noint_int Ga)
  have Rx_4 := Lib.hid ((hO.block _ (by omega)).trans Rx_3.out)
  have Ry_4 := Lib.hid ((hO.block _ (by omega)).trans Ry_3.out)
  have Rb_4 := Lib.hid ((hO.block _ (by omega)).trans Rb_3.out)
  have Ra_4 := Lib.hid (show w4.heap[w.heap.size + 1 + 1]? = some (.cells #[.bool (decide (p < 0)), .slice A3 (digs p.natAbs).length c3] 24 (0, 0)) by rw [hW]; exact (heap_setCell_same _ _ 1 _ _ _ (heap_setCell_same _ _ 0 _ _ _ Ra_3.out)))
  clear hW hO
  obtain ⟨w5, hW⟩ : ∃ W : World, W = ((w4.setCell ⟨w.heap.size + 1 + 1 + 1, 0, none⟩ (.bool (decide (n < 0)))).setCell ⟨w.heap.size + 1 + 1 + 1, 1, none⟩ (.slice B (digs n.natAbs).length d)) := ⟨_, rfl⟩
  rw [← hW]
  have hO : Only (w.heap.size + 1 + 1 + 1) w4 w5 := by rw [hW]; exact (((Only.refl (w.heap.size + 1 + 1 + 1) w4).setCell 0 _).setCell 1 _)
  have L5 := Lib.hid (live_only L4.out hO Rb_4.out noint_int Gb)
  have Rx_5 := Lib.hid ((hO.block _ (by omega)).trans Rx_4.out)
  have Ry_5 := Lib.hid ((hO.block _ (by omega)).trans Ry_4.out)
  have Ra_5 := Lib.hid ((hO.block _ (by omega)).trans Ra_4.out)
  have Rb_5 := Lib.hid (show w5.heap[w.heap.size + 1 + 1 + 1]? = some (.cells #[.bool (decide (n < 0)), .slice B (digs n.natAbs).length d] 24 (0, 0)) by rw [hW]; exact (heap_setCell_same _ _ 1 _ _ _ (heap_setCell_same _ _ 0 _ _ _ Rb_4.out)))
  clear hW hO
  obtain ⟨fa0, za0, fa1, za1, xa⟩ := ly2 Ra_5.out
  obtain ⟨fb0, zb0, fb1, zb1, xb⟩ := ly2 Rb_5.out
  go_wp2
  refine bodyPost_ret (v := .tuple #[.agg #[.bool (decide (p < 0)), .slice A3 (digs p.natAbs).length c3], .agg #[.bool (decide (n < 0)), .slice B (digs n.natAbs).length d], .int .i64 y]) (by simp [results, Tryz.results47, go_sem, fa0, fa1, fb0, fb1]) rfl ?_
  refine ⟨A3, c3, B, d, rfl, L5.out.get (A := A3) (c := c3) (xs := digs p.natAbs) (by simp), L5.out.get (A := B) (c := d) (xs := digs n.natAbs) (by simp), L5.out.1⟩

set_option maxHeartbeats 4000000 in
set_option maxRecDepth 100000 in
theorem r5lift_le (A B : Option Addr) (c d : Nat) (m n x y : Int) (w : World) (h : Dg w A c (digs m.natAbs)) (h' : Dg w B d (digs n.natAbs)) (hl : (digs m.natAbs).length ≤ 10000) (hl' : (digs n.natAbs).length ≤ 10000) (x0 : -131072 ≤ x) (x1 : x ≤ 131072) (y0 : -131072 ≤ y) (y1 : y ≤ 131072) (m0 : m ≠ 0) (n0 : n ≠ 0) {p q e0 : Int} (he : min x y = e0) (hp : upto m x e0 = p) (hq : upto n y e0 = q) (hc : x ≤ y):
    Calls Tryz.prog 47 #[.agg #[.bool (decide (m < 0)), .slice A (digs m.natAbs).length c, .int .i64 x], .agg #[.bool (decide (n < 0)), .slice B (digs n.natAbs).length d, .int .i64 y]] w fun e w' => Ybs p q e0 w e w' := by
  have t1 : ((((digs m.natAbs).length : Nat) : Int) == 0) = false := beq_eq_false_iff_ne.2 (fun e => m0 (by have := digs_nil.1 (show (digs m.natAbs).length = 0 by omega); omega))
  have t2 : ((((digs n.natAbs).length : Nat) : Int) == 0) = false := beq_eq_false_iff_ne.2 (fun e => n0 (by have := digs_nil.1 (show (digs n.natAbs).length = 0 by omega); omega))
  have d1 : decide (y < x) = false := by simp; omega
  obtain rfl : x = e0 := by omega
  obtain ⟨k, hk⟩ : ∃ k : Int, y - x = k := ⟨_, rfl⟩
  have wk : IntKind.i64.wrap (y - x) = k := by rw [IntWalk.i64_in _ (by omega)]; exact hk
  obtain rfl : m = p := by rw [← hp, upto_self]
  have HK := Lib.hid hk
  have HU := Lib.hid hq
  have lx := Lib.hid hl
  have ly := Lib.hid hl'
  have HC := Lib.hid (show x ≤ y ∧ y - x ≤ 300000 by omega)
  have L0 := Lib.hid (((live_start w).add h).add h')
  clear h h' hl hl' m0 n0 he hp hq hc hk
  go_enter Tryz.func47, Tryz.ntmps47
  go_wp2_with fail
  obtain ⟨v1, hW, hb, Rx_1, Ry_1, Ra_1, Rb_1⟩ := new4 w (.cells #[.bool (decide (m < 0)), .slice A (digs m.natAbs).length c, .int .i64 x] 26) (.cells #[.bool (decide (n < 0)), .slice B (digs n.natAbs).length d, .int .i64 y] 26) (.cells #[.bool false, .slice none 0 0] 24) (.cells #[.bool false, .slice none 0 0] 24)
  rw [← hW]
  have L1 := ls L0 hb
  have Gx := gl0 L0.out
  have Gy := gl1 L0.out
  have Nxy : w.heap.size < w.heap.size + 1 := by omega
  have Ga := gl2 L0.out
  have Nxa : w.heap.size < w.heap.size + 1 + 1 := by omega
  have Nya : w.heap.size + 1 < w.heap.size + 1 + 1 := by omega
  have Gb := gl3 L0.out
  have Nxb : w.heap.size < w.heap.size + 1 + 1 + 1 := by omega
  have Nyb : w.heap.size + 1 < w.heap.size + 1 + 1 + 1 := by omega
  have Nab : w.heap.size + 1 + 1 < w.heap.size + 1 + 1 + 1 := by omega
  clear hW hb
  obtain ⟨fx0, zx0, fx1, zx1, fx2, zx2, xx⟩ := ly3 Rx_1.out
  obtain ⟨fy0, zy0, fy1, zy1, fy2, zy2, xy⟩ := ly3 Ry_1.out
  go_upto_region 7 with fail
  clear fx0 zx0 fx1 zx1 fx2 zx2 xx fy0 zy0 fy1 zy1 fy2 zy2 xy
  obtain ⟨fx0, zx0, fx1, zx1, fx2, zx2, xx⟩ := ly3 Rx_1.out
  obtain ⟨fy0, zy0, fy1, zy1, fy2, zy2, xy⟩ := ly3 Ry_1.out
  have KD := Lib.hid (bd0 v1)
  have LD := ls L1 KD.out
  have Mxa : w.heap.size ≠ w.heap.size + 1 + 1 := by omega
  have Mxb : w.heap.size ≠ w.heap.size + 1 + 1 + 1 := by omega
  have Mya : w.heap.size + 1 ≠ w.heap.size + 1 + 1 := by omega
  have Myb : w.heap.size + 1 ≠ w.heap.size + 1 + 1 + 1 := by omega
  go_region_held3 (fun w' => (∀ o, w'.cell? ⟨w.heap.size, o, none⟩ = v1.cell? ⟨w.heap.size, o, none⟩) ∧ (∀ o, w'.cell? ⟨w.heap.size + 1, o, none⟩ = v1.cell? ⟨w.heap.size + 1, o, none⟩))
    (first | with_reducible exact ⟨keep_b KD.out xx, keep_b KD.out xy⟩ | with_reducible exact ⟨keep_b K3.out xx, keep_b K3.out xy⟩ | exact ⟨(keep_set (keep_b K3.out xx) Mxa), (keep_set (keep_b K3.out xy) Mya)⟩ | exact ⟨(keep_set (keep_set (keep_b K3.out xx) Mxa) Mxa), (keep_set (keep_set (keep_b K3.out xy) Mya) Mya)⟩ | exact ⟨(keep_set (keep_set (keep_set (keep_b K3.out xx) Mxa) Mxa) Mxb), (keep_set (keep_set (keep_set (keep_b K3.out xy) Mya) Mya) Myb)⟩ | exact ⟨(keep_set (keep_set (keep_set (keep_set (keep_b K3.out xx) Mxa) Mxa) Mxb) Mxb), (keep_set (keep_set (keep_set (keep_set (keep_b K3.out xy) Mya) Mya) Myb) Myb)⟩)
    (first
      | (go_at_call 84; (with_reducible refine (r5up_z (LD.out.get (A := B) (c := d) (xs := digs n.natAbs) (by simp)) (Nat.le_trans ly.out (by omega)) HC.out.1 HC.out.2 HK.out HU.out).mono ?_); rintro e w3 ⟨A3, c3, rfl, hd, hb⟩; (have K3 := bt KD hb); (have L3 := la LD hb hd); (have qa0_K3 := row_c (i := 0) (co Ra_1 K3.out).out rfl); (have pa0_K3 := frozen_of_row _ _ 0 _ _ (cells_of Ra_1.out K3.out)); (have qa1_K3 := row_c (i := 1) (co Ra_1 K3.out).out rfl); (have pa1_K3 := frozen_of_row _ _ 1 _ _ (cells_of Ra_1.out K3.out)); (have qb0_K3 := row_c (i := 0) (co Rb_1 K3.out).out rfl); (have pb0_K3 := frozen_of_row _ _ 0 _ _ (cells_of Rb_1.out K3.out)); (have qb1_K3 := row_c (i := 1) (co Rb_1 K3.out).out rfl); (have pb1_K3 := frozen_of_row _ _ 1 _ _ (cells_of Rb_1.out K3.out)); clear hb hd))
  rename_i hHeld
  clear hHeld
  clear fx0 zx0 fx1 zx1 fx2 zx2 xx fy0 zy0 fy1 zy1 fy2 zy2 xy
  have Rx_3 := co Rx_1 K3.out
  have Ry_3 := co Ry_1 K3.out
  have Ra_3 := co Ra_1 K3.out
  have Rb_3 := co Rb_1 K3.out
  clear wk
  -- the end
  obtain ⟨w4, hW⟩ : ∃ W : World, W = ((w3.setCell ⟨w.heap.size + 1 + 1, 0, none⟩ (.bool (decide (m < 0)))).setCell ⟨w.heap.size + 1 + 1, 1, none⟩ (.slice A (digs m.natAbs).length c)) := ⟨_, rfl⟩
  rw [← hW]
  have hO : Only (w.heap.size + 1 + 1) w3 w4 := by rw [hW]; exact (((Only.refl (w.heap.size + 1 + 1) w3).setCell 0 _).setCell 1 _)
  have L4 := Lib.hid (live_only L3.out hO Ra_3.out noint_int Ga)
  have Rx_4 := Lib.hid ((hO.block _ (by omega)).trans Rx_3.out)
  have Ry_4 := Lib.hid ((hO.block _ (by omega)).trans Ry_3.out)
  have Rb_4 := Lib.hid ((hO.block _ (by omega)).trans Rb_3.out)
  have Ra_4 := Lib.hid (show w4.heap[w.heap.size + 1 + 1]? = some (.cells #[.bool (decide (m < 0)), .slice A (digs m.natAbs).length c] 24 (0, 0)) by rw [hW]; exact (heap_setCell_same _ _ 1 _ _ _ (heap_setCell_same _ _ 0 _ _ _ Ra_3.out)))
  clear hW hO
  obtain ⟨w5, hW⟩ : ∃ W : World, W = ((w4.setCell ⟨w.heap.size + 1 + 1 + 1, 0, none⟩ (.bool (decide (q < 0)))).setCell ⟨w.heap.size + 1 + 1 + 1, 1, none⟩ (.slice A3 (digs q.natAbs).length c3)) := ⟨_, rfl⟩
  rw [← hW]
  have hO : Only (w.heap.size + 1 + 1 + 1) w4 w5 := by rw [hW]; exact (((Only.refl (w.heap.size + 1 + 1 + 1) w4).setCell 0 _).setCell 1 _)
  have L5 := Lib.hid (live_only L4.out hO Rb_4.out noint_int Gb)
  have Rx_5 := Lib.hid ((hO.block _ (by omega)).trans Rx_4.out)
  have Ry_5 := Lib.hid ((hO.block _ (by omega)).trans Ry_4.out)
  have Ra_5 := Lib.hid ((hO.block _ (by omega)).trans Ra_4.out)
  have Rb_5 := Lib.hid (show w5.heap[w.heap.size + 1 + 1 + 1]? = some (.cells #[.bool (decide (q < 0)), .slice A3 (digs q.natAbs).length c3] 24 (0, 0)) by rw [hW]; exact (heap_setCell_same _ _ 1 _ _ _ (heap_setCell_same _ _ 0 _ _ _ Rb_4.out)))
  clear hW hO
  obtain ⟨fa0, za0, fa1, za1, xa⟩ := ly2 Ra_5.out
  obtain ⟨fb0, zb0, fb1, zb1, xb⟩ := ly2 Rb_5.out
  go_wp2
  refine bodyPost_ret (v := .tuple #[.agg #[.bool (decide (m < 0)), .slice A (digs m.natAbs).length c], .agg #[.bool (decide (q < 0)), .slice A3 (digs q.natAbs).length c3], .int .i64 x]) (by simp [results, Tryz.results47, go_sem, fa0, fa1, fb0, fb1]) rfl ?_
  refine ⟨A, c, A3, c3, rfl, L5.out.get (A := A) (c := c) (xs := digs m.natAbs) (by simp), L5.out.get (A := A3) (c := c3) (xs := digs q.natAbs) (by simp), L5.out.1⟩
end Go.Proofs.YtdmfapgclppmhaaGreatDoor
end

