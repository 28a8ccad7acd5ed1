/-
  Barrier.
-/
import Derived.Test.YtmgdpchjimlmeaaEf
namespace Go.Proofs.Ytmgdpchjimlmeaa
open Go.RowKit
set_option linter.unusedSimpArgs false
set_option linter.unusedVariables false
/-- What lasts of all that waits. -/
def flush (S : List (List UInt8)) (C : List Wt) : List (List UInt8) := C.foldl (fun S c => put S c.1 c.2 64) S
theorem flush_snoc (S : List (List UInt8)) (C : List Wt) (c : Wt) : flush S (C ++ [c]) = put (flush S C) c.1 c.2 64 := by unfold flush; rw [List.foldl_append]; rfl
theorem flush_take {S : List (List UInt8)} {C : List Wt} {k : Nat} (h : k < C.length) : flush S (C.take (k + 1)) = put (flush S (C.take k)) C[k].1 C[k].2 64 := by
  rw [← List.take_append_getElem h, flush_snoc]
theorem flush_len (S : List (List UInt8)) (C : List Wt) : (flush S C).length = S.length := by
  unfold flush
  induction C generalizing S with
  | nil => rfl
  | cons c r ih => rw [List.foldl_cons, ih, put_len]
theorem load_cells {P : Program} {w : World} {a : Addr} {l : List Value} {n : Nat} (hn : l.length = n) (h : ∀ j v, l[j]? = some v → w.cell? (a.add j) = some v) : (loadCellsFrom a 0 n #[]).run P w = .ok l.toArray w := by
  subst hn
  exact run_loadCells_list (P := P) w a l h
theorem wpList_load_at {P : Program} {ops : Array Oper} {rest : List Oper} {o : Oper} {a : Act} {w : World} {Q : Exit → Act → World → Prop} (hgd : o.guard = none) (ty : TypeId) (x : Operand) (ho : o.op = .load ty x) (A : Addr) (hx : a.eval x = .pointer (some A)) (l : List Value) (d : TypeDesc)
    (hu : P.underlying ty = some d) (hd : (match d with | .struct _ | .array _ _ => true | _ => false) = true) (hi : (P.info? ty).map (·.size) = some l.length) (hc : ∀ j v, l[j]? = some v → w.cell? (A.add j) = some v)
    (h : wpList P ops Q rest (a.put o.dst (.agg l.toArray)) w) : wpList P ops Q (o :: rest) a w :=
  wpList_plain hgd fun _ hK => by
    have hl := run_loadCells_list (P := P) w A l hc
    have hld : (loadVar ty A).run P w = .ok (.agg l.toArray) w := by
      cases hq : P.info? ty with
      | none => simp [hq] at hi
      | some i =>
        have hs : i.size = l.length := by simpa [hq] using hi
        have hagg : (isAgg ty).run P w = .ok true w := by
          unfold isAgg
          rw [Sem.run_bind, run_underlying hu w]
          cases d <;> simp_all
        simp [loadVar, Sem.run_bind, hagg, sizeOf, typeInfo, hq, hs, hl]
    unfold Oper.wp execOp
    simp only [ho, hx, Instr.loadAt, Instr.sureAddr, Sem.run_bind, Sem.run_pure, Result.andThen_ok, hld]
    exact hK _ _ h
theorem Dk.wait {B g gs go cap : Nat} {S : List (List UInt8)} {C : List Wt} {w : World} (h : Dk B w g gs (.slice (some ⟨go, 0, none⟩) C.length cap) S C) {k : Nat} (hk : k < C.length) (j : Nat) (v : Value) (hj : (wcell C[k])[j]? = some v) : w.cell? ((⟨go, k * 65, none⟩ : Addr).add j) = some v := by
  have h64 := h.c64 _ (List.getElem_mem hk)
  have hj2 : j < 65 := by
    have := (List.getElem?_eq_some_iff.1 hj).1
    unfold wcell at this
    rw [List.length_cons, bc_len, h64] at this
    exact this
  rw [addr_off, h.ho.cellAt (k * 65 + j) (by omega), wcells_at hk h.c64 hj2]
  exact hj
theorem own_some {w : World} {B : Nat} {e : TypeId} {size : Nat} {v : Value} {n : Nat} {xs : List Value} (h : w.ownsRow B e size v n xs) (hn : 0 < n) : ∃ g cap, v = .slice (some ⟨g, 0, none⟩) n cap := by
  rcases h.2 with ⟨_, h0⟩ | ⟨g, cap, cur, rfl, _⟩
  · omega
  · exact ⟨g, cap, rfl⟩
/-- What the walk wants to lay a write of 65 cells into a box of its own. -/
theorem box_write (w : World) (c : Wt) (h64 : c.2.length = 64) (Z0 : Array Value) (hz : Z0.size = 65) : (storeCells ⟨w.heap.size, 0, none⟩ (wcell c).toArray.toList 0).run Try.prog (w.alloc (.cells Z0 107)) = .ok () (w.alloc (.cells (wcell c).toArray 107)) :=
  run_storeCells_new (P := Try.prog) w 107 Z0 (wcell c).toArray (by rw [size_w, wcell_size c.1 c.2 h64]) (by rw [hz, wcell_size c.1 c.2 h64]) (wcell_all _)
theorem box_load (w : World) (c : Wt) (h64 : c.2.length = 64) : (loadCellsFrom ⟨w.heap.size, 0, none⟩ 0 65 #[]).run Try.prog (w.alloc (.cells (wcell c).toArray 107)) = .ok (wcell c).toArray (w.alloc (.cells (wcell c).toArray 107)) :=
  run_loadCellsFrom_new (P := Try.prog) w 107 (wcell c).toArray 65 (wcell_size c.1 c.2 h64)
theorem Ch.setNil {B g gs : Nat} {v : Value} {S : List (List UInt8)} {C : List Wt} {w : World} (h : Dk B w g gs v S C) : Dk B (w.setCell ⟨g, 1, none⟩ (.slice none 0 0)) g gs (.slice none 0 0) S [] ∧ Ch B g gs w (w.setCell ⟨g, 1, none⟩ (.slice none 0 0)) :=
  ⟨⟨by have := heap_setCell_same _ _ 1 _ _ (.slice none 0 0) h.hg; simpa using this, by rw [heap_setCell_other _ _ _ _ (fun e => h.ne e.symm)]; exact h.hs, World.ownsRow_nil _ _ _ _, h.gB, h.sB, h.ne, by simpa [World.setCell] using h.hB, h.s64, fun c hc => by simp at hc, fun c hc => by simp at hc, h.n1, h.n2⟩,
    (Ch.refl _ _ _ _).setCell 1 _⟩

set_option maxHeartbeats 4000000 in
set_option maxRecDepth 100000 in
theorem bar1_any {B g gs b1 : Nat} {v : Value} {S : List (List UInt8)} {C : List Wt} (w : World) (h : Dk B w g gs v S C) (hC : C.length ≤ 1000000) (h1 : w.heap[b1]? = some (.cells #[.pointer (some ⟨g, 0, none⟩)] 27 (0, 0))) (n2 : b1 ≠ gs) :
    Calls Try.prog 50 #[.pointer (some ⟨b1, 0, none⟩)] w fun e w' => e = .returned (.tuple #[]) ∧ Dk B w' g gs (.slice none 0 0) (flush S C) [] ∧ Ch w.heap.size g gs w w' := by
  obtain ⟨A, c, hv⟩ : ∃ A c, v = .slice A C.length c := own_form h.ho
  subst hv
  have H0 := Lib.hid h
  have R1 := Lib.hid (And.intro h1 (heap_lt h1))
  have N2 := Lib.hid n2
  have f1 := row_c (i := 0) h1 rfl
  have fc := row_c (i := 1) h.hg rfl
  have LC := Lib.hid (fun k (hk : k < C.length) => h.c64 _ (List.getElem_mem hk))
  have LN := Lib.hid (fun k (hk : k < C.length) => h.cn _ (List.getElem_mem hk))
  obtain ⟨hz, _⟩ := zero_of_info zero_w
  have hzs : (Value.int .i64 0 :: List.replicate 64 (Value.int .u8 0)).toArray.size = 65 := rfl
  generalize (Value.int .i64 0 :: List.replicate 64 (Value.int .u8 0)).toArray = Z0 at *
  have hze : ¬ Z0 = #[] := fun e => by subst e; simp at hzs
  have HZ := Lib.hid (And.intro hz (And.intro hzs hze))
  obtain ⟨N, hN⟩ : ∃ N, C.length = N := ⟨_, rfl⟩
  have HN := Lib.hid hN
  rw [hN] at fc hC
  clear h h1 n2 hz hzs hze hN
  go_enter Try.func50, Try.ntmps50
  go_wp2_with fail
  go_loopw [8] (fun kv wr => ∃ k : Nat, k ≤ N ∧ kv = .int .i64 k ∧ Hid (Dk B wr g gs (.slice A C.length c) (flush S (C.take k)) C) ∧ Hid (Ch w.heap.size gs gs w wr)) (fun kv _ => N - (intOf kv).toNat)
  case atStart => exact ⟨0, Nat.zero_le _, rfl, H0, Lib.hid (Ch.refl _ _ _ _)⟩
  case round =>
    obtain ⟨k, hk, rfl, HD, HC⟩ := hrel
    clear f1 fc
    have RB := Lib.hid (HC.out.row R1.out.2 N2.out N2.out R1.out.1)
    by_cases hlt : k < N
    · have hkc : k < C.length := by rw [HN.out]; exact hlt
      obtain ⟨go, cap, hA⟩ := own_some HD.out.ho (by omega)
      injection hA with hA _ hA2
      subst hA hA2
      obtain ⟨X, hX⟩ : ∃ X, C[k] = X := ⟨_, rfl⟩
      have h64 := LC.out k hkc
      have hn := LN.out k hkc
      have hX2 : C[k]? = some X := by rw [List.getElem?_eq_getElem hkc, hX]
      have hfl := flush_take (S := S) hkc
      rw [hX] at h64 hn hfl
      have L1 := Lib.hid (fun j v (hj : (wcell X)[j]? = some v) => HD.out.wait hkc j v (by rw [hX]; exact hj))
      have hst := box_write wr X h64 Z0 HZ.out.2.1
      have hYY : Below wr.heap.size wr (wr.alloc (.cells (wcell X).toArray 107)) := bda _ _
      have L2 := Lib.hid (fun j v (hj : (wcell X)[j]? = some v) => show (wr.alloc (.cells (wcell X).toArray 107)).cell? ((⟨wr.heap.size, 0, none⟩ : Addr).add j) = some v by rw [addr_off, Nat.zero_add]; exact row_c (heap_alloc_new wr _) (by simpa using hj))
      obtain ⟨Y, hY⟩ : ∃ Y : World, Y = wr.alloc (.cells (wcell X).toArray 107) := ⟨_, rfl⟩
      have hbY : Below wr.heap.size wr Y := by rw [hY]; exact bda _ _
      have DY := Lib.hid (HD.out.below hbY)
      have RY := Lib.hid (row_on RB.out hbY)
      have CY := Lib.hid (HC.out.trans (Ch.of_below (g := gs) (gs := gs) hbY HC.out.size))
      have LA := Lib.hid (last_any X.1 X.2 64 Y DY.out (by rw [flush_len]; exact hn) h64 (by omega))
      have HFL := Lib.hid hfl
      have hz := HZ.out.1
      have hzs := HZ.out.2.1
      have hze := HZ.out.2.2
      have LX := Lib.hid (show (wcell X).length = 65 by unfold wcell; rw [List.length_cons, bc_len, h64])
      have hsz : (wcell X).toArray.size = 65 := wcell_size X.1 X.2 h64
      have SY := Lib.hid hbY.size
      have HLT := Lib.hid hlt
      have k0 : (0 : Int) ≤ (k : Int) := by omega
      have k1 : (k : Int) < (N : Int) := by omega
      have fY := row_c (i := 0) (show (wr.alloc (.cells (wcell X).toArray 107)).heap[b1]? = _ by rw [← hY]; exact RY.out) rfl
      obtain ⟨cl, hcl⟩ : ∃ cl, wcell X = cl := ⟨_, rfl⟩
      have LA2 : Calls Try.prog 51 #[.pointer (some ⟨g, 0, none⟩), .agg cl.toArray, .int .i64 64] Y fun e w' => e = .returned (.tuple #[]) ∧ Dk B w' g gs (.slice (some ⟨go, 0, none⟩) C.length c) (put (flush S (C.take k)) X.1 X.2 64) C ∧ Ch Y.heap.size gs gs Y w' := by rw [← hcl]; exact LA.out
      have LA2 := Lib.hid LA2
      rw [hcl] at hst hsz hY L1 L2 LX fY
      have HYH := Lib.hid hY
      have f1 := row_c (i := 0) RB.out rfl
      clear h64 hn hX hX2 hfl hbY hlt LA hcl hkc hYY hY
      go_wp2_with (first
        | (refine wpList_load_at rfl 107 _ rfl ⟨go, k * 65, none⟩ rfl cl _ Try.underlying107 rfl (by rw [size_w, LX.out]) L1.out ?_)
        | (refine wpList_load_at rfl 107 _ rfl ⟨wr.heap.size, 0, none⟩ rfl cl _ Try.underlying107 rfl (by rw [size_w, LX.out]) L2.out ?_))
      rw [← HYH.out]
      refine LA2.out.mono ?_
      rintro e w1 ⟨rfl, hd, hc⟩
      have H1 := Lib.hid (And.intro hd (CY.out.trans (hc.narrow (Nat.le_trans HC.out.size SY.out))))
      clear hd hc hst hsz fY f1 hz hzs hze
      go_wp2
      go_roundw
      case rel => exact ⟨k + 1, HLT.out, by go_num, Lib.hid (by rw [HFL.out]; exact H1.out.1), Lib.hid H1.out.2⟩
      case measure => simp [intOf]; have := HLT.out; omega
    · obtain rfl : k = N := by omega
      have e1 : C.take k = C := List.take_of_length_le (by rw [HN.out]; exact Nat.le_refl _)
      rw [e1] at HD
      have f1 := row_c (i := 0) RB.out rfl
      have fc := row_c (i := 1) HD.out.hg rfl
      have fz := frozen_of_row _ _ 1 _ _ HD.out.hg
      have HN2 := Lib.hid (And.intro (Ch.setNil HD.out).1 ((Ch.refl w.heap.size g gs wr).setCell 1 (.slice none 0 0)))
      have HC2 := Lib.hid (HC.out.widen (B := w.heap.size) (g := g) (Nat.le_refl _))
      clear hlt e1
      go_wp2
      go_end0
      exact ⟨rfl, HN2.out.1, HC2.out.trans HN2.out.2⟩

set_option maxHeartbeats 4000000 in
set_option maxRecDepth 100000 in
theorem barrier_all {B g gs : Nat} {v : Value} {S : List (List UInt8)} {C : List Wt} (w : World) (h : Dk B w g gs v S C) (hC : C.length ≤ 1000000) :
    Calls Try.prog 39 #[.pointer (some ⟨g, 0, none⟩)] w fun e w' => e = .returned (.int .i64 0) ∧ Dk B w' g gs (.slice none 0 0) (flush S C) [] ∧ Ch w.heap.size g gs w w' := by
  obtain ⟨W, hW⟩ : ∃ W : World, W = w.alloc (.cells #[.pointer (some ⟨g, 0, none⟩)] 27) := ⟨_, rfl⟩
  have hbW : Below w.heap.size w W := by rw [hW]; exact bda _ _
  have D1 := Lib.hid (h.below hbW)
  have R3 := Lib.hid (show W.heap[w.heap.size]? = some (.cells #[.pointer (some ⟨g, 0, none⟩)] 27 (0, 0)) by rw [hW]; exact heap_alloc_new w _)
  have fd := row_c (i := 3) D1.out.hg rfl
  have f3 := row_c (i := 0) R3.out rfl
  have CW := Lib.hid (Ch.of_below (g := g) (gs := gs) hbW (Nat.le_refl _))
  have HM := Lib.hid (act_b (C := C) #[.pointer (some ⟨w.heap.size, 0, none⟩)] (fun w' => Dk B w' g gs (.slice none 0 0) (flush S C) [] ∧ Ch W.heap.size g gs W w') W D1.out (bar1_any W D1.out hC R3.out (by have := h.sB; have := h.hB; omega)))
  have HSZ := Lib.hid hbW.size
  clear h hC hbW
  go_enter Try.func39, Try.ntmps39
  go_upto_region 1 with (fail)
  rw [← hW]
  clear hW
  go_wp2_with fail
  refine HM.out.mono ?_
  rintro e w1 ⟨rfl, hd, hc⟩
  have HD := Lib.hid hd
  have HCH := Lib.hid hc
  clear hd hc fd f3
  go_wp2
  go_ret
  exact ⟨rfl, HD.out, CW.out.trans (HCH.out.narrow HSZ.out)⟩
theorem barrier_any {B g gs : Nat} {v : Value} {S : List (List UInt8)} {C : List Wt} (w : World) (h : Dk B w g gs v S C) (hC : C.length ≤ 1000000) :
    Calls Try.prog 39 #[.pointer (some ⟨g, 0, none⟩)] w fun e w' => e = .returned (.int .i64 0) ∧ Dk B w' g gs (.slice none 0 0) (flush S C) [] ∧ Ch B g gs w w' :=
  (barrier_all w h hC).mono fun _ _ ⟨a, b, c⟩ => ⟨a, b, c.narrow h.hB⟩
end Go.Proofs.Ytmgdpchjimlmeaa
