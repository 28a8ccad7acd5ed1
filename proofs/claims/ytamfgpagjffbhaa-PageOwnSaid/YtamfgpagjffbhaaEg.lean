/-
  Barrier.
-/
import Derived.Test.YtamfgpagjffbhaaEf
namespace Go.Proofs.Ytamfgpagjffbhaa
open Go.RowKit
set_option linter.unusedSimpArgs false
set_option linter.unusedVariables false
/-- What lasts of all that waits. -/
def flush (S : List (List UInt8)) (C : List Wt) : List (List UInt8) := C.foldl (fun S c => put S c.1 c.2 64) S
theorem flush_snoc (S : List (List UInt8)) (C : List Wt) (c : Wt) : flush S (C ++ [c]) = put (flush S C) c.1 c.2 64 := by unfold flush; rw [List.foldl_append]; rfl
theorem flush_take {S : List (List UInt8)} {C : List Wt} {k : Nat} (h : k < C.length) : flush S (C.take (k + 1)) = put (flush S (C.take k)) C[k].1 C[k].2 64 := by
  rw [← List.take_append_getElem h, flush_snoc]
theorem flush_len (S : List (List UInt8)) (C : List Wt) : (flush S C).length = S.length := by
  unfold flush
  induction C generalizing S with
  | nil => rfl
  | cons c r ih => rw [List.foldl_cons, ih, put_len]
theorem load_cells {P : Program} {w : World} {a : Addr} {l : List Value} {n : Nat} (hn : l.length = n) (h : ∀ j v, l[j]? = some v → w.cell? (a.add j) = some v) : (loadCellsFrom a 0 n #[]).run P w = .ok l.toArray w := by
  subst hn
  exact run_loadCells_list (P := P) w a l h
theorem wpList_load_at {P : Program} {ops : Array Oper} {rest : List Oper} {o : Oper} {a : Act} {w : World} {Q : Exit → Act → World → Prop} (hgd : o.guard = none) (ty : TypeId) (x : Operand) (ho : o.op = .load ty x) (A : Addr) (hx : a.eval x = .pointer (some A)) (l : List Value) (d : TypeDesc)
    (hu : P.underlying ty = some d) (hd : (match d with | .struct _ | .array _ _ => true | _ => false) = true) (hi : (P.info? ty).map (·.size) = some l.length) (hc : ∀ j v, l[j]? = some v → w.cell? (A.add j) = some v)
    (h : wpList P ops Q rest (a.put o.dst (.agg l.toArray)) w) : wpList P ops Q (o :: rest) a w :=
  wpList_plain hgd fun _ hK => by
    have hl := run_loadCells_list (P := P) w A l hc
    have hld : (loadVar ty A).run P w = .ok (.agg l.toArray) w := by
      cases hq : P.info? ty with
      | none => simp [hq] at hi
      | some i =>
        have hs : i.size = l.length := by simpa [hq] using hi
        have hagg : (isAgg ty).run P w = .ok true w := by
          unfold isAgg
          rw [Sem.run_bind, run_underlying hu w]
          cases d <;> simp_all
        simp [loadVar, Sem.run_bind, hagg, sizeOf, typeInfo, hq, hs, hl]
    unfold Oper.wp execOp
    simp only [ho, hx, Instr.loadAt, Instr.sureAddr, Sem.run_bind, Sem.run_pure, Result.andThen_ok, hld]
    exact hK _ _ h
theorem Dk.wait {B g gs go cap : Nat} {S : List (List UInt8)} {C : List Wt} {w : World} (h : Dk B w g gs (.slice (some ⟨go, 0, none⟩) C.length cap) S C) {k : Nat} (hk : k < C.length) (j : Nat) (v : Value) (hj : (wcell C[k])[j]? = some v) : w.cell? ((⟨go, k * 65, none⟩ : Addr).add j) = some v := by
  have h64 := h.c64 _ (List.getElem_mem hk)
  have hj2 : j < 65 := by
    have := (List.getElem?_eq_some_iff.1 hj).1
    unfold wcell at this
    rw [List.length_cons, bc_len, h64] at this
    exact this
  rw [addr_off, h.ho.cellAt (k * 65 + j) (by omega), wcells_at hk h.c64 hj2]
  exact hj
theorem own_some {w : World} {B : Nat} {e : TypeId} {size : Nat} {v : Value} {n : Nat} {xs : List Value} (h : w.ownsRow B e size v n xs) (hn : 0 < n) : ∃ g cap, v = .slice (some ⟨g, 0, none⟩) n cap := by
  rcases h.2 with ⟨_, h0⟩ | ⟨g, cap, cur, rfl, _⟩
  · omega
  · exact ⟨g, cap, rfl⟩
/-- What the walk wants to lay a write of 65 cells into a box of its own. -/
theorem box_write (w : World) (c : Wt) (h64 : c.2.length = 64) (Z0 : Array Value) (hz : Z0.size = 65) : (storeCells ⟨w.heap.size, 0, none⟩ (wcell c).toArray.toList 0).run Try.prog (w.alloc (.cells Z0 52)) = .ok () (w.alloc (.cells (wcell c).toArray 52)) :=
  run_storeCells_new (P := Try.prog) w 52 Z0 (wcell c).toArray (by rw [size_w, wcell_size c.1 c.2 h64]) (by rw [hz, wcell_size c.1 c.2 h64]) (wcell_all _)
theorem box_load (w : World) (c : Wt) (h64 : c.2.length = 64) : (loadCellsFrom ⟨w.heap.size, 0, none⟩ 0 65 #[]).run Try.prog (w.alloc (.cells (wcell c).toArray 52)) = .ok (wcell c).toArray (w.alloc (.cells (wcell c).toArray 52)) :=
  run_loadCellsFrom_new (P := Try.prog) w 52 (wcell c).toArray 65 (wcell_size c.1 c.2 h64)
theorem Ch.setNil {B g gs : Nat} {v : Value} {S : List (List UInt8)} {C : List Wt} {w : World} (h : Dk B w g gs v S C) : Dk B (w.setCell ⟨g, 1, none⟩ (.slice none 0 0)) g gs (.slice none 0 0) S [] ∧ Ch B g gs w (w.setCell ⟨g, 1, none⟩ (.slice none 0 0)) :=
  ⟨⟨by have := heap_setCell_same _ _ 1 _ _ (.slice none 0 0) h.hg; simpa using this, by rw [heap_setCell_other _ _ _ _ (fun e => h.ne e.symm)]; exact h.hs, World.ownsRow_nil _ _ _ _, h.gB, h.sB, h.ne, by simpa [World.setCell] using h.hB, h.s64, fun c hc => by simp at hc, fun c hc => by simp at hc, h.n1, h.n2⟩,
    (Ch.refl _ _ _ _).setCell 1 _⟩

end Go.Proofs.Ytamfgpagjffbhaa
