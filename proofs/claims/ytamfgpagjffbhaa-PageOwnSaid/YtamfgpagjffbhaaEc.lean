/-
  The first bytes of a write made to last.
-/
import Derived.Test.YtamfgpagjffbhaaEa
namespace Go.Proofs.Ytamfgpagjffbhaa
open Go.RowKit
set_option linter.unusedSimpArgs false
set_option linter.unusedVariables false
theorem heap_setRow (w : World) (g : Nat) (c : Array Value) (k : Nat) (h : k ≠ g) : (w.setRow g c).heap[k]? = w.heap[k]? := by
  simp only [World.setRow, Array.getElem?_modify]
  rw [if_neg (by omega)]
theorem own_kept {w w' : World} {B : Nat} {e : TypeId} {size : Nat} {v : Value} {n : Nat} {xs : List Value} (h : w.ownsRow B e size v n xs) (hk : ∀ k, B ≤ k → k < w.heap.size → w'.heap[k]? = w.heap[k]?) : w'.ownsRow B e size v n xs := by
  refine ⟨h.1, ?_⟩
  rcases h.2 with h0 | ⟨g, cap, cur, h1, h2, h3, h4⟩
  · exact .inl h0
  · exact .inr ⟨g, cap, cur, h1, h2, (hk g h2 (heap_lt h3)).trans h3, h4⟩
theorem Dk.setS {B g gs : Nat} {v : Value} {S S' : List (List UInt8)} {C : List Wt} {w : World} (h : Dk B w g gs v S C) (hl : S'.length = S.length) (h64 : ∀ s ∈ S', s.length = 64) : Dk B (w.setRow gs (bc S'.flatten).toArray) g gs v S' C :=
  ⟨by rw [heap_setRow _ _ _ _ h.ne, hl]; exact h.hg, setRow_heap w gs _ _ _ _ h.hs, own_kept h.ho (fun k hk _ => heap_setRow _ _ _ _ (by have := h.sB; omega)), h.gB, h.sB, h.ne, by simpa [World.setRow] using h.hB, h64, h.c64, by rw [hl]; exact h.cn, by rw [hl]; exact h.n1, by rw [hl]; exact h.n2⟩
/-- Sector i with the first k bytes of t. -/
def put (S : List (List UInt8)) (i : Nat) (t : List UInt8) (k : Nat) : List (List UInt8) := S.set i (t.take k ++ (S[i]?.getD []).drop k)
theorem put_len (S : List (List UInt8)) (i : Nat) (t : List UInt8) (k : Nat) : (put S i t k).length = S.length := by unfold put; rw [List.length_set]
theorem put_64 {S : List (List UInt8)} {i : Nat} {t : List UInt8} {k : Nat} (hi : i < S.length) (h : ∀ s ∈ S, s.length = 64) (ht : t.length = 64) (hk : k ≤ 64) : ∀ s ∈ put S i t k, s.length = 64 := by
  intro s hs
  unfold put at hs
  rcases List.mem_or_eq_of_mem_set hs with h1 | rfl
  · exact h s h1
  · rw [List.getElem?_eq_getElem hi, Option.getD_some, List.length_append, List.length_take, List.length_drop, h _ (List.getElem_mem hi), ht]; omega
theorem put_flat {S : List (List UInt8)} {i : Nat} {t : List UInt8} {k : Nat} (hi : i < S.length) (h : ∀ s ∈ S, s.length = 64) (ht : t.length = 64) (hk : k ≤ 64) :
    (put S i t k).flatten = S.flatten.take (i * 64) ++ t.take k ++ S.flatten.drop (i * 64 + k) := by
  obtain ⟨a, b⟩ := flat_at hi h
  unfold put
  have h1 := h _ (List.getElem_mem hi)
  rw [List.getElem?_eq_getElem hi, Option.getD_some, b _ (by rw [List.length_append, List.length_take, List.length_drop, h1, ht]; omega), List.append_assoc, List.append_assoc, List.append_assoc]
  congr 2
  have e2 : S.flatten.drop (i * 64 + k) = (S.flatten.drop (i * 64)).drop k := by rw [List.drop_drop]
  have e1 : S.flatten.drop (i * 64 + 64) = ((S.flatten.drop (i * 64)).drop k).drop (64 - k) := by rw [List.drop_drop, List.drop_drop]; congr 1; omega
  rw [← a, e1, e2, List.drop_take]
  exact List.take_append_drop _ _
theorem Ch.widen {B N g gs : Nat} {w w' : World} (h : Ch N gs gs w w') (hB : B ≤ N) : Ch B g gs w w' := ⟨h.os, h.tape, h.output, h.size, fun k hk _ h2 => h.block k (by omega) h2 h2⟩
theorem Ch.narrow {B N g gs : Nat} {w w' : World} (h : Ch N g gs w w') (hB : B ≤ N) : Ch B g gs w w' := ⟨h.os, h.tape, h.output, h.size, fun k hk h1 h2 => h.block k (by omega) h1 h2⟩
theorem box_read {w : World} {g i : Nat} {t : List UInt8} {T : TypeId} (h : w.heap[g]? = some (.cells (wcell (i, t)).toArray T (0, 0))) (j : Nat) (v : Value) (hj : (bc t)[j]? = some v) : w.cell? ((⟨g, 1, none⟩ : Addr).add j) = some v := by
  rw [Addr.add_lit]
  refine row_c h ?_
  rw [List.getElem?_toArray, Nat.add_comm]
  unfold wcell
  rw [List.getElem?_cons_succ]; exact hj
theorem addr_off (g a b : Nat) : (⟨g, a, none⟩ : Addr).add b = ⟨g, a + b, none⟩ := by unfold Addr.add; split <;> simp_all

end Go.Proofs.Ytamfgpagjffbhaa
