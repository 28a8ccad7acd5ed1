/-
  The text of a head, in plain words: 72 bytes.
-/
import Derived.Test.YtmgdpchjimlmeaaGc
import Derived.Test.YtmgdpchjimlmeaaEb
import Derived.Test.YtmgdpchjimlmeaaEh
namespace Go.Proofs.Ytmgdpchjimlmeaa
open Go.RowKit
set_option linter.unusedSimpArgs false
set_option linter.unusedVariables false
def B8 (a b c d e f g h : Bool) : Nat := a.toNat + 2 * b.toNat + 4 * c.toNat + 8 * d.toNat + 16 * e.toNat + 32 * f.toNat + 64 * g.toNat + 128 * h.toNat
theorem B8_lt : ∀ a b c d e f g h, B8 a b c d e f g h < 256 := by decide
theorem B8_0 : ∀ a b c d e f g h, B8 a b c d e f g h ||| 2 ^ 0 = B8 true b c d e f g h := by decide
theorem B8_1 : ∀ a b c d e f g h, B8 a b c d e f g h ||| 2 ^ 1 = B8 a true c d e f g h := by decide
theorem B8_2 : ∀ a b c d e f g h, B8 a b c d e f g h ||| 2 ^ 2 = B8 a b true d e f g h := by decide
theorem B8_3 : ∀ a b c d e f g h, B8 a b c d e f g h ||| 2 ^ 3 = B8 a b c true e f g h := by decide
theorem B8_4 : ∀ a b c d e f g h, B8 a b c d e f g h ||| 2 ^ 4 = B8 a b c d true f g h := by decide
theorem B8_5 : ∀ a b c d e f g h, B8 a b c d e f g h ||| 2 ^ 5 = B8 a b c d e true g h := by decide
theorem B8_6 : ∀ a b c d e f g h, B8 a b c d e f g h ||| 2 ^ 6 = B8 a b c d e f true h := by decide
theorem B8_7 : ∀ a b c d e f g h, B8 a b c d e f g h ||| 2 ^ 7 = B8 a b c d e f g true := by decide
/-- Eight pages' bits. -/
def b8 (V : Nat → Bool) (j : Nat) : Nat := B8 (V (8 * j)) (V (8 * j + 1)) (V (8 * j + 2)) (V (8 * j + 3)) (V (8 * j + 4)) (V (8 * j + 5)) (V (8 * j + 6)) (V (8 * j + 7))
theorem b8_lt (V : Nat → Bool) (j : Nat) : b8 V j < 256 := B8_lt _ _ _ _ _ _ _ _
theorem b8_or (V : Nat → Bool) (j r : Nat) (hr : r < 8) : b8 V j ||| 2 ^ r = b8 (fun i => V i || i == 8 * j + r) j := by
  have e : ∀ a b : Nat, a ≠ b → (8 * j + a == 8 * j + b) = false := fun a b h => by rw [beq_eq_false_iff_ne]; omega
  have t : ∀ a : Nat, (8 * j + a == 8 * j + a) = true := fun a => by simp
  have e0 : ∀ b : Nat, 0 ≠ b → (8 * j == 8 * j + b) = false := fun b h => by rw [beq_eq_false_iff_ne]; omega
  have t0 : (8 * j == 8 * j) = true := by simp
  have e00 : ∀ a : Nat, a ≠ 0 → (8 * j + a == 8 * j) = false := fun a h => by rw [beq_eq_false_iff_ne]; omega
  unfold b8
  match r, hr with
  | 0, _ => rw [B8_0]; simp only [Nat.add_zero, t0, Bool.or_true, e00 1 (by decide), e00 2 (by decide), e00 3 (by decide), e00 4 (by decide), e00 5 (by decide), e00 6 (by decide), e00 7 (by decide), Bool.or_false]
  | 1, _ => rw [B8_1]; simp only [t, e0 1 (by decide), e 2 1 (by decide), e 3 1 (by decide), e 4 1 (by decide), e 5 1 (by decide), e 6 1 (by decide), e 7 1 (by decide), Bool.or_true, Bool.or_false]
  | 2, _ => rw [B8_2]; simp only [t, e0 2 (by decide), e 1 2 (by decide), e 3 2 (by decide), e 4 2 (by decide), e 5 2 (by decide), e 6 2 (by decide), e 7 2 (by decide), Bool.or_true, Bool.or_false]
  | 3, _ => rw [B8_3]; simp only [t, e0 3 (by decide), e 1 3 (by decide), e 2 3 (by decide), e 4 3 (by decide), e 5 3 (by decide), e 6 3 (by decide), e 7 3 (by decide), Bool.or_true, Bool.or_false]
  | 4, _ => rw [B8_4]; simp only [t, e0 4 (by decide), e 1 4 (by decide), e 2 4 (by decide), e 3 4 (by decide), e 5 4 (by decide), e 6 4 (by decide), e 7 4 (by decide), Bool.or_true, Bool.or_false]
  | 5, _ => rw [B8_5]; simp only [t, e0 5 (by decide), e 1 5 (by decide), e 2 5 (by decide), e 3 5 (by decide), e 4 5 (by decide), e 6 5 (by decide), e 7 5 (by decide), Bool.or_true, Bool.or_false]
  | 6, _ => rw [B8_6]; simp only [t, e0 6 (by decide), e 1 6 (by decide), e 2 6 (by decide), e 3 6 (by decide), e 4 6 (by decide), e 5 6 (by decide), e 7 6 (by decide), Bool.or_true, Bool.or_false]
  | 7, _ => rw [B8_7]; simp only [t, e0 7 (by decide), e 1 7 (by decide), e 2 7 (by decide), e 3 7 (by decide), e 4 7 (by decide), e 5 7 (by decide), e 6 7 (by decide), Bool.or_true, Bool.or_false]
theorem b8_far (V : Nat → Bool) (j p : Nat) (h : p / 8 ≠ j) : b8 (fun i => V i || i == p) j = b8 V j := by
  have e : ∀ a : Nat, a < 8 → (8 * j + a == p) = false := fun a ha => by rw [beq_eq_false_iff_ne]; omega
  have e0 : (8 * j == p) = false := by rw [beq_eq_false_iff_ne]; omega
  unfold b8
  simp only [e0, e 1 (by decide), e 2 (by decide), e 3 (by decide), e 4 (by decide), e 5 (by decide), e 6 (by decide), e 7 (by decide), Bool.or_false]
theorem b8_ext {V V' : Nat → Bool} {j : Nat} (hj : j < 64) (h : ∀ i, i < 512 → V i = V' i) : b8 V j = b8 V' j := by
  unfold b8
  rw [h _ (by omega), h _ (by omega), h _ (by omega), h _ (by omega), h _ (by omega), h _ (by omega), h _ (by omega), h _ (by omega)]
theorem b8_none (j : Nat) : b8 (fun _ => false) j = 0 := rfl
/-- The bytes of a head's text, as numbers. -/
def hF (T R : Nat) (V : Nat → Bool) (j : Nat) : Nat :=
  if j < 6 then T / 2 ^ (8 * (5 - j)) % 256 else if j = 6 then R / 256 % 256 else if j = 7 then R % 256 else b8 V (j - 8)
theorem hF_lt (T R : Nat) (V : Nat → Bool) (j : Nat) : hF T R V j < 256 := by
  unfold hF
  split
  · omega
  split
  · omega
  split
  · omega
  exact b8_lt _ _
theorem hF_ext {T R : Nat} {V V' : Nat → Bool} (h : ∀ i, i < 512 → V i = V' i) {j : Nat} (hj : j < 72) : hF T R V j = hF T R V' j := by
  unfold hF
  rw [b8_ext (j := j - 8) (by omega) h]
theorem hF_or (T R : Nat) (V : Nat → Bool) (p j : Nat) : hF T R (fun i => V i || i == p) j = if j = 8 + p / 8 then hF T R V j ||| 2 ^ (p % 8) else hF T R V j := by
  unfold hF
  by_cases h : j = 8 + p / 8
  · subst h
    rw [if_neg (by omega), if_neg (by omega), if_neg (by omega), if_pos rfl, if_neg (by omega), if_neg (by omega), if_neg (by omega), show 8 + p / 8 - 8 = p / 8 by omega, b8_or _ _ _ (Nat.mod_lt _ (by decide)), Nat.div_add_mod]
  · rw [if_neg h]
    by_cases h6 : j < 6
    · rw [if_pos h6, if_pos h6]
    by_cases h7 : j = 6
    · rw [if_neg h6, if_neg h6, if_pos h7, if_pos h7]
    by_cases h8 : j = 7
    · rw [if_neg h6, if_neg h6, if_neg h7, if_neg h7, if_pos h8, if_pos h8]
    · rw [if_neg h6, if_neg h6, if_neg h7, if_neg h7, if_neg h8, if_neg h8, b8_far _ _ _ (by omega)]
/-- A head's text. -/
def headL (T R : Nat) (V : Nat → Bool) : List UInt8 := (List.range 72).map fun j => UInt8.ofNat (hF T R V j)
theorem headL_len (T R : Nat) (V : Nat → Bool) : (headL T R V).length = 72 := by unfold headL; simp
theorem headL_ext {T R : Nat} {V V' : Nat → Bool} (h : ∀ i, i < 512 → V i = V' i) : headL T R V = headL T R V' := by
  unfold headL
  refine List.map_congr_left (fun j hj => ?_)
  rw [hF_ext h (List.mem_range.1 hj)]
/-- 72 bytes in memory. -/
def mem72 (f : Nat → Nat) : Array Value := ((List.range 72).map fun j => Value.int .u8 (f j : Int)).toArray
theorem mem72_at {f : Nat → Nat} {i : Nat} (h : i < 72) : (mem72 f)[i]? = some (.int .u8 (f i : Int)) := by
  unfold mem72
  rw [List.getElem?_toArray, List.getElem?_map, List.getElem?_range h]; rfl
theorem mem72_set (f : Nat → Nat) (i x : Nat) : (mem72 f).setIfInBounds i (.int .u8 (x : Int)) = mem72 (fun j => if j = i then x else f j) := by
  apply Array.ext_getElem?
  intro j
  rw [Array.getElem?_setIfInBounds]
  have hs : (mem72 f).size = 72 := by unfold mem72; simp
  by_cases hj : j < 72
  · rw [mem72_at hj, mem72_at hj]
    by_cases e : i = j
    · subst e
      rw [if_pos rfl, if_pos (by omega), if_pos rfl]
    · rw [if_neg e, if_neg (fun h => e h.symm)]
  · have h0 : ∀ g : Nat → Nat, (mem72 g)[j]? = none := fun g => by
      rw [Array.getElem?_eq_none]
      unfold mem72; simp; omega
    rw [h0, h0]
    by_cases e : i = j
    · subst e
      rw [if_pos rfl, if_neg (by omega)]
    · rw [if_neg e]
theorem mem72_ext {f g : Nat → Nat} (h : ∀ j, j < 72 → f j = g j) : mem72 f = mem72 g := by
  unfold mem72
  rw [List.map_congr_left (fun j hj => by rw [h j (List.mem_range.1 hj)])]
theorem mem72_zero : madeCells (List.replicate 1 (Value.int .u8 0)).toArray 72 = mem72 (fun _ => 0) := by
  rw [made_zeros _ _ (by omega)]
  rfl
theorem make72 (w : World) : (Instr.makeSlice 68 (.int .i64 72) (.int .i64 72)).run Try.prog w = .ok (.slice (some ⟨w.heap.size, 0, none⟩) 72 72) (w.alloc (.cells (mem72 (fun _ => 0)) 5)) := by
  obtain ⟨i0, hi, hz0, hz1, hz2⟩ := info_parts (show (Try.prog.info? 5).map (fun i => (i.zero, i.size, i.bytes)) = some (some (.int .u8 0), 1, 1) by kernel_rfl)
  have := run_make (P := Try.prog) w 68 5 i0 _ Try.underlying68 hi hz0 .i64 .i64 72 72 (by omega) (by omega) (by rw [hz2]; omega) (by omega)
  rw [this, hz1, ← mem72_zero]
  rfl
end Go.Proofs.Ytmgdpchjimlmeaa
