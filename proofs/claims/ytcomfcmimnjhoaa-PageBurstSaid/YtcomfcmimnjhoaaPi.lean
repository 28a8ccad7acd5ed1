/-
  A row of bytes of the call's own, a bit of it turned.
-/
import Derived.Test.YtcomfcmimnjhoaaPg
import Derived.Test.YtcomfcmimnjhoaaPh
import Derived.Lib.ConvBytes
namespace Go.Proofs.Ytcomfcmimnjhoaa
open Go.RowKit
/-- Block g begins with the bytes l, and they may be written. -/
def Bk (w : World) (g : Nat) (l : List UInt8) : Prop := g < w.heap.size ∧ ∀ j, j < l.length → w.cell? ⟨g, j, none⟩ = some (.int .u8 (at8 l j : Nat)) ∧ w.frozen? ⟨g, j, none⟩ = false
theorem row8_at (l : List UInt8) (c j : Nat) (h : j < l.length) : (bytesRow ⟨l.toArray⟩ c)[j]? = some (.int .u8 (at8 l j : Nat)) := by
  rw [bytesRow_at _ _ _ (by simpa using h)]
  unfold at8
  simp [List.getElem?_eq_getElem h]
theorem bytes_of (w : World) (l : List UInt8) : ∃ cap W, (convert 9 35 (.string ⟨l.toArray⟩)).run Try.prog w = .ok (.slice (some ⟨w.heap.size, 0, none⟩) l.length cap) W ∧ l.length ≤ cap ∧ Bk W w.heap.size l ∧ Below w.heap.size w W := by
  have h := run_bytes_of_string (P := Try.prog) w 9 35 5 ⟨l.toArray⟩ Try.underlying9 Try.underlying35 Try.underlying5
  rw [str_size] at h
  refine ⟨_, _, h, grownCap_ge _ _ _ _, ⟨by simp, fun j hj => ⟨?_, ?_⟩⟩, (bd0 w).trans ((Below.refl _ _).alloc (by simp) _)⟩
  · have := World.cell?_alloc_mark w.drew (bytesRow ⟨l.toArray⟩ (grownCap w l.length 0 5)) 5 ((bytesRow ⟨l.toArray⟩ (grownCap w l.length 0 5)).size, (bytesRow ⟨l.toArray⟩ (grownCap w l.length 0 5)).size + 1) j
    exact this.trans (row8_at l _ j hj)
  · have := World.frozen?_alloc_mark w.drew (bytesRow ⟨l.toArray⟩ (grownCap w l.length 0 5)) 5 (bytesRow ⟨l.toArray⟩ (grownCap w l.length 0 5)).size ((bytesRow ⟨l.toArray⟩ (grownCap w l.length 0 5)).size + 1) j
    refine this.trans ?_
    have hsz : j < (bytesRow ⟨l.toArray⟩ (grownCap w l.length 0 5)).size := by
      unfold bytesRow
      simp
      omega
    have : ¬ ((bytesRow ⟨l.toArray⟩ (grownCap w l.length 0 5)).size ≤ j) := by omega
    simp [this]
theorem at8_flip (l : List UInt8) (k j : Nat) (h : k / 8 < l.length) : at8 (flip l k) j = if k / 8 = j then (at8 l (k / 8) ^^^ 2 ^ (k % 8)) else at8 l j := by
  unfold flip at8
  rw [List.getElem?_set]
  by_cases hj : k / 8 = j
  · subst hj
    have hb := bit_lt k
    simp [h, UInt8.toNat_xor, UInt8.toNat_ofNat', Nat.mod_eq_of_lt hb]
  · simp [hj]
theorem Bk.turn {w : World} {g k : Nat} {l : List UInt8} (h : Bk w g l) (hk : k / 8 < l.length) : Bk (w.setCell ⟨g, k / 8, none⟩ (.int .u8 ((at8 l (k / 8) ^^^ 2 ^ (k % 8) : Nat) : Int))) g (flip l k) := by
  refine ⟨by simpa using h.1, fun j hj => ⟨?_, ?_⟩⟩
  · rw [flip_len] at hj
    rw [at8_flip l k j hk]
    by_cases he : k / 8 = j
    · subst he
      rw [if_pos rfl]
      exact World.cell?_setCell_same _ _ _ (h.2 _ hk).1
    · rw [if_neg he]
      exact (World.cell?_setCell_other _ _ _ _ (fun e => he (congrArg Addr.off e))).trans (h.2 j hj).1
  · rw [flip_len] at hj
    rw [World.frozen?_setCell]
    exact (h.2 j hj).2
theorem conv_bk {w : World} {g cap : Nat} {l : List UInt8} (h : Bk w g l) : (convert 35 9 (.slice (some ⟨g, 0, none⟩) l.length cap)).run Try.prog w = .ok (.string ⟨l.toArray⟩) w :=
  conv_of w g cap l (fun j hj => by
    rw [(h.2 j hj).1]
    unfold at8
    rw [List.getElem?_eq_getElem hj]
    rfl)
end Go.Proofs.Ytcomfcmimnjhoaa
