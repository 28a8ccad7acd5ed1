/-
  The examples.
-/
import Derived.Test.YtnpcobekmghnaaaEj
namespace Go.Proofs.Ytnpcobekmghnaaa
open Go.RowKit
set_option linter.unusedSimpArgs false
set_option linter.unusedVariables false
theorem conv_new (n : Nat) (l : List UInt8) (hn : l.length = n) (x : World) : (convert 30 9 (.slice (some ⟨x.heap.size, 0, none⟩) n n)).run Try.prog (x.alloc (.cells (bc l).toArray 5)) = .ok (.string ⟨l.toArray⟩) (x.alloc (.cells (bc l).toArray 5)) :=
  conv_bytes _ _ 0 n l n hn (fun j u hj => by rw [Nat.zero_add]; exact row_c (heap_alloc_new _ _) (by simpa using hj))
theorem rd_one (S : List (List UInt8)) (i : Nat) (l : List UInt8) : rd S [(i, l)] i = l := by unfold rd; simp
theorem crash_none (S : List (List UInt8)) (c : Wt) : crash [] (-1) 0 S [c] = S := by
  unfold crash cstep
  simp
theorem cutQ_zero : cutQ 0 = 0 := rfl
/-- A disk and all that is older. -/
theorem Ch.keep {B g gs : Nat} {w0 a b : World} (hb : Below w0.heap.size w0 a) (h : Ch B g gs a b) (h1 : w0.heap.size ≤ B) (h2 : w0.heap.size ≤ g) (h3 : w0.heap.size ≤ gs) : Below w0.heap.size w0 b := h.below hb h1 h2 h3

set_option maxHeartbeats 4000000 in
set_option maxRecDepth 100000 in
theorem examples_any (w : World) : Calls Try.prog 5 #[] w fun e w' => e = .returned (.bool true) ∧ Below w.heap.size w w' := by
  have hm63 := fun w => make_bytes 63 (by omega) w
  have hm64 := fun w => make_bytes 64 (by omega) w
  have hc63 := fun w => conv_new 63 (List.replicate 63 0) (by simp) w
  have hc64 := fun w => conv_new 64 (List.replicate 64 0) (by simp) w
  simp only [show ((63 : Nat) : Int) = 63 from rfl] at hm63
  simp only [show ((64 : Nat) : Int) = 64 from rfl] at hm64
  generalize (bc (List.replicate 63 0)).toArray = c63 at hm63 hc63
  generalize (bc (List.replicate 64 0)).toArray = c64 at hm64 hc64
  obtain ⟨q63, h63⟩ : ∃ q : ByteArray, (⟨(List.replicate 63 0).toArray⟩ : ByteArray) = q := ⟨_, rfl⟩
  obtain ⟨q64, h64⟩ : ∃ q : ByteArray, (⟨(List.replicate 64 0).toArray⟩ : ByteArray) = q := ⟨_, rfl⟩
  obtain ⟨sx, hsx⟩ : ∃ q : ByteArray, q63 ++ ⟨#[120]⟩ = q := ⟨_, rfl⟩
  rw [h63] at hc63
  rw [h64] at hc64
  have lx : sx.data.toList.length = 64 := by rw [← hsx, ← h63]; simp [ByteArray.data_append]
  have sz : q63.size = 63 := by rw [← h63]; rfl
  have hsz : ¬ 9223372036854775807 < q63.size + (⟨#[120]⟩ : ByteArray).size := by rw [sz]; decide
  have HX := Lib.hid lx
  have H64 := Lib.hid (show (⟨z64.toArray⟩ : ByteArray) = q64 from h64)
  have HS := Lib.hid (And.intro hsx hsz)
  have HM := Lib.hid (And.intro hm63 (And.intro hm64 (And.intro hc63 hc64)))
  clear h63 h64 lx sz hsz hsx hm63 hm64 hc63 hc64
  go_enter Try.func5, Try.ntmps5
  go_wp2_with fail
  refine (new_any 2 (by omega) (by omega) w).mono ?_
  rintro e w1 ⟨g, gs, rfl, hd, hb, g1, g2⟩
  have D1 := Lib.hid hd
  have B1 := Lib.hid hb
  have G := Lib.hid (And.intro g1 g2)
  clear hd hb g1 g2
  have hm := HM.out.1
  have hc := HM.out.2.2.1
  have hcat := HS.out.1
  have hsz := HS.out.2
  go_wp2_with fail
  clear hm hc hcat hsz
  obtain ⟨V, hV⟩ : ∃ V : World, V = w1.alloc (.cells c63 5) := ⟨_, rfl⟩
  rw [← hV]
  have hbV : Below w1.heap.size w1 V := by rw [hV]; exact bda _ _
  have D2 := Lib.hid (D1.out.below hbV)
  have B2 := Lib.hid (bon B1.out hbV)
  clear hbV hV
  refine (write_any 1 sx V D2.out (by simp) HX.out (by simp)).mono ?_
  rintro e w2 ⟨rfl, v', hd, hc⟩
  have D3 := Lib.hid hd
  have B3 := Lib.hid (hc.below B2.out B1.out.size G.out.1 G.out.2)
  clear hd hc
  go_wp2_with fail
  refine (read_any 1 w2 D3.out (by simp) (by simp)).mono ?_
  rintro e w3 ⟨rfl, hb⟩
  have e1 : (⟨(rd (List.replicate 2 z64) ([] ++ [(1, sx.data.toList)]) 1).toArray⟩ : ByteArray) = sx := by
    rw [List.nil_append, rd_one]
  rw [e1]
  have D4 := Lib.hid (D3.out.below hb)
  have B4 := Lib.hid (bon B3.out hb)
  clear hb e1
  go_wp2_with fail
  refine (crash_any none 0 [] (-1) 0 w3 D4.out (by simp) (Rl.nil_ _ _ _ _) (by simp) (fun h => by simp at h) (by omega) (by omega)).mono ?_
  rintro e w4 ⟨rfl, hd, hc⟩
  rw [cutQ_zero, List.nil_append, crash_none] at hd
  have D5 := Lib.hid hd
  have B5 := Lib.hid (hc.below B4.out B1.out.size G.out.1 G.out.2)
  clear hd hc
  go_wp2_with fail
  refine (read_any 1 w4 D5.out (by simp) (by simp)).mono ?_
  rintro e w5 ⟨rfl, hb⟩
  have e1 : (⟨(rd (List.replicate 2 z64) [] 1).toArray⟩ : ByteArray) = q64 := by rw [← H64.out]; rfl
  rw [e1]
  have D6 := Lib.hid (D5.out.below hb)
  have B6 := Lib.hid (bon B5.out hb)
  clear hb e1
  have hm := HM.out.2.1
  have hc := HM.out.2.2.2
  go_wp2_with fail
  clear hm hc
  obtain ⟨V2, hV⟩ : ∃ V : World, V = w5.alloc (.cells c64 5) := ⟨_, rfl⟩
  rw [← hV]
  have hbV : Below w5.heap.size w5 V2 := by rw [hV]; exact bda _ _
  have D7 := Lib.hid (D6.out.below hbV)
  have B7 := Lib.hid (bon B6.out hbV)
  clear hbV hV
  refine (write_no 2 sx V2 D7.out (by simp)).mono ?_
  rintro e w6 ⟨rfl, hb⟩
  have D8 := Lib.hid (D7.out.below hb)
  have B8 := Lib.hid (bon B7.out hb)
  clear hb
  go_wp2_with fail
  refine (sectors_any w6 D8.out).mono ?_
  rintro e w7 ⟨rfl, hw⟩
  subst w7
  simp only [List.length_replicate]
  go_wp2
  go_ret
  exact ⟨rfl, B8.out⟩
end Go.Proofs.Ytnpcobekmghnaaa
