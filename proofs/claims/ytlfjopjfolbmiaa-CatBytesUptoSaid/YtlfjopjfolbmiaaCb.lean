/-
  cat.lay: a number's bytes behind a row of the call's own, the greatest one first.
-/
import Derived.Test.YtlfjopjfolbmiaaCa
import Derived.Deep.AppendLies
namespace Go.Proofs.Ytlfjopjfolbmiaa
open Go.RowKit
theorem elem8_info : (Try.prog.info? 5).map (fun i => (i.zero, i.size, i.bytes)) = some (some (.int .u8 0), 1, 1) := by kernel_rfl
theorem byteCells_add (a b : List UInt8) : Lib.byteCells (a ++ b) = Lib.byteCells a ++ Lib.byteCells b := by simp [Lib.byteCells]
/-- A row of the call's own may have grown; nothing else has turned. -/
def Gr (w w' : World) (v v' : Value) : Prop := w.grownBy w' v.ownBlock ∧ ∀ k, v'.ownBlock = some k → v.ownBlock = some k ∨ w.heap.size ≤ k
theorem Gr.refl (w : World) (v : Value) : Gr w w v v := ⟨⟨rfl, rfl, rfl, Nat.le_refl _, fun _ _ _ => rfl⟩, fun _ h => .inl h⟩
theorem Gr.trans {a b c : World} {u v x : Value} (h : Gr a b u v) (k : Gr b c v x) : Gr a c u x := by
  refine ⟨⟨k.1.os.trans h.1.os, k.1.tape.trans h.1.tape, k.1.output.trans h.1.output, Nat.le_trans h.1.size k.1.size, fun i hi hne => ?_⟩, fun i hi => ?_⟩
  · refine (k.1.block i (Nat.lt_of_lt_of_le hi h.1.size) (fun e => ?_)).trans (h.1.block i hi hne)
    rcases h.2 i e.symm with h1 | h1
    · exact hne h1.symm
    · omega
  · rcases k.2 i hi with h1 | h1
    · exact h.2 i h1
    · exact .inr (Nat.le_trans h.1.size h1)
theorem Gr.alloc (w : World) (v : Value) (o : Obj) : Gr w (w.alloc o) v v := ⟨World.grownBy_alloc w o _, fun _ h => .inl h⟩
theorem Gr.below {a b : World} {v : Value} (h : Below a.heap.size a b) : Gr a b v v := ⟨⟨h.os, h.tape, h.output, h.size, fun i hi _ => h.block i hi⟩, fun _ h => .inl h⟩
theorem Gr.cell {a b : World} {u v : Value} (h : Gr a b u v) {g o : Nat} {x : Value} (hc : a.cell? ⟨g, o, none⟩ = some x) (hne : u.ownBlock ≠ some g) : b.cell? ⟨g, o, none⟩ = some x :=
  h.1.cell hc (fun e => hne e.symm)
/-- A number's bytes, so many, the greatest one first. -/
def be (m n : Nat) : List UInt8 := (List.range m).map fun i => UInt8.ofNat (n / 2 ^ (8 * (m - 1 - i)))
theorem be_len (m n : Nat) : (be m n).length = m := by unfold be; simp
theorem be_take {m n i : Nat} (h : i < m) : (be m n).take (i + 1) = (be m n).take i ++ [UInt8.ofNat (n / 2 ^ (8 * (m - 1 - i)))] := by
  rw [List.take_succ_eq_append_getElem (by rw [be_len]; exact h)]
  unfold be
  simp
theorem be_take_all (m n : Nat) : (be m n).take m = be m n := List.take_of_length_le (by rw [be_len]; omega)
theorem byte_cell (X : Nat) : Lib.byteCells [UInt8.ofNat X] = [.int .u8 ((X : Int) % 256)] := by
  unfold Lib.byteCells
  simp
theorem one_new {w : World} {a : Value} {T : TypeId} {j : Nat} {u : Value} (hj : [a][j]? = some u) : (w.alloc (.cells #[a] T)).cell? ((⟨w.heap.size, 0, none⟩ : Addr).add j) = some u := by
  rw [Addr.add_lit, Nat.zero_add, cell_of_row _ _ _ _ _ _ (heap_alloc_new w _)]
  simpa using hj
set_option maxHeartbeats 4000000 in
set_option maxRecDepth 100000 in
theorem lay_any (m n base : Nat) (v : Value) (k0 : Nat) (bs : List UInt8) (g c : Nat) (w : World) (hm : m = 4 ∨ m = 2) (hown : w.ownsRow base 5 1 v k0 (Lib.byteCells bs))
    (hg : w.cell? ⟨g, 0, none⟩ = some (.int .i64 n)) (hbase : base ≤ w.heap.size) (hl : k0 ≤ 1000000) :
    Calls Try.prog 23 #[v, .int .i64 m, .slice (some ⟨g, 0, none⟩) 1 c] w fun e w' => ∃ v', e = .returned v' ∧ w'.ownsRow base 5 1 v' (k0 + m) (Lib.byteCells (bs ++ be m n)) ∧ Below base w w' ∧ Gr w w' v v' := by
  obtain ⟨i0, hi, hz0, hz1, hz2⟩ := info_parts elem8_info
  have HO := Lib.hid hown
  have HM := Lib.hid hm
  have ml : m ≤ 4 := by omega
  clear hown hm
  go_enter Try.func23, Try.ntmps23
  go_wp2
  go_loopw [0, 12] (fun x i wr => ∃ q : Int, 0 ≤ q ∧ q ≤ 1 ∧ i = .int .i64 q ∧ Hid (q = 0 → w = wr ∧ v = x) ∧ Hid (q = 1 → wr.ownsRow base 5 1 x (k0 + m) (Lib.byteCells (bs ++ be m n)) ∧ Below base w wr ∧ Gr w wr v x)) (fun _ i _ => 1 - (intOf i).toNat)
  case atStart => exact ⟨0, by omega, by omega, rfl, Lib.hid (fun _ => ⟨rfl, rfl⟩), Lib.hid (fun h => by omega)⟩
  case round =>
    obtain ⟨q, hq1, hq, rfl, hA, hB⟩ := hrel
    by_cases hq0 : q = 0
    · subst hq0
      obtain ⟨rfl, rfl⟩ := hA.out rfl
      clear hA hB
      go_wp2
      go_loopw [0, 17] (fun x i wr => ∃ i1 : Nat, i1 ≤ m ∧ i = .int .i64 i1 ∧ Hid (wr.ownsRow base 5 1 x (k0 + i1) (Lib.byteCells (bs ++ (be m n).take i1)) ∧ Below base w wr ∧ Gr w wr v x)) (fun _ i _ => m - (intOf i).toNat)
      case atStart => exact ⟨0, by omega, rfl, Lib.hid ⟨by simpa using HO.out, Below.refl _ _, Gr.refl _ _⟩⟩
      case round =>
        obtain ⟨i, him, rfl, hr⟩ := hrel
        by_cases hlt : i < m
        · have BT := Lib.hid (be_take (n := n) hlt)
          have hS : ∃ X : Nat, (8 * (m - 1 - i) = 24 ∨ 8 * (m - 1 - i) = 16 ∨ 8 * (m - 1 - i) = 8 ∨ 8 * (m - 1 - i) = 0) ∧ n / 2 ^ (8 * (m - 1 - i)) = X := ⟨_, by have := HM.out; omega, rfl⟩
          obtain ⟨X, hS, hX⟩ := hS
          have e1 : (8 : Int) * ((m : Int) - 1 - (i : Int)) = ((8 * (m - 1 - i) : Nat) : Int) := by omega
          obtain ⟨S, hSS⟩ : ∃ S, 8 * (m - 1 - i) = S := ⟨_, rfl⟩
          rw [hSS] at e1 hX hS
          have EX := Lib.hid (show ((n : Int) / 2 ^ S % 256) = ((X : Int) % 256) by rw [← hX]; simp)
          have HSS := Lib.hid (And.intro hSS hX)
          have o1 := Lib.hid hr.out.1
          have o2 := Lib.hid hr.out.2
          have bz : base ≤ wr.heap.size := Nat.le_trans hbase hr.out.2.1.size
          clear hSS hX hr
          go_wp2_with (at_builtin; refine wpList_append_lies _ rfl _ _ 56 rfl base 5 i0 (.int .u8 0) 1 1 Try.underlying56 hi hz0 hz1 hz2 rfl (by decide) _ _ _ rfl (o1.out.alloc _) ⟨wr.heap.size, 0, none⟩ 1 1 [.int .u8 ((n : Int) / 2 ^ S % 256)] rfl rfl (fun j u hj => one_new hj) (by intro u hu; simp at hu; subst hu; rfl) (by omega) (by unfold maxLen; omega) (by omega) (by simp; omega) (wr.heap.size + 1) (by simp) ?_)
          intro g1 cap w1 hown1 hgrow hat hgl1
          have NB := Lib.hid (show Below base w w1 from (o2.out.1.alloc bz _).grown hgrow (by simp; omega) (fun k hk => (o1.out.lt k hk).1))
          have NG := Lib.hid (show Gr w w1 v (.slice (some ⟨g1, 0, none⟩) (k0 + i + 1) cap) from (o2.out.2.trans (Gr.alloc _ _ _)).trans ⟨hgrow, fun k hk => by
            have hkg : g1 = k := by simpa [Value.ownBlock] using hk
            subst hkg
            rcases hat with h1 | h1
            · exact .inl h1
            · exact .inr (by simp; omega)⟩)
          have NO := Lib.hid hown1
          clear hown1 hgrow hat
          go_wp2
          go_roundw
          case rel =>
            refine ⟨i + 1, hlt, by go_num, Lib.hid ⟨?_, NB.out, NG.out⟩⟩
            have h1 := NO.out
            have h2 := HSS.out
            rw [EX.out] at h1
            rw [BT.out, h2.1, h2.2, ← List.append_assoc, byteCells_add, byte_cell]
            exact h1
          case measure => simp [intOf]; omega
        · obtain rfl : i = m := by omega
          have HH := Lib.hid hr.out
          rw [be_take_all] at HH
          clear hr
          go_wp2
          go_roundw
          case rel => exact ⟨1, by omega, by omega, rfl, Lib.hid (fun h => by omega), Lib.hid (fun _ => HH.out)⟩
          case measure => simp [intOf]
    · obtain rfl : q = 1 := by omega
      obtain ⟨b1, b2, b3⟩ := hB.out rfl
      have HH := Lib.hid (And.intro b1 (And.intro b2 b3))
      clear hA hB b1 b2 b3
      go_wp2
      go_ret
      exact ⟨_, rfl, HH.out⟩
end Go.Proofs.Ytlfjopjfolbmiaa
