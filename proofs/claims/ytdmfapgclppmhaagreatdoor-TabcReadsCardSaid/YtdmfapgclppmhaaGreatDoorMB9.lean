import Derived.Test.YtdmfapgclppmhaaGreatDoorMB2
import Derived.Test.YtdmfapgclppmhaaGreatDoorMB6
import Derived.Test.YtdmfapgclppmhaaGreatDoorMB7
import Derived.Test.YtdmfapgclppmhaaGreatDoorMB5
import Derived.Test.YtdmfapgclppmhaaGreatDoorMB3
import Derived.Test.YtdmfapgclppmhaaGreatDoorMB8
import Derived.Test.YtdmfapgclppmhaaGreatDoorMB4
set_option maxHeartbeats 16000000
set_option maxRecDepth 100000
section
namespace Go.Proofs.YtdmfapgclppmhaaGreatDoor
open Go.RowKit
theorem ext_take (s : ByteArray) (n : Nat) : s.extract 0 n = ⟨(s.data.toList.take n).toArray⟩ := by
  apply ByteArray.ext
  apply Array.toList_inj.1
  rw [Lib.extract_data]
  simp
theorem ix_run (s : ByteArray) (i : Int) (k c : Nat) (hi : i = (k : Int)) (h : k < s.size) (hc : Bt s.data.toList k = c) (x : World) : (Instr.index 9 (.string s) (.int .i64 i)).run Tryz.prog x = .ok (.int .u8 (c : Int)) x := by
  subst hi hc
  rw [run_index_string x 9 s .i64 (k : Int) Tryz.underlying9, dif_pos ⟨by omega, by omega⟩]
  simp only [Int.toNat_natCast, bt_get]
theorem box_neg2 (w : World) (k : Nat) (neg : Bool) : ((((w.alloc (.cells #[.bool false, .slice none 0 0] 24)).alloc (.cells #[.bool neg, .slice none 0 0] 24)).drewN k).heap[w.heap.size + 1]? = some (.cells #[.bool neg, .slice none 0 0] 24 (0, 0))) ∧
    Below w.heap.size w (((w.alloc (.cells #[.bool false, .slice none 0 0] 24)).alloc (.cells #[.bool neg, .slice none 0 0] 24)).drewN k) ∧
    (((w.alloc (.cells #[.bool false, .slice none 0 0] 24)).alloc (.cells #[.bool neg, .slice none 0 0] 24)).drewN k).heap[w.heap.size]? = some (.cells #[.bool false, .slice none 0 0] 24 (0, 0)) :=
  ⟨heap_alloc2_new w _ _, below_drewN (below2 w _ _) k, heap_alloc2_old w _ _⟩
theorem wraps {p : Nat} (h : p ≤ 200000) : (wrap64 ((p : Int) + 1) = (p : Int) + 1 ∧ IntKind.i64.wrap ((p : Int) + 1) = (p : Int) + 1) ∧ (wrap64 ((p : Int) + 2) = (p : Int) + 2 ∧ IntKind.i64.wrap ((p : Int) + 2) = (p : Int) + 2) ∧ (wrap64 ((p : Int) + 3) = (p : Int) + 3 ∧ IntKind.i64.wrap ((p : Int) + 3) = (p : Int) + 3) :=
  ⟨⟨IntWalk.wrap64_in _ ⟨by omega, by omega⟩, IntWalk.i64_in _ ⟨by omega, by omega⟩⟩, ⟨IntWalk.wrap64_in _ ⟨by omega, by omega⟩, IntWalk.i64_in _ ⟨by omega, by omega⟩⟩, ⟨IntWalk.wrap64_in _ ⟨by omega, by omega⟩, IntWalk.i64_in _ ⟨by omega, by omega⟩⟩⟩
theorem wrap_p4 {p : Nat} (h : p ≤ 200000) : wrap64 ((p : Int) + 4) = (p : Int) + 4 ∧ IntKind.i64.wrap ((p : Int) + 4) = (p : Int) + 4 := ⟨IntWalk.wrap64_in _ ⟨by omega, by omega⟩, IntWalk.i64_in _ ⟨by omega, by omega⟩⟩
theorem size_facts {n sz : Nat} (h : n ≤ 32767) (hs : 2 + 4 * n = sz) : wrap64 (4 * (n : Int)) = 4 * (n : Int) ∧ wrap64 (2 + 4 * (n : Int)) = (sz : Int) ∧ 2 + 4 * (n : Int) = (sz : Int) :=
  ⟨IntWalk.wrap64_in _ ⟨by omega, by omega⟩, by rw [IntWalk.wrap64_in _ ⟨by omega, by omega⟩]; omega, by omega⟩
theorem rztake_go (s : ByteArray) (w : World) (l : List UInt8) (hl : s.data.toList = l) (h2 : 2 ≤ l.length) (n : Nat) (hn : hd2 l / 2 = n) (h5 : 4 * n + 2 ≤ l.length) (hmax : l.length ≤ 9223372036854775807) (neg : Bool) (hneg : decide (hd2 l % 2 = 1) = neg) (q : Bool) (hq : (decide (n ≤ 400) && rightB neg (rdn l n)) = q) :
    Calls Tryz.prog 45 #[.string s] w fun e w' => Below w.heap.size w w' ∧ (q = false → e = .returned (.tuple #[.agg #[.bool false, .slice none 0 0], .string ⟨#[]⟩, .bool false])) ∧
      (q = true → ∃ A c, e = .returned (.tuple #[.agg #[.bool neg, .slice A n c], .string ⟨(l.drop (2 + 4 * n)).toArray⟩, .bool true]) ∧ Dg w' A c (rdn l n)) := by
  have hs : s.size = l.length := by rw [← hl]; simp
  have d0 : decide ((s.size : Int) < 2) = false := decide_eq_false (by omega)
  have n0 : 0 < s.size := by omega
  have n1 : 1 < s.size := by omega
  have e0 : (0 : Int) < (s.size : Int) := by omega
  have e1 : (1 : Int) < (s.size : Int) := by omega
  obtain ⟨b0, hb0⟩ : ∃ b0 : Nat, (s[0]'n0).toNat = b0 := ⟨_, rfl⟩
  obtain ⟨b1, hb1⟩ : ∃ b1 : Nat, (s[1]'n1).toNat = b1 := ⟨_, rfl⟩
  have l0 : b0 < 256 := by rw [← hb0]; exact UInt8.toNat_lt _
  have l1 : b1 < 256 := by rw [← hb1]; exact UInt8.toNat_lt _
  have hH : b0 * 256 + b1 = hd2 l := by unfold hd2; rw [← hl, ← bt_get s 0 n0, ← bt_get s 1 n1, hb0, hb1]
  have ZB := qH (zb_take hn hneg h5)
  obtain ⟨h, hh⟩ : ∃ h : Nat, hd2 l = h := ⟨_, rfl⟩
  rw [hh] at hH hn hneg
  have hnb : n ≤ 32767 := by omega
  have HNB := qH hnb
  have HF := qH (head_facts l0 l1 hH hn hneg)
  obtain ⟨sz, hsz⟩ : ∃ sz, 2 + 4 * n = sz := ⟨_, rfl⟩
  have HSZ := qH hsz
  have SF := qH (size_facts hnb hsz)
  have d5 : decide ((s.size : Int) < (sz : Int)) = false := decide_eq_false (by omega)
  have d5n : decide (s.size < sz) = false := decide_eq_false (by omega)
  have HS := qH hs
  have HLL := qH hl
  have HQ := qH hq
  have HL := qH (And.intro h5 hmax)
  obtain ⟨i0, hi, hz0, hz1, hz2⟩ := info_parts elem_info
  have hss : sz ≤ s.size := by omega
  have HSS := qH hss
  clear hs hH hh hn hneg h2 h5 hmax hl hnb hsz hq hss
  go_enter Tryz.func45, Tryz.ntmps45
  have hO := HF.out.1
  go_wp2_with fail
  go_quiet (fail)
  clear hO
  have hQ2 := HF.out.2.2.1
  have hR3 := HF.out.2.2.2.2
  have hS1 := SF.out.1
  have hS2 := SF.out.2.1
  go_upto_region 9 with fail
  rw [hS2]
  clear hQ2 hR3 hS1 hS2
  go_loopw [8] (fun i wr => ∃ (k p : Nat) (v : Value), k ≤ n ∧ Hid (p = 2 + 4 * k) ∧ i = .int .i64 p ∧ Hid (wr.heap[w.heap.size + 1]? = some (.cells #[.bool neg, v] 24 (0, 0))) ∧ Hid (wr.ownsRow (w.heap.size + 1 + 1) 67 1 v k (cells (rdn l k))) ∧ Hid (Below w.heap.size w wr) ∧ Hid (wr.heap[w.heap.size]? = some (.cells #[.bool false, .slice none 0 0] 24 (0, 0)))) (fun i _ => sz + 1 - (intOf i).toNat)
  case atStart => exact ⟨0, 2, .slice none 0 0, Nat.zero_le _, rfl, rfl, qH (box_neg2 w _ neg).1, qH (World.ownsRow_nil _ _ _ _), qH (box_neg2 w _ neg).2.1, qH (box_neg2 w _ neg).2.2⟩
  case round =>
    obtain ⟨k, p, v, hk, HP, rfl, HC, HO, HB, HZ⟩ := hrel
    by_cases hlt : k < n
    · have hp := HP.out
      have hnb := HNB.out
      have hsz := HSZ.out
      have hss := HSS.out
      have dlt : decide ((p : Int) < (sz : Int)) = true := decide_eq_true (by omega)
      have dltn : decide (p < sz) = true := decide_eq_true (by omega)
      have WW := qH (wraps (show p ≤ 200000 by omega))
      have W4 := qH (wrap_p4 (show p ≤ 200000 by omega))
      obtain ⟨c0, hc0⟩ : ∃ c, Bt l p = c := ⟨_, rfl⟩
      obtain ⟨c1, hc1⟩ : ∃ c, Bt l (p + 1) = c := ⟨_, rfl⟩
      obtain ⟨c2, hc2⟩ : ∃ c, Bt l (p + 2) = c := ⟨_, rfl⟩
      obtain ⟨c3, hc3⟩ : ∃ c, Bt l (p + 3) = c := ⟨_, rfl⟩
      have m0 : c0 < 256 := by rw [← hc0]; exact bt_lt _ _
      have m1 : c1 < 256 := by rw [← hc1]; exact bt_lt _ _
      have m2 : c2 < 256 := by rw [← hc2]; exact bt_lt _ _
      have m3 : c3 < 256 := by rw [← hc3]; exact bt_lt _ _
      have OO := qH (or3 m0 m1 m2 m3)
      have II := qH (And.intro (ix_run s (p : Int) p c0 rfl (by omega) (by rw [HLL.out]; exact hc0)) (And.intro (ix_run s ((p : Int) + 1) (p + 1) c1 (by omega) (by omega) (by rw [HLL.out]; exact hc1)) (And.intro (ix_run s ((p : Int) + 2) (p + 2) c2 (by omega) (by omega) (by rw [HLL.out]; exact hc2)) (ix_run s ((p : Int) + 3) (p + 3) c3 (by omega) (by omega) (by rw [HLL.out]; exact hc3)))))
      have RD := qH (show cells (rdn l (k + 1)) = cells (rdn l k) ++ [.int .u32 ((c0 + 256 * c1 + 65536 * c2 + 16777216 * c3 : Nat) : Int)] by
        have e : u4 l (2 + 4 * k) = c0 + 256 * c1 + 65536 * c2 + 16777216 * c3 := by
          unfold u4; rw [← hp, hc0, hc1, hc2, hc3]
        show cells (rdn l k ++ [u4 l (2 + 4 * k)]) = _
        rw [cells_snoc, e])
      generalize c0 + 256 * c1 + 65536 * c2 + 16777216 * c3 = X at *
      generalize c0 + 256 * c1 + 65536 * c2 = o2 at *
      generalize c0 + 256 * c1 = o1 at *
      have kb : k ≤ 32767 := by omega
      clear hp hsz hc0 hc1 hc2 hc3 hss
      go_upto_region 11 with fail
      refine wp_operands (W := wr) rfl 28 [41, 42, 43, 44, 45, 46, 47, 48, 49, 50, 51, 52, 53, 54, 55, 56, 57, 58, 59, 60, 61, 62, 63, 64, 65, 66, 67, 68] (fun i u x => match i with | 0 => u = .pointer (some ⟨w.heap.size + 1, 1, none⟩) | 1 => u = v | 2 => u = .string s | 3 => u = .int .i64 (p : Int) | 4 => u = .int .u8 (c0 : Int) | 5 => u = .int .u32 (c0 : Int) | 6 => u = .string s | 7 => u = .int .i64 (p : Int) | 8 => u = .int .i64 ((p : Int) + 1) | 9 => u = .int .u8 (c1 : Int) | 10 => u = .int .u32 (c1 : Int) | 11 => u = .int .u32 ((c1 : Int) * 256) | 12 => u = .int .u32 (o1 : Int) | 13 => u = .string s | 14 => u = .int .i64 (p : Int) | 15 => u = .int .i64 ((p : Int) + 2) | 16 => u = .int .u8 (c2 : Int) | 17 => u = .int .u32 (c2 : Int) | 18 => u = .int .u32 ((c2 : Int) * 65536) | 19 => u = .int .u32 (o2 : Int) | 20 => u = .string s | 21 => u = .int .i64 (p : Int) | 22 => u = .int .i64 ((p : Int) + 3) | 23 => u = .int .u8 (c3 : Int) | 24 => u = .int .u32 (c3 : Int) | 25 => u = .int .u32 ((c3 : Int) * 16777216) | 26 => u = .int .u32 (X : Int) | 27 => ∃ g, u = .slice (some ⟨g, 0, none⟩) 1 1 ∧ x.heap[g]? = some (.cells #[.int .u32 (X : Int)] 67 (0, 0)) | _ => True) (fun _ => false)
        (by decide) rfl (by kernel_rfl) (by kernel_rfl) (by decide) (by kernel_rfl) ?_ (fun _ _ _ h => by cases h) ?_ ?_
      · intro i u x x' hi hR hb'
        have hi' : i = 0 ∨ i = 1 ∨ i = 2 ∨ i = 3 ∨ i = 4 ∨ i = 5 ∨ i = 6 ∨ i = 7 ∨ i = 8 ∨ i = 9 ∨ i = 10 ∨ i = 11 ∨ i = 12 ∨ i = 13 ∨ i = 14 ∨ i = 15 ∨ i = 16 ∨ i = 17 ∨ i = 18 ∨ i = 19 ∨ i = 20 ∨ i = 21 ∨ i = 22 ∨ i = 23 ∨ i = 24 ∨ i = 25 ∨ i = 26 ∨ i = 27 := by omega
        rcases hi' with rfl | rfl | rfl | rfl | rfl | rfl | rfl | rfl | rfl | rfl | rfl | rfl | rfl | rfl | rfl | rfl | rfl | rfl | rfl | rfl | rfl | rfl | rfl | rfl | rfl | rfl | rfl | rfl
        · exact hR
        · exact hR
        · exact hR
        · exact hR
        · exact hR
        · exact hR
        · exact hR
        · exact hR
        · exact hR
        · exact hR
        · exact hR
        · exact hR
        · exact hR
        · exact hR
        · exact hR
        · exact hR
        · exact hR
        · exact hR
        · exact hR
        · exact hR
        · exact hR
        · exact hR
        · exact hR
        · exact hR
        · exact hR
        · exact hR
        · exact hR
        · obtain ⟨g, e, hg⟩ := hR; exact ⟨g, e, (hb'.block g (heap_lt hg)).trans hg⟩
      · intro i a x K hi hF hb' hw hK
        have hi' : i = 0 ∨ i = 1 ∨ i = 2 ∨ i = 3 ∨ i = 4 ∨ i = 5 ∨ i = 6 ∨ i = 7 ∨ i = 8 ∨ i = 9 ∨ i = 10 ∨ i = 11 ∨ i = 12 ∨ i = 13 ∨ i = 14 ∨ i = 15 ∨ i = 16 ∨ i = 17 ∨ i = 18 ∨ i = 19 ∨ i = 20 ∨ i = 21 ∨ i = 22 ∨ i = 23 ∨ i = 24 ∨ i = 25 ∨ i = 26 ∨ i = 27 := by omega
        rcases hi' with rfl | rfl | rfl | rfl | rfl | rfl | rfl | rfl | rfl | rfl | rfl | rfl | rfl | rfl | rfl | rfl | rfl | rfl | rfl | rfl | rfl | rfl | rfl | rfl | rfl | rfl | rfl | rfl
        · simp only [wpOp, gAy, gZy, Region.wanted, if_true]
          refine Or.inl ?_
          have e0 : a.eval (.tmp 7) = .pointer (some ⟨w.heap.size + 1, 0, none⟩) := hF.2.2 7 (by decide)
          clear hw hF
          simp only [Oper.wp, execOp]
          rw [e0]
          go_simp
          exact hK _ x (by first | rfl | exact u32_v (by omega) (by omega) | (rw [O]; done) | (rw [hw1]; done)) (Below.refl _ _) (fun h => by cases h)
        · simp only [wpOp, gAy, gSy, gZy, Region.wanted, if_true]
          refine Or.inl ?_
          have e0 : a.tmps.getD 41 undef = .pointer (some ⟨w.heap.size + 1, 1, none⟩) := hw 0 (by kernel_rfl)
          have f := row_cell HC.out hb' 1
          simp only [gAy, gSy, gZy] at f
          clear hw hF
          simp only [Oper.wp, execOp]
          go_simp
          exact hK _ x (by first | rfl | exact u32_v (by omega) (by omega) | (rw [O]; done) | (rw [hw1]; done)) (Below.refl _ _) (fun h => by cases h)
        · simp only [wpOp, gAy, gSy, gZy, Region.wanted, if_true]
          refine Or.inl ?_
          have e0 : a.eval (.tmp 0) = .string s := hF.2.2 0 (by decide)
          clear hw hF
          simp only [Oper.wp, execOp]
          rw [e0]
          go_simp
          exact hK _ x (by first | rfl | exact u32_v (by omega) (by omega) | (rw [O]; done) | (rw [hw1]; done)) (Below.refl _ _) (fun h => by cases h)
        · simp only [wpOp, gAy, gSy, gZy, Region.wanted, if_true]
          refine Or.inl ?_
          have e0 : a.eval (.tmp 8) = .int .i64 (p : Int) := hF.2.2 8 (by decide)
          clear hw hF
          simp only [Oper.wp, execOp]
          rw [e0]
          go_simp
          exact hK _ x (by first | rfl | exact u32_v (by omega) (by omega) | (rw [O]; done) | (rw [hw1]; done)) (Below.refl _ _) (fun h => by cases h)
        · simp only [wpOp, gAy, gSy, gZy, Region.wanted, if_true]
          refine Or.inl ?_
          have e0 : a.tmps.getD 43 undef = .string s := hw 2 (by kernel_rfl)
          have e1 : a.tmps.getD 44 undef = .int .i64 (p : Int) := hw 3 (by kernel_rfl)
          have hix := II.out.1 x
          clear hw hF
          simp only [Oper.wp, execOp]
          go_simp
          exact hK _ x (by first | rfl | exact u32_v (by omega) (by omega) | (rw [O]; done) | (rw [hw1]; done)) (Below.refl _ _) (fun h => by cases h)
        · simp only [wpOp, gAy, gSy, gZy, Region.wanted, if_true]
          refine Or.inl ?_
          have e0 : a.tmps.getD 45 undef = .int .u8 (c0 : Int) := hw 4 (by kernel_rfl)
          clear hw hF
          simp only [Oper.wp, execOp]
          go_simp
          exact hK _ x (by first | rfl | exact u32_v (by omega) (by omega) | (rw [O]; done) | (rw [hw1]; done)) (Below.refl _ _) (fun h => by cases h)
        · simp only [wpOp, gAy, gSy, gZy, Region.wanted, if_true]
          refine Or.inl ?_
          have e0 : a.eval (.tmp 0) = .string s := hF.2.2 0 (by decide)
          clear hw hF
          simp only [Oper.wp, execOp]
          rw [e0]
          go_simp
          exact hK _ x (by first | rfl | exact u32_v (by omega) (by omega) | (rw [O]; done) | (rw [hw1]; done)) (Below.refl _ _) (fun h => by cases h)
        · simp only [wpOp, gAy, gSy, gZy, Region.wanted, if_true]
          refine Or.inl ?_
          have e0 : a.eval (.tmp 8) = .int .i64 (p : Int) := hF.2.2 8 (by decide)
          clear hw hF
          simp only [Oper.wp, execOp]
          rw [e0]
          go_simp
          exact hK _ x (by first | rfl | exact u32_v (by omega) (by omega) | (rw [O]; done) | (rw [hw1]; done)) (Below.refl _ _) (fun h => by cases h)
        · simp only [wpOp, gAy, gSy, gZy, Region.wanted, if_true]
          refine Or.inl ?_
          have e0 : a.tmps.getD 48 undef = .int .i64 (p : Int) := hw 7 (by kernel_rfl)
          obtain ⟨hw1, hw2⟩ := WW.out.1
          clear hw hF
          simp only [Oper.wp, execOp]
          go_simp
          exact hK _ x (by first | rfl | exact u32_v (by omega) (by omega) | (rw [O]; done) | (rw [hw1]; done)) (Below.refl _ _) (fun h => by cases h)
        · simp only [wpOp, gAy, gSy, gZy, Region.wanted, if_true]
          refine Or.inl ?_
          have e0 : a.tmps.getD 47 undef = .string s := hw 6 (by kernel_rfl)
          have e1 : a.tmps.getD 49 undef = .int .i64 ((p : Int) + 1) := hw 8 (by kernel_rfl)
          have hix := II.out.2.1 x
          clear hw hF
          simp only [Oper.wp, execOp]
          go_simp
          exact hK _ x (by first | rfl | exact u32_v (by omega) (by omega) | (rw [O]; done) | (rw [hw1]; done)) (Below.refl _ _) (fun h => by cases h)
        · simp only [wpOp, gAy, gSy, gZy, Region.wanted, if_true]
          refine Or.inl ?_
          have e0 : a.tmps.getD 50 undef = .int .u8 (c1 : Int) := hw 9 (by kernel_rfl)
          clear hw hF
          simp only [Oper.wp, execOp]
          go_simp
          exact hK _ x (by first | rfl | exact u32_v (by omega) (by omega) | (rw [O]; done) | (rw [hw1]; done)) (Below.refl _ _) (fun h => by cases h)
        · simp only [wpOp, gAy, gSy, gZy, Region.wanted, if_true]
          refine Or.inl ?_
          have e0 : a.tmps.getD 51 undef = .int .u32 (c1 : Int) := hw 10 (by kernel_rfl)
          clear hw hF
          simp only [Oper.wp, execOp]
          go_simp
          exact hK _ x (by first | rfl | exact u32_v (by omega) (by omega) | (rw [O]; done) | (rw [hw1]; done)) (Below.refl _ _) (fun h => by cases h)
        · simp only [wpOp, gAy, gSy, gZy, Region.wanted, if_true]
          refine Or.inl ?_
          have e0 : a.tmps.getD 46 undef = .int .u32 (c0 : Int) := hw 5 (by kernel_rfl)
          have e1 : a.tmps.getD 52 undef = .int .u32 ((c1 : Int) * 256) := hw 11 (by kernel_rfl)
          have O := OO.out.1
          clear hw hF
          simp only [Oper.wp, execOp]
          go_simp
          exact hK _ x (by first | rfl | exact u32_v (by omega) (by omega) | (rw [O]; done) | (rw [hw1]; done)) (Below.refl _ _) (fun h => by cases h)
        · simp only [wpOp, gAy, gSy, gZy, Region.wanted, if_true]
          refine Or.inl ?_
          have e0 : a.eval (.tmp 0) = .string s := hF.2.2 0 (by decide)
          clear hw hF
          simp only [Oper.wp, execOp]
          rw [e0]
          go_simp
          exact hK _ x (by first | rfl | exact u32_v (by omega) (by omega) | (rw [O]; done) | (rw [hw1]; done)) (Below.refl _ _) (fun h => by cases h)
        · simp only [wpOp, gAy, gSy, gZy, Region.wanted, if_true]
          refine Or.inl ?_
          have e0 : a.eval (.tmp 8) = .int .i64 (p : Int) := hF.2.2 8 (by decide)
          clear hw hF
          simp only [Oper.wp, execOp]
          rw [e0]
          go_simp
          exact hK _ x (by first | rfl | exact u32_v (by omega) (by omega) | (rw [O]; done) | (rw [hw1]; done)) (Below.refl _ _) (fun h => by cases h)
        · simp only [wpOp, gAy, gSy, gZy, Region.wanted, if_true]
          refine Or.inl ?_
          have e0 : a.tmps.getD 55 undef = .int .i64 (p : Int) := hw 14 (by kernel_rfl)
          obtain ⟨hw1, hw2⟩ := WW.out.2.1
          clear hw hF
          simp only [Oper.wp, execOp]
          go_simp
          exact hK _ x (by first | rfl | exact u32_v (by omega) (by omega) | (rw [O]; done) | (rw [hw1]; done)) (Below.refl _ _) (fun h => by cases h)
        · simp only [wpOp, gAy, gSy, gZy, Region.wanted, if_true]
          refine Or.inl ?_
          have e0 : a.tmps.getD 54 undef = .string s := hw 13 (by kernel_rfl)
          have e1 : a.tmps.getD 56 undef = .int .i64 ((p : Int) + 2) := hw 15 (by kernel_rfl)
          have hix := II.out.2.2.1 x
          clear hw hF
          simp only [Oper.wp, execOp]
          go_simp
          exact hK _ x (by first | rfl | exact u32_v (by omega) (by omega) | (rw [O]; done) | (rw [hw1]; done)) (Below.refl _ _) (fun h => by cases h)
        · simp only [wpOp, gAy, gSy, gZy, Region.wanted, if_true]
          refine Or.inl ?_
          have e0 : a.tmps.getD 57 undef = .int .u8 (c2 : Int) := hw 16 (by kernel_rfl)
          clear hw hF
          simp only [Oper.wp, execOp]
          go_simp
          exact hK _ x (by first | rfl | exact u32_v (by omega) (by omega) | (rw [O]; done) | (rw [hw1]; done)) (Below.refl _ _) (fun h => by cases h)
        · simp only [wpOp, gAy, gSy, gZy, Region.wanted, if_true]
          refine Or.inl ?_
          have e0 : a.tmps.getD 58 undef = .int .u32 (c2 : Int) := hw 17 (by kernel_rfl)
          clear hw hF
          simp only [Oper.wp, execOp]
          go_simp
          exact hK _ x (by first | rfl | exact u32_v (by omega) (by omega) | (rw [O]; done) | (rw [hw1]; done)) (Below.refl _ _) (fun h => by cases h)
        · simp only [wpOp, gAy, gSy, gZy, Region.wanted, if_true]
          refine Or.inl ?_
          have e0 : a.tmps.getD 53 undef = .int .u32 (o1 : Int) := hw 12 (by kernel_rfl)
          have e1 : a.tmps.getD 59 undef = .int .u32 ((c2 : Int) * 65536) := hw 18 (by kernel_rfl)
          have O := OO.out.2.1
          clear hw hF
          simp only [Oper.wp, execOp]
          go_simp
          exact hK _ x (by first | rfl | exact u32_v (by omega) (by omega) | (rw [O]; done) | (rw [hw1]; done)) (Below.refl _ _) (fun h => by cases h)
        · simp only [wpOp, gAy, gSy, gZy, Region.wanted, if_true]
          refine Or.inl ?_
          have e0 : a.eval (.tmp 0) = .string s := hF.2.2 0 (by decide)
          clear hw hF
          simp only [Oper.wp, execOp]
          rw [e0]
          go_simp
          exact hK _ x (by first | rfl | exact u32_v (by omega) (by omega) | (rw [O]; done) | (rw [hw1]; done)) (Below.refl _ _) (fun h => by cases h)
        · simp only [wpOp, gAy, gSy, gZy, Region.wanted, if_true]
          refine Or.inl ?_
          have e0 : a.eval (.tmp 8) = .int .i64 (p : Int) := hF.2.2 8 (by decide)
          clear hw hF
          simp only [Oper.wp, execOp]
          rw [e0]
          go_simp
          exact hK _ x (by first | rfl | exact u32_v (by omega) (by omega) | (rw [O]; done) | (rw [hw1]; done)) (Below.refl _ _) (fun h => by cases h)
        · simp only [wpOp, gAy, gSy, gZy, Region.wanted, if_true]
          refine Or.inl ?_
          have e0 : a.tmps.getD 62 undef = .int .i64 (p : Int) := hw 21 (by kernel_rfl)
          obtain ⟨hw1, hw2⟩ := WW.out.2.2
          clear hw hF
          simp only [Oper.wp, execOp]
          go_simp
          exact hK _ x (by first | rfl | exact u32_v (by omega) (by omega) | (rw [O]; done) | (rw [hw1]; done)) (Below.refl _ _) (fun h => by cases h)
        · simp only [wpOp, gAy, gSy, gZy, Region.wanted, if_true]
          refine Or.inl ?_
          have e0 : a.tmps.getD 61 undef = .string s := hw 20 (by kernel_rfl)
          have e1 : a.tmps.getD 63 undef = .int .i64 ((p : Int) + 3) := hw 22 (by kernel_rfl)
          have hix := II.out.2.2.2 x
          clear hw hF
          simp only [Oper.wp, execOp]
          go_simp
          exact hK _ x (by first | rfl | exact u32_v (by omega) (by omega) | (rw [O]; done) | (rw [hw1]; done)) (Below.refl _ _) (fun h => by cases h)
        · simp only [wpOp, gAy, gSy, gZy, Region.wanted, if_true]
          refine Or.inl ?_
          have e0 : a.tmps.getD 64 undef = .int .u8 (c3 : Int) := hw 23 (by kernel_rfl)
          clear hw hF
          simp only [Oper.wp, execOp]
          go_simp
          exact hK _ x (by first | rfl | exact u32_v (by omega) (by omega) | (rw [O]; done) | (rw [hw1]; done)) (Below.refl _ _) (fun h => by cases h)
        · simp only [wpOp, gAy, gSy, gZy, Region.wanted, if_true]
          refine Or.inl ?_
          have e0 : a.tmps.getD 65 undef = .int .u32 (c3 : Int) := hw 24 (by kernel_rfl)
          clear hw hF
          simp only [Oper.wp, execOp]
          go_simp
          exact hK _ x (by first | rfl | exact u32_v (by omega) (by omega) | (rw [O]; done) | (rw [hw1]; done)) (Below.refl _ _) (fun h => by cases h)
        · simp only [wpOp, gAy, gSy, gZy, Region.wanted, if_true]
          refine Or.inl ?_
          have e0 : a.tmps.getD 60 undef = .int .u32 (o2 : Int) := hw 19 (by kernel_rfl)
          have e1 : a.tmps.getD 66 undef = .int .u32 ((c3 : Int) * 16777216) := hw 25 (by kernel_rfl)
          have O := OO.out.2.2
          clear hw hF
          simp only [Oper.wp, execOp]
          go_simp
          exact hK _ x (by first | rfl | exact u32_v (by omega) (by omega) | (rw [O]; done) | (rw [hw1]; done)) (Below.refl _ _) (fun h => by cases h)
        · simp only [wpOp, gAy, gSy, gZy, Region.wanted, if_true]
          refine Or.inl ?_
          have e0 : a.tmps.getD 67 undef = .int .u32 (X : Int) := hw 26 (by kernel_rfl)
          have e1 : a.tmps[67]?.getD undef = .int .u32 (X : Int) := by simpa using e0
          clear e0
          clear hw hF
          simp only [Oper.wp, execOp]
          go_simp
          exact hK _ _ ⟨_, rfl, heap_alloc_new _ _⟩ (below1 _ _) (fun h => by cases h)
      · intro a x hF hb' hR _
        obtain ⟨gN, e27, hgN⟩ := hR 27 (by decide)
        have e0 : a.tmps.getD 41 undef = .pointer (some ⟨w.heap.size + 1, 1, none⟩) := hR 0 (by decide)
        have e1 : a.tmps.getD 42 undef = v := hR 1 (by decide)
        have e2 : a.tmps.getD 43 undef = .string s := hR 2 (by decide)
        have e3 : a.tmps.getD 44 undef = .int .i64 (p : Int) := hR 3 (by decide)
        have e4 : a.tmps.getD 45 undef = .int .u8 (c0 : Int) := hR 4 (by decide)
        have e5 : a.tmps.getD 46 undef = .int .u32 (c0 : Int) := hR 5 (by decide)
        have e6 : a.tmps.getD 47 undef = .string s := hR 6 (by decide)
        have e7 : a.tmps.getD 48 undef = .int .i64 (p : Int) := hR 7 (by decide)
        have e8 : a.tmps.getD 49 undef = .int .i64 ((p : Int) + 1) := hR 8 (by decide)
        have e9 : a.tmps.getD 50 undef = .int .u8 (c1 : Int) := hR 9 (by decide)
        have e10 : a.tmps.getD 51 undef = .int .u32 (c1 : Int) := hR 10 (by decide)
        have e11 : a.tmps.getD 52 undef = .int .u32 ((c1 : Int) * 256) := hR 11 (by decide)
        have e12 : a.tmps.getD 53 undef = .int .u32 (o1 : Int) := hR 12 (by decide)
        have e13 : a.tmps.getD 54 undef = .string s := hR 13 (by decide)
        have e14 : a.tmps.getD 55 undef = .int .i64 (p : Int) := hR 14 (by decide)
        have e15 : a.tmps.getD 56 undef = .int .i64 ((p : Int) + 2) := hR 15 (by decide)
        have e16 : a.tmps.getD 57 undef = .int .u8 (c2 : Int) := hR 16 (by decide)
        have e17 : a.tmps.getD 58 undef = .int .u32 (c2 : Int) := hR 17 (by decide)
        have e18 : a.tmps.getD 59 undef = .int .u32 ((c2 : Int) * 65536) := hR 18 (by decide)
        have e19 : a.tmps.getD 60 undef = .int .u32 (o2 : Int) := hR 19 (by decide)
        have e20 : a.tmps.getD 61 undef = .string s := hR 20 (by decide)
        have e21 : a.tmps.getD 62 undef = .int .i64 (p : Int) := hR 21 (by decide)
        have e22 : a.tmps.getD 63 undef = .int .i64 ((p : Int) + 3) := hR 22 (by decide)
        have e23 : a.tmps.getD 64 undef = .int .u8 (c3 : Int) := hR 23 (by decide)
        have e24 : a.tmps.getD 65 undef = .int .u32 (c3 : Int) := hR 24 (by decide)
        have e25 : a.tmps.getD 66 undef = .int .u32 ((c3 : Int) * 16777216) := hR 25 (by decide)
        have e26 : a.tmps.getD 67 undef = .int .u32 (X : Int) := hR 26 (by decide)
        rw [hF.fold (by kernel_rfl)]
        have e27b : a.tmps.getD 68 undef = .slice (some ⟨gN, 0, none⟩) 1 1 := e27
        simp only [List.foldl_cons, List.foldl_nil, e0, e1, e2, e3, e4, e5, e6, e7, e8, e9, e10, e11, e12, e13, e14, e15, e16, e17, e18, e19, e20, e21, e22, e23, e24, e25, e26, e27b]
        simp only [Act.put, List.setIfInBounds_toArray, List.set_cons_zero, List.set_cons_succ]
        change wpOps _ _ _ [28, 29, 30] _ _
        simp only [wpOps_cons]
        clear e0 e1 e2 e3 e4 e5 e6 e7 e8 e9 e10 e11 e12 e13 e14 e15 e16 e17 e18 e19 e20 e21 e22 e23 e24 e25 e26 e27 e27b hR hF
        have KX := qH hb'
        have HCx := qH (cells_of HC.out hb')
        have HOx := qH (own_later HO.out hb')
        have HBx := qH (HB.out.trans (hb'.mono HB.out.size))
        have HGN := qH hgN
        have zx := hb'.size
        have zw := HB.out.size
        have zg := heap_lt HC.out
        clear hb' hgN
        simp only [wpOp, gAy, gSy, gZy, Region.wanted, if_true]
        refine Or.inl ?_
        refine wp_append_lies _ (.tmp 42) (.tmp 68) 22 rfl (w.heap.size + 1 + 1) 67 i0 (.int .u32 0) 1 4 Tryz.underlying22 hi hz0 hz1 hz2 rfl (by decide) v k (cells (rdn l k)) rfl HOx.out ⟨gN, 0, none⟩ 1 1 [.int .u32 (X : Int)] rfl rfl (World.news_of_block HGN.out) (by intro u hu; simp at hu; subst hu; rfl) (by omega) (by unfold maxLen; omega) (by omega) (by omega) _ rfl ?_
        intro g' cap w9 hown hgrow hat hlt9
        have HC9 := qH ((hgrow.block (w.heap.size + 1) (by omega) (fun e => by have := (HOx.out.lt _ e.symm).1; omega)).trans HCx.out)
        have HZ9' := qH ((hgrow.block w.heap.size (by omega) (fun e => by have := (HOx.out.lt _ e.symm).1; omega)).trans (cells_of HZ.out (show Below wr.heap.size wr x from KX.out)))
        have HB9 := qH (HBx.out.grown hgrow (by omega) (fun k hk => by have := (HOx.out.lt k hk).1; omega))
        have HO9 := qH (show w9.ownsRow (w.heap.size + 1 + 1) 67 1 (.slice (some ⟨g', 0, none⟩) (k + 1) cap) (k + 1) (cells (rdn l (k + 1))) by rw [RD.out]; exact hown)
        clear hown hgrow hat hlt9
        have f0 := cell_of_row w9 _ 0 _ _ _ HC9.out
        have f1 := cell_of_row w9 _ 1 _ _ _ HC9.out
        simp only [gAy, gSy, gZy] at f0 f1
        have q1 := frozen_of_row w9 _ 1 _ _ HC9.out
        have z9 := heap_lt HC9.out
        go_simp
        rw [wpOps_cons]
        simp only [wpOp, gAy, gSy, gZy, Region.wanted, if_true]
        refine Or.inl ?_
        simp only [Oper.wp, execOp]
        go_simp
        try rw [wpOps_cons]
        simp only [wpOp, gAy, gSy, gZy, Region.wanted, if_true]
        refine Or.inl ?_
        simp only [Oper.wp, execOp]
        go_simp
        try simp only [wpOps]
        have HK9 := qH (And.intro HC9.out (And.intro HO9.out HB9.out))
        have HZ9 := qH (show w9.heap[w.heap.size]? = _ from (HZ9'.out))
        clear f0 f1 q1 z9 HC9 HO9 HB9 HCx HOx HBx HGN zx zw zg
        obtain ⟨hw1, hw2⟩ := W4.out
        go_wp2
        go_roundw
        case rel => exact ⟨k + 1, p + 4, _, by omega, qH (by have := HP.out; omega), by go_num, qH (heap_setCell_same _ _ 1 _ _ _ HK9.out.1), qH (own_set HK9.out.2.1 (by omega) _ _), qH (HK9.out.2.2.setCell (by simp <;> omega) _), qH ((heap_setCell_other _ _ _ _ (by simp)).trans HZ9.out)⟩
        case measure => simp [intOf]; have := HP.out; have := HSZ.out; omega
    · obtain rfl : k = n := by omega
      have dlt : decide ((p : Int) < (sz : Int)) = false := by have := HP.out; have := HSZ.out; exact decide_eq_false (by omega)
      have dltn : decide (p < sz) = false := by have := HP.out; have := HSZ.out; exact decide_eq_false (by omega)
      obtain ⟨A, c, hv, hdg⟩ := dg_of_own HO.out (rdn_ok l k)
      rw [rdn_len] at hv
      subst hv
      have HDG := qH hdg
      clear hdg
      have f0 := cell_of_row wr _ 0 _ _ _ HC.out
      have f1 := cell_of_row wr _ 1 _ _ _ HC.out
      simp only [gAy, gSy, gZy] at f0 f1
      have zg := heap_lt HC.out
      cases q
      · have hno : rightB neg (rdn l k) = false ∨ 400 < (rdn l k).length := by
          rw [rdn_len]
          have := HQ.out
          by_cases h1 : k ≤ 400
          · rw [decide_eq_true h1] at this; exact .inl (by simpa using this)
          · exact .inr (by omega)
        have RB := rzbytes_no A c neg (rdn l k) wr HDG.out (by rw [rdn_len]; have := HNB.out; omega) hno
        rw [rdn_len] at RB
        have RBH := qH RB
        clear RB hno
        go_wp2_with fail
        refine RBH.out.mono ?_
        rintro e w5 ⟨rfl, hb⟩
        have HZ5 := qH (cells_of HZ.out hb)
        have HB5 := qH (HB.out.trans (hb.mono HB.out.size))
        clear hb f0 f1 zg
        have f0 := cell_of_row w5 _ 0 _ _ _ HZ5.out
        have f1 := cell_of_row w5 _ 1 _ _ _ HZ5.out
        simp only [gAy, gSy, gZy] at f0 f1
        have q0 := frozen_of_row w5 _ 0 _ _ HZ5.out
        have q1 := frozen_of_row w5 _ 1 _ _ HZ5.out
        have zg := heap_lt HZ5.out
        go_wp2
        obtain ⟨w6, hw6⟩ : ∃ w6 : World, w6 = (w5.setCell ⟨w.heap.size, 0, none⟩ (.bool false)).setCell ⟨w.heap.size, 1, none⟩ (.slice none 0 0) := ⟨_, rfl⟩
        rw [← hw6]
        have HC6 : w6.heap[w.heap.size]? = some (.cells #[.bool false, .slice none 0 0] 24 (0, 0)) := by
          rw [hw6]; exact heap_setCell_same _ _ 1 _ _ (.slice none 0 0) (heap_setCell_same _ _ 0 _ _ (.bool false) HZ5.out)
        have HB6 : Below w.heap.size w w6 := by rw [hw6]; exact (HB5.out.setCell (by simp) _).setCell (by simp) _
        have r0 := cell_of_row w6 _ 0 _ _ _ HC6
        have r1 := cell_of_row w6 _ 1 _ _ _ HC6
        simp only [gAy, gSy, gZy] at r0 r1
        refine bodyPost_ret (v := .tuple #[.agg #[.bool false, .slice none 0 0], .string ⟨#[]⟩, .bool false]) (by simp [results, Tryz.results45, go_sem, r0, r1]) rfl ?_
        exact ⟨HB6, rfl⟩
      · have hq := HQ.out
        have h4 : k ≤ 400 := by
          by_cases h1 : k ≤ 400
          · exact h1
          · rw [decide_eq_false h1] at hq; simp at hq
        have hr : rightB neg (rdn l k) = true := by rw [decide_eq_true h4] at hq; simpa using hq
        have RB := rzbytes_any A c neg (rdn l k) wr HDG.out (by rw [rdn_len]; exact h4) hr
        rw [rdn_len] at RB
        have RBH := qH RB
        have hx1 : s.extract 0 sz = ⟨(zbytes neg (rdn l k)).toArray⟩ := by rw [ext_take, HLL.out, ZB.out, HSZ.out]
        have hx2 : s.extract sz s.size = ⟨(l.drop (2 + 4 * k)).toArray⟩ := by rw [ext_drop, HLL.out, HSZ.out]
        have HX := qH (And.intro hx1 hx2)
        have hss : (sz : Int) ≤ (s.size : Int) := by have := HSS.out; omega
        clear RB hq h4 hr hx1 hx2
        go_wp2_with fail
        refine RBH.out.mono ?_
        rintro e w5 ⟨rfl, hb⟩
        have HC5 := qH (cells_of HC.out hb)
        have HZ5 := qH (cells_of HZ.out hb)
        have HB5 := qH (HB.out.trans (hb.mono HB.out.size))
        have HD5 := qH (HDG.out.below hb)
        clear hb f0 f1 zg
        have f0 := cell_of_row w5 _ 0 _ _ _ HC5.out
        have f1 := cell_of_row w5 _ 1 _ _ _ HC5.out
        have g0 := cell_of_row w5 _ 0 _ _ _ HZ5.out
        have g1 := cell_of_row w5 _ 1 _ _ _ HZ5.out
        simp only [gAy, gSy, gZy] at f0 f1 g0 g1
        have q0 := frozen_of_row w5 _ 0 _ _ HZ5.out
        have q1 := frozen_of_row w5 _ 1 _ _ HZ5.out
        have zg := heap_lt HZ5.out
        have zc := heap_lt HC5.out
        have hx1 := HX.out.1
        go_wp2_with fail
        go_region
        go_wp2
        rw [HX.out.2]
        obtain ⟨w6, hw6⟩ : ∃ w6 : World, w6 = ((w5.setCell ⟨w.heap.size, 0, none⟩ (.bool neg)).setCell ⟨w.heap.size, 1, none⟩ (.slice A k c)).drew := ⟨_, rfl⟩
        rw [← hw6]
        have HC6 : w6.heap[w.heap.size]? = some (.cells #[.bool neg, .slice A k c] 24 (0, 0)) := by
          rw [hw6]; exact heap_setCell_same _ _ 1 _ _ (.slice A k c) (heap_setCell_same _ _ 0 _ _ (.bool neg) HZ5.out)
        have HB6 : Below w.heap.size w w6 := by rw [hw6]; exact below_drewN ((HB5.out.setCell (by simp) _).setCell (by simp) _) 1
        have KP : Kept w5 w6 := by
          rw [hw6]
          exact ((((Only.refl _ w5).setCell 0 _).kept HZ5.out noint2').trans (((Only.refl _ _).setCell 1 _).kept (heap_setCell_same _ _ 0 _ _ (.bool neg) HZ5.out) noint2')).trans (Kept.below (below_drewN (Below.refl _ _) 1))
        have r0 := cell_of_row w6 _ 0 _ _ _ HC6
        have r1 := cell_of_row w6 _ 1 _ _ _ HC6
        simp only [gAy, gSy, gZy] at r0 r1
        refine bodyPost_ret (v := .tuple #[.agg #[.bool neg, .slice A k c], .string ⟨(l.drop (2 + 4 * k)).toArray⟩, .bool true]) (by simp [results, Tryz.results45, go_sem, r0, r1]) rfl ?_
        exact ⟨HB6, A, c, rfl, HD5.out.kept KP⟩
theorem rztake_short (s : ByteArray) (w : World) (h2 : s.size < 2) :
    Calls Tryz.prog 45 #[.string s] w fun e w' => Below w.heap.size w w' ∧ e = .returned (.tuple #[.agg #[.bool false, .slice none 0 0], .string ⟨#[]⟩, .bool false]) := by
  have d0 : decide ((s.size : Int) < 2) = true := decide_eq_true (by omega)
  clear h2
  go_enter Tryz.func45, Tryz.ntmps45
  go_wp2
  refine bodyPost_ret (v := .tuple #[.agg #[.bool false, .slice none 0 0], .string ⟨#[]⟩, .bool false]) (by simp [results, Tryz.results45, go_sem]) rfl ?_
  exact ⟨below1 w _, rfl⟩
theorem rztake_far (s : ByteArray) (w : World) (l : List UInt8) (hl : s.data.toList = l) (h2 : 2 ≤ l.length) (n : Nat) (hn : hd2 l / 2 = n) (hno : l.length < 4 * n + 2) :
    Calls Tryz.prog 45 #[.string s] w fun e w' => Below w.heap.size w w' ∧ e = .returned (.tuple #[.agg #[.bool false, .slice none 0 0], .string ⟨#[]⟩, .bool false]) := by
  have hs : s.size = l.length := by rw [← hl]; simp
  have d0 : decide ((s.size : Int) < 2) = false := decide_eq_false (by omega)
  have n0 : 0 < s.size := by omega
  have n1 : 1 < s.size := by omega
  have e0 : (0 : Int) < (s.size : Int) := by omega
  have e1 : (1 : Int) < (s.size : Int) := by omega
  obtain ⟨b0, hb0⟩ : ∃ b0 : Nat, (s[0]'n0).toNat = b0 := ⟨_, rfl⟩
  obtain ⟨b1, hb1⟩ : ∃ b1 : Nat, (s[1]'n1).toNat = b1 := ⟨_, rfl⟩
  have l0 : b0 < 256 := by rw [← hb0]; exact UInt8.toNat_lt _
  have l1 : b1 < 256 := by rw [← hb1]; exact UInt8.toNat_lt _
  have hH : b0 * 256 + b1 = hd2 l := by unfold hd2; rw [← hl, ← bt_get s 0 n0, ← bt_get s 1 n1, hb0, hb1]
  obtain ⟨h, hh⟩ : ∃ h : Nat, hd2 l = h := ⟨_, rfl⟩
  rw [hh] at hH hn
  have hnb : n ≤ 32767 := by omega
  have HF := qH (head_facts (neg := decide (h % 2 = 1)) l0 l1 hH hn rfl)
  obtain ⟨sz, hsz⟩ : ∃ sz, 2 + 4 * n = sz := ⟨_, rfl⟩
  have SF := qH (size_facts hnb hsz)
  have d5 : decide ((s.size : Int) < (sz : Int)) = true := decide_eq_true (by omega)
  have d5n : decide (s.size < sz) = true := decide_eq_true (by omega)
  clear hs hH hh hn h2 hl hnb hsz hno
  go_enter Tryz.func45, Tryz.ntmps45
  have hO := HF.out.1
  go_wp2_with fail
  go_quiet (fail)
  clear hO
  have hQ2 := HF.out.2.2.1
  have hS1 := SF.out.1
  have hS2 := SF.out.2.1
  go_wp2
  refine bodyPost_ret (v := .tuple #[.agg #[.bool false, .slice none 0 0], .string ⟨#[]⟩, .bool false]) (by simp [results, Tryz.results45, go_sem]) rfl ?_
  exact ⟨((below_drewN (below1 w _) _).setCell (by simp) _).setCell (by simp) _, rfl⟩
theorem rztake_any (s : ByteArray) (w : World) (l : List UInt8) (hl : s.data.toList = l) (hmax : l.length ≤ 9223372036854775807) :
    Calls Tryz.prog 45 #[.string s] w fun e w' => Below w.heap.size w w' ∧ (¬ tkOk l → e = .returned (.tuple #[.agg #[.bool false, .slice none 0 0], .string ⟨#[]⟩, .bool false])) ∧
      (tkOk l → ∃ A c, e = .returned (.tuple #[.agg #[.bool (decide (hd2 l % 2 = 1)), .slice A (hd2 l / 2) c], .string ⟨(l.drop (2 + 4 * (hd2 l / 2))).toArray⟩, .bool true]) ∧ Dg w' A c (rdn l (hd2 l / 2))) := by
  have hs : s.size = l.length := by rw [← hl]; simp
  by_cases h2 : l.length < 2
  · exact (rztake_short s w (by omega)).mono fun e w' ⟨hb, he⟩ => ⟨hb, fun _ => he, fun h => by have := h.1; omega⟩
  · by_cases h3 : l.length < 4 * (hd2 l / 2) + 2
    · exact (rztake_far s w l hl (by omega) _ rfl h3).mono fun e w' ⟨hb, he⟩ => ⟨hb, fun _ => he, fun h => by have := h.2.2.1; omega⟩
    · refine (rztake_go s w l hl (by omega) _ rfl (by omega) hmax _ rfl _ rfl).mono ?_
      rintro e w' ⟨hb, h4, h5⟩
      refine ⟨hb, fun h => h4 ?_, fun h => h5 (by rw [decide_eq_true h.2.1, h.2.2.2]; rfl)⟩
      by_cases hk : hd2 l / 2 ≤ 400
      · by_cases hr : rightB (decide (hd2 l % 2 = 1)) (rdn l (hd2 l / 2)) = true
        · exact absurd ⟨by omega, hk, by omega, hr⟩ h
        · rw [decide_eq_true hk]; simpa using hr
      · rw [decide_eq_false hk]; rfl
def Zq (m : Int) (t : ByteArray) (o : Bool) (w : World) (e : Ending) (w' : World) : Prop := ∃ A c, e = .returned (.tuple #[.agg #[.bool (decide (m < 0)), .slice A (digs m.natAbs).length c], .string t, .bool o]) ∧ Dg w' A c (digs m.natAbs) ∧ Below w.heap.size w w'
theorem rztk_yes {b t : ByteArray} {m : Int} (hb : b.data.toList = zb m ++ t.data.toList) (hl : (digs m.natAbs).length ≤ 400) (hm : b.data.toList.length ≤ 9223372036854775807) (w : World) :
    Calls Tryz.prog 45 #[.string b] w fun e w' => Zq m t true w e w' := by
  have hk := tk_zb m t.data.toList hl
  rw [← hb] at hk
  obtain ⟨k1, k2, k3, k4, k5⟩ := hk
  refine (rztake_any b w _ rfl hm).mono ?_
  rintro e w' ⟨hB, _, h5⟩
  obtain ⟨A, c, he, hd⟩ := h5 k1
  rw [k3] at hd
  rw [k4, k5, k2] at he
  exact ⟨A, c, he, hd, hB⟩
theorem rztk_no {b : ByteArray} (hm : b.data.toList.length ≤ 9223372036854775807) (h : ¬ ∃ m r, (digs m.natAbs).length ≤ 400 ∧ b.data.toList = zb m ++ r) (w : World) :
    Calls Tryz.prog 45 #[.string b] w fun e w' => Zq 0 ⟨#[]⟩ false w e w' := by
  refine (rztake_any b w _ rfl hm).mono ?_
  rintro e w' ⟨hB, h4, _⟩
  refine ⟨none, 0, ?_, ?_, hB⟩
  · rw [h4 (fun hk => h (tk_inv hk))]
    show _ = Ending.returned (.tuple #[.agg #[.bool false, .slice none (digs 0).length 0], .string ⟨#[]⟩, .bool false])
    rw [digs_zero]; rfl
  · show Dg w' none 0 (digs 0)
    rw [digs_zero]; exact Dg.nil_ _ _
theorem rzsm_yes {A : Option Addr} {c : Nat} {m q : Int} {ok : Bool} (hl : (digs m.natAbs).length ≤ 1000000) (hq : smallz m = q) (hok : smallb m = ok) (w : World) (h : Dg w A c (digs m.natAbs)) :
    Calls Tryz.prog 46 #[.agg #[.bool (decide (m < 0)), .slice A (digs m.natAbs).length c]] w fun e w' => e = .returned (.tuple #[.int .i64 q, .bool ok]) ∧ Below w.heap.size w w' :=
  rzsmall_any A c (decide (m < 0)) (digs m.natAbs) w h hl q ok (by rw [sg_dz]; exact hq) (by rw [sg_dz]; exact hok)
theorem r5bytes_w (A : Option Addr) (c : Nat) (s : Bool) (xs : List Nat) (x : Int) (w : World) (h : Dg w A c xs) (hl : xs.length ≤ 9223372036854775807) (hq : dyR s xs x = false) :
    Calls Tryz.prog 19 #[.agg #[.bool s, .slice A xs.length c, .int .i64 x]] w fun e w' => e = .returned (.tuple #[.string ⟨#[]⟩, .int .i64 1]) ∧ Below w.heap.size w w' := by
  have lx := qH hl
  have HQ := qH hq
  have L0 := qH ((live_start w).add h)
  clear h hl hq
  go_enter Tryz.func19, Tryz.ntmps19
  go_wp2_with fail
  obtain ⟨v1, hW, hb, Rx_1⟩ := new1 w (.cells #[.bool s, .slice A xs.length c, .int .i64 x] 26)
  rw [← hW]
  have L1 := ls L0 hb
  clear hW hb
  refine (r5right_any (L1.out.get (A := A) (c := c) (xs := xs) (by simp)) lx.out HQ.out).mono ?_
  rintro e w2 ⟨rfl, hb⟩
  have L2 := ls L1 hb
  have Rx_2 := co Rx_1 hb
  clear hb
  obtain ⟨fx0, zx0, fx1, zx1, fx2, zx2, xx⟩ := ly3 Rx_2.out
  go_wp2
  exact bodyPost_ret (v := .tuple #[.string ⟨#[]⟩, .int .i64 1]) (by simp [results, Tryz.results19, go_sem]) rfl ⟨rfl, L2.out.1⟩
theorem r5tk_n (b t1 t2 : ByteArray) (m n q : Int) (o1 o2 ok : Bool) (w : World) (T1 : ∀ W, Calls Tryz.prog 45 #[.string b] W fun e w' => Zq m t1 o1 W e w') (T2 : ∀ W, Calls Tryz.prog 45 #[.string t1] W fun e w' => Zq n t2 o2 W e w') (hl : (digs m.natAbs).length ≤ 400) (hn : (digs n.natAbs).length ≤ 400) (hq : smallz n = q) (hok : smallb n = ok) (hbad : (o1 && (o2 && ok)) = false) :
    Calls Tryz.prog 22 #[.string b] w fun e w' => e = .returned (.tuple #[.agg #[.bool false, .slice none 0 0, .int .i64 0], .string ⟨#[]⟩, .bool false]) ∧ Below w.heap.size w w' := by
  have HT1 := qH T1
  have HT2 := qH T2
  have SM := qH (fun (A : Option Addr) (c : Nat) (V : World) (hV : Dg V A c (digs n.natAbs)) => rzsm_yes (A := A) (c := c) (Nat.le_trans hn (by omega)) hq hok V hV)
  have HBAD := qH hbad
  have L0 := qH (live_start w)
  clear T1 T2 hl hn hq hok hbad
  go_enter Tryz.func22, Tryz.ntmps22
  go_wp2_with fail
  obtain ⟨v1, hW, hb, Rr_1⟩ := new1 w (.cells #[.bool false, .slice none 0 0, .int .i64 0] 26)
  rw [← hW]
  have L1 := ls L0 hb
  have Gr := gl0 L0.out
  clear hW hb
  refine (HT1.out _).mono ?_
  rintro e w2 ⟨A2, c2, rfl, hd, hb⟩
  have L2 := la L1 hb hd
  have Rr_2 := co Rr_1 hb
  clear hb hd
  go_wp2_with fail
  obtain ⟨w3, hW, hb, Ra_3⟩ := new1 w2 (.cells #[.bool (decide (m < 0)), .slice A2 (digs m.natAbs).length c2] 24)
  rw [← hW]
  have L3 := ls L2 hb
  have Rr_3 := co Rr_2 hb
  have Nra := nl0 Rr_2.out
  clear hW hb
  refine (HT2.out _).mono ?_
  rintro e w4 ⟨A4, c4, rfl, hd, hb⟩
  have L4 := la L3 hb hd
  have Rr_4 := co Rr_3 hb
  have Ra_4 := co Ra_3 hb
  clear hb hd
  go_upto_region 3 with fail
  obtain ⟨w5, hW, hb, Rc_5⟩ := new1 w4 (.cells #[.bool (decide (n < 0)), .slice A4 (digs n.natAbs).length c4] 24)
  rw [← hW]
  have L5 := ls L4 hb
  have Rr_5 := co Rr_4 hb
  have Ra_5 := co Ra_4 hb
  clear hW hb
  obtain ⟨fc0, zc0, fc1, zc1, xc⟩ := ly2 Rc_5.out
  go_wp2_with fail
  refine (SM.out A4 c4 _ (L5.out.get (A := A4) (c := c4) (xs := digs n.natAbs) (by simp))).mono ?_
  rintro e w6 ⟨rfl, hb⟩
  have L6 := ls L5 hb
  have Rr_6 := co Rr_5 hb
  have Ra_6 := co Ra_5 hb
  clear hb fc0 zc0 fc1 zc1 xc
  obtain ⟨fr0, zr0, fr1, zr1, fr2, zr2, xr⟩ := ly3 Rr_6.out
  cases o1
  · go_wp2
    refine bodyPost_ret (v := .tuple #[.agg #[.bool false, .slice none 0 0, .int .i64 0], .string ⟨#[]⟩, .bool false]) (by simp [results, Tryz.results22, go_sem, fr0, fr1, fr2]) rfl ?_
    exact ⟨rfl, (fin3 L6.out Rr_6.out noint3 Gr).1⟩
  · cases o2
    · go_wp2
      refine bodyPost_ret (v := .tuple #[.agg #[.bool false, .slice none 0 0, .int .i64 0], .string ⟨#[]⟩, .bool false]) (by simp [results, Tryz.results22, go_sem, fr0, fr1, fr2]) rfl ?_
      exact ⟨rfl, (fin3 L6.out Rr_6.out noint3 Gr).1⟩
    · cases ok
      · go_wp2
        refine bodyPost_ret (v := .tuple #[.agg #[.bool false, .slice none 0 0, .int .i64 0], .string ⟨#[]⟩, .bool false]) (by simp [results, Tryz.results22, go_sem, fr0, fr1, fr2]) rfl ?_
        exact ⟨rfl, (fin3 L6.out Rr_6.out noint3 Gr).1⟩
      · exact absurd HBAD.out (by simp)
theorem r5tk_b (b t1 t2 : ByteArray) (m n q : Int) (o1 o2 ok : Bool) (w : World) (T1 : ∀ W, Calls Tryz.prog 45 #[.string b] W fun e w' => Zq m t1 o1 W e w') (T2 : ∀ W, Calls Tryz.prog 45 #[.string t1] W fun e w' => Zq n t2 o2 W e w') (hl : (digs m.natAbs).length ≤ 400) (hn : (digs n.natAbs).length ≤ 400) (hq : smallz n = q) (hok : smallb n = ok) (ho1 : o1 = true) (ho2 : o2 = true) (hoo : ok = true) (tb : ByteArray) (f : Int) (HBY : ∀ (A : Option Addr) (c : Nat) (W : World), Dg W A c (digs m.natAbs) → Calls Tryz.prog 19 #[.agg #[.bool (decide (m < 0)), .slice A (digs m.natAbs).length c, .int .i64 q]] W fun e w' => e = .returned (.tuple #[.string tb, .int .i64 f]) ∧ Below W.heap.size W w') (hf : f ≠ 0) :
    Calls Tryz.prog 22 #[.string b] w fun e w' => e = .returned (.tuple #[.agg #[.bool false, .slice none 0 0, .int .i64 0], .string ⟨#[]⟩, .bool false]) ∧ Below w.heap.size w w' := by
  have HT1 := qH T1
  have HT2 := qH T2
  have SM := qH (fun (A : Option Addr) (c : Nat) (V : World) (hV : Dg V A c (digs n.natAbs)) => rzsm_yes (A := A) (c := c) (Nat.le_trans hn (by omega)) hq hok V hV)
  subst ho1 ho2 hoo
  have HB5 := qH HBY
  have f0 : (f != 0) = true := by simpa using hf
  have L0 := qH (live_start w)
  clear T1 T2 hl hn hq hok HBY hf
  go_enter Tryz.func22, Tryz.ntmps22
  go_wp2_with fail
  obtain ⟨v1, hW, hb, Rr_1⟩ := new1 w (.cells #[.bool false, .slice none 0 0, .int .i64 0] 26)
  rw [← hW]
  have L1 := ls L0 hb
  have Gr := gl0 L0.out
  clear hW hb
  refine (HT1.out _).mono ?_
  rintro e w2 ⟨A2, c2, rfl, hd, hb⟩
  have L2 := la L1 hb hd
  have Rr_2 := co Rr_1 hb
  clear hb hd
  go_wp2_with fail
  obtain ⟨w3, hW, hb, Ra_3⟩ := new1 w2 (.cells #[.bool (decide (m < 0)), .slice A2 (digs m.natAbs).length c2] 24)
  rw [← hW]
  have L3 := ls L2 hb
  have Rr_3 := co Rr_2 hb
  have Nra := nl0 Rr_2.out
  clear hW hb
  refine (HT2.out _).mono ?_
  rintro e w4 ⟨A4, c4, rfl, hd, hb⟩
  have L4 := la L3 hb hd
  have Rr_4 := co Rr_3 hb
  have Ra_4 := co Ra_3 hb
  clear hb hd
  go_upto_region 3 with fail
  obtain ⟨w5, hW, hb, Rc_5⟩ := new1 w4 (.cells #[.bool (decide (n < 0)), .slice A4 (digs n.natAbs).length c4] 24)
  rw [← hW]
  have L5 := ls L4 hb
  have Rr_5 := co Rr_4 hb
  have Ra_5 := co Ra_4 hb
  clear hW hb
  obtain ⟨fc0, zc0, fc1, zc1, xc⟩ := ly2 Rc_5.out
  go_wp2_with fail
  refine (SM.out A4 c4 _ (L5.out.get (A := A4) (c := c4) (xs := digs n.natAbs) (by simp))).mono ?_
  rintro e w6 ⟨rfl, hb⟩
  have L6 := ls L5 hb
  have Rr_6 := co Rr_5 hb
  have Ra_6 := co Ra_5 hb
  clear hb fc0 zc0 fc1 zc1 xc
  obtain ⟨fr0, zr0, fr1, zr1, fr2, zr2, xr⟩ := ly3 Rr_6.out
  obtain ⟨fa0, za0, fa1, za1, xa⟩ := ly2 Ra_6.out
  go_upto_region 7 with fail
  obtain ⟨w7, hW, hb, Rx_7⟩ := new1 w6 (.cells #[.bool (decide (m < 0)), .slice A2 (digs m.natAbs).length c2, .int .i64 q] 26)
  rw [← hW]
  have L7 := ls L6 hb
  have Rr_7 := co Rr_6 hb
  have Nrx := nl0 Rr_6.out
  clear hW hb fr0 zr0 fr1 zr1 fr2 zr2 xr fa0 za0 fa1 za1 xa
  obtain ⟨fx0, zx0, fx1, zx1, fx2, zx2, xx⟩ := ly3 Rx_7.out
  go_wp2_with fail
  refine (HB5.out A2 c2 _ (L7.out.get (A := A2) (c := c2) (xs := digs m.natAbs) (by simp))).mono ?_
  rintro e w8 ⟨rfl, hb⟩
  have L8 := ls L7 hb
  have Rr_8 := co Rr_7 hb
  have Rx_8 := co Rx_7 hb
  clear hb fx0 zx0 fx1 zx1 fx2 zx2 xx
  obtain ⟨fr0, zr0, fr1, zr1, fr2, zr2, xr⟩ := ly3 Rr_8.out
  obtain ⟨fx0, zx0, fx1, zx1, fx2, zx2, xx⟩ := ly3 Rx_8.out
  go_wp2
  refine bodyPost_ret (v := .tuple #[.agg #[.bool false, .slice none 0 0, .int .i64 0], .string ⟨#[]⟩, .bool false]) (by simp [results, Tryz.results22, go_sem, fr0, fr1, fr2]) rfl ?_
  exact ⟨rfl, (fin3 L8.out Rr_8.out noint3 Gr).1⟩
theorem r5tk_y (b t1 t2 : ByteArray) (m n q : Int) (o1 o2 ok : Bool) (w : World) (T1 : ∀ W, Calls Tryz.prog 45 #[.string b] W fun e w' => Zq m t1 o1 W e w') (T2 : ∀ W, Calls Tryz.prog 45 #[.string t1] W fun e w' => Zq n t2 o2 W e w') (hl : (digs m.natAbs).length ≤ 400) (hn : (digs n.natAbs).length ≤ 400) (hq : smallz n = q) (hok : smallb n = ok) (ho1 : o1 = true) (ho2 : o2 = true) (hoo : ok = true) (tb : ByteArray) (f : Int) (HBY : ∀ (A : Option Addr) (c : Nat) (W : World), Dg W A c (digs m.natAbs) → Calls Tryz.prog 19 #[.agg #[.bool (decide (m < 0)), .slice A (digs m.natAbs).length c, .int .i64 q]] W fun e w' => e = .returned (.tuple #[.string tb, .int .i64 f]) ∧ Below W.heap.size W w') (hf : f = 0) (hcat : tb.data.toList ++ t2.data.toList = b.data.toList) (hbl : b.size ≤ 9223372036854775807) :
    Calls Tryz.prog 22 #[.string b] w fun e w' => ∃ A c, e = .returned (.tuple #[.agg #[.bool (decide (m < 0)), .slice A (digs m.natAbs).length c, .int .i64 q], .string t2, .bool true]) ∧ Dg w' A c (digs m.natAbs) ∧ Below w.heap.size w w' := by
  have HT1 := qH T1
  have HT2 := qH T2
  have SM := qH (fun (A : Option Addr) (c : Nat) (V : World) (hV : Dg V A c (digs n.natAbs)) => rzsm_yes (A := A) (c := c) (Nat.le_trans hn (by omega)) hq hok V hV)
  subst ho1 ho2 hoo
  have HB5 := qH HBY
  subst hf
  have CAT := qH (show tb ++ t2 = b by apply ByteArray.ext; apply Array.toList_inj.1; rw [← hcat]; simp)
  have CS := qH (show tb.size + t2.size = b.size by have h := congrArg List.length hcat; simpa using h)
  have BL := qH hbl
  have L0 := qH (live_start w)
  clear T1 T2 hl hn hq hok HBY hcat hbl
  go_enter Tryz.func22, Tryz.ntmps22
  go_wp2_with fail
  obtain ⟨v1, hW, hb, Rr_1⟩ := new1 w (.cells #[.bool false, .slice none 0 0, .int .i64 0] 26)
  rw [← hW]
  have L1 := ls L0 hb
  have Gr := gl0 L0.out
  clear hW hb
  refine (HT1.out _).mono ?_
  rintro e w2 ⟨A2, c2, rfl, hd, hb⟩
  have L2 := la L1 hb hd
  have Rr_2 := co Rr_1 hb
  clear hb hd
  go_wp2_with fail
  obtain ⟨w3, hW, hb, Ra_3⟩ := new1 w2 (.cells #[.bool (decide (m < 0)), .slice A2 (digs m.natAbs).length c2] 24)
  rw [← hW]
  have L3 := ls L2 hb
  have Rr_3 := co Rr_2 hb
  have Nra := nl0 Rr_2.out
  clear hW hb
  refine (HT2.out _).mono ?_
  rintro e w4 ⟨A4, c4, rfl, hd, hb⟩
  have L4 := la L3 hb hd
  have Rr_4 := co Rr_3 hb
  have Ra_4 := co Ra_3 hb
  clear hb hd
  go_upto_region 3 with fail
  obtain ⟨w5, hW, hb, Rc_5⟩ := new1 w4 (.cells #[.bool (decide (n < 0)), .slice A4 (digs n.natAbs).length c4] 24)
  rw [← hW]
  have L5 := ls L4 hb
  have Rr_5 := co Rr_4 hb
  have Ra_5 := co Ra_4 hb
  clear hW hb
  obtain ⟨fc0, zc0, fc1, zc1, xc⟩ := ly2 Rc_5.out
  go_wp2_with fail
  refine (SM.out A4 c4 _ (L5.out.get (A := A4) (c := c4) (xs := digs n.natAbs) (by simp))).mono ?_
  rintro e w6 ⟨rfl, hb⟩
  have L6 := ls L5 hb
  have Rr_6 := co Rr_5 hb
  have Ra_6 := co Ra_5 hb
  clear hb fc0 zc0 fc1 zc1 xc
  obtain ⟨fr0, zr0, fr1, zr1, fr2, zr2, xr⟩ := ly3 Rr_6.out
  obtain ⟨fa0, za0, fa1, za1, xa⟩ := ly2 Ra_6.out
  go_upto_region 7 with fail
  obtain ⟨w7, hW, hb, Rx_7⟩ := new1 w6 (.cells #[.bool (decide (m < 0)), .slice A2 (digs m.natAbs).length c2, .int .i64 q] 26)
  rw [← hW]
  have L7 := ls L6 hb
  have Rr_7 := co Rr_6 hb
  have Nrx := nl0 Rr_6.out
  clear hW hb fr0 zr0 fr1 zr1 fr2 zr2 xr fa0 za0 fa1 za1 xa
  obtain ⟨fx0, zx0, fx1, zx1, fx2, zx2, xx⟩ := ly3 Rx_7.out
  go_wp2_with fail
  refine (HB5.out A2 c2 _ (L7.out.get (A := A2) (c := c2) (xs := digs m.natAbs) (by simp))).mono ?_
  rintro e w8 ⟨rfl, hb⟩
  have L8 := ls L7 hb
  have Rr_8 := co Rr_7 hb
  have Rx_8 := co Rx_7 hb
  clear hb fx0 zx0 fx1 zx1 fx2 zx2 xx
  obtain ⟨fr0, zr0, fr1, zr1, fr2, zr2, xr⟩ := ly3 Rr_8.out
  obtain ⟨fx0, zx0, fx1, zx1, fx2, zx2, xx⟩ := ly3 Rx_8.out
  have sc : ¬ (9223372036854775807 < tb.size + t2.size) := by have := CS.out; have := BL.out; omega
  have cc : tb ++ t2 = b := CAT.out
  have bb : (b.data.toList == b.data.toList) = true := by simp
  go_wp2
  refine bodyPost_ret (v := .tuple #[.agg #[.bool (decide (m < 0)), .slice A2 (digs m.natAbs).length c2, .int .i64 q], .string t2, .bool true]) (by simp [results, Tryz.results22, go_sem, fr0, fr1, fr2, fx0, fx1, fx2]) rfl ?_
  refine ⟨A2, c2, rfl, ?_, ?_⟩
  · exact (fin3 L8.out Rr_8.out noint3 Gr).get (A := A2) (c := c2) (xs := digs m.natAbs) (by simp)
  · exact (fin3 L8.out Rr_8.out noint3 Gr).1
theorem r5take_yes {b t : ByteArray} {m x : Int} (hb : b.data.toList = zb m ++ zb x ++ t.data.toList) (hl : (digs m.natAbs).length ≤ 400) (r : Rt m x) (hI : inR m x = true) (hm : b.data.toList.length ≤ 9223372036854775807) (w : World) :
    Calls Tryz.prog 22 #[.string b] w fun e w' => ∃ A c, e = .returned (.tuple #[.agg #[.bool (decide (m < 0)), .slice A (digs m.natAbs).length c, .int .i64 x], .string t, .bool true]) ∧ Dg w' A c (digs m.natAbs) ∧ Below w.heap.size w w' := by
  obtain ⟨t1, ht1⟩ : ∃ t1 : ByteArray, t1.data.toList = zb x ++ t.data.toList := ⟨⟨(zb x ++ t.data.toList).toArray⟩, rfl⟩
  have x0 := r.2.1
  have x1 := r.2.2
  have h2 : (digs x.natAbs).length ≤ 400 := Nat.le_trans (digs_small (by omega)) (by omega)
  have hb1 : b.data.toList = zb m ++ t1.data.toList := by rw [hb, ht1, List.append_assoc]
  have hm1 : t1.data.toList.length ≤ 9223372036854775807 := by rw [hb1, List.length_append] at hm; omega
  exact r5tk_y b t1 t m x x true true true w (rztk_yes hb1 hl hm) (rztk_yes ht1 h2 hm1) hl h2 (if_pos ⟨by omega, by omega⟩) (decide_eq_true ⟨by omega, by omega⟩) rfl rfl rfl ⟨(zb m ++ zb x).toArray⟩ 0 (fun A c W hW => r5bytes_y A c m x _ W hW hl r hI rfl) rfl (by rw [hb]) (by simpa using hm)
theorem r5take_no {b : ByteArray} (h : ¬ ∃ m x t, b.data.toList = zb m ++ zb x ++ t ∧ (digs m.natAbs).length ≤ 400 ∧ Rt m x ∧ inR m x = true) (hm : b.data.toList.length ≤ 9223372036854775807) (w : World) :
    Calls Tryz.prog 22 #[.string b] w fun e w' => e = .returned (.tuple #[.agg #[.bool false, .slice none 0 0, .int .i64 0], .string ⟨#[]⟩, .bool false]) ∧ Below w.heap.size w w' := by
  have hz : (digs (0 : Int).natAbs).length ≤ 400 := by show (digs 0).length ≤ 400; rw [digs_zero]; simp
  have hs0 : smallz 0 = 0 := if_pos ⟨by omega, by omega⟩
  have hb0 : smallb 0 = true := decide_eq_true ⟨by omega, by omega⟩
  by_cases h1 : ∃ m r, (digs m.natAbs).length ≤ 400 ∧ b.data.toList = zb m ++ r
  · obtain ⟨m, r, hl, hb⟩ := h1
    obtain ⟨t1, rfl⟩ : ∃ t1 : ByteArray, t1.data.toList = r := ⟨⟨r.toArray⟩, rfl⟩
    have hm1 : t1.data.toList.length ≤ 9223372036854775807 := by rw [hb, List.length_append] at hm; omega
    by_cases h2 : ∃ n s, (digs n.natAbs).length ≤ 400 ∧ t1.data.toList = zb n ++ s
    · obtain ⟨n, s, hn, hb2⟩ := h2
      obtain ⟨t2, rfl⟩ : ∃ t2 : ByteArray, t2.data.toList = s := ⟨⟨s.toArray⟩, rfl⟩
      rcases hs : smallb n with _ | _
      · exact r5tk_n b t1 t2 m n _ true true false w (rztk_yes hb hl hm) (rztk_yes hb2 hn hm1) hl hn rfl hs rfl
      · rcases hR : dyR (decide (m < 0)) (digs m.natAbs) n with _ | _
        · exact r5tk_b b t1 t2 m n n true true true w (rztk_yes hb hl hm) (rztk_yes hb2 hn hm1) hl hn (smz hs) hs rfl rfl rfl _ 1 (fun A c W hW => r5bytes_w A c _ _ n W hW (by omega) hR) (by decide)
        · rcases hI : inR m n with _ | _
          · exact r5tk_b b t1 t2 m n n true true true w (rztk_yes hb hl hm) (rztk_yes hb2 hn hm1) hl hn (smz hs) hs rfl rfl rfl _ 4 (fun A c W hW => r5bytes_n A c m n W hW hl (rt_of hR) hI) (by decide)
          · exact absurd ⟨m, n, t2.data.toList, by rw [hb, hb2, List.append_assoc], hl, rt_of hR, hI⟩ h
    · exact r5tk_n b t1 ⟨#[]⟩ m 0 0 true false true w (rztk_yes hb hl hm) (rztk_no hm1 h2) hl hz hs0 hb0 rfl
  · have hn : ¬ ∃ m r, (digs m.natAbs).length ≤ 400 ∧ (⟨#[]⟩ : ByteArray).data.toList = zb m ++ r := by
      rintro ⟨m, r, _, e⟩
      have l1 := congrArg List.length e
      have l2 := zb_pos m
      rw [List.length_append] at l1
      simp at l1; omega
    have hm0 : (⟨#[]⟩ : ByteArray).data.toList.length ≤ 9223372036854775807 := by simp
    exact r5tk_n b ⟨#[]⟩ ⟨#[]⟩ 0 0 0 false false true w (rztk_no hm h1) (rztk_no hm0 hn) hz hz hs0 hb0 rfl
open Classical in
noncomputable def drN (l : List UInt8) : Option ((Int × Int) × List UInt8) := if okN l then some ((rdN (l, false)).1, (rdN (l, false)).2.1) else none
theorem drN_is {l r : List UInt8} {m x : Int} (h : drN l = some ((m, x), r)) : l = zb m ++ zb x ++ r ∧ (digs m.natAbs).length ≤ 400 ∧ Rt m x ∧ inR m x = true := by
  unfold drN at h
  by_cases hk : okN l
  · rw [if_pos hk] at h
    obtain ⟨⟨m2, x2, r2⟩, h1, h2, h3, h4⟩ := hk
    have e := rdN_zb (r := r2) (b := false) h2 h3 h4
    rw [← h1] at e
    rw [e] at h
    simp only [Option.some.injEq, Prod.mk.injEq] at h
    obtain ⟨⟨rfl, rfl⟩, rfl⟩ := h
    exact ⟨h1, h2, h3, h4⟩
  · rw [if_neg hk] at h; cases h
theorem r5take_any {l : List UInt8} (hm : l.length ≤ 9223372036854775807) (w : World) :
    Calls Tryz.prog 22 #[.string ⟨l.toArray⟩] w fun e w' => (drN l = none ∧ e = .returned (.tuple #[.agg #[.bool false, .slice none 0 0, .int .i64 0], .string ⟨#[]⟩, .bool false]) ∨ ∃ m x r A c, drN l = some ((m, x), r) ∧ e = .returned (.tuple #[.agg #[.bool (decide (m < 0)), .slice A (digs m.natAbs).length c, .int .i64 x], .string ⟨r.toArray⟩, .bool true]) ∧ Dg w' A c (digs m.natAbs)) ∧ Below w.heap.size w w' := by
  cases h : drN l with
  | none =>
    refine (r5take_no (b := ⟨l.toArray⟩) (fun ⟨m, x, t, h1, h2, h3, h4⟩ => ?_) (by simpa using hm) w).mono ?_
    · unfold drN at h
      rw [if_pos ⟨(m, x, t), by simpa using h1, h2, h3, h4⟩] at h; cases h
    · rintro e w' ⟨rfl, hb⟩
      exact ⟨.inl ⟨rfl, rfl⟩, hb⟩
  | some q =>
    obtain ⟨⟨m, x⟩, r⟩ := q
    obtain ⟨h1, h2, h3, h4⟩ := drN_is h
    refine (r5take_yes (b := ⟨l.toArray⟩) (t := ⟨r.toArray⟩) (m := m) (x := x) (by simpa using h1) h2 h3 h4 (by simpa using hm) w).mono ?_
    rintro e w' ⟨A, c, rfl, hd, hb⟩
    exact ⟨.inr ⟨m, x, r, A, c, rfl, rfl, hd⟩, hb⟩
theorem nsl_at {w : World} {P : Option Addr} {k : Nat} {cs : List (Int × Int)} (h : NsL w P k (cs.map nmOf)) {i : Nat} {q : Int × Int} (hq : cs[i]? = some q) : ∃ b o A c, P = some ⟨b, o, none⟩ ∧ b < w.heap.size ∧ w.cell? ⟨b, o + i * 3, none⟩ = some (.bool (decide (q.1 < 0))) ∧ w.cell? ⟨b, o + i * 3 + 1, none⟩ = some (.slice A (digs q.1.natAbs).length c) ∧ w.cell? ⟨b, o + i * 3 + 2, none⟩ = some (.int .i64 q.2) ∧ Dg w A c (digs q.1.natAbs) := by
  obtain ⟨b, o, A, c, e, c0, c1, c2, hd⟩ := h.rowq i (nmOf q) (by rw [List.getElem?_map, hq]; rfl)
  exact ⟨b, o, A, c, e, cell_lt c0, c0, c1, c2, hd⟩
theorem psame_any (A B P A' B' P' : Option Addr) (c d k c' d' k' : Nat) (p : PdZ) (w : World) (ha : Dg w A c (digs p.a.1.natAbs)) (he : Dg w B d (digs p.er.1.natAbs)) (hn : NsL w P k (p.cs.map nmOf)) (ha' : Dg w A' c' (digs p.a.1.natAbs)) (he' : Dg w B' d' (digs p.er.1.natAbs)) (hn' : NsL w P' k' (p.cs.map nmOf)) (hs : SmZ p) (hl : p.cs.length ≤ 1000000) :
    Calls Tryz.prog 52 #[.agg #[.bool (decide (p.a.1 < 0)), .slice A (digs p.a.1.natAbs).length c, .int .i64 p.a.2, .int .i64 p.w, .slice P p.cs.length k, .bool (decide (p.er.1 < 0)), .slice B (digs p.er.1.natAbs).length d, .int .i64 p.er.2], .agg #[.bool (decide (p.a.1 < 0)), .slice A' (digs p.a.1.natAbs).length c', .int .i64 p.a.2, .int .i64 p.w, .slice P' p.cs.length k', .bool (decide (p.er.1 < 0)), .slice B' (digs p.er.1.natAbs).length d', .int .i64 p.er.2]] w fun e w' => e = .returned (.bool true) ∧ Below w.heap.size w w' := by
  have HA := qH ha
  have HE := qH he
  have HN := qH hn
  have HA' := qH ha'
  have HE' := qH he'
  have HN' := qH hn'
  have HS := qH hs
  clear ha he hn ha' he' hn' hs
  obtain ⟨a, W, cs, er⟩ := p
  dsimp only at *
  go_enter Tryz.func52, Tryz.ntmps52
  go_upto_region 1 with fail
  obtain ⟨v1, hW⟩ : ∃ V : World, (w.alloc (.cells #[.bool (decide (a.1 < 0)), .slice A (digs a.1.natAbs).length c, .int .i64 a.2, .int .i64 W, .slice P cs.length k, .bool (decide (er.1 < 0)), .slice B (digs er.1.natAbs).length d, .int .i64 er.2] 49)).alloc (.cells #[.bool (decide (a.1 < 0)), .slice A' (digs a.1.natAbs).length c', .int .i64 a.2, .int .i64 W, .slice P' cs.length k', .bool (decide (er.1 < 0)), .slice B' (digs er.1.natAbs).length d', .int .i64 er.2] 49) = V := ⟨_, rfl⟩
  rw [hW]
  have B1 := qH (show Below w.heap.size w v1 by rw [← hW]; exact ((Below.refl _ _).alloc (by simp <;> omega) _).alloc (by simp <;> omega) _)
  have R1 := qH (show v1.heap[w.heap.size]? = some (.cells #[.bool (decide (a.1 < 0)), .slice A (digs a.1.natAbs).length c, .int .i64 a.2, .int .i64 W, .slice P cs.length k, .bool (decide (er.1 < 0)), .slice B (digs er.1.natAbs).length d, .int .i64 er.2] 49 (0, 0)) by rw [← hW, heap_alloc_old _ _ (by simp)]; exact heap_alloc_new _ _)
  have S1 := qH (show v1.heap[w.heap.size + 1]? = some (.cells #[.bool (decide (a.1 < 0)), .slice A' (digs a.1.natAbs).length c', .int .i64 a.2, .int .i64 W, .slice P' cs.length k', .bool (decide (er.1 < 0)), .slice B' (digs er.1.natAbs).length d', .int .i64 er.2] 49 (0, 0)) by rw [← hW]; have := heap_alloc_new (w.alloc (.cells #[.bool (decide (a.1 < 0)), .slice A (digs a.1.natAbs).length c, .int .i64 a.2, .int .i64 W, .slice P cs.length k, .bool (decide (er.1 < 0)), .slice B (digs er.1.natAbs).length d, .int .i64 er.2] 49)) (.cells #[.bool (decide (a.1 < 0)), .slice A' (digs a.1.natAbs).length c', .int .i64 a.2, .int .i64 W, .slice P' cs.length k', .bool (decide (er.1 < 0)), .slice B' (digs er.1.natAbs).length d', .int .i64 er.2] 49); simpa using this)
  clear hW
  have r0 := row_c (i := 0) R1.out rfl
  have s0 := row_c (i := 0) S1.out rfl
  have r1 := row_c (i := 1) R1.out rfl
  have s1 := row_c (i := 1) S1.out rfl
  have r2 := row_c (i := 2) R1.out rfl
  have s2 := row_c (i := 2) S1.out rfl
  have r3 := row_c (i := 3) R1.out rfl
  have s3 := row_c (i := 3) S1.out rfl
  have r4 := row_c (i := 4) R1.out rfl
  have s4 := row_c (i := 4) S1.out rfl
  have r5 := row_c (i := 5) R1.out rfl
  have s5 := row_c (i := 5) S1.out rfl
  have r6 := row_c (i := 6) R1.out rfl
  have s6 := row_c (i := 6) S1.out rfl
  have r7 := row_c (i := 7) R1.out rfl
  have s7 := row_c (i := 7) S1.out rfl
  go_wp2_with fail
  refine (dSame_q (q := true) (HA.out.below B1.out) (HA'.out.below B1.out) HS.out.1 (decide_eq_true ⟨rfl, rfl⟩)).mono ?_
  rintro e v2 ⟨rfl, hb⟩
  have B2 := qH (B1.out.trans (hb.mono B1.out.size))
  have R2 := co R1 hb
  have S2 := co S1 hb
  clear hb r0 s0 r1 s1 r2 s2 r3 s3 r4 s4 r5 s5 r6 s6 r7 s7
  have r0 := row_c (i := 0) R2.out rfl
  have s0 := row_c (i := 0) S2.out rfl
  have r1 := row_c (i := 1) R2.out rfl
  have s1 := row_c (i := 1) S2.out rfl
  have r2 := row_c (i := 2) R2.out rfl
  have s2 := row_c (i := 2) S2.out rfl
  have r3 := row_c (i := 3) R2.out rfl
  have s3 := row_c (i := 3) S2.out rfl
  have r4 := row_c (i := 4) R2.out rfl
  have s4 := row_c (i := 4) S2.out rfl
  have r5 := row_c (i := 5) R2.out rfl
  have s5 := row_c (i := 5) S2.out rfl
  have r6 := row_c (i := 6) R2.out rfl
  have s6 := row_c (i := 6) S2.out rfl
  have r7 := row_c (i := 7) R2.out rfl
  have s7 := row_c (i := 7) S2.out rfl
  go_wp2_with fail
  refine (dSame_q (q := true) (HE.out.below B2.out) (HE'.out.below B2.out) (Nat.le_trans HS.out.2.1 (by omega)) (decide_eq_true ⟨rfl, rfl⟩)).mono ?_
  rintro e v3 ⟨rfl, hb⟩
  have B3 := qH (B2.out.trans (hb.mono B2.out.size))
  have R3 := co R2 hb
  have S3 := co S2 hb
  clear hb r0 s0 r1 s1 r2 s2 r3 s3 r4 s4 r5 s5 r6 s6 r7 s7
  have r0 := row_c (i := 0) R3.out rfl
  have s0 := row_c (i := 0) S3.out rfl
  have r1 := row_c (i := 1) R3.out rfl
  have s1 := row_c (i := 1) S3.out rfl
  have r2 := row_c (i := 2) R3.out rfl
  have s2 := row_c (i := 2) S3.out rfl
  have r3 := row_c (i := 3) R3.out rfl
  have s3 := row_c (i := 3) S3.out rfl
  have r4 := row_c (i := 4) R3.out rfl
  have s4 := row_c (i := 4) S3.out rfl
  have r5 := row_c (i := 5) R3.out rfl
  have s5 := row_c (i := 5) S3.out rfl
  have r6 := row_c (i := 6) R3.out rfl
  have s6 := row_c (i := 6) S3.out rfl
  have r7 := row_c (i := 7) R3.out rfl
  have s7 := row_c (i := 7) S3.out rfl
  go_wp2
  clear r0 s0 r1 s1 r2 s2 r3 s3 r4 s4 r5 s5 r6 s6 r7 s7
  go_loopw [5] (fun i wr => ∃ j : Nat, j ≤ cs.length ∧ i = .int .i64 j ∧ Hid (Below w.heap.size w wr) ∧ Hid (wr.heap[w.heap.size]? = some (.cells #[.bool (decide (a.1 < 0)), .slice A (digs a.1.natAbs).length c, .int .i64 a.2, .int .i64 W, .slice P cs.length k, .bool (decide (er.1 < 0)), .slice B (digs er.1.natAbs).length d, .int .i64 er.2] 49 (0, 0))) ∧ Hid (wr.heap[w.heap.size + 1]? = some (.cells #[.bool (decide (a.1 < 0)), .slice A' (digs a.1.natAbs).length c', .int .i64 a.2, .int .i64 W, .slice P' cs.length k', .bool (decide (er.1 < 0)), .slice B' (digs er.1.natAbs).length d', .int .i64 er.2] 49 (0, 0)))) (fun i _ => cs.length - (intOf i).toNat)
  case atStart => exact ⟨0, Nat.zero_le _, rfl, B3, R3, S3⟩
  case round =>
    obtain ⟨j, hj, rfl, HB, HR, HS2⟩ := hrel
    have r4 := row_c (i := 4) HR.out rfl
    have s4 := row_c (i := 4) HS2.out rfl
    by_cases hlt : j < cs.length
    · obtain ⟨q, hq⟩ : ∃ q, cs[j]? = some q := ⟨_, List.getElem?_eq_getElem hlt⟩
      obtain ⟨b1, o1, A1, c1, rfl, hb1, x0, x1, x2, hd1⟩ := nsl_at (HN.out.below HB.out) hq
      obtain ⟨b2, o2, A2, c2, rfl, hb2, y0, y1, y2, hd2⟩ := nsl_at (HN'.out.below HB.out) hq
      have HQL := qH (HS.out.2.2 q (List.mem_of_getElem? hq))
      have HLT := qH hlt
      have D1 := qH hd1
      have D2 := qH hd2
      have hji : ((j : Nat) : Int) < ((cs.length : Nat) : Int) := by omega
      have xr := heap_lt HR.out
      have xs := heap_lt HS2.out
      clear hq hd1 hd2
      go_upto_region 6 with (fail)
      have KD := qH (bd0 wr)
      go_region_held3 (fun w' => ∀ b o, b < wr.heap.size → w'.cell? ⟨b, o, none⟩ = wr.cell? ⟨b, o, none⟩)
        (first | with_reducible exact (bcell KD.out).1 | with_reducible exact (bcell K5.out).1)
        (first
          | (go_at_call 34; (with_reducible refine (dSame_q (q := true) (D1.out.below KD.out) (D2.out.below KD.out) (Nat.le_trans HQL.out (by omega)) (decide_eq_true ⟨rfl, rfl⟩)).mono ?_); rintro e w5 ⟨rfl, hb⟩; (have K5 := bt KD hb); clear hb))
      rename_i hHeld
      clear hHeld
      have B5 := qH (HB.out.trans (K5.out.mono HB.out.size))
      have R5 := co HR K5.out
      have S5 := co HS2 K5.out
      clear KD K5 r4 s4 x0 x1 x2 y0 y1 y2 xr xs hb1 hb2
      go_wp2
      go_roundw
      case rel =>
        have hl1 := HLT.out
        have hw : wrap64 ((j : Int) + 1) = (j : Int) + 1 := IntWalk.wrap64_in _ ⟨by omega, by omega⟩
        exact ⟨j + 1, HLT.out, (by first | rw [hw]; exact congrArg _ (by omega) | exact congrArg _ (by omega)), B5, R5, S5⟩
      case measure =>
        have hl1 := HLT.out
        have hw : wrap64 ((j : Int) + 1) = (j : Int) + 1 := IntWalk.wrap64_in _ ⟨by omega, by omega⟩
        try rw [hw]
        clear hw
        simp [intOf]; omega
    · obtain rfl : j = cs.length := by omega
      go_wp2
      go_ret
      exact ⟨rfl, HB.out⟩
theorem psl_at {w : World} {P : Option Addr} {zs : List PdZ} (h : PsL w P (zs.map PdZ.to)) {i : Nat} {p : PdZ} (hp : zs[i]? = some p) : ∃ b o A c P2 k B d, P = some ⟨b, o, none⟩ ∧ b < w.heap.size ∧ w.cell? ⟨b, o + i * 8, none⟩ = some (.bool (decide (p.a.1 < 0))) ∧ w.cell? ⟨b, o + i * 8 + 1, none⟩ = some (.slice A (digs p.a.1.natAbs).length c) ∧ w.cell? ⟨b, o + i * 8 + 2, none⟩ = some (.int .i64 p.a.2) ∧ w.cell? ⟨b, o + i * 8 + 3, none⟩ = some (.int .i64 p.w) ∧ w.cell? ⟨b, o + i * 8 + 4, none⟩ = some (.slice P2 p.cs.length k) ∧ w.cell? ⟨b, o + i * 8 + 5, none⟩ = some (.bool (decide (p.er.1 < 0))) ∧ w.cell? ⟨b, o + i * 8 + 6, none⟩ = some (.slice B (digs p.er.1.natAbs).length d) ∧ w.cell? ⟨b, o + i * 8 + 7, none⟩ = some (.int .i64 p.er.2) ∧ Dg w A c (digs p.a.1.natAbs) ∧ Dg w B d (digs p.er.1.natAbs) ∧ NsL w P2 k (p.cs.map nmOf) := by
  have hi : i < zs.length := by
    rcases Nat.lt_or_ge i zs.length with h1 | h1
    · exact h1
    · rw [List.getElem?_eq_none_iff.2 h1] at hp; cases hp
  obtain ⟨b, o, e, hb, hr⟩ := h (by rw [List.length_map]; omega)
  obtain ⟨A, c, B, d, P2, k, e0, e1, e2, e3, e4, e5, e6, e7, ha, he, hn⟩ := hr i p.to (by rw [List.getElem?_map, hp]; rfl)
  refine ⟨b, o, A, c, P2, k, B, d, e, hb, e0, e1, e2, e3, ?_, e5, e6, e7, ha, he, hn⟩
  rw [e4]
  show some (Value.slice P2 (p.cs.map nmOf).length k) = _
  rw [List.length_map]
theorem tsame15 (A P A' P' : Option Addr) (c k c' k' : Nat) (F O W Q D : Int) (a : Int × Int) (zs : List PdZ) (w : World) (ha : Dg w A c (digs a.1.natAbs)) (hp : PsL w P (zs.map PdZ.to)) (ha' : Dg w A' c' (digs a.1.natAbs)) (hp' : PsL w P' (zs.map PdZ.to)) (hla : (digs a.1.natAbs).length ≤ 10000) (hs : ∀ p, p ∈ zs → SmZ p ∧ p.cs.length ≤ 1000000) (hl : zs.length ≤ 1000000) :
    Calls Tryz.prog 25 #[.agg #[.int .i64 F, .int .i64 O, .bool (decide (a.1 < 0)), .slice A (digs a.1.natAbs).length c, .int .i64 a.2, .int .i64 W, .int .i64 Q, .int .i64 D, .slice P zs.length k], .agg #[.int .i64 F, .int .i64 O, .bool (decide (a.1 < 0)), .slice A' (digs a.1.natAbs).length c', .int .i64 a.2, .int .i64 W, .int .i64 Q, .int .i64 D, .slice P' zs.length k']] w fun e w' => e = .returned (.bool true) ∧ Below w.heap.size w w' := by
  have HA := qH ha
  have HN := qH hp
  have HA' := qH ha'
  have HN' := qH hp'
  have HS := qH hs
  have HL := qH hla
  clear ha hp ha' hp' hs hla
  go_enter Tryz.func25, Tryz.ntmps25
  go_upto_region 1 with fail
  obtain ⟨v1, hW⟩ : ∃ V : World, (w.alloc (.cells #[.int .i64 F, .int .i64 O, .bool (decide (a.1 < 0)), .slice A (digs a.1.natAbs).length c, .int .i64 a.2, .int .i64 W, .int .i64 Q, .int .i64 D, .slice P zs.length k] 29)).alloc (.cells #[.int .i64 F, .int .i64 O, .bool (decide (a.1 < 0)), .slice A' (digs a.1.natAbs).length c', .int .i64 a.2, .int .i64 W, .int .i64 Q, .int .i64 D, .slice P' zs.length k'] 29) = V := ⟨_, rfl⟩
  rw [hW]
  have B1 := qH (show Below w.heap.size w v1 by rw [← hW]; exact ((Below.refl _ _).alloc (by simp <;> omega) _).alloc (by simp <;> omega) _)
  have R1 := qH (show v1.heap[w.heap.size]? = some (.cells #[.int .i64 F, .int .i64 O, .bool (decide (a.1 < 0)), .slice A (digs a.1.natAbs).length c, .int .i64 a.2, .int .i64 W, .int .i64 Q, .int .i64 D, .slice P zs.length k] 29 (0, 0)) by rw [← hW, heap_alloc_old _ _ (by simp)]; exact heap_alloc_new _ _)
  have S1 := qH (show v1.heap[w.heap.size + 1]? = some (.cells #[.int .i64 F, .int .i64 O, .bool (decide (a.1 < 0)), .slice A' (digs a.1.natAbs).length c', .int .i64 a.2, .int .i64 W, .int .i64 Q, .int .i64 D, .slice P' zs.length k'] 29 (0, 0)) by rw [← hW]; have := heap_alloc_new (w.alloc (.cells #[.int .i64 F, .int .i64 O, .bool (decide (a.1 < 0)), .slice A (digs a.1.natAbs).length c, .int .i64 a.2, .int .i64 W, .int .i64 Q, .int .i64 D, .slice P zs.length k] 29)) (.cells #[.int .i64 F, .int .i64 O, .bool (decide (a.1 < 0)), .slice A' (digs a.1.natAbs).length c', .int .i64 a.2, .int .i64 W, .int .i64 Q, .int .i64 D, .slice P' zs.length k'] 29); simpa using this)
  clear hW
  have r0 := row_c (i := 0) R1.out rfl
  have s0 := row_c (i := 0) S1.out rfl
  have r1 := row_c (i := 1) R1.out rfl
  have s1 := row_c (i := 1) S1.out rfl
  have r2 := row_c (i := 2) R1.out rfl
  have s2 := row_c (i := 2) S1.out rfl
  have r3 := row_c (i := 3) R1.out rfl
  have s3 := row_c (i := 3) S1.out rfl
  have r4 := row_c (i := 4) R1.out rfl
  have s4 := row_c (i := 4) S1.out rfl
  have r5 := row_c (i := 5) R1.out rfl
  have s5 := row_c (i := 5) S1.out rfl
  have r6 := row_c (i := 6) R1.out rfl
  have s6 := row_c (i := 6) S1.out rfl
  have r7 := row_c (i := 7) R1.out rfl
  have s7 := row_c (i := 7) S1.out rfl
  have r8 := row_c (i := 8) R1.out rfl
  have s8 := row_c (i := 8) S1.out rfl
  go_wp2_with fail
  refine (dSame_q (q := true) (HA.out.below B1.out) (HA'.out.below B1.out) HL.out (decide_eq_true ⟨rfl, rfl⟩)).mono ?_
  rintro e v2 ⟨rfl, hb⟩
  have B2 := qH (B1.out.trans (hb.mono B1.out.size))
  have R2 := co R1 hb
  have S2 := co S1 hb
  clear hb r0 s0 r1 s1 r2 s2 r3 s3 r4 s4 r5 s5 r6 s6 r7 s7 r8 s8
  have r0 := row_c (i := 0) R2.out rfl
  have s0 := row_c (i := 0) S2.out rfl
  have r1 := row_c (i := 1) R2.out rfl
  have s1 := row_c (i := 1) S2.out rfl
  have r2 := row_c (i := 2) R2.out rfl
  have s2 := row_c (i := 2) S2.out rfl
  have r3 := row_c (i := 3) R2.out rfl
  have s3 := row_c (i := 3) S2.out rfl
  have r4 := row_c (i := 4) R2.out rfl
  have s4 := row_c (i := 4) S2.out rfl
  have r5 := row_c (i := 5) R2.out rfl
  have s5 := row_c (i := 5) S2.out rfl
  have r6 := row_c (i := 6) R2.out rfl
  have s6 := row_c (i := 6) S2.out rfl
  have r7 := row_c (i := 7) R2.out rfl
  have s7 := row_c (i := 7) S2.out rfl
  have r8 := row_c (i := 8) R2.out rfl
  have s8 := row_c (i := 8) S2.out rfl
  go_wp2
  clear r0 s0 r1 s1 r2 s2 r3 s3 r4 s4 r5 s5 r6 s6 r7 s7 r8 s8
  go_loopw [5] (fun i wr => ∃ j : Nat, j ≤ zs.length ∧ i = .int .i64 j ∧ Hid (Below w.heap.size w wr) ∧ Hid (wr.heap[w.heap.size]? = some (.cells #[.int .i64 F, .int .i64 O, .bool (decide (a.1 < 0)), .slice A (digs a.1.natAbs).length c, .int .i64 a.2, .int .i64 W, .int .i64 Q, .int .i64 D, .slice P zs.length k] 29 (0, 0))) ∧ Hid (wr.heap[w.heap.size + 1]? = some (.cells #[.int .i64 F, .int .i64 O, .bool (decide (a.1 < 0)), .slice A' (digs a.1.natAbs).length c', .int .i64 a.2, .int .i64 W, .int .i64 Q, .int .i64 D, .slice P' zs.length k'] 29 (0, 0)))) (fun i _ => zs.length - (intOf i).toNat)
  case atStart => exact ⟨0, Nat.zero_le _, rfl, B2, R2, S2⟩
  case round =>
    obtain ⟨j, hj, rfl, HB, HR, HS2⟩ := hrel
    have r8 := row_c (i := 8) HR.out rfl
    have s8 := row_c (i := 8) HS2.out rfl
    by_cases hlt : j < zs.length
    · obtain ⟨p, hq⟩ : ∃ p, zs[j]? = some p := ⟨_, List.getElem?_eq_getElem hlt⟩
      obtain ⟨b1, o1, A1, c1, P1, k1, D1, d1, rfl, hb1, x0, x1, x2, x3, x4, x5, x6, x7, ha1, he1, hn1⟩ := psl_at (HN.out.below HB.out) hq
      obtain ⟨b2, o2, A2, c2, P2, k2, D2, d2, rfl, hb2, y0, y1, y2, y3, y4, y5, y6, y7, ha2, he2, hn2⟩ := psl_at (HN'.out.below HB.out) hq
      have HQ := qH (HS.out p (List.mem_of_getElem? hq))
      have HLT := qH hlt
      have HP := qH (fun (V : World) (hb : Below wr.heap.size wr V) => psame_any A1 D1 P1 A2 D2 P2 c1 d1 k1 c2 d2 k2 p V (ha1.below hb) (he1.below hb) (hn1.below hb) (ha2.below hb) (he2.below hb) (hn2.below hb) HQ.out.1 HQ.out.2)
      have hji : ((j : Nat) : Int) < ((zs.length : Nat) : Int) := by omega
      have xr := heap_lt HR.out
      have xs := heap_lt HS2.out
      clear hq ha1 he1 hn1 ha2 he2 hn2
      go_upto_region 6 with (fail)
      have KD := qH (bd0 wr)
      go_region_held3 (fun w' => ∀ b o, b < wr.heap.size → w'.cell? ⟨b, o, none⟩ = wr.cell? ⟨b, o, none⟩)
        (first | with_reducible exact (bcell KD.out).1 | with_reducible exact (bcell K5.out).1)
        (first
          | (go_at_call 52; (with_reducible refine (HP.out _ KD.out).mono ?_); rintro e w5 ⟨rfl, hb⟩; (have K5 := bt KD hb); clear hb))
      rename_i hHeld
      clear hHeld
      have B5 := qH (HB.out.trans (K5.out.mono HB.out.size))
      have R5 := co HR K5.out
      have S5 := co HS2 K5.out
      clear KD K5 r8 s8 x0 x1 x2 x3 x4 x5 x6 x7 y0 y1 y2 y3 y4 y5 y6 y7 xr xs hb1 hb2
      go_wp2
      go_roundw
      case rel =>
        have hl1 := HLT.out
        have hw : wrap64 ((j : Int) + 1) = (j : Int) + 1 := IntWalk.wrap64_in _ ⟨by omega, by omega⟩
        exact ⟨j + 1, HLT.out, (by first | rw [hw]; exact congrArg _ (by omega) | exact congrArg _ (by omega)), B5, R5, S5⟩
      case measure =>
        have hl1 := HLT.out
        have hw : wrap64 ((j : Int) + 1) = (j : Int) + 1 := IntWalk.wrap64_in _ ⟨by omega, by omega⟩
        try rw [hw]
        clear hw
        simp [intOf]; omega
    · obtain rfl : j = zs.length := by omega
      go_wp2
      go_ret
      exact ⟨rfl, HB.out⟩
theorem tsame_any {A P A' P' : Option Addr} {c k c' k' : Nat} {F O W Q D : Int} {a : Int × Int} {zs : List PdZ} {w : World} (ha : Dg w A c (digs a.1.natAbs)) (hp : PsL w P (zs.map PdZ.to)) (ha' : Dg w A' c' (digs a.1.natAbs)) (hp' : PsL w P' (zs.map PdZ.to)) (hla : (digs a.1.natAbs).length ≤ 10000) (hs : ∀ p, p ∈ zs → SmZ p ∧ p.cs.length ≤ 1000000) (hl : zs.length ≤ 1000000) :
    Calls Tryz.prog 12 #[.agg #[.int .i64 F, .int .i64 O, .bool (decide (a.1 < 0)), .slice A (digs a.1.natAbs).length c, .int .i64 a.2, .int .i64 W, .int .i64 Q, .int .i64 D, .slice P zs.length k], .agg #[.int .i64 F, .int .i64 O, .bool (decide (a.1 < 0)), .slice A' (digs a.1.natAbs).length c', .int .i64 a.2, .int .i64 W, .int .i64 Q, .int .i64 D, .slice P' zs.length k']] w fun e w' => e = .returned (.bool true) ∧ Below w.heap.size w w' := by
  have HC := qH (fun (V : World) (hb : Below w.heap.size w V) => tsame15 A P A' P' c k c' k' F O W Q D a zs V (ha.below hb) (hp.below hb) (ha'.below hb) (hp'.below hb) hla hs hl)
  clear ha hp ha' hp' hla hs hl
  go_enter Tryz.func12, Tryz.ntmps12
  go_upto_region 1 with fail
  obtain ⟨v1, hW⟩ : ∃ V : World, (w.alloc (.cells #[.int .i64 F, .int .i64 O, .bool (decide (a.1 < 0)), .slice A (digs a.1.natAbs).length c, .int .i64 a.2, .int .i64 W, .int .i64 Q, .int .i64 D, .slice P zs.length k] 29)).alloc (.cells #[.int .i64 F, .int .i64 O, .bool (decide (a.1 < 0)), .slice A' (digs a.1.natAbs).length c', .int .i64 a.2, .int .i64 W, .int .i64 Q, .int .i64 D, .slice P' zs.length k'] 29) = V := ⟨_, rfl⟩
  rw [hW]
  have B1 := qH (show Below w.heap.size w v1 by rw [← hW]; exact ((Below.refl _ _).alloc (by simp <;> omega) _).alloc (by simp <;> omega) _)
  have R1 := qH (show v1.heap[w.heap.size]? = some (.cells #[.int .i64 F, .int .i64 O, .bool (decide (a.1 < 0)), .slice A (digs a.1.natAbs).length c, .int .i64 a.2, .int .i64 W, .int .i64 Q, .int .i64 D, .slice P zs.length k] 29 (0, 0)) by rw [← hW, heap_alloc_old _ _ (by simp)]; exact heap_alloc_new _ _)
  have S1 := qH (show v1.heap[w.heap.size + 1]? = some (.cells #[.int .i64 F, .int .i64 O, .bool (decide (a.1 < 0)), .slice A' (digs a.1.natAbs).length c', .int .i64 a.2, .int .i64 W, .int .i64 Q, .int .i64 D, .slice P' zs.length k'] 29 (0, 0)) by rw [← hW]; have := heap_alloc_new (w.alloc (.cells #[.int .i64 F, .int .i64 O, .bool (decide (a.1 < 0)), .slice A (digs a.1.natAbs).length c, .int .i64 a.2, .int .i64 W, .int .i64 Q, .int .i64 D, .slice P zs.length k] 29)) (.cells #[.int .i64 F, .int .i64 O, .bool (decide (a.1 < 0)), .slice A' (digs a.1.natAbs).length c', .int .i64 a.2, .int .i64 W, .int .i64 Q, .int .i64 D, .slice P' zs.length k'] 29); simpa using this)
  clear hW
  have r0 := row_c (i := 0) R1.out rfl
  have s0 := row_c (i := 0) S1.out rfl
  have r1 := row_c (i := 1) R1.out rfl
  have s1 := row_c (i := 1) S1.out rfl
  have r2 := row_c (i := 2) R1.out rfl
  have s2 := row_c (i := 2) S1.out rfl
  have r3 := row_c (i := 3) R1.out rfl
  have s3 := row_c (i := 3) S1.out rfl
  have r4 := row_c (i := 4) R1.out rfl
  have s4 := row_c (i := 4) S1.out rfl
  have r5 := row_c (i := 5) R1.out rfl
  have s5 := row_c (i := 5) S1.out rfl
  have r6 := row_c (i := 6) R1.out rfl
  have s6 := row_c (i := 6) S1.out rfl
  have r7 := row_c (i := 7) R1.out rfl
  have s7 := row_c (i := 7) S1.out rfl
  have r8 := row_c (i := 8) R1.out rfl
  have s8 := row_c (i := 8) S1.out rfl
  go_wp2_with fail
  refine (HC.out v1 B1.out).mono ?_
  rintro e v2 ⟨rfl, hb⟩
  have B2 := qH (B1.out.trans (hb.mono B1.out.size))
  clear hb r0 s0 r1 s1 r2 s2 r3 s3 r4 s4 r5 s5 r6 s6 r7 s7 r8 s8
  go_wp2
  go_ret
  exact ⟨rfl, B2.out⟩
def lz : List PdZ := [⟨(1, 0), 0, [(1, 0), (0, 0)], (0, 0)⟩]
theorem lzp : lz.map PdZ.to = [⟨(false, [1], 0), 0, [(false, [1], 0), (false, [], 0)], (false, [], 0)⟩] := by
  have e1 : digs (1 : Int).natAbs = [1] := digs_one (by decide) (by decide)
  have e0 : digs (0 : Int).natAbs = [] := digs_zero
  unfold lz PdZ.to nmOf
  simp only [List.map_cons, List.map_nil, e1, e0]
  rfl
theorem line_dg {w : World} {b : Nat} {T : TypeId} {fr : Nat × Nat} (h : w.heap[b]? = some (.cells #[.int .u32 1] T fr)) : Dg w (some ⟨b, 0, none⟩) 1 [1] := by
  refine ⟨Nat.le_refl _, fun x hx => by simp at hx; omega, fun _ => ⟨b, 0, rfl, heap_lt h, fun j hj => ?_⟩⟩
  obtain rfl : j = 0 := by simp at hj; omega
  exact row_c (i := 0) h rfl
theorem line_ps {w : World} {b1 b2 b3 : Nat} {fr fr2 : Nat × Nat} {T T2 : TypeId} (h3 : w.heap[b2]? = some (.cells #[.bool false, .slice (some ⟨b1, 0, none⟩) 1 1, .int .i64 0, .bool false, .slice none 0 0, .int .i64 0] T fr)) (h4 : w.heap[b3]? = some (.cells #[.bool false, .slice (some ⟨b1, 0, none⟩) 1 1, .int .i64 0, .int .i64 0, .slice (some ⟨b2, 0, none⟩) 2 2, .bool false, .slice none 0 0, .int .i64 0] T2 fr2)) (hd : Dg w (some ⟨b1, 0, none⟩) 1 [1]) : PsL w (some ⟨b3, 0, none⟩) (lz.map PdZ.to) := by
  rw [lzp]
  refine fun _ => ⟨b3, 0, rfl, heap_lt h4, fun i p hp => ?_⟩
  rcases i with _ | i
  · obtain rfl := Option.some.inj hp
    refine ⟨some ⟨b1, 0, none⟩, 1, none, 0, some ⟨b2, 0, none⟩, 2, row_c (i := 0) h4 rfl, row_c (i := 1) h4 rfl, row_c (i := 2) h4 rfl, row_c (i := 3) h4 rfl, row_c (i := 4) h4 rfl, row_c (i := 5) h4 rfl, row_c (i := 6) h4 rfl, row_c (i := 7) h4 rfl, hd, Dg.nil_ _ _, ?_⟩
    refine ⟨fun i => if i = 0 then some ⟨b1, 0, none⟩ else none, fun i => if i = 0 then 1 else 0, by decide, fun _ => ⟨b2, 0, rfl, heap_lt h3, fun i hi => ?_⟩⟩
    rcases i with _ | _ | i
    · exact ⟨row_c (i := 0) h3 rfl, row_c (i := 1) h3 rfl, row_c (i := 2) h3 rfl, hd⟩
    · exact ⟨row_c (i := 3) h3 rfl, row_c (i := 4) h3 rfl, row_c (i := 5) h3 rfl, Dg.nil_ _ _⟩
    · simp at hi; omega
  · simp at hp
theorem line_right : rightT 3 0 (nmOf (1, 0)) 0 4 1 (lz.map PdZ.to) = true := by
  rw [lzp, show nmOf (1, 0) = (false, [1], 0) by unfold nmOf; rw [show digs ((1, 0) : Int × Int).1.natAbs = [1] from digs_one (by decide) (by decide)]; rfl]
  decide +kernel
theorem line_enc : (encS 3 0 (nmOf (1, 0)) 0 4 1 (lz.map PdZ.to)).2 = 0 ∧ (encS 3 0 (nmOf (1, 0)) 0 4 1 (lz.map PdZ.to)).1.length = 32 := by
  rw [lzp, show nmOf (1, 0) = (false, [1], 0) by unfold nmOf; rw [show digs ((1, 0) : Int × Int).1.natAbs = [1] from digs_one (by decide) (by decide)]; rfl]
  decide +kernel
theorem dec_nil : decT [] = none := by
  cases h : decT [] with
  | none => rfl
  | some T =>
    exfalso
    obtain ⟨h1, h2⟩ := dec_back h
    unfold TbZ.enc at h1 h2
    obtain ⟨_, he, ee⟩ := enc_parts h1
    rw [ee] at h2
    unfold outB at h2
    rw [if_pos he] at h2
    have := encS_pos T.F T.O (nmOf T.a) T.W T.Q T.D (T.ps.map PdZ.to)
    rw [h2] at this
    simp at this
theorem line_any (w : World) :
    Calls Tryz.prog 13 #[] w fun e w' => ∃ A P, e = .returned (.agg #[.int .i64 3, .int .i64 0, .bool false, .slice A 1 1, .int .i64 0, .int .i64 0, .int .i64 4, .int .i64 1, .slice P 1 1]) ∧ Dg w' A 1 [1] ∧ PsL w' P (lz.map PdZ.to) ∧ Below w.heap.size w w' := by
  go_enter Tryz.func13, Tryz.ntmps13
  go_wp2
  obtain ⟨wz, hW⟩ : ∃ V : World, (((((w.alloc (.cells #[.int .i64 3, .int .i64 0, .bool false, .slice (some ⟨w.heap.size + 1, 0, none⟩) 1 1, .int .i64 0, .int .i64 0, .int .i64 4, .int .i64 1, .slice (some ⟨w.heap.size + 1 + 1 + 1 + 1, 0, none⟩) 1 1] 29)).alloc (.cells #[.int .u32 1] 67)).alloc (.cells #[.bool false, .slice (some ⟨w.heap.size + 1, 0, none⟩) 1 1, .int .i64 0] 26)).alloc (.cells #[.bool false, .slice (some ⟨w.heap.size + 1, 0, none⟩) 1 1, .int .i64 0, .bool false, .slice none 0 0, .int .i64 0] 26)).alloc (.cells #[.bool false, .slice (some ⟨w.heap.size + 1, 0, none⟩) 1 1, .int .i64 0, .int .i64 0, .slice (some ⟨w.heap.size + 1 + 1 + 1, 0, none⟩) 2 2, .bool false, .slice none 0 0, .int .i64 0] 49)) = V := ⟨_, rfl⟩
  rw [hW]
  have R0 := qH (show wz.heap[w.heap.size]? = some (.cells #[.int .i64 3, .int .i64 0, .bool false, .slice (some ⟨w.heap.size + 1, 0, none⟩) 1 1, .int .i64 0, .int .i64 0, .int .i64 4, .int .i64 1, .slice (some ⟨w.heap.size + 1 + 1 + 1 + 1, 0, none⟩) 1 1] 29 (0, 0)) by rw [← hW]; have := heap_alloc_new w (.cells #[.int .i64 3, .int .i64 0, .bool false, .slice (some ⟨w.heap.size + 1, 0, none⟩) 1 1, .int .i64 0, .int .i64 0, .int .i64 4, .int .i64 1, .slice (some ⟨w.heap.size + 1 + 1 + 1 + 1, 0, none⟩) 1 1] 29); rw [heap_alloc_old _ _ (by simp <;> omega)]; rw [heap_alloc_old _ _ (by simp <;> omega)]; rw [heap_alloc_old _ _ (by simp <;> omega)]; rw [heap_alloc_old _ _ (by simp <;> omega)]; simpa using this)
  have R1 := qH (show wz.heap[w.heap.size + 1]? = some (.cells #[.int .u32 1] 67 (0, 0)) by rw [← hW]; have := heap_alloc_new (w.alloc (.cells #[.int .i64 3, .int .i64 0, .bool false, .slice (some ⟨w.heap.size + 1, 0, none⟩) 1 1, .int .i64 0, .int .i64 0, .int .i64 4, .int .i64 1, .slice (some ⟨w.heap.size + 1 + 1 + 1 + 1, 0, none⟩) 1 1] 29)) (.cells #[.int .u32 1] 67); rw [heap_alloc_old _ _ (by simp <;> omega)]; rw [heap_alloc_old _ _ (by simp <;> omega)]; rw [heap_alloc_old _ _ (by simp <;> omega)]; simpa using this)
  have R2 := qH (show wz.heap[w.heap.size + 1 + 1]? = some (.cells #[.bool false, .slice (some ⟨w.heap.size + 1, 0, none⟩) 1 1, .int .i64 0] 26 (0, 0)) by rw [← hW]; have := heap_alloc_new ((w.alloc (.cells #[.int .i64 3, .int .i64 0, .bool false, .slice (some ⟨w.heap.size + 1, 0, none⟩) 1 1, .int .i64 0, .int .i64 0, .int .i64 4, .int .i64 1, .slice (some ⟨w.heap.size + 1 + 1 + 1 + 1, 0, none⟩) 1 1] 29)).alloc (.cells #[.int .u32 1] 67)) (.cells #[.bool false, .slice (some ⟨w.heap.size + 1, 0, none⟩) 1 1, .int .i64 0] 26); rw [heap_alloc_old _ _ (by simp <;> omega)]; rw [heap_alloc_old _ _ (by simp <;> omega)]; simpa using this)
  have R3 := qH (show wz.heap[w.heap.size + 1 + 1 + 1]? = some (.cells #[.bool false, .slice (some ⟨w.heap.size + 1, 0, none⟩) 1 1, .int .i64 0, .bool false, .slice none 0 0, .int .i64 0] 26 (0, 0)) by rw [← hW]; have := heap_alloc_new (((w.alloc (.cells #[.int .i64 3, .int .i64 0, .bool false, .slice (some ⟨w.heap.size + 1, 0, none⟩) 1 1, .int .i64 0, .int .i64 0, .int .i64 4, .int .i64 1, .slice (some ⟨w.heap.size + 1 + 1 + 1 + 1, 0, none⟩) 1 1] 29)).alloc (.cells #[.int .u32 1] 67)).alloc (.cells #[.bool false, .slice (some ⟨w.heap.size + 1, 0, none⟩) 1 1, .int .i64 0] 26)) (.cells #[.bool false, .slice (some ⟨w.heap.size + 1, 0, none⟩) 1 1, .int .i64 0, .bool false, .slice none 0 0, .int .i64 0] 26); rw [heap_alloc_old _ _ (by simp <;> omega)]; simpa using this)
  have R4 := qH (show wz.heap[w.heap.size + 1 + 1 + 1 + 1]? = some (.cells #[.bool false, .slice (some ⟨w.heap.size + 1, 0, none⟩) 1 1, .int .i64 0, .int .i64 0, .slice (some ⟨w.heap.size + 1 + 1 + 1, 0, none⟩) 2 2, .bool false, .slice none 0 0, .int .i64 0] 49 (0, 0)) by rw [← hW]; have := heap_alloc_new ((((w.alloc (.cells #[.int .i64 3, .int .i64 0, .bool false, .slice (some ⟨w.heap.size + 1, 0, none⟩) 1 1, .int .i64 0, .int .i64 0, .int .i64 4, .int .i64 1, .slice (some ⟨w.heap.size + 1 + 1 + 1 + 1, 0, none⟩) 1 1] 29)).alloc (.cells #[.int .u32 1] 67)).alloc (.cells #[.bool false, .slice (some ⟨w.heap.size + 1, 0, none⟩) 1 1, .int .i64 0] 26)).alloc (.cells #[.bool false, .slice (some ⟨w.heap.size + 1, 0, none⟩) 1 1, .int .i64 0, .bool false, .slice none 0 0, .int .i64 0] 26)) (.cells #[.bool false, .slice (some ⟨w.heap.size + 1, 0, none⟩) 1 1, .int .i64 0, .int .i64 0, .slice (some ⟨w.heap.size + 1 + 1 + 1, 0, none⟩) 2 2, .bool false, .slice none 0 0, .int .i64 0] 49); simpa using this)
  have BZ := qH (show Below w.heap.size w wz by rw [← hW]; exact ((((((Below.refl _ _).alloc (by simp <;> omega) _).alloc (by simp <;> omega) _).alloc (by simp <;> omega) _).alloc (by simp <;> omega) _).alloc (by simp <;> omega) _))
  clear hW
  obtain ⟨g0, g1, g2, g3, g4, g5, g6, g7, g8, _⟩ := ly9f R0.out
  refine bodyPost_ret (v := .agg #[.int .i64 3, .int .i64 0, .bool false, .slice (some ⟨w.heap.size + 1, 0, none⟩) 1 1, .int .i64 0, .int .i64 0, .int .i64 4, .int .i64 1, .slice (some ⟨w.heap.size + 1 + 1 + 1 + 1, 0, none⟩) 1 1]) (by simp [results, Tryz.results13, go_sem, g0, g1, g2, g3, g4, g5, g6, g7, g8]) rfl ?_
  have HD := line_dg R1.out
  refine ⟨_, _, rfl, HD, line_ps R3.out R4.out HD, BZ.out⟩
def encL : List UInt8 := (encS 3 0 (nmOf (1, 0)) 0 4 1 (lz.map PdZ.to)).1
theorem encL_len : encL.length = 32 := line_enc.2
theorem nm1 : nmOf (1, 0) = (false, [1], 0) := by unfold nmOf; rw [show digs ((1, 0) : Int × Int).1.natAbs = [1] from digs_one (by decide) (by decide)]; rfl
theorem line_encO : encO 3 0 (false, [1], 0) 0 4 1 (lz.map PdZ.to) = (encL, 0) := by
  rw [← nm1]
  unfold encO
  rw [if_pos line_right]
  exact Prod.ext rfl line_enc.1
theorem line_sm : SmP (lz.map PdZ.to) := by
  rw [lzp]
  intro p hp
  rw [List.mem_singleton] at hp
  subst hp
  exact ⟨by decide, by decide, by decide⟩
theorem enc_line {A P : Option Addr} {w : World} (hd : Dg w A 1 [1]) (hp : PsL w P (lz.map PdZ.to)) (hT : T32 w) :
    Calls Tryz.prog 7 #[.agg #[.int .i64 3, .int .i64 0, .bool false, .slice A 1 1, .int .i64 0, .int .i64 0, .int .i64 4, .int .i64 1, .slice P 1 1]] w fun e w' => e = .returned (.tuple #[.string ⟨encL.toArray⟩, .int .i64 0]) ∧ Below w.heap.size w w' := by
  have h := encode_any (A := A) (P := P) (c := 1) (k := 1) (F := 3) (O := 0) (W := 0) (Q := 4) (D := 1) (a := (false, [1], 0)) (ps := lz.map PdZ.to) hd (by decide) hT hp line_sm
  rw [line_encO] at h
  refine Calls.mono h ?_
  rintro e w' ⟨⟨t, rfl, ht⟩, hb⟩
  have e1 : t = ⟨encL.toArray⟩ := by apply ByteArray.ext; apply Array.toList_inj.1; exact ht
  subst e1
  exact ⟨rfl, hb⟩
theorem size_line {A P : Option Addr} {w : World} (hd : Dg w A 1 [1]) (hp : PsL w P (lz.map PdZ.to)) (hT : T32 w) :
    Calls Tryz.prog 9 #[.agg #[.int .i64 3, .int .i64 0, .bool false, .slice A 1 1, .int .i64 0, .int .i64 0, .int .i64 4, .int .i64 1, .slice P 1 1]] w fun e w' => e = .returned (.int .i64 32) ∧ Below w.heap.size w w' := by
  have h := size_any (A := A) (P := P) (c := 1) (k := 1) (F := 3) (O := 0) (W := 0) (Q := 4) (D := 1) (a := (false, [1], 0)) (ps := lz.map PdZ.to) hd (by decide) hT hp line_sm
  rw [line_encO, show (outB (encL, 0)).length = 32 from encL_len] at h
  exact h
theorem decode_any {l : List UInt8} {w : World} (hT : T32 w) (hl : l.length ≤ 9223372036854775807) :
    Calls Tryz.prog 10 #[.string ⟨l.toArray⟩] w fun e w' => DecP (decT l) e w' ∧ Below w.heap.size w w' := by
  obtain ⟨t, s1, e0⟩ : ∃ t s1, rdS (l, false) = (t, s1) := ⟨(rdS (l, false)).1, (rdS (l, false)).2, rfl⟩
  obtain ⟨sx, hsx⟩ : ∃ z, (if t = 84 then s1 else (s1.1, true)) = z := ⟨_, rfl⟩
  obtain ⟨F, s2, e1⟩ : ∃ t s1, rdS sx = (t, s1) := ⟨(rdS sx).1, (rdS sx).2, rfl⟩
  obtain ⟨O, s3, e2⟩ : ∃ t s1, rdS s2 = (t, s1) := ⟨(rdS s2).1, (rdS s2).2, rfl⟩
  obtain ⟨Q, s4, e3⟩ : ∃ t s1, rdS s3 = (t, s1) := ⟨(rdS s3).1, (rdS s3).2, rfl⟩
  obtain ⟨D, s5, e4⟩ : ∃ t s1, rdS s4 = (t, s1) := ⟨(rdS s4).1, (rdS s4).2, rfl⟩
  obtain ⟨W, s6, e5⟩ : ∃ t s1, rdS s5 = (t, s1) := ⟨(rdS s5).1, (rdS s5).2, rfl⟩
  obtain ⟨n, s7, e6⟩ : ∃ t s1, rdS s6 = (t, s1) := ⟨(rdS s6).1, (rdS s6).2, rfl⟩
  obtain ⟨a, s8, e7⟩ : ∃ t s1, rdN s7 = (t, s1) := ⟨(rdN s7).1, (rdN s7).2, rfl⟩
  refine decode_go l w hT hl (l, false) s1 s2 s3 s4 s5 s6 s7 s8 t F O Q D W n a e0 (by rw [hsx]; exact e1) e2 e3 e4 e5 e6 e7 (decT l) (fun ps nx s hps => ?_)
  have hh : rdH (l, false) = (F, O, Q, D, W - 128, n, a, s8) := by
    unfold rdH
    simp only [e0, hsx, e1, e2, e3, e4, e5, e6, e7]
  have ht : rdT (l, false) = (⟨F, O, Q, D, W - 128, a, ps⟩, s.2) := by
    unfold rdT
    rw [hh]
    dsimp only
    rw [hps]
  unfold decT
  rw [ht]
  rfl
theorem dec_line (w : World) (hT : T32 w) :
    Calls Tryz.prog 10 #[.string ⟨encL.toArray⟩] w fun e w' => ∃ A c P k, e = .returned (.tuple #[.agg #[.int .i64 3, .int .i64 0, .bool false, .slice A 1 c, .int .i64 0, .int .i64 0, .int .i64 4, .int .i64 1, .slice P 1 k], .int .i64 0]) ∧ Dg w' A c [1] ∧ PsL w' P (lz.map PdZ.to) ∧ Below w.heap.size w w' := by
  refine (decode_any hT (by rw [encL_len]; decide)).mono ?_
  rintro e w' ⟨h, hb⟩
  have hd : decT encL = some (tOf 3 0 (nmOf (1, 0)) 0 4 1 (lz.map PdZ.to)) := dec_enc line_right (okZ _ _) line_enc.1
  have hz : tOf 3 0 (nmOf (1, 0)) 0 4 1 (lz.map PdZ.to) = ⟨3, 0, 4, 1, 0, (1, 0), (lz.map PdZ.to).map zOf⟩ := by unfold tOf; rw [nm1]; rfl
  rw [hd, hz] at h
  obtain ⟨A, c, P, k, rfl, h1, h2⟩ := h
  have e1 : digs ((1, 0) : Int × Int).1.natAbs = [1] := digs_one (by decide) (by decide)
  have h3 : ((lz.map PdZ.to).map zOf).map PdZ.to = lz.map PdZ.to := (tOf_back line_right (okZ _ _) line_enc.1).2
  rw [e1] at h1
  rw [h3] at h2
  refine ⟨A, c, P, k, ?_, h1, h2, hb⟩
  rw [e1, List.length_map, List.length_map]
  rfl
theorem dec_empty (w : World) (hT : T32 w) :
    Calls Tryz.prog 10 #[.string ⟨#[]⟩] w fun e w' => e = .returned (.tuple #[.agg #[.int .i64 0, .int .i64 0, .bool false, .slice none 0 0, .int .i64 0, .int .i64 0, .int .i64 0, .int .i64 0, .slice none 0 0], .int .i64 2]) ∧ Below w.heap.size w w' := by
  have h := decode_any (l := []) hT (by decide)
  rw [dec_nil] at h
  exact h
theorem same_line {A P A2 P2 : Option Addr} {c k : Nat} {w : World} (h1 : Dg w A c [1]) (h2 : PsL w P (lz.map PdZ.to)) (h3 : Dg w A2 1 [1]) (h4 : PsL w P2 (lz.map PdZ.to)) :
    Calls Tryz.prog 12 #[.agg #[.int .i64 3, .int .i64 0, .bool false, .slice A 1 c, .int .i64 0, .int .i64 0, .int .i64 4, .int .i64 1, .slice P 1 k], .agg #[.int .i64 3, .int .i64 0, .bool false, .slice A2 1 1, .int .i64 0, .int .i64 0, .int .i64 4, .int .i64 1, .slice P2 1 1]] w fun e w' => e = .returned (.bool true) ∧ Below w.heap.size w w' := by
  have e1 : digs ((1, 0) : Int × Int).1.natAbs = [1] := digs_one (by decide) (by decide)
  have h := tsame_any (A := A) (P := P) (A' := A2) (P' := P2) (c := c) (k := k) (c' := 1) (k' := 1) (F := 3) (O := 0) (W := 0) (Q := 4) (D := 1) (a := (1, 0)) (zs := lz) (w := w) (by rw [e1]; exact h1) h2 (by rw [e1]; exact h3) h4 (by rw [e1]; decide) (fun p hp => ?_) (by decide)
  · rw [e1] at h; exact h
  · unfold lz at hp
    rw [List.mem_singleton] at hp
    subst hp
    have d0 : (digs (0 : Int).natAbs).length = 0 := by rw [show digs (0 : Int).natAbs = [] from digs_zero]; rfl
    refine ⟨⟨by show (digs (1 : Int).natAbs).length ≤ 10000; rw [show digs (1 : Int).natAbs = [1] from e1]; decide, by show (digs (0 : Int).natAbs).length ≤ 400; omega, fun q hq => ?_⟩, by decide⟩
    simp at hq
    rcases hq with rfl | rfl
    · show (digs (1 : Int).natAbs).length ≤ 400; rw [show digs (1 : Int).natAbs = [1] from e1]; decide
    · show (digs (0 : Int).natAbs).length ≤ 400; omega
theorem examples_any (w : World) (hT : T32 w) :
    Calls Tryz.prog 5 #[] w fun e w' => e = .returned (.bool true) ∧ Below w.heap.size w w' := by
  have HT := qH hT
  obtain ⟨bt, hbt⟩ : ∃ d : ByteArray, (⟨encL.toArray⟩ : ByteArray) = d := ⟨_, rfl⟩
  have HS := qH (show bt.size = 32 by rw [← hbt]; exact encL_len)
  have HE := qH (fun (A P : Option Addr) (V : World) (hd : Dg V A 1 [1]) (hp : PsL V P (lz.map PdZ.to)) (hT : T32 V) => enc_line hd hp hT)
  have HDL := qH dec_line
  rw [hbt] at HE HDL
  clear hT hbt
  go_enter Tryz.func5, Tryz.ntmps5
  go_wp2_with fail
  refine (line_any w).mono ?_
  rintro e w1 ⟨A1, P1, rfl, hd, hp, hb⟩
  have D1 := qH hd
  have P1' := qH hp
  have B1 := qH hb
  clear hd hp hb
  go_wp2_with fail
  refine (HE.out A1 P1 w1 D1.out P1'.out (t32_below HT.out B1.out)).mono ?_
  rintro e w2 ⟨rfl, hb⟩
  have B2 := qH (B1.out.trans (hb.mono B1.out.size))
  clear hb D1 P1'
  go_wp2_with fail
  refine (HDL.out w2 (t32_below HT.out B2.out)).mono ?_
  rintro e w3 ⟨A3, c3, P3, k3, rfl, hd, hp, hb⟩
  have B3 := qH (B2.out.trans (hb.mono B2.out.size))
  have D3 := qH hd
  have P3' := qH hp
  clear hd hp hb
  go_upto_region 3 with fail
  obtain ⟨w4, hW⟩ : ∃ V : World, w3.alloc (.cells #[.int .i64 3, .int .i64 0, .bool false, .slice A3 1 c3, .int .i64 0, .int .i64 0, .int .i64 4, .int .i64 1, .slice P3 1 k3] 29) = V := ⟨_, rfl⟩
  rw [hW]
  have hb : Below w3.heap.size w3 w4 := by rw [← hW]; exact below1 _ _
  obtain ⟨tb, htb⟩ : ∃ n, w3.heap.size = n := ⟨_, rfl⟩
  have R4 := qH (show w4.heap[tb]? = some (.cells #[.int .i64 3, .int .i64 0, .bool false, .slice A3 1 c3, .int .i64 0, .int .i64 0, .int .i64 4, .int .i64 1, .slice P3 1 k3] 29 (0, 0)) by rw [← hW, ← htb]; exact heap_alloc_new _ _)
  have B4 := qH (B3.out.trans (hb.mono B3.out.size))
  have D4 := qH (D3.out.below hb)
  have P4 := qH (P3'.out.below hb)
  rw [htb]
  clear hb hW htb D3 P3'
  go_wp2_with fail
  refine (dec_empty w4 (t32_below HT.out B4.out)).mono ?_
  rintro e w5 ⟨rfl, hb⟩
  have B5 := qH (B4.out.trans (hb.mono B4.out.size))
  have R5 := co R4 hb
  have D5 := qH (D4.out.below hb)
  have P5 := qH (P4.out.below hb)
  clear hb D4 P4
  go_upto_region 4 with (fail)
  obtain ⟨w6, hW⟩ : ∃ V : World, w5.alloc (.cells #[.int .i64 0, .int .i64 0, .bool false, .slice none 0 0, .int .i64 0, .int .i64 0, .int .i64 0, .int .i64 0, .slice none 0 0] 29) = V := ⟨_, rfl⟩
  rw [hW]
  have hb : Below w5.heap.size w5 w6 := by rw [← hW]; exact below1 _ _
  have B6 := qH (B5.out.trans (hb.mono B5.out.size))
  have R6 := co R5 hb
  have D6 := qH (D5.out.below hb)
  have P6 := qH (P5.out.below hb)
  clear hb hW D5 P5
  obtain ⟨r0, r1, r2, r3, r4, r5, r6, r7, r8, xr⟩ := ly9f R6.out
  have KD := qH (bd0 w6)
  go_region_held3 (fun w' => ∀ b o, b < w6.heap.size → w'.cell? ⟨b, o, none⟩ = w6.cell? ⟨b, o, none⟩)
    (first | with_reducible exact (bcell KD.out).1 | with_reducible exact (bcell K7.out).1 | with_reducible exact (bcell K8.out).1)
    (first
      | (go_at_call 13; (refine (line_any _).mono ?_); rintro e w7 ⟨A7, P7, rfl, hd, hp, hb⟩; (have K7 := qH (Below.trans KD.out (Below.mono hb KD.out.size))); (have D7 := qH hd); (have P7' := qH hp); clear hb hd hp)
      | (go_at_call 12; (with_reducible refine (same_line (D6.out.below K7.out) (P6.out.below K7.out) D7.out P7'.out).mono ?_); rintro e w8 ⟨rfl, hb⟩; (have K8 := qH (Below.trans K7.out (Below.mono hb K7.out.size))); clear hb))
  rename_i hHeld
  clear hHeld
  have B8 := qH (B6.out.trans (K8.out.mono B6.out.size))
  clear r0 r1 r2 r3 r4 r5 r6 r7 r8 xr KD K7 K8 D7 P7' D6 P6
  have hsz : ((bt.size : Nat) : Int) = 32 := by rw [HS.out]; rfl
  go_wp2_with fail
  refine (line_any w8).mono ?_
  rintro e w9 ⟨A9, P9, rfl, hd, hp, hb⟩
  have B9 := qH (B8.out.trans (hb.mono B8.out.size))
  have D9 := qH hd
  have P9' := qH hp
  clear hd hp hb
  go_wp2_with fail
  refine (size_line D9.out P9'.out (t32_below HT.out B9.out)).mono ?_
  rintro e wA ⟨rfl, hb⟩
  have BA := qH (B9.out.trans (hb.mono B9.out.size))
  clear hb
  go_wp2
  go_ret
  exact ⟨rfl, BA.out⟩
theorem decode_str {d : ByteArray} {w : World} (hT : T32 w) (hl : d.size ≤ 9223372036854775807) :
    Calls Tryz.prog 10 #[.string d] w fun e w' => DecP (decT d.data.toList) e w' ∧ Below w.heap.size w w' := by
  have h := decode_any (l := d.data.toList) hT (by simpa using hl)
  have e : (⟨d.data.toList.toArray⟩ : ByteArray) = d := by apply ByteArray.ext; simp
  rw [e] at h; exact h
theorem right_sm {F O : Int} {a : Int × Int} {W Q D : Int} {zs : List PdZ} (h : rightT F O (nmOf a) W Q D (zs.map PdZ.to) = true) : (digs a.1.natAbs).length ≤ 400 ∧ (∀ p, p ∈ zs → SmZ p ∧ p.cs.length ≤ 1000000) ∧ zs.length ≤ 1000000 ∧ SmP (zs.map PdZ.to) := by
  obtain ⟨_, _, h2, _, _, h5, h6, h7⟩ := right_parts h
  have hk := okZ a zs
  have ra := rightA hk.1 h2
  have key : ∀ p, p ∈ zs → SmZ p ∧ p.cs.length ≤ 1000000 := fun p hp => by
    have hm : p.to ∈ zs.map PdZ.to := List.mem_map_of_mem hp
    have hb := rightL_all h7 _ hm
    obtain ⟨k1, k2, k3⟩ := hk.2 _ hm
    unfold pieceB at hb
    simp only [Bool.and_eq_true, List.all_eq_true, decide_eq_true_eq] at hb
    obtain ⟨_, hl, ⟨ha, her⟩, hcs, _⟩ := hb
    refine ⟨⟨Nat.le_trans (rightN k1 ha).2.2.1 (by omega), (rightN k2 her).2.2.1, fun q hq => ?_⟩, ?_⟩
    · have hm2 : nmOf q ∈ p.to.cs := List.mem_map_of_mem hq
      exact (rightN (k3 _ hm2) (hcs _ hm2)).2.2.1
    · have e : p.to.cs.length = p.cs.length := List.length_map _
      rw [e] at hl; omega
  refine ⟨ra.2.2.1, key, ?_, smz_of (fun p hp => (key p hp).1)⟩
  rw [List.length_map] at h6; omega
theorem enc_canon {F O : Int} {a : Nm} {W Q D : Int} {ps : List Pd} (h : outE (encO F O a W Q D ps) = 0) (hk : OkT a ps) : ∃ (q : Int × Int) (zs : List PdZ) (L : List UInt8), nmOf q = a ∧ zs.map PdZ.to = ps ∧ outB (encO F O a W Q D ps) = L ∧ 7 < L.length ∧ decT L = some ⟨F, O, Q, D, W, q, zs⟩ ∧ (∀ r, r ≠ [] → decT (L ++ r) = none) ∧ (∀ k, k < L.length → decT (L.take k) = none) ∧ rightT F O a W Q D ps = true ∧ L.take 7 = headB F O W Q D ps.length ∧ L.length ≤ 100000000 := by
  obtain ⟨hr, he, ee⟩ := enc_parts h
  obtain ⟨b1, b2⟩ := tOf_back hr hk he
  obtain ⟨ha, hp⟩ := wn_of hr hk he
  obtain ⟨_, _, h2, _, _, h5, h6, h7⟩ := right_parts hr
  have hL : outB (encO F O a W Q D ps) = (encS F O a W Q D ps).1 := by rw [ee]; unfold outB; rw [if_pos he]
  have hf := encS_fst hr hk he
  have h8 : (headB F O W Q D ps.length).length = 7 := rfl
  refine ⟨(nmv a, a.2.2), ps.map zOf, (encS F O a W Q D ps).1, b1, b2, hL, ?_, ?_, fun r h0 => dec_more hr hk he h0, fun k h0 => dec_cut hr hk he h0, hr, ?_, ?_⟩
  · rw [hf, List.length_append, List.length_append, h8]
    have := zb_pos (nmv a)
    unfold nbB; rw [List.length_append]; omega
  · exact dec_enc hr hk he
  · rw [hf, List.append_assoc, List.take_left' h8]
  · have h9 : (encS F O a W Q D ps).1.length ≤ 3000 + 40000 * ps.length := by
      have key : ∀ (l : List Pd) (s : List UInt8 × Int), (∀ p, p ∈ l → p ∈ ps) → (l.foldl stpP s).1.length ≤ s.1.length + 40000 * l.length := by
        intro l
        induction l with
        | nil => intro s _; simp
        | cons p l ih =>
          intro s hm
          have h10 := ih (stpP s p) (fun u hu => hm u (List.mem_cons_of_mem _ hu))
          have h11 := hp p (hm p (List.mem_cons_self ..))
          have h12 := stpP_len h5.2 h11.1 h11.2.1.1 (fun v hv => (h11.2.2 v hv).1) s
          rw [List.foldl_cons, List.length_cons]; omega
      have h13 := key ps (stp (headB F O W Q D ps.length, 0) a) (fun p h => h)
      have h14 := stp_len [a] (fun u hu => by rw [List.mem_singleton] at hu; subst hu; exact (rightA hk.1 h2).2) (headB F O W Q D ps.length, 0)
      simp only [List.foldl_cons, List.foldl_nil, List.length_singleton] at h14
      rw [h8] at h14
      unfold encS; omega
    omega
def endV (m x W : Int) : Int := (tot (nm (endz m x W)) (nx (endz m x W) (min x W))).2.2
noncomputable def drC : Nat → List UInt8 → Option (List (Int × Int) × List UInt8)
  | 0, l => some ([], l)
  | n + 1, l => (drC n l).bind fun s => (drN s.2).bind fun t => some (s.1 ++ [t.1], t.2)
noncomputable def drP (D : Int) (s : List PdZ × (Int × Int) × List UInt8) : Option (List PdZ × (Int × Int) × List UInt8) :=
  match s.2.2 with
  | [] => none
  | x :: r => (drN r).bind fun e => (drC (D + 1).toNat e.2).bind fun c => if endV s.2.1.1 s.2.1.2 ((x.toNat : Int) - 128) = 0 then some (s.1 ++ [⟨s.2.1, (x.toNat : Int) - 128, c.1, e.1⟩], endq s.2.1.1 s.2.1.2 ((x.toNat : Int) - 128), c.2) else none
noncomputable def drPs (D : Int) : Nat → List PdZ × (Int × Int) × List UInt8 → Option (List PdZ × (Int × Int) × List UInt8)
  | 0, s => some s
  | n + 1, s => (drPs D n s).bind (drP D)
noncomputable def drF (L : List UInt8) (T : TbZ) : Option TbZ := if outE T.enc = 0 ∧ outB T.enc = L then some T else none
noncomputable def drT (L : List UInt8) : Option TbZ :=
  match L with
  | t :: f :: o :: p :: d :: x :: n :: r => if t.toNat = 84 then (drN r).bind fun a => if (d.toNat : Int) ≤ 16 then (drPs d.toNat n.toNat ([], a.1, a.2)).bind fun s => drF L ⟨f.toNat, o.toNat, p.toNat, d.toNat, (x.toNat : Int) - 128, a.1, s.1⟩ else none else none
  | _ => none
theorem drN_nb {v : Nm} (h : Wn v) (r : List UInt8) : drN (nbB v ++ r) = some ((nmv v, v.2.2), r) := by
  have e := rdN_nb h r false
  obtain ⟨hk, hd, hl, hi⟩ := h
  have hc := canon hk hd
  have hv : digs (nmv v).natAbs = v.2.1 := by have := congrArg (fun z : Nm => z.2.1) hc.1; exact this
  unfold drN
  rw [if_pos ⟨(nmv v, v.2.2, r), rfl, by rw [hv]; exact hl, hc.2, hi⟩, e]
theorem drC_enc : ∀ (n : Nat) (cs : List Nm) (r : List UInt8), cs.length = n → (∀ v, v ∈ cs → Wn v) → drC n (encC cs ++ r) = some (cs.map fun v => (nmv v, v.2.2), r)
  | 0, cs, r, h, _ => by
    obtain rfl := List.length_eq_zero_iff.1 h
    simp [drC, encC]
  | n + 1, cs, r, h, hw => by
    obtain ⟨M, v, rfl, hM⟩ := snoc_of h
    have e : encC (M ++ [v]) ++ r = encC M ++ (nbB v ++ r) := by unfold encC; rw [List.flatMap_append]; simp
    rw [e]
    unfold drC
    rw [drC_enc n M _ hM (fun u hu => hw u (List.mem_append_left _ hu)), Option.bind_some]
    dsimp only
    rw [drN_nb (hw v (by simp)), Option.bind_some, List.map_append]
    rfl
theorem end_ok {m x W H : Int} (h : Bd (-64) H m x) (hH : 11 ≤ H) (hH2 : H + 1 ≤ 65536) (w0 : -30 ≤ W) (w1 : W ≤ 10) : endV m x W = 0 ∧ Bd (-64) (H + 1) (endq m x W).1 (endq m x W).2 := by
  have e1 : bl 1 = 1 := by decide +kernel
  have h1 : Bd (-64) H 1 W := ⟨.inr rfl, .inr ⟨by omega, by omega⟩⟩
  have hs := Bd.add h h1 (endz_is m x W)
  have hi := hs.inR (by omega) (by omega)
  unfold endV endq tot
  rw [if_pos hi]
  exact ⟨rfl, hs⟩
theorem drP_enc {D H : Int} {p : Pd} (hp : pieceB p D = true) (hw : Wp p) (d0 : 0 ≤ D) (hb : Bd (-64) H (nmv p.a) p.a.2.2) (hH : 11 ≤ H) (hH2 : H + 1 ≤ 65536) (zs : List PdZ) (r : List UInt8) : drP D (zs, (nmv p.a, p.a.2.2), encP p ++ r) = some (zs ++ [zOf p], endq (nmv p.a) p.a.2.2 p.w, r) := by
  unfold pieceB at hp
  simp only [Bool.and_eq_true, decide_eq_true_eq] at hp
  obtain ⟨⟨h0, h1⟩, hl, _⟩ := hp
  have e : encP p ++ r = by8 (p.w + 128) :: (nbB p.er ++ (encC p.cs ++ r)) := by unfold encP; simp
  have ex : ((by8 (p.w + 128)).toNat : Int) - 128 = p.w := by rw [by8_nat (by omega) (by omega)]; omega
  rw [e]
  unfold drP
  dsimp only
  rw [drN_nb hw.1, Option.bind_some]
  dsimp only
  rw [drC_enc (D + 1).toNat p.cs r (by omega) hw.2, Option.bind_some, ex, if_pos (end_ok hb hH hH2 h0 h1).1]
  rfl
theorem drPs_enc {D : Int} (d0 : 0 ≤ D) : ∀ (n : Nat) (ps : List Pd) (q q2 : Int × Int) (r : List UInt8) (H : Int), ps.length = n → (∀ p, p ∈ ps → Wp p) → rightL D ps q = some q2 → Bd (-64) H q.1 q.2 → 11 ≤ H → H + n ≤ 60000 → drPs D n ([], q, ps.flatMap encP ++ r) = some (ps.map zOf, q2, r) ∧ Bd (-64) (H + n) q2.1 q2.2
  | 0, ps, q, q2, r, H, h, _, hr, hb, h0, h1 => by
    obtain rfl := List.length_eq_zero_iff.1 h
    simp only [rightL, Option.some.injEq] at hr
    subst hr
    exact ⟨by simp [drPs], by simpa using hb⟩
  | n + 1, ps, q, q2, r, H, h, hw, hr, hb, h0, h1 => by
    obtain ⟨M, p, rfl, hM⟩ := snoc_of h
    rw [rightL_snoc] at hr
    cases hq : rightL D M q with
    | none => rw [hq] at hr; cases hr
    | some q3 =>
      rw [hq, Option.bind_some] at hr
      split at hr
      · rename_i hc
        rw [Bool.and_eq_true, decide_eq_true_eq] at hc
        have e : (M ++ [p]).flatMap encP ++ r = M.flatMap encP ++ (encP p ++ r) := by rw [List.flatMap_append]; simp
        have key := drPs_enc d0 n M q q3 (encP p ++ r) H hM (fun v hv => hw v (List.mem_append_left _ hv)) hq hb h0 (by omega)
        obtain ⟨q31, q32⟩ := q3
        obtain ⟨hc1, hc2, hc3⟩ := hc
        dsimp only at hc2 hc3 key
        subst hc2 hc3
        simp only [Option.some.injEq] at hr
        subst hr
        have hw2 : -30 ≤ p.w ∧ p.w ≤ 10 := by
          have := hc1; unfold pieceB at this; simp only [Bool.and_eq_true, decide_eq_true_eq] at this; exact this.1
        rw [e]
        refine ⟨?_, ?_⟩
        · unfold drPs
          rw [key.1, Option.bind_some, drP_enc hc1 (hw p (by simp)) d0 key.2 (by omega) (by omega), List.map_append]
          rfl
        · have := (end_ok key.2 (by omega) (by omega) hw2.1 hw2.2).2
          have e2 : H + ((n + 1 : Nat) : Int) = H + n + 1 := by omega
          rw [e2]; exact this
      · cases hr
theorem plain_bd {a : Nm} (hk : ok32 a.2.1) (h : plainB a.1 a.2.1 a.2.2 = true) : Bd (-64) 16 (nmv a) a.2.2 := by
  obtain ⟨s, xs, x⟩ := a
  unfold plainB at h
  simp only [Bool.and_eq_true, Bool.or_eq_true, decide_eq_true_eq] at h
  obtain ⟨hr, hx⟩ := h
  dsimp only at *
  obtain ⟨m, rfl, rfl, r1⟩ := num_of hk hr
  have hv : nmv (decide (m < 0), digs m.natAbs, x) = m := by unfold nmv; rw [val_digs]; exact sg_dzM m
  rw [hv]
  refine ⟨r1.1, ?_⟩
  rcases hx with hx | ⟨h0, h1⟩
  · exact .inl (by have := digs_nil.1 hx; omega)
  · rw [val_digs] at h1
    exact .inr ⟨h0, h1⟩
theorem dr_eq (L : List UInt8) : drT L = decT L := by
  cases hd : decT L with
  | none =>
    cases hr : drT L with
    | none => rfl
    | some T =>
      exfalso
      have key : outE T.enc = 0 ∧ outB T.enc = L := by
        unfold drT at hr
        split at hr
        · split at hr
          · obtain ⟨a, _, hr⟩ := Option.bind_eq_some_iff.1 hr
            split at hr
            · obtain ⟨s, _, hr⟩ := Option.bind_eq_some_iff.1 hr
              unfold drF at hr
              split at hr
              · rename_i hc
                obtain rfl := Option.some.inj hr
                exact hc
              · cases hr
            · cases hr
          · cases hr
        · cases hr
      obtain ⟨F, O, Q, D, W, a, ps⟩ := T
      obtain ⟨q, zs, L2, _, _, hL, _, hdec, _⟩ := enc_canon (F := F) (O := O) (W := W) (Q := Q) (D := D) key.1 (okZ a ps)
      have hL2 : L2 = L := hL.symm.trans key.2
      subst hL2
      rw [hd] at hdec; cases hdec
  | some T =>
    obtain ⟨h1, h2⟩ := dec_back hd
    obtain ⟨F, O, Q, D, W, a, ps⟩ := T
    have hk := okZ a ps
    obtain ⟨hr, he, ee⟩ := enc_parts (F := F) (O := O) (a := nmOf a) (W := W) (Q := Q) (D := D) (ps := ps.map PdZ.to) h1
    have h2' : (encS F O (nmOf a) W Q D (ps.map PdZ.to)).1 = L := by
      rw [← h2]; unfold TbZ.enc outB; dsimp only; rw [ee, if_pos he]
    have hde := dec_enc hr hk he
    rw [h2', hd] at hde
    have hT := Option.some.inj hde
    obtain ⟨ha, hp⟩ := wn_of hr hk he
    obtain ⟨b0, b1, b2, b3, b4, b5, b6, b7⟩ := right_parts hr
    have hb := plain_bd hk.1 b2
    have key := drPs_enc (D := D) (by omega) (ps.map PdZ.to).length (ps.map PdZ.to) (nmv (nmOf a), (nmOf a).2.2) _ [] 16 rfl (fun p h => (hp p h).2) b7 hb (by omega) (by have := b6.2; omega)
    rw [encS_fst hr hk he] at h2'
    have hL : L = by8 84 :: by8 F :: by8 O :: by8 Q :: by8 D :: by8 (W + 128) :: by8 ((ps.map PdZ.to).length : Int) :: (nbB (nmOf a) ++ (ps.map PdZ.to).flatMap encP) := by
      rw [← h2']; unfold headB; simp
    have n1 := by8_nat (n := F) (by omega) (by omega)
    have n2 := by8_nat (n := O) (by omega) (by omega)
    have n3 := by8_nat (n := Q) (by omega) (by omega)
    have n4 := by8_nat (n := D) (by omega) (by omega)
    have n5 := by8_nat (n := W + 128) (by omega) (by omega)
    have n6 := by8_nat (n := ((ps.map PdZ.to).length : Int)) (by omega) (by omega)
    have n6' : (by8 ((ps.map PdZ.to).length : Int)).toNat = (ps.map PdZ.to).length := by omega
    have fin : drF L (tOf F O (nmOf a) W Q D (ps.map PdZ.to)) = some ⟨F, O, Q, D, W, a, ps⟩ := by
      rw [← hT]; unfold drF; rw [if_pos ⟨h1, h2⟩]
    rw [hL] at fin ⊢
    unfold drT
    dsimp only
    rw [if_pos (show (by8 84).toNat = 84 by decide), drN_nb ha, Option.bind_some]
    dsimp only
    rw [n4, if_pos b5.2, n6']
    have key1 := key.1
    rw [List.append_nil] at key1
    rw [key1, Option.bind_some, n1, n2, n3, n5]
    have e3 : W + 128 - 128 = W := by omega
    rw [e3]
    exact fin
def PcB (N : Nat) (cs : List Value) : Prop := ∀ (i : Nat) (P : Option Addr) (m k : Nat), cs[i * 8 + 4]? = some (.slice P m k) → ∀ b o, P = some ⟨b, o, none⟩ → N ≤ b
theorem PcB.snoc {N n : Nat} {cs : List Value} {v0 v1 v2 v3 v5 v6 v7 : Value} {P : Option Addr} {m k : Nat} (h : PcB N cs) (hl : cs.length = n * 8) (hP : ∀ b o, P = some ⟨b, o, none⟩ → N ≤ b) : PcB N (cs ++ [v0, v1, v2, v3, .slice P m k, v5, v6, v7]) := by
  intro i P2 m2 k2 hc b o hb
  rcases Nat.lt_trichotomy i n with hi | hi | hi
  · rw [List.getElem?_append_left (by omega)] at hc
    exact h i P2 m2 k2 hc b o hb
  · subst hi
    rw [List.getElem?_append_right (by omega), show i * 8 + 4 - cs.length = 4 by omega] at hc
    obtain ⟨rfl, _, _⟩ : P = P2 ∧ m = m2 ∧ k = k2 := by simpa using hc
    exact hP b o hb
  · rw [List.getElem?_eq_none (by simp; omega)] at hc; cases hc
def PwN (w : World) (N : Nat) (v : Value) (ps : List PdZ) : Prop := NoInt w v ∧ ∃ cs, w.ownsRow N 49 8 v ps.length cs ∧ PcOf w cs ps ∧ PcB N cs
theorem PwN.pw {w : World} {N : Nat} {v : Value} {ps : List PdZ} (h : PwN w N v ps) : Pw w N v ps := by
  obtain ⟨a, cs, b, c, _⟩ := h; exact ⟨a, cs, b, c⟩
theorem pwN_nil (w : World) (N : Nat) : PwN w N (.slice none 0 0) [] := ⟨fun g _ _ _ h => by simp [Value.ownBlock] at h, [], World.ownsRow_nil _ _ _ _, ⟨rfl, fun u hu => by simp at hu, fun i z hz => by simp at hz⟩, fun i P m k h => by simp at h⟩
theorem NrL.grow {w w' : World} {P : Option Addr} {k : Nat} {L : List (Int × Int)} (h : NrL w P k L) (hs : ∀ b cur fr, P = some ⟨b, 0, none⟩ → w.heap[b]? = some (.cells cur 26 fr) → w'.heap[b]? = w.heap[b]?) (hk : Kept w w') : NrL w' P k L := by
  refine ⟨h.1, fun h0 => ?_⟩
  obtain ⟨b, cur, fr2, rfl, hr, hc⟩ := h.2 h0
  have hr' := (hs b cur fr2 rfl hr).trans hr
  have ce : ∀ o, w'.cell? ⟨b, o, none⟩ = w.cell? ⟨b, o, none⟩ := fun o => World.cell?_of_block (a := ⟨b, o, none⟩) (hr'.trans hr.symm)
  refine ⟨b, cur, fr2, rfl, hr', fun i z hz => ?_⟩
  obtain ⟨A, c, c0, c1, c2, hd⟩ := hc i z hz
  exact ⟨A, c, (ce _).trans c0, (ce _).trans c1, (ce _).trans c2, hd.kept hk⟩
theorem PwN.grow {w w' : World} {N g : Nat} {v : Value} {ps : List PdZ} (h : PwN w N v ps) (hg : w.grownBy w' (some g)) (hk : Kept w w') (ho : ∀ k, v.ownBlock = some k → k ≠ g) (hr : g < N ∨ ∃ xs T fr, w.heap[g]? = some (.cells xs T fr) ∧ T ≠ 26) : PwN w' N v ps := by
  obtain ⟨hn, cs, hown, hcs, hpb⟩ := h
  have hv : ∀ q, v.ownBlock = some q → w'.heap[q]? = w.heap[q]? := fun q hq => hg.block q (hown.lt q hq).2 (fun e => ho q hq (by injection e))
  refine ⟨fun q cur T2 fr2 hq hh => hn q cur T2 fr2 hq ((hv q hq).symm.trans hh), cs, ⟨hown.1, ?_⟩, ⟨hcs.1, hcs.2.1, fun i p hp => ?_⟩, hpb⟩
  · rcases hown.2 with h1 | ⟨q, cap, cur, rfl, hb, hq, hr2⟩
    · exact .inl h1
    · exact .inr ⟨q, cap, cur, rfl, hb, (hv q rfl).trans hq, hr2⟩
  · obtain ⟨A, c, P, k, B, d, h0, h1, h2, h3, h4, h5, h6, h7, ha, hn2, hb⟩ := hcs.2.2 i p hp
    refine ⟨A, c, P, k, B, d, h0, h1, h2, h3, h4, h5, h6, h7, ha.kept hk, hn2.grow (fun b cur fr e hh => hg.block b (heap_lt hh) (fun e2 => ?_)) hk, hb.kept hk⟩
    have e3 : b = g := by injection e2
    subst e3
    rcases hr with hr | ⟨xs, T, fr2, hx, hT⟩
    · have := hpb i P _ k h4 b 0 e; omega
    · rw [hx] at hh; injection hh with hh; injection hh with _ e4 _; exact hT e4
theorem PwN.below {w w' : World} {N g : Nat} {v : Value} {ps : List PdZ} (h : PwN w N v ps) (hb : Below w.heap.size w w') : PwN w' N v ps := by
  obtain ⟨hn, cs, hown, hcs, hpb⟩ := h
  have hv : ∀ q, v.ownBlock = some q → w'.heap[q]? = w.heap[q]? := fun q hq => hb.block q (hown.lt q hq).2
  refine ⟨fun q cur T2 fr2 hq hh => hn q cur T2 fr2 hq ((hv q hq).symm.trans hh), cs, own_laterI hown hb, ⟨hcs.1, hcs.2.1, fun i p hp => ?_⟩, hpb⟩
  obtain ⟨A, c, P, k, B, d, h0, h1, h2, h3, h4, h5, h6, h7, ha, hn2, hb2⟩ := hcs.2.2 i p hp
  exact ⟨A, c, P, k, B, d, h0, h1, h2, h3, h4, h5, h6, h7, ha.below hb, hn2.grow (fun b cur fr _ hh => hb.block b (heap_lt hh)) (Kept.below hb), hb2.below hb⟩
theorem PwN.own {w : World} {N : Nat} {v : Value} {ps : List PdZ} (h : PwN w N v ps) {k : Nat} (hk : v.ownBlock = some k) : N ≤ k ∧ k < w.heap.size := by
  obtain ⟨_, cs, hown, _⟩ := h; exact hown.lt k hk
theorem Dw.grown {w w' : World} {B g : Nat} {v : Value} {L : List (Int × Int)} (h : Dw w B v L) (hg : w.grownBy w' (some g)) (hk : Kept w w') (hB : g < B) : Dw w' B v L := by
  obtain ⟨hn, cs, hown, hcs⟩ := h
  have hv : ∀ q, v.ownBlock = some q → w'.heap[q]? = w.heap[q]? := fun q hq => hg.block q (hown.lt q hq).2 (fun e => by have := (hown.lt q hq).1; injection e with e; omega)
  refine ⟨fun q cur T2 fr2 hq hh => hn q cur T2 fr2 hq ((hv q hq).symm.trans hh), cs, ⟨hown.1, ?_⟩, hcs.kept hk⟩
  rcases hown.2 with h1 | ⟨q, cap, cur, rfl, hb, hq, hr2⟩
  · exact .inl h1
  · exact .inr ⟨q, cap, cur, rfl, hb, (hv q rfl).trans hq, hr2⟩
theorem Dw.own {w : World} {B : Nat} {v : Value} {L : List (Int × Int)} (h : Dw w B v L) {k : Nat} (hk : v.ownBlock = some k) : B ≤ k ∧ k < w.heap.size := by
  obtain ⟨_, cs, hown, _⟩ := h; exact hown.lt k hk
theorem Dw.at {w : World} {B : Nat} {A : Option Addr} {n c b o : Nat} {L : List (Int × Int)} (h : Dw w B (.slice A n c) L) (hA : A = some ⟨b, o, none⟩) : B ≤ b := (h.own (k := b) (by rw [hA]; rfl)).1
theorem grow_step {W a b : World} {g : Nat} (h : W.grownBy a (some g)) (hos : b.os = a.os ∧ b.tape = a.tape ∧ b.output = a.output) (hs : a.heap.size ≤ b.heap.size) (hb : ∀ k, k < W.heap.size → k ≠ g → b.heap[k]? = a.heap[k]?) : W.grownBy b (some g) :=
  ⟨hos.1.trans h.os, hos.2.1.trans h.tape, hos.2.2.trans h.output, Nat.le_trans h.size hs, fun k hk hr => (hb k hk (fun e => hr (by rw [e]))).trans (h.block k hk hr)⟩
theorem grow_step_below {W a b : World} {g : Nat} (h : W.grownBy a (some g)) (hb : Below a.heap.size a b) : W.grownBy b (some g) := grow_step h ⟨hb.os, hb.tape, hb.output⟩ hb.size (fun k hk _ => hb.block k (Nat.lt_of_lt_of_le hk h.size))
theorem grow_step_own {W a b : World} {g : Nat} {v : Value} (h : W.grownBy a (some g)) (hb : a.grownBy b v.ownBlock) (hv : ∀ k, v.ownBlock = some k → W.heap.size ≤ k) : W.grownBy b (some g) := grow_step h ⟨hb.os, hb.tape, hb.output⟩ hb.size (fun k hk _ => hb.block k (Nat.lt_of_lt_of_le hk h.size) (fun e => by have := hv k e.symm; omega))
theorem grow_base {W0 W a : World} {N g : Nat} (h0 : Below N W0 W) (h : W.grownBy a (some g)) (hN : N ≤ W.heap.size) (hg : N ≤ g) : Below N W0 a :=
  ⟨h.os.trans h0.os, h.tape.trans h0.tape, h.output.trans h0.output, Nat.le_trans h0.size h.size, fun k hk => (h.block k (by omega) (fun e => by injection e with e; omega)).trans (h0.block k hk)⟩
theorem r16enc_z {A P : Option Addr} {c k : Nat} {F O W Q D : Int} {a : Int × Int} {ps : List PdZ} {w : World} (h : Dg w A c (digs a.1.natAbs)) (hl : (digs a.1.natAbs).length ≤ 10000) (hps : PsL w P (ps.map PdZ.to)) (hsm : SmP (ps.map PdZ.to)) :
    ∃ t : ByteArray, t.data.toList = outB (TbZ.enc ⟨F, O, Q, D, W, a, ps⟩) ∧ Calls Tryz.prog 8 #[.agg #[.int .i64 F, .int .i64 O, .bool (decide (a.1 < 0)), .slice A (digs a.1.natAbs).length c, .int .i64 a.2, .int .i64 W, .int .i64 Q, .int .i64 D, .slice P ps.length k]] w fun e w' => e = .returned (.tuple #[.string t, .bool (outE (TbZ.enc ⟨F, O, Q, D, W, a, ps⟩) == 0)]) ∧ Below w.heap.size w w' := by
  refine ⟨⟨(outB (TbZ.enc ⟨F, O, Q, D, W, a, ps⟩)).toArray⟩, rfl, ?_⟩
  have hn : ps.length = (ps.map PdZ.to).length := by rw [List.length_map]
  rw [hn]
  unfold TbZ.enc
  dsimp only
  obtain ⟨E, hE⟩ : ∃ z, encO F O (nmOf a) W Q D (ps.map PdZ.to) = z := ⟨_, rfl⟩
  rw [hE]
  unfold encO at hE
  cases hq : rightT F O (nmOf a) W Q D (ps.map PdZ.to)
  · rw [hq] at hE
    obtain rfl : ([], 1) = E := hE
    exact r16encode_no A P c k _ F O W Q D _ _ _ (ps.map PdZ.to) w h hl hps hsm rfl hq
  · rw [hq, if_pos rfl] at hE
    subst hE
    refine (r16encode_go A P c k _ F O W Q D _ _ _ (ps.map PdZ.to) w h hl hps hsm rfl hq).mono ?_
    rintro e w' ⟨⟨t2, rfl, h2⟩, hb⟩
    have e1 : t2 = ⟨(outB (encS F O (nmOf a) W Q D (ps.map PdZ.to))).toArray⟩ := by apply ByteArray.ext; apply Array.toList_inj.1; exact h2
    refine ⟨?_, hb⟩
    have e2 : ((encS F O (nmOf a) W Q D (ps.map PdZ.to)).2 == 0) = (outE (encS F O (nmOf a) W Q D (ps.map PdZ.to)) == 0) := by
      unfold outE
      by_cases hz : (encS F O (nmOf a) W Q D (ps.map PdZ.to)).2 = 0
      · rw [if_pos hz, hz]
      · rw [if_neg hz]; simp [hz]
    rw [← e2, e1]
    rfl
theorem wp_append_pcN {w : World} {o : Oper} {a : Act} {K : Act → World → Prop} {Q : Exit → Act → World → Prop} (s x : Operand)
    (ho : o.op = .call { callee := .builtin .append, args := #[s, x], argTypes := #[27, 27] }) (N g0 : Nat) (v : Value) (ps : List PdZ) (p : PdZ) (q : Nat) (T' : TypeId) (n cA k d : Nat) (A P B : Option Addr)
    (hs : a.eval s = v) (hD : PwN w N v ps) (hPB : ∀ b o, P = some ⟨b, o, none⟩ → N ≤ b) (hrow : w.heap[q]? = some (.cells #[.bool (decide (p.a.1 < 0)), .slice A (digs p.a.1.natAbs).length cA, .int .i64 p.a.2, .int .i64 p.w, .slice P p.cs.length k, .bool (decide (p.er.1 < 0)), .slice B (digs p.er.1.natAbs).length d, .int .i64 p.er.2] T' (0, 0))) (ha : Dg w A cA (digs p.a.1.natAbs)) (hn : NrL w P k p.cs) (hb : Dg w B d (digs p.er.1.natAbs)) (hx : a.eval x = .slice (some ⟨q, 0, none⟩) 1 n) (hbd : ps.length + 1 ≤ 1000000) (hbase : N ≤ w.heap.size) {xs : Array Value} {T : TypeId} {fr : Nat × Nat} (hT : w.heap[g0]? = some (.cells xs T fr)) (hne : T ≠ 26)
    (h : ∀ g cap w', PwN w' N (.slice (some ⟨g, 0, none⟩) (ps.length + 1) cap) (ps ++ [p]) → w.grownBy w' v.ownBlock → Gz N g0 w w' → K (a.put o.dst (.slice (some ⟨g, 0, none⟩) (ps.length + 1) cap)) w') : o.wp Tryz.prog a w K Q := by
  obtain ⟨hno, cs, hown, hcs, hpb⟩ := hD
  obtain ⟨i0, hi, hz0, hz1, hz2⟩ := pc_info
  have hnews : ∀ j u, ([.bool (decide (p.a.1 < 0)), .slice A (digs p.a.1.natAbs).length cA, .int .i64 p.a.2, .int .i64 p.w, .slice P p.cs.length k, .bool (decide (p.er.1 < 0)), .slice B (digs p.er.1.natAbs).length d, .int .i64 p.er.2] : List Value)[j]? = some u → w.cell? ((⟨q, 0, none⟩ : Addr).add j) = some u := fun j u hj => by
    rw [Addr.add_lit, Nat.zero_add]
    exact row_c hrow (by simpa using hj)
  have hone : ∀ u ∈ ([.bool (decide (p.a.1 < 0)), .slice A (digs p.a.1.natAbs).length cA, .int .i64 p.a.2, .int .i64 p.w, .slice P p.cs.length k, .bool (decide (p.er.1 < 0)), .slice B (digs p.er.1.natAbs).length d, .int .i64 p.er.2] : List Value), u.oneCell' = true := by intro u hu; simp at hu; rcases hu with rfl | rfl | rfl | rfl | rfl | rfl | rfl | rfl <;> rfl
  have hnn : ∀ u ∈ ([.bool (decide (p.a.1 < 0)), .slice A (digs p.a.1.natAbs).length cA, .int .i64 p.a.2, .int .i64 p.w, .slice P p.cs.length k, .bool (decide (p.er.1 < 0)), .slice B (digs p.er.1.natAbs).length d, .int .i64 p.er.2] : List Value), ∀ n : Int, u ≠ .int .u32 n := by intro u hu n e; subst e; simp at hu
  obtain ⟨g, cap, w', hr, h2, h3, h4, h5⟩ := run_append_lies (P := Tryz.prog) w 27 o.type N 49 i0 zpc 8 112 Tryz.underlying27 hi hz0 hz1 hz2 rfl (by decide) v ps.length cs hown ⟨q, 0, none⟩ 1 n [.bool (decide (p.a.1 < 0)), .slice A (digs p.a.1.natAbs).length cA, .int .i64 p.a.2, .int .i64 p.w, .slice P p.cs.length k, .bool (decide (p.er.1 < 0)), .slice B (digs p.er.1.natAbs).length d, .int .i64 p.er.2] rfl hnews hone (by decide) (by unfold maxLen; omega) (by omega) hbase w.heap.size rfl
  have hk := kept_of_grown hown hno h3
  have hno2 := run_append_no (P := Tryz.prog) w N 27 o.type 49 i0 112 Tryz.underlying27 hi zpc 8 hz0 hz1 (fun _ _ => zero_no8) hz2 v ps.length cs hown hno hcs.2.1 ⟨q, 0, none⟩ n _ rfl hnews hone hnn (by unfold maxLen; omega) (by omega) _ _ hr
  have hgz : Gz N g0 w w' := ⟨hk, ⟨h3.os, h3.tape, h3.output⟩, fun i hi2 _ hb => h3.block i hi2 (fun e => by
    have h6 := hown.lt i e.symm
    rcases hown.2 with ⟨rfl, _⟩ | ⟨q2, cap2, cur2, rfl, _, hh, _⟩
    · cases e
    · have e2 : i = q2 := by simpa [Value.ownBlock] using e
      subst e2
      rcases hb with hb | hb
      · omega
      · exact hb _ _ hh)⟩
  unfold Oper.wp execOp
  simp only [ho, resolve, invoke, builtin, Sem.run_bind, Sem.run_pure, Result.andThen_ok, List.map_toArray, List.map_cons, List.map_nil, hs, hx, hr]
  exact h g cap w' ⟨hno2, _, by rw [List.length_append]; exact h2, (hcs.gz hgz hT hne).snoc (ha.kept hk) (hn.gz hgz hT hne) (hb.kept hk), hpb.snoc hcs.1 hPB⟩ h3 hgz
end Go.Proofs.YtdmfapgclppmhaaGreatDoor
end
