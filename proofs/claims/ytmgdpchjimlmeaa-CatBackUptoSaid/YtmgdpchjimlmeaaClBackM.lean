/-
  CatBack.
-/
import Derived.Test.YtmgdpchjimlmeaaVbM
import Derived.Test.YtmgdpchjimlmeaaCaM
import Derived.Test.YtmgdpchjimlmeaaCjM
import Derived.Test.YtmgdpchjimlmeaaEb
namespace Go.Proofs.Ytmgdpchjimlmeaa
open Go.RowKit
set_option linter.unusedSimpArgs false
set_option linter.unusedVariables false
set_option maxHeartbeats 8000000 in
set_option maxRecDepth 100000 in
theorem catBack_no (next : Int) (A : Option Addr) (c : Nat) (vs : List (Int × Int)) (s : List UInt8) (w : World) (h : Cat.Vs w A c vs) (hs : s.length ≤ 1048576) (hr : Cat.rightB next (vs.take 15) = false) :
    Calls Try.prog 3 #[.agg #[.int .i64 next, .slice A vs.length c], .string ⟨s.toArray⟩] w fun e w' => e = .returned (.bool true) ∧ Below w.heap.size w w' := by
  obtain ⟨N5, L5, de, hds, hl5, hdec⟩ := Cat.dec_prog s hs
  have HDS := Lib.hid hds
  have HL5 := Lib.hid hl5
  have DS := Lib.hid hdec
  have H := Lib.hid h
  obtain ⟨zs, hz⟩ : ∃ zs, vs.take 15 = zs := ⟨_, rfl⟩
  have FW := Lib.hid (fun V (hV : Cat.Vs V A c vs) => Cat.few_any next A c vs V hV)
  have lz : zs.length ≤ 15 := by rw [← hz, List.length_take]; omega
  rw [hz] at FW hr
  have HR := Lib.hid hr
  have LZ := Lib.hid lz
  obtain ⟨st, hst⟩ : ∃ st : ByteArray, (⟨s.toArray⟩ : ByteArray) = st := ⟨_, rfl⟩
  rw [hst] at DS
  rw [hst]
  have HST := Lib.hid hst
  clear h hz hr lz hs hds hl5 hdec hst
  go_enter Try.func3, Try.ntmps3
  go_wp2_with fail
  refine (Cat.examples_any _).mono ?_
  rintro e w1 ⟨rfl, hb⟩
  have K1 := Lib.hid (bon (bda w (.cells #[.int .i64 next, .slice A vs.length c] 24)) hb)
  have R1 := Lib.hid (row_on (heap_alloc_new w (.cells #[.int .i64 next, .slice A vs.length c] 24)) hb)
  clear hb
  have f0 := row_c R1.out (i := 0) rfl
  have f1 := row_c R1.out (i := 1) rfl
  go_wp2_with fail
  refine (FW.out _ (H.out.below K1.out)).mono ?_
  rintro e w2 ⟨A2, c2, rfl, hv, hb, hf⟩
  have r2 := row_on R1.out hb
  have q0 := row_c r2 (i := 0) rfl
  have q1 := row_c r2 (i := 1) rfl
  have z0 := frozen_of_row _ _ 0 _ _ r2
  have z1 := frozen_of_row _ _ 1 _ _ r2
  obtain ⟨w3, hw3⟩ : ∃ W : World, W = (w2.setCell ⟨w.heap.size, 0, none⟩ (.int .i64 next)).setCell ⟨w.heap.size, 1, none⟩ (.slice A2 zs.length c2) := ⟨_, rfl⟩
  have HW := Lib.hid hw3
  have s1 : w.heap.size < w1.heap.size := heap_lt R1.out
  have V3 := Lib.hid (show Cat.Vs w3 A2 c2 zs by rw [hw3]; exact (hv.set hf s1 _ _).set hf s1 _ _)
  have K3 := Lib.hid (show Below w.heap.size w w3 by rw [hw3]; exact ((bon K1.out hb).setCell (Nat.le_refl _) _).setCell (Nat.le_refl _) _)
  have R3 := Lib.hid (show w3.heap[w.heap.size]? = some (.cells #[.int .i64 next, .slice A2 zs.length c2] 24 (0, 0)) by
    rw [hw3]
    have e1 := heap_setCell_same w2 w.heap.size 0 _ _ (.int .i64 next) r2
    exact heap_setCell_same _ w.heap.size 1 _ _ (.slice A2 zs.length c2) e1)
  clear hb hv hf f0 f1 r2 hw3
  go_upto_region 5 with (fail)
  rw [← HW.out]
  clear q0 q1 z0 z1 HW
  have NEW := Lib.hid (show Calls Try.prog 6 #[.int .i64 20] w3 fun e w' => ∃ g gs, e = .returned (.tuple #[.pointer (some ⟨g, 0, none⟩), .int .i64 0]) ∧ Dk w'.heap.size w' g gs (.slice none 0 0) (List.replicate 20 z64) [] ∧ Below w3.heap.size w3 w' ∧ w3.heap.size ≤ g ∧ w3.heap.size ≤ gs from new_any 20 (by omega) (by omega) w3)
  go_wp2_with fail
  refine NEW.out.mono ?_
  rintro e w4 ⟨g, gs, rfl, hd1, hb1, hg, hgs⟩
  have Q4 := Lib.hid hb1
  have HGG := Lib.hid (And.intro hg hgs)
  obtain ⟨S0, hS0⟩ : ∃ S0, List.replicate 20 z64 = S0 := ⟨_, rfl⟩
  have SL0 := Lib.hid (show S0.length = 20 by rw [← hS0]; simp)
  rw [hS0] at hd1
  have FY := Lib.hid (format_yes w4 hd1 (by rw [SL0.out]; omega) (by simp))
  clear hd1 hb1 NEW hg hgs hS0
  go_wp2_with fail
  refine FY.out.mono ?_
  rintro e w5 ⟨p, bm, rfl, hp, hpb, hu, hd, hc⟩
  obtain ⟨S1, hS1⟩ : ∃ S1, flush S0 ([] ++ hdW 1 0 (nU [])) = S1 := ⟨_, rfl⟩
  have SL := Lib.hid (show S1.length = 20 by rw [← hS1, flush_len, SL0.out])
  rw [hS1] at hd
  have Q5 := Lib.hid (hc.below Q4.out Q4.out.size HGG.out.1 HGG.out.2)
  have PP := Lib.hid (Nat.le_trans Q4.out.size hp)
  have P5 := Lib.hid (show Pg w4.heap.size w5.heap.size p g gs bm 2 1 0 (nU []) [] S1 [] (.slice none 0 0) w5 from ⟨hpb, hu, World.ownsRow_nil _ _ _ _, ⟨_, hd⟩, Nat.le_refl _⟩)
  clear hS1 hp hpb hu hd hc FY
  have f0 : w5.cell? ⟨w.heap.size, 0, none⟩ = some (.int .i64 next) := row_c (row_on R3.out Q5.out) (i := 0) rfl
  have f1 : w5.cell? ⟨w.heap.size, 1, none⟩ = some (.slice A2 zs.length c2) := row_c (row_on R3.out Q5.out) (i := 1) rfl
  have EN := Lib.hid (Cat.encode_no next A2 c2 zs w5 (V3.out.below Q5.out) (by have := LZ.out; omega) HR.out)
  go_wp2_with fail
  refine EN.out.mono ?_
  rintro e w6 ⟨rfl, hb⟩
  have K6 := Lib.hid (K3.out.trans ((Q5.out.trans (hb.mono Q5.out.size)).mono K3.out.size))
  clear hb EN f0 f1
  rcases HDS.out with ⟨rfl, hr5, he5⟩ | ⟨rfl, rfl, rfl⟩
  · have HE5 := Lib.hid (show (⟨(Cat.encL N5 L5).toArray⟩ : ByteArray) = st by rw [he5]; exact HST.out)
    have HR5 := Lib.hid hr5
    clear hr5 he5
    go_wp2_with fail
    refine (DS.out w6).mono ?_
    rintro e wa ⟨A5, c5, rfl, hv5, hba⟩
    have Ka := Lib.hid (K6.out.trans (hba.mono K6.out.size))
    have V5 := Lib.hid (hv5.below (bda wa (.cells #[.int .i64 N5, .slice A5 L5.length c5] 24)))
    have EN5 := Lib.hid (Cat.encode_yes N5 A5 c5 L5 _ V5.out HR5.out)
    rw [HE5.out] at EN5
    clear hv5 hba
    go_wp2_with fail
    refine EN5.out.mono ?_
    rintro e wb ⟨rfl, hbb⟩
    have Kb := Lib.hid ((Ka.out.alloc Ka.out.size (.cells #[.int .i64 N5, .slice A5 L5.length c5] 24)).trans (hbb.mono (by have := Ka.out.size; simp; omega)))
    have rb := row_on (heap_alloc_new wa (.cells #[.int .i64 N5, .slice A5 L5.length c5] 24)) hbb
    have g0 := row_c rb (i := 0) rfl
    have g1 := row_c rb (i := 1) rfl
    have RG := Lib.hid (Cat.right_any N5 A5 c5 L5 wb (V5.out.below hbb) (by have := HL5.out; omega))
    rw [HR5.out] at RG
    clear hbb rb
    go_wp2_with fail
    refine RG.out.mono ?_
    rintro e wc ⟨rfl, hbc⟩
    have Kc := Lib.hid (Kb.out.trans (hbc.mono Kb.out.size))
    clear hbc g0 g1
    go_wp2
    go_ret
    exact ⟨rfl, Kc.out⟩
  · go_wp2_with fail
    refine (DS.out w6).mono ?_
    rintro e wa ⟨A5, c5, rfl, hv5, hba⟩
    have Ka := Lib.hid (K6.out.trans (hba.mono K6.out.size))
    have EN5 := Lib.hid (Cat.encode_no 0 A5 c5 [] _ (hv5.below (bda wa (.cells #[.int .i64 0, .slice A5 ([] : List (Int × Int)).length c5] 24))) (by simp) (by decide))
    simp only [List.length_nil] at EN5
    clear hv5 hba
    go_wp2_with fail
    refine EN5.out.mono ?_
    rintro e wb ⟨rfl, hbb⟩
    have Kb := Lib.hid ((Ka.out.alloc Ka.out.size (.cells #[.int .i64 0, .slice A5 0 c5] 24)).trans (hbb.mono (by have := Ka.out.size; simp; omega)))
    clear hbb
    go_wp2
    go_ret
    exact ⟨rfl, Kb.out⟩
set_option maxHeartbeats 8000000 in
set_option maxRecDepth 100000 in
theorem catBack_yes (next : Int) (A : Option Addr) (c : Nat) (vs : List (Int × Int)) (s : List UInt8) (w : World) (h : Cat.Vs w A c vs) (hs : s.length ≤ 1048576) (hr : Cat.rightB next (vs.take 15) = true) :
    Calls Try.prog 3 #[.agg #[.int .i64 next, .slice A vs.length c], .string ⟨s.toArray⟩] w fun e w' => e = .returned (.bool true) ∧ Below w.heap.size w w' := by
  obtain ⟨N5, L5, de, hds, hl5, hdec⟩ := Cat.dec_prog s hs
  have HDS := Lib.hid hds
  have HL5 := Lib.hid hl5
  have DS := Lib.hid hdec
  have H := Lib.hid h
  obtain ⟨zs, hz⟩ : ∃ zs, vs.take 15 = zs := ⟨_, rfl⟩
  have FW := Lib.hid (fun V (hV : Cat.Vs V A c vs) => Cat.few_any next A c vs V hV)
  have lz : zs.length ≤ 15 := by rw [← hz, List.length_take]; omega
  rw [hz] at FW hr
  have HR := Lib.hid hr
  have LZ := Lib.hid lz
  obtain ⟨st, hst⟩ : ∃ st : ByteArray, (⟨s.toArray⟩ : ByteArray) = st := ⟨_, rfl⟩
  rw [hst] at DS
  rw [hst]
  have HST := Lib.hid hst
  clear h hz hr lz hs hds hl5 hdec hst
  go_enter Try.func3, Try.ntmps3
  go_wp2_with fail
  refine (Cat.examples_any _).mono ?_
  rintro e w1 ⟨rfl, hb⟩
  have K1 := Lib.hid (bon (bda w (.cells #[.int .i64 next, .slice A vs.length c] 24)) hb)
  have R1 := Lib.hid (row_on (heap_alloc_new w (.cells #[.int .i64 next, .slice A vs.length c] 24)) hb)
  clear hb
  have f0 := row_c R1.out (i := 0) rfl
  have f1 := row_c R1.out (i := 1) rfl
  go_wp2_with fail
  refine (FW.out _ (H.out.below K1.out)).mono ?_
  rintro e w2 ⟨A2, c2, rfl, hv, hb, hf⟩
  have r2 := row_on R1.out hb
  have q0 := row_c r2 (i := 0) rfl
  have q1 := row_c r2 (i := 1) rfl
  have z0 := frozen_of_row _ _ 0 _ _ r2
  have z1 := frozen_of_row _ _ 1 _ _ r2
  obtain ⟨w3, hw3⟩ : ∃ W : World, W = (w2.setCell ⟨w.heap.size, 0, none⟩ (.int .i64 next)).setCell ⟨w.heap.size, 1, none⟩ (.slice A2 zs.length c2) := ⟨_, rfl⟩
  have HW := Lib.hid hw3
  have s1 : w.heap.size < w1.heap.size := heap_lt R1.out
  have V3 := Lib.hid (show Cat.Vs w3 A2 c2 zs by rw [hw3]; exact (hv.set hf s1 _ _).set hf s1 _ _)
  have K3 := Lib.hid (show Below w.heap.size w w3 by rw [hw3]; exact ((bon K1.out hb).setCell (Nat.le_refl _) _).setCell (Nat.le_refl _) _)
  have R3 := Lib.hid (show w3.heap[w.heap.size]? = some (.cells #[.int .i64 next, .slice A2 zs.length c2] 24 (0, 0)) by
    rw [hw3]
    have e1 := heap_setCell_same w2 w.heap.size 0 _ _ (.int .i64 next) r2
    exact heap_setCell_same _ w.heap.size 1 _ _ (.slice A2 zs.length c2) e1)
  clear hb hv hf f0 f1 r2 hw3
  go_upto_region 5 with (fail)
  rw [← HW.out]
  clear q0 q1 z0 z1 HW
  have NEW := Lib.hid (show Calls Try.prog 6 #[.int .i64 20] w3 fun e w' => ∃ g gs, e = .returned (.tuple #[.pointer (some ⟨g, 0, none⟩), .int .i64 0]) ∧ Dk w'.heap.size w' g gs (.slice none 0 0) (List.replicate 20 z64) [] ∧ Below w3.heap.size w3 w' ∧ w3.heap.size ≤ g ∧ w3.heap.size ≤ gs from new_any 20 (by omega) (by omega) w3)
  go_wp2_with fail
  refine NEW.out.mono ?_
  rintro e w4 ⟨g, gs, rfl, hd1, hb1, hg, hgs⟩
  have Q4 := Lib.hid hb1
  have HGG := Lib.hid (And.intro hg hgs)
  obtain ⟨S0, hS0⟩ : ∃ S0, List.replicate 20 z64 = S0 := ⟨_, rfl⟩
  have SL0 := Lib.hid (show S0.length = 20 by rw [← hS0]; simp)
  rw [hS0] at hd1
  have FY := Lib.hid (format_yes w4 hd1 (by rw [SL0.out]; omega) (by simp))
  clear hd1 hb1 NEW hg hgs hS0
  go_wp2_with fail
  refine FY.out.mono ?_
  rintro e w5 ⟨p, bm, rfl, hp, hpb, hu, hd, hc⟩
  obtain ⟨S1, hS1⟩ : ∃ S1, flush S0 ([] ++ hdW 1 0 (nU [])) = S1 := ⟨_, rfl⟩
  have SL := Lib.hid (show S1.length = 20 by rw [← hS1, flush_len, SL0.out])
  rw [hS1] at hd
  have Q5 := Lib.hid (hc.below Q4.out Q4.out.size HGG.out.1 HGG.out.2)
  have PP := Lib.hid (Nat.le_trans Q4.out.size hp)
  have P5 := Lib.hid (show Pg w4.heap.size w5.heap.size p g gs bm 2 1 0 (nU []) [] S1 [] (.slice none 0 0) w5 from ⟨hpb, hu, World.ownsRow_nil _ _ _ _, ⟨_, hd⟩, Nat.le_refl _⟩)
  clear hS1 hp hpb hu hd hc FY
  have f0 : w5.cell? ⟨w.heap.size, 0, none⟩ = some (.int .i64 next) := row_c (row_on R3.out Q5.out) (i := 0) rfl
  have f1 : w5.cell? ⟨w.heap.size, 1, none⟩ = some (.slice A2 zs.length c2) := row_c (row_on R3.out Q5.out) (i := 1) rfl
  have EN := Lib.hid (Cat.encode_yes next A2 c2 zs w5 (V3.out.below Q5.out) HR.out)
  obtain ⟨l, hl⟩ : ∃ l, Cat.encL next zs = l := ⟨_, rfl⟩
  obtain ⟨sl, hsl⟩ : ∃ sl : ByteArray, (⟨l.toArray⟩ : ByteArray) = sl := ⟨_, rfl⟩
  have DO := Lib.hid (fun V => Cat.dec_own HR.out V)
  have LL := Lib.hid (show l.length ≤ 76 by have := (Cat.right_all HR.out).2.2.1; rw [← hl, Cat.enc_len]; omega)
  rw [hl] at DO
  have DOL := Lib.hid (fun V => DO.out V)
  rw [hl, hsl] at EN
  rw [hsl] at DO
  have HLE := Lib.hid hl
  clear hl hsl
  go_wp2_with fail
  refine EN.out.mono ?_
  rintro e w6 ⟨rfl, hb6⟩
  have Q6 := Lib.hid (Q5.out.trans (hb6.mono Q5.out.size))
  have P6 := Lib.hid (P5.out.below hb6)
  clear hb6 EN f0 f1
  go_wp2_with fail
  refine (DO.out w6).mono ?_
  rintro e w7 ⟨A7, c7, rfl, hv7, hb7⟩
  have Q7 := Lib.hid (Q6.out.trans (hb7.mono Q6.out.size))
  have P7 := Lib.hid (P6.out.below hb7)
  have V7 := Lib.hid hv7
  clear hv7 hb7 DO
  have rBW8 := heap_alloc_new w7 (.cells #[.int .i64 next, .slice A7 zs.length c7] 24)
  obtain ⟨W8, hW8⟩ : ∃ W : World, w7.alloc (.cells #[.int .i64 next, .slice A7 zs.length c7] 24) = W := ⟨_, rfl⟩
  have bW8 : Below w7.heap.size w7 W8 := by rw [← hW8]; exact bda _ _
  have QW8 := Lib.hid (Q7.out.trans (bW8.mono Q7.out.size))
  have PW8 := Lib.hid (P7.out.below bW8)
  have VB := Lib.hid (V7.out.below bW8)
  have V2 := Lib.hid (V3.out.below QW8.out)
  rw [hW8] at rBW8
  have r2 := row_on R3.out QW8.out
  have sB := heap_lt rBW8
  have s2 := heap_lt r2
  have f0 : W8.cell? ⟨w.heap.size, 0, none⟩ = some (.int .i64 next) := row_c r2 (i := 0) rfl
  have f1 : W8.cell? ⟨w.heap.size, 1, none⟩ = some (.slice A2 zs.length c2) := row_c r2 (i := 1) rfl
  have g0 : W8.cell? ⟨w7.heap.size, 0, none⟩ = some (.int .i64 next) := row_c rBW8 (i := 0) rfl
  have g1 : W8.cell? ⟨w7.heap.size, 1, none⟩ = some (.slice A7 zs.length c7) := row_c rBW8 (i := 1) rfl
  have F0 := Lib.hid (And.intro f0 (And.intro f1 (And.intro g0 g1)))
  have SF := Lib.hid (fun (x : World) (K : Below W8.heap.size W8 x) => show x.cell? ⟨w.heap.size, 0, none⟩ = some (.int .i64 next) ∧ x.cell? ⟨w.heap.size, 1, none⟩ = some (.slice A2 zs.length c2) ∧ x.cell? ⟨w7.heap.size, 0, none⟩ = some (.int .i64 next) ∧ x.cell? ⟨w7.heap.size, 1, none⟩ = some (.slice A7 zs.length c7) from And.intro ((K.cell (p := ⟨w.heap.size, 0, none⟩) s2).trans F0.out.1) (And.intro ((K.cell (p := ⟨w.heap.size, 1, none⟩) s2).trans F0.out.2.1) (And.intro ((K.cell (p := ⟨w7.heap.size, 0, none⟩) sB).trans F0.out.2.2.1) ((K.cell (p := ⟨w7.heap.size, 1, none⟩) sB).trans F0.out.2.2.2))))
  have KF := Lib.hid (fun (x : World) (K : Below W8.drew.heap.size W8.drew x) => show Below W8.heap.size W8 x from (show Below W8.heap.size W8 W8.drew from (Below.refl _ _).drew).trans K)
  have RF := Lib.hid (fun V (hV : Below W8.heap.size W8 V) => Cat.ref_any next A2 c2 zs V (V2.out.below hV) (by have := LZ.out; omega))
  have LS := Lib.hid (fun A4 c4 V (hV : Below W8.heap.size W8 V) (h1 : Cat.Vs V A4 c4 zs) => Cat.lists_any next A7 A4 c7 c4 zs V (VB.out.below hV) h1 (by have := LZ.out; omega))
  have KD := Lib.hid (below_drew (Below.refl W8.heap.size W8))
  clear r2 rBW8 bW8
  go_upto_region 14 with fail
  try rw [hW8]
  clear hW8
  go_region_held3 (fun w' => w'.cell? ⟨w.heap.size, 0, none⟩ = some (.int .i64 next) ∧ w'.cell? ⟨w.heap.size, 1, none⟩ = some (.slice A2 zs.length c2) ∧ w'.cell? ⟨w7.heap.size, 0, none⟩ = some (.int .i64 next) ∧ w'.cell? ⟨w7.heap.size, 1, none⟩ = some (.slice A7 zs.length c7))
    (first | with_reducible exact S5.out | with_reducible exact S4.out | go_keep)
    ((first
      | (go_at_call 11; (with_reducible refine (RF.out _ KD.out).mono ?_); rintro e w4x ⟨A4, c4, rfl, hv, hb, hf⟩; (have K4 := Lib.hid (KF.out _ hb)); (have S4 := Lib.hid (SF.out _ K4.out)); (have V4 := Lib.hid hv); clear hv hb hf)
      | (go_at_call 10; (with_reducible refine (LS.out _ _ _ K4.out V4.out).mono ?_); rintro e w5x ⟨rfl, hb⟩; (have K5 := Lib.hid (bon K4.out hb)); (have S5 := Lib.hid (SF.out _ K5.out)); clear hb)))
  rename_i hHeld
  clear hHeld
  have Q9 := Lib.hid (QW8.out.trans (K5.out.mono QW8.out.size))
  have P9 := Lib.hid (PW8.out.below K5.out)
  have V9 := Lib.hid (V3.out.below Q9.out)
  have r9 := row_on R3.out Q9.out
  clear f0 f1 g0 g1 F0 SF KF RF LS KD V2 VB S4 S5 K4 V4 K5 sB s2 QW8 PW8
  have f0 : w5x.cell? ⟨w.heap.size, 0, none⟩ = some (.int .i64 next) := row_c r9 (i := 0) rfl
  have f1 : w5x.cell? ⟨w.heap.size, 1, none⟩ = some (.slice A2 zs.length c2) := row_c r9 (i := 1) rfl
  have ll := LL.out
  have SV := Lib.hid (save_pg 10 1 next A2 c2 zs w5x P9.out V9.out HR.out (by rw [SL.out]) (by rw [HLE.out]; unfold nd; omega) (by simp) (by simp))
  have hals : als (nU []) 10 [] 1 = [2] := by decide
  rw [HLE.out, hals] at SV
  clear r9 ll hals
  go_wp2_with fail
  refine SV.out.mono ?_
  rintro e w10 ⟨f10, hc10, ⟨_, rfl, hp10⟩ | ⟨h2, _⟩⟩
  case inr => simp at h2
  have P10 := Lib.hid (show Pg w4.heap.size w5.heap.size p g gs bm 2 (1 : Nat) 0 (nU []) [2] S1 (wrs [2] l 1) f10 w10 from hp10)
  have Q10 := Lib.hid (hc10.below Q9.out Q9.out.size Q4.out.size PP.out HGG.out.1 HGG.out.2 (fun k e => by cases e))
  have CH := Lib.hid (show Chn S1 (wrs [2] l 1) 10 (chs [2] l) from chn_new (C := []) (A := [2]) (K := 1) (l := l) (by have := LL.out; unfold nd; omega) (by omega) (by decide) rfl (fun x hx => by simp at hx; omega))
  have CM := Lib.hid (show Calls Try.prog 13 #[.pointer (some ⟨p, 0, none⟩), .int .i64 2] w10 fun e w' => ∃ b2 S2, e = .returned (.int .i64 0) ∧ Pg w4.heap.size w5.heap.size p g gs b2 (2 + [2].length + 2) ((1 + 1 : Nat) : Int) (2 : Nat) (fun i => nU [2] i || nU [] i) [] S2 [] (.slice none 0 0) w' ∧ S2.length = S1.length ∧ (∀ i, 4 ≤ i → rd S2 [] i = rd S1 (wrs [2] l 1) i) ∧ Cp w4.heap.size p g gs w10 w' from commit_pg 1 2 w10 P10.out (by rw [SL.out]; omega) (by rw [wrs_len]; omega) (by simp) (fun x hx => by simp at hx; omega) (by omega) (by omega) (by omega) (by decide))
  have e2 : ((([2] : List Nat)[0]?).getD 0) = 2 := rfl
  clear hc10 hp10 SV f0 f1
  rw [e2]
  go_wp2_with fail
  refine CM.out.mono ?_
  rintro e w11 ⟨b2, S2, rfl, hp11, hsl, hrd, hc11⟩
  have P11 := Lib.hid hp11
  have Q11 := Lib.hid (hc11.below Q10.out Q4.out.size PP.out HGG.out.1 HGG.out.2)
  have LD := Lib.hid (load_pg 10 (chs [2] l) w11 P11.out (by omega) (by simp) (by rw [hsl, SL.out]) (CH.out.later hrd) rfl l (by have := pieces_drop [2] l 0 (by have := LL.out; simp; omega) (by omega); simpa using this) (by have := LL.out; omega) next 0 zs DOL.out)
  clear hp11 hsl hrd hc11 CM e2
  go_wp2_with fail
  refine LD.out.mono ?_
  rintro e w12 ⟨A12, c12, rfl, hv12, hb12⟩
  have Q12 := Lib.hid (Q11.out.trans (hb12.mono Q11.out.size))
  have P12 := Lib.hid (P11.out.below hb12)
  have V12 := Lib.hid hv12
  clear hv12 hb12 LD
  have rBW13 := heap_alloc_new w12 (.cells #[.int .i64 next, .slice A12 zs.length c12] 24)
  obtain ⟨W13, hW13⟩ : ∃ W : World, w12.alloc (.cells #[.int .i64 next, .slice A12 zs.length c12] 24) = W := ⟨_, rfl⟩
  have bW13 : Below w12.heap.size w12 W13 := by rw [← hW13]; exact bda _ _
  have QW13 := Lib.hid (Q12.out.trans (bW13.mono Q12.out.size))
  have PW13 := Lib.hid (P12.out.below bW13)
  have VB := Lib.hid (V12.out.below bW13)
  have V2 := Lib.hid (V3.out.below QW13.out)
  rw [hW13] at rBW13
  have r2 := row_on R3.out QW13.out
  have sB := heap_lt rBW13
  have s2 := heap_lt r2
  have f0 : W13.cell? ⟨w.heap.size, 0, none⟩ = some (.int .i64 next) := row_c r2 (i := 0) rfl
  have f1 : W13.cell? ⟨w.heap.size, 1, none⟩ = some (.slice A2 zs.length c2) := row_c r2 (i := 1) rfl
  have g0 : W13.cell? ⟨w12.heap.size, 0, none⟩ = some (.int .i64 next) := row_c rBW13 (i := 0) rfl
  have g1 : W13.cell? ⟨w12.heap.size, 1, none⟩ = some (.slice A12 zs.length c12) := row_c rBW13 (i := 1) rfl
  have F0 := Lib.hid (And.intro f0 (And.intro f1 (And.intro g0 g1)))
  have SF := Lib.hid (fun (x : World) (K : Below W13.heap.size W13 x) => show x.cell? ⟨w.heap.size, 0, none⟩ = some (.int .i64 next) ∧ x.cell? ⟨w.heap.size, 1, none⟩ = some (.slice A2 zs.length c2) ∧ x.cell? ⟨w12.heap.size, 0, none⟩ = some (.int .i64 next) ∧ x.cell? ⟨w12.heap.size, 1, none⟩ = some (.slice A12 zs.length c12) from And.intro ((K.cell (p := ⟨w.heap.size, 0, none⟩) s2).trans F0.out.1) (And.intro ((K.cell (p := ⟨w.heap.size, 1, none⟩) s2).trans F0.out.2.1) (And.intro ((K.cell (p := ⟨w12.heap.size, 0, none⟩) sB).trans F0.out.2.2.1) ((K.cell (p := ⟨w12.heap.size, 1, none⟩) sB).trans F0.out.2.2.2))))
  have KF := Lib.hid (fun (x : World) (K : Below W13.drew.heap.size W13.drew x) => show Below W13.heap.size W13 x from (show Below W13.heap.size W13 W13.drew from (Below.refl _ _).drew).trans K)
  have RF := Lib.hid (fun V (hV : Below W13.heap.size W13 V) => Cat.ref_any next A2 c2 zs V (V2.out.below hV) (by have := LZ.out; omega))
  have LS := Lib.hid (fun A4 c4 V (hV : Below W13.heap.size W13 V) (h1 : Cat.Vs V A4 c4 zs) => Cat.lists_any next A12 A4 c12 c4 zs V (VB.out.below hV) h1 (by have := LZ.out; omega))
  have KD := Lib.hid (below_drew (Below.refl W13.heap.size W13))
  clear r2 rBW13 bW13
  go_upto_region 18 with fail
  try rw [hW13]
  clear hW13
  go_region_held3 (fun w' => w'.cell? ⟨w.heap.size, 0, none⟩ = some (.int .i64 next) ∧ w'.cell? ⟨w.heap.size, 1, none⟩ = some (.slice A2 zs.length c2) ∧ w'.cell? ⟨w12.heap.size, 0, none⟩ = some (.int .i64 next) ∧ w'.cell? ⟨w12.heap.size, 1, none⟩ = some (.slice A12 zs.length c12))
    (first | with_reducible exact S5.out | with_reducible exact S4.out | go_keep)
    ((first
      | (go_at_call 11; (with_reducible refine (RF.out _ KD.out).mono ?_); rintro e w4x ⟨A4, c4, rfl, hv, hb, hf⟩; (have K4 := Lib.hid (KF.out _ hb)); (have S4 := Lib.hid (SF.out _ K4.out)); (have V4 := Lib.hid hv); clear hv hb hf)
      | (go_at_call 10; (with_reducible refine (LS.out _ _ _ K4.out V4.out).mono ?_); rintro e w5x ⟨rfl, hb⟩; (have K5 := Lib.hid (bon K4.out hb)); (have S5 := Lib.hid (SF.out _ K5.out)); clear hb)))
  rename_i hHeld
  clear hHeld
  have K14 := Lib.hid (K3.out.trans ((QW13.out.trans (K5.out.mono QW13.out.size)).mono K3.out.size))
  clear f0 f1 g0 g1 F0 SF KF RF LS KD V2 VB S4 S5 K4 V4 K5 sB s2 QW13 PW13
  rcases HDS.out with ⟨rfl, hr5, he5⟩ | ⟨rfl, rfl, rfl⟩
  · have HE5 := Lib.hid (show (⟨(Cat.encL N5 L5).toArray⟩ : ByteArray) = st by rw [he5]; exact HST.out)
    have HR5 := Lib.hid hr5
    clear hr5 he5
    go_wp2_with fail
    refine (DS.out w5x).mono ?_
    rintro e wa ⟨A5, c5, rfl, hv5, hba⟩
    have Ka := Lib.hid (K14.out.trans (hba.mono K14.out.size))
    have V5 := Lib.hid (hv5.below (bda wa (.cells #[.int .i64 N5, .slice A5 L5.length c5] 24)))
    have EN5 := Lib.hid (Cat.encode_yes N5 A5 c5 L5 _ V5.out HR5.out)
    rw [HE5.out] at EN5
    clear hv5 hba
    go_wp2_with fail
    refine EN5.out.mono ?_
    rintro e wb ⟨rfl, hbb⟩
    have Kb := Lib.hid ((Ka.out.alloc Ka.out.size (.cells #[.int .i64 N5, .slice A5 L5.length c5] 24)).trans (hbb.mono (by have := Ka.out.size; simp; omega)))
    have rb := row_on (heap_alloc_new wa (.cells #[.int .i64 N5, .slice A5 L5.length c5] 24)) hbb
    have g0 := row_c rb (i := 0) rfl
    have g1 := row_c rb (i := 1) rfl
    have RG := Lib.hid (Cat.right_any N5 A5 c5 L5 wb (V5.out.below hbb) (by have := HL5.out; omega))
    rw [HR5.out] at RG
    clear hbb rb
    go_wp2_with fail
    refine RG.out.mono ?_
    rintro e wc ⟨rfl, hbc⟩
    have Kc := Lib.hid (Kb.out.trans (hbc.mono Kb.out.size))
    clear hbc g0 g1
    go_wp2
    go_ret
    exact ⟨rfl, Kc.out⟩
  · go_wp2_with fail
    refine (DS.out w5x).mono ?_
    rintro e wa ⟨A5, c5, rfl, hv5, hba⟩
    have Ka := Lib.hid (K14.out.trans (hba.mono K14.out.size))
    have EN5 := Lib.hid (Cat.encode_no 0 A5 c5 [] _ (hv5.below (bda wa (.cells #[.int .i64 0, .slice A5 ([] : List (Int × Int)).length c5] 24))) (by simp) (by decide))
    simp only [List.length_nil] at EN5
    clear hv5 hba
    go_wp2_with fail
    refine EN5.out.mono ?_
    rintro e wb ⟨rfl, hbb⟩
    have Kb := Lib.hid ((Ka.out.alloc Ka.out.size (.cells #[.int .i64 0, .slice A5 0 c5] 24)).trans (hbb.mono (by have := Ka.out.size; simp; omega)))
    clear hbb
    go_wp2
    go_ret
    exact ⟨rfl, Kb.out⟩
theorem catBack_any (next : Int) (A : Option Addr) (c : Nat) (vs : List (Int × Int)) (s : List UInt8) (w : World) (h : Cat.Vs w A c vs) (hs : s.length ≤ 1048576) :
    Calls Try.prog 3 #[.agg #[.int .i64 next, .slice A vs.length c], .string ⟨s.toArray⟩] w fun e w' => e = .returned (.bool true) ∧ Below w.heap.size w w' := by
  cases hr : Cat.rightB next (vs.take 15)
  · exact catBack_no next A c vs s w h hs hr
  · exact catBack_yes next A c vs s w h hs hr
end Go.Proofs.Ytmgdpchjimlmeaa
