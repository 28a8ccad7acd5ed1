/-
  TabcReads, for every argument: the law returns true, and the argument reads behind the call as it read ahead of it. The tied card.
-/
import Derived.Test.YtdmfapgclppmhaaGreatDoorMB10
import Derived.Test.YtdmfapgclppmhaaGreatDoorMB9
import Derived.Test.YtdmfapgclppmhaaGreatDoorMB5
import Derived.Test.YtdmfapgclppmhaaGreatDoorTie
import Derived.Test.YtdmfapgclppmhaaGreatDoorCards
import Derived.SevenTiedAt
import Derived.OpenShut
import Derived.ChangeMaps5
import Derived.SizedLaws
set_option maxHeartbeats 16000000
set_option maxRecDepth 100000
section
namespace Go.Proofs.YtdmfapgclppmhaaGreatDoor
open Go.RowKit
set_option linter.unusedSimpArgs false
set_option linter.unusedVariables false
theorem reads_law (b : ByteArray) (w : World) (hT : T32 w) (hb : b.size ≤ 140737488355328) :
    Calls Tryz.prog 4 #[.string b] w fun e w' => e = .returned (.bool true) ∧ Below w.heap.size w w' := by
  have HT := Lib.hid hT
  obtain ⟨n, hn⟩ : ∃ n : Nat, min b.size 6000 = n := ⟨_, rfl⟩
  have u1 : min (b.size : Int) 6000 = (n : Int) := by omega
  have k0 : (0 : Int) ≤ (n : Int) := by omega
  have k1 : (n : Int) ≤ (b.size : Int) := by omega
  have kn := Lib.hid (show n ≤ 6000 by omega)
  clear hn hT hb
  go_enter Tryz.func4, Tryz.ntmps4
  go_wp2_with fail
  refine (examples_any w HT.out).mono ?_
  rintro e v2 ⟨rfl, hb⟩
  have B2 := Lib.hid hb
  clear hb
  go_wp2_with fail
  obtain ⟨b1, hb1⟩ : ∃ z : ByteArray, b.extract 0 n = z := ⟨_, rfl⟩
  have HB1 := Lib.hid (show b1.size ≤ 6000 by rw [← hb1, ByteArray.size_extract]; have := kn.out; omega)
  rw [hb1]
  clear hb1 u1 k0 k1
  obtain ⟨F, O, W, Q, D, a, zs, cd, ok, hP, hR, hda, hzs, hzl, hcd⟩ := dec_form b1.data.toList
  have HP := Lib.hid hP
  have HR := Lib.hid hR
  have HS := Lib.hid (And.intro hda (And.intro hzs hzl))
  have HCD := Lib.hid hcd
  clear hP hR hda hzs hzl hcd
  refine (decode_str (d := b1) (t32_below HT.out B2.out) (by have := HB1.out; omega)).mono ?_
  rintro e v3 ⟨hd, hb⟩
  obtain ⟨A1, c1, P1, k1, rfl, d1, p1⟩ := HP.out _ _ hd
  have B3 := bt B2 hb
  have D3 := Lib.hid d1
  have P3 := Lib.hid p1
  clear hd hb d1 p1
  go_wp2_with (refine wpList_store_box rfl 29 _ _ rfl v3.heap.size rfl #[.int .i64 F, .int .i64 O, .bool (decide (a.1 < 0)), .slice A1 (digs a.1.natAbs).length c1, .int .i64 a.2, .int .i64 W, .int .i64 Q, .int .i64 D, .slice P1 zs.length k1] rfl #[.int .i64 0, .int .i64 0, .bool false, .slice none 0 0, .int .i64 0, .int .i64 0, .int .i64 0, .int .i64 0, .slice none 0 0] 29 (heap_alloc_new _ _) tab_size rfl tab_one ?_)
  intro v4 hO hR
  have BN := (hO.below (below1 v3 _) (Nat.le_refl _))
  have B4 := Lib.hid (B3.out.trans (BN.mono B3.out.size))
  have D4 := Lib.hid (D3.out.below BN)
  have P4 := Lib.hid (P3.out.below BN)
  have S4 := Lib.hid hR
  clear hO hR BN D3 P3
  go_wp2_with fail
  have HRD := r16decode_any (L := b1.data.toList) (by have := HB1.out; simpa using (by omega : b1.size ≤ 1000000)) v4
  have eb : (⟨b1.data.toList.toArray⟩ : ByteArray) = b1 := by apply ByteArray.ext; simp
  rw [eb] at HRD
  refine HRD.mono ?_
  rintro e v5 ⟨hd, hb⟩
  obtain ⟨A2, c2, P2, k2, rfl, d2, p2⟩ := HR.out _ _ hd
  have B5 := bt B4 hb
  have D5 := Lib.hid (D4.out.below hb)
  have P5 := Lib.hid (P4.out.below hb)
  have S5 := co S4 hb
  have E5 := Lib.hid d2
  have Q5 := Lib.hid p2
  clear hd hb d2 p2 eb HRD
  go_wp2_with (refine wpList_store_box rfl 29 _ _ rfl v5.heap.size rfl #[.int .i64 F, .int .i64 O, .bool (decide (a.1 < 0)), .slice A2 (digs a.1.natAbs).length c2, .int .i64 a.2, .int .i64 W, .int .i64 Q, .int .i64 D, .slice P2 zs.length k2] rfl #[.int .i64 0, .int .i64 0, .bool false, .slice none 0 0, .int .i64 0, .int .i64 0, .int .i64 0, .int .i64 0, .slice none 0 0] 29 (heap_alloc_new _ _) tab_size rfl tab_one ?_)
  intro v6 hO hR
  have BN := (hO.below (below1 v5 _) (Nat.le_refl _))
  have B6 := Lib.hid (B5.out.trans (BN.mono B5.out.size))
  have D6 := Lib.hid (D5.out.below BN)
  have P6 := Lib.hid (P5.out.below BN)
  have S6 := Lib.hid (cells_of S5.out BN)
  have E6 := Lib.hid (E5.out.below BN)
  have Q6 := Lib.hid (Q5.out.below BN)
  have U6 := Lib.hid hR
  clear hO hR BN D5 P5 E5 Q5
  go_wp2_with (first | (refine wpList_load_box rfl 29 _ rfl v3.heap.size rfl #[.int .i64 F, .int .i64 O, .bool (decide (a.1 < 0)), .slice A1 (digs a.1.natAbs).length c1, .int .i64 a.2, .int .i64 W, .int .i64 Q, .int .i64 D, .slice P1 zs.length k1] _ S6.out _ Tryz.underlying29 rfl tab_size ?_) | (refine wpList_load_box rfl 29 _ rfl v5.heap.size rfl #[.int .i64 F, .int .i64 O, .bool (decide (a.1 < 0)), .slice A2 (digs a.1.natAbs).length c2, .int .i64 a.2, .int .i64 W, .int .i64 Q, .int .i64 D, .slice P2 zs.length k2] _ U6.out _ Tryz.underlying29 rfl tab_size ?_))
  refine (tsame_any (a := a) (zs := zs) D6.out P6.out E6.out Q6.out HS.out.1 HS.out.2.1 HS.out.2.2).mono ?_
  rintro e v7 ⟨rfl, hb⟩
  have B7 := bt B6 hb
  clear hb
  rcases HCD.out with ⟨rfl, rfl⟩ | ⟨rfl, rfl⟩
  · go_wp2_with fail
    exact bodyPost_ret (v := .bool true) (by simp [results, Tryz.results4, go_sem]) rfl ⟨rfl, B7.out⟩
  · go_wp2_with fail
    exact bodyPost_ret (v := .bool true) (by simp [results, Tryz.results4, go_sem]) rfl ⟨rfl, B7.out⟩
end Go.Proofs.YtdmfapgclppmhaaGreatDoor
end

section
namespace Go.Proofs.YtdmfapgclppmhaaGreatDoor
open Go.RowKit Go.WideShapes Go.ChangeShapes Go.ChangeAt Go.Deep
set_option linter.unusedVariables false
set_option maxRecDepth 100000
instance : Inhabited Pd := ⟨⟨(false, [], 0), 0, [], (false, [], 0)⟩⟩
end Go.Proofs.YtdmfapgclppmhaaGreatDoor
end

section
namespace Go.Proofs.YtdmfapgclppmhaaGreatDoor.tabcReads
open Go Go.ChangeShapes Go.WideShapes Go.ChangeAt Go.RowKit
set_option linter.unusedVariables false
/-- The door's own heap meets the condition. -/
theorem door_met (os : Os) (args : Array Value) : laidMetH Tryz.prog Rows.tabcReadsRow.laid ((World.doorLaid Tryz.prog 400 os).forCall (fun _ _ => 0) ⟨#[], args, []⟩).memory :=
  laidMetH_of_parts3 (fuel := 8) (laidMet_of_run' 8 (by kernel_rfl) (by kernel_rfl)) (by kernel_rfl) (by kernel_rfl)
theorem lifted (os : Os) (started : os.Started) (H : Type) (enc : TypeId × Value → H) :
    ReturnsInHanded {} Tryz.checked os 4 .any (fun w args => (Rows.tabcReadsSpec.pre enc Tryz.prog Tryz.f4 [] false w args ∧ laidMetH Tryz.prog Rows.tabcReadsRow.laid w) ∧ sizedMet enc Tryz.prog Tryz.f4 (OpenSpec.ofChange Rows.tabcReadsSpec) false w args)
      (Rows.tabcReadsSpec.post enc Tryz.prog Tryz.f4 false true false false) := by
  refine returnsInHanded_of_change_and (C := Tryz.checked) (X := fun w _ => laidMetH Tryz.prog Rows.tabcReadsRow.laid w) (fun _ _ _ hh h => h.of_heap hh) own started (by kernel_rfl) Tryz.func4
    (ChangeSpec.witness_shaped (enc := enc) (C := Tryz.checked) (os := os) (X := fun w _ => laidMetH Tryz.prog Rows.tabcReadsRow.laid w) false (World.doorLaid Tryz.prog 400 os) #[.string ⟨#[]⟩] 8 rfl (World.shaped_of_RefB (by kernel_rfl) (by kernel_rfl)) (by kernel_rfl) (by kernel_rfl) (by kernel_rfl) (door_met os _)) ?_
  intro W base args ds gs before hval0 hW _ hsz hL _
  rw [MakeChecks.laidMetH_plain _ _ _ (by kernel_rfl)] at hL
  have htab := t32_laid hL
  clear hL
  have hval : ∀ (j : Nat) t v, Tryz.f4.params[j]? = some t → args[j]? = some v → Value.okWide Tryz.prog W .any base t v := hval0
  have hW' := hW
  obtain ⟨p, q, hA0, hV, rfl, hfz, hnd⟩ := hW
  have hA : DataW.TrodAll enc Tryz.prog W 0 (fun _ => true) true Tryz.f4.params.toList args.toList ds p := hA0
  rw [Tryz.params4] at hA hval
  obtain ⟨v0, vs0, d0, ds0, p0, q0, hargs, rfl, rfl, h0, r0⟩ := trodAll_cons hA
  obtain ⟨rfl, rfl, rfl⟩ := trodAll_nil r0
  obtain rfl : args = #[v0] := by cases args; simp_all
  obtain ⟨rfl, rfl⟩ := trodVars_none hV
  obtain ⟨b0, rfl, e0, e0', l0⟩ := Go.ChangeMaps.open_string Tryz.underlying9 (hval 0 _ _ rfl rfl) h0
  have q0 : b0.data.toList.length ≤ reachBytes := by
    subst e0
    exact sized_string (j := 0) (t := 9) hsz rfl rfl
  clear hA0
  simp only [List.append_nil] at hW'
  refine (reads_law b0 W htab (by have := q0; unfold reachBytes at this; simp at this; omega)).mono fun e W' ⟨he, hb⟩ => ?_
  subst he
  have hlt := hW'.lt
  refine ⟨_, rfl, law_post (tb := 4) hW' hb rfl rfl Tryz.underlying4 rfl rfl fun sp hsp => ?_⟩
  have hr := trodAll_cons_mk (again (by kernel_rfl) (of_decide_eq_true (by kernel_rfl)) h0 hb (fun x hx => hlt x (by simp [hx])) sp (fun x hx => hsp x (by simp [hx]))) trodAll_mk0
  simp only [List.append_nil] at hr
  exact hr
theorem row_holds : Rows.TabcReadsSaid :=
  OpenClaim.holds_of_wide 4 Tryz.f4 rfl rfl rfl rfl rfl rfl rfl ⟨rfl, rfl, rfl, rfl, rfl⟩ rfl rfl rfl rfl rfl (by kernel_rfl) Tryz.func4 (by kernel_rfl)
    (of_decide_eq_true (by kernel_rfl)) (by unfold Func.isWrapper; first | (rw [if_pos (by decide +kernel)]; kernel_rfl) | (rw [if_neg (by decide +kernel)]; exact ⟨rfl, rfl⟩))
    (fun os started H enc _ => lifted os started H enc)
/-- THE TIED CARD. -/
theorem proved : Rows.TabcReadsCardSaid :=
  Claim7.holds_tied_plain_at .later [] [.data] true (true, "68282fad96624ad96969af55ccf78b163f7a08f81c9667c60e4b25741e10877e") false
    row_holds (fun _ h => by cases h) (by kernel_rfl) (fun _ h => by cases h) tabcReads_row_tie rfl ⟨rfl, rfl⟩ (by kernel_rfl) rfl
    (fun f fn hf hfn => by
      obtain rfl : f = 4 := Option.some.inj ((show Tryz.prog.funcNamed Rows.tabcReadsRow.func = some 4 by kernel_rfl).symm.trans hf) |>.symm
      obtain rfl : fn = Tryz.f4 := (Option.some.inj (Tryz.func4.symm.trans hfn)).symm
      exact ⟨by kernel_rfl, fun j t ht => by
        have hall : (Tryz.f4.params.toList.all fun u => !Tryz.prog.wantsStandIn u) = true := by kernel_rfl
        exact (show Tryz.prog.wantsStandIn t = false by simpa using List.all_eq_true.1 hall t (Array.mem_toList_iff.2 (Array.mem_of_getElem? ht)))⟩)
    (by kernel_rfl)
end Go.Proofs.YtdmfapgclppmhaaGreatDoor.tabcReads
end

