/-
  slices.Concat of two.
-/
import Derived.Test.YtlfjopjfolbmiaaCd
namespace Go.Proofs.Ytlfjopjfolbmiaa
open Go.RowKit
set_option maxHeartbeats 4000000 in
set_option maxRecDepth 100000 in
theorem concat_any (A1 A2 : Option Addr) (c1 c2 : Nat) (us vs : List (Int × Int)) (g : Nat) (w : World) (h1 : Vs w A1 c1 us) (h2 : Vs w A2 c2 vs)
    (g0 : w.cell? ⟨g, 0, none⟩ = some (.slice A1 us.length c1)) (g1 : w.cell? ⟨g, 1, none⟩ = some (.slice A2 vs.length c2)) (l1 : us.length ≤ 1000) (l2 : vs.length ≤ 1000) :
    Calls Try.prog 32 #[.slice (some ⟨g, 0, none⟩) 2 2] w fun e w' => ∃ A c, e = .returned (.slice A (us ++ vs).length c) ∧ Vs w' A c (us ++ vs) ∧ Below w.heap.size w w' ∧ Fr w.heap.size A := by
  have G0 := Lib.hid g0
  have G1 := Lib.hid g1
  have H1 := Lib.hid h1
  have H2 := Lib.hid h2
  have HG := Lib.hid (World.block_lt_of_cell? w _ g0)
  clear h1 h2
  go_enter Try.func32, Try.ntmps32
  go_wp2
  go_loop [3, 11] (fun s i => ∃ q z : Int, i = .int .i64 q ∧ s = .int .i64 z ∧ (q = 0 ∧ z = 0 ∨ q = 1 ∧ z = us.length ∨ q = 2 ∧ z = us.length + vs.length)) (fun _ i => 2 - (intOf i).toNat)
  case atStart => exact ⟨0, 0, rfl, rfl, .inl ⟨rfl, rfl⟩⟩
  case round =>
    obtain ⟨q, z, rfl, rfl, ⟨rfl, rfl⟩ | ⟨rfl, rfl⟩ | ⟨rfl, rfl⟩⟩ := hrel
    · go_wp2
      go_round
      case rel => exact ⟨1, _, rfl, rfl, .inr (.inl ⟨rfl, rfl⟩)⟩
      case measure => simp [intOf]
    · have e1 : decide ((us.length : Int) + (vs.length : Int) < 0) = false := by simp; omega
      go_wp2
      go_round
      case rel => exact ⟨2, _, rfl, rfl, .inr (.inr ⟨rfl, rfl⟩)⟩
      case measure => simp [intOf]
    · have GA := Lib.hid (fun W => grow_any (us.length + vs.length) W (by omega))
      rw [Int.natCast_add] at GA
      go_wp2_with fail
      refine (GA.out _).mono ?_
      rintro e w2 ⟨x, rfl, ho, hb⟩
      have O2 := Lib.hid ho
      have K2 := Lib.hid hb
      have HG1 := HG.out
      have c0 := (hb.cell (p := ⟨g, 0, none⟩) HG1).trans g0
      have c1' := (hb.cell (p := ⟨g, 1, none⟩) HG1).trans g1
      clear ho hb g0 g1
      go_wp2_with fail
      go_loopw [6, 27] (fun x i wr => ∃ (q : Int) (zs : List (Int × Int)), i = .int .i64 q ∧ Hid (wr.ownsRow w.heap.size 53 2 x zs.length (vcells zs)) ∧ Hid (Below w.heap.size w wr) ∧ (q = 0 ∧ zs = [] ∨ q = 1 ∧ zs = us ∨ q = 2 ∧ zs = us ++ vs)) (fun _ i _ => 2 - (intOf i).toNat)
      case atStart => exact ⟨0, [], rfl, O2, K2, .inl ⟨rfl, rfl⟩⟩
      case round =>
        obtain ⟨q, zs, rfl, ho, hb, ⟨rfl, rfl⟩ | ⟨rfl, rfl⟩ | ⟨rfl, rfl⟩⟩ := hrel
        · have d0 := (hb.out.cell (p := ⟨g, 0, none⟩) HG1).trans G0.out
          have V1 := Lib.hid (H1.out.below hb.out)
          have bz := hb.out.size
          go_wp2_with (at_builtin; refine wpList_append_vs vt1 rfl _ _ rfl w.heap.size _ 0 [] us A1 c1 us.length rfl ho.out V1.out rfl rfl (by omega) bz ?_)
          intro v' w3 hown hgrow
          have O3 := Lib.hid hown
          have K3 := Lib.hid (hb.out.grown hgrow bz (fun k hk => (ho.out.lt k hk).1))
          clear hown hgrow
          go_wp2
          go_roundw
          case rel => exact ⟨1, us, rfl, Lib.hid (by simpa using O3.out), K3, .inr (.inl ⟨rfl, rfl⟩)⟩
          case measure => simp [intOf]
        · have d1 := (hb.out.cell (p := ⟨g, 1, none⟩) HG1).trans G1.out
          have V2 := Lib.hid (H2.out.below hb.out)
          have bz := hb.out.size
          go_wp2_with (at_builtin; refine wpList_append_vs vt1 rfl _ _ rfl w.heap.size _ _ _ vs A2 c2 vs.length rfl ho.out V2.out rfl rfl (by omega) bz ?_)
          intro v' w3 hown hgrow
          have O3 := Lib.hid hown
          have K3 := Lib.hid (hb.out.grown hgrow bz (fun k hk => (ho.out.lt k hk).1))
          clear hown hgrow
          go_wp2
          go_roundw
          case rel => exact ⟨2, _, rfl, Lib.hid (by rw [List.length_append]; exact O3.out), K3, .inr (.inr ⟨rfl, rfl⟩)⟩
          case measure => simp [intOf]
        · obtain ⟨A, c, hv, hV, hF⟩ := vs_of_own ho.out
          have HV := Lib.hid (And.intro hv hV)
          have HF := Lib.hid hF
          clear hv hV ho hF
          go_wp2
          go_ret
          exact ⟨A, c, congrArg Ending.returned HV.out.1, HV.out.2, hb.out, HF.out⟩
end Go.Proofs.Ytlfjopjfolbmiaa
