/-
  blob.Write.
-/
import Derived.Test.YtmgdpchjimlmeaaBg
namespace Go.Proofs.Ytmgdpchjimlmeaa
open Go.RowKit
set_option linter.unusedSimpArgs false
set_option linter.unusedVariables false
theorem fresh_pg {B L p g gs bm k0 : Nat} {f : Value} {T R : Int} {U : Nat → Bool} {F : List Nat} {S : List (List UInt8)} {C : List Wt} (w : World) (h : Pg B L p g gs bm k0 T R U F S C f w) (hF : F.length ≤ 1000) :
    Calls Try.prog 40 #[.pointer (some ⟨p, 0, none⟩)] w fun e w' => ∃ v', e = .returned v' ∧ w'.ownsRow w.heap.size 3 1 v' F.length (F.map nn) ∧ Below w.heap.size w w' := fresh_any w h.pb h.fr hF
theorem back_pg {B L p g gs bm k0 : Nat} {f : Value} {T R : Int} {U : Nat → Bool} {F : List Nat} {S : List (List UInt8)} {C : List Wt} (m : Nat) (w : World) (h : Pg B L p g gs bm k0 T R U F S C f w) (hF : F.length ≤ 1000) (hm : m ≤ F.length) :
    Calls Try.prog 42 #[.pointer (some ⟨p, 0, none⟩), .int .i64 (m : Int)] w fun e w' => e = .returned (.tuple #[]) ∧ ∃ f', Pg B L p g gs bm k0 T R U (F.take m) S C f' w' ∧ Cz B p g gs f f' w w' := by
  obtain ⟨v, hd⟩ := h.dk
  refine (back_any m w h.pb h.fr hF hm).mono ?_
  rintro e w' ⟨rfl, f', rfl, h1, h2, h3⟩
  have pn := hd.p_ne h.pb
  refine ⟨rfl, f', ⟨h1, h.us.same (Below.heap_setCell _ _ _ _ ?_), h2, ⟨v, hd.pset h.pb (by decide) pn.1 pn.2 4 f'⟩, by simpa [World.setCell] using h.hL⟩, Cz.of_set h3⟩
  obtain ⟨es, cl, hm⟩ := h.us.isMap
  exact ne_map hm h.pb
set_option maxRecDepth 100000 in
set_option maxHeartbeats 4000000 in
theorem bwrite_any {B L p g gs bm k0 : Nat} {f : Value} {T R : Int} {U : Nat → Bool} {F : List Nat} {S : List (List UInt8)} {C : List Wt} (n K : Nat) (l : List UInt8) (w : World) (h : Pg B L p g gs bm k0 T R U F S C f w) (hn : S.length / 2 = n) (hl : l.length ≤ 60000) (hK : nd l.length = K) (hF : F.length + K ≤ 1000) (hC : C.length + 2 * K ≤ 1000) :
    Calls Try.prog 24 #[.pointer (some ⟨p, 0, none⟩), .string ⟨l.toArray⟩] w fun e w' => ∃ f', Cz B p g gs f f' w w' ∧ (((als U n F K).length = K ∧ e = .returned (.tuple #[.int .i64 (((als U n F K)[0]?).getD 0 : Nat), .int .i64 0]) ∧ Pg B L p g gs bm k0 T R U (F ++ als U n F K) S (C ++ wrs (als U n F K) l K) f' w') ∨ ((als U n F K).length < K ∧ e = .returned (.tuple #[.int .i64 0, .int .i64 6]) ∧ Pg B L p g gs bm k0 T R U F S C f' w')) := by
  have H := Lib.hid h
  have FR := Lib.hid (fresh_pg w h (by omega))
  have AR := Lib.hid (And.intro hn (And.intro hl (And.intro hK (And.intro hF hC))))
  have sz : (⟨l.toArray⟩ : ByteArray).size = l.length := str_size l
  have K1 := Lib.hid (show 1 ≤ K by unfold nd at hK; omega)
  have d1 : decide ((60000 : Int) < (l.length : Int)) = false := decide_eq_false (by omega)
  have d2 : decide (60000 < l.length) = false := decide_eq_false (by omega)
  obtain ⟨s, hs⟩ : ∃ s : ByteArray, (⟨l.toArray⟩ : ByteArray) = s := ⟨_, rfl⟩
  rw [hs] at sz ⊢
  have HS := Lib.hid hs
  clear h hn hl hK hF hC hs
  go_enter Try.func24, Try.ntmps24
  go_wp2_with fail
  refine FR.out.mono ?_
  rintro e w1 ⟨v1, rfl, ho1, hb1⟩
  obtain ⟨A1, c1, hu1⟩ := own_form ho1
  subst hu1
  have P1 := Lib.hid (H.out.below hb1)
  have B1 := Lib.hid hb1
  have LY := Lib.hid (blay_any n K l w1 P1.out AR.out.1 AR.out.2.1 AR.out.2.2.1 AR.out.2.2.2.1 AR.out.2.2.2.2 (fun b e => by obtain ⟨_, cs, fr, h3⟩ := P1.out.row e; exact heap_lt h3))
  rw [HS.out] at LY
  clear ho1 hb1 FR sz d1 d2
  go_wp2_with fail
  refine LY.out.mono ?_
  rintro e w2 ⟨f2, hc2, ⟨hA, ⟨v2, rfl, ho2⟩, hp2⟩ | ⟨hA, rfl, hp2⟩⟩
  · have HA := Lib.hid hA
    have C2 := Lib.hid ((Cz.of_below B1.out).trans hc2)
    have P2 := Lib.hid hp2
    obtain ⟨a0, ha0⟩ : ∃ a0, (als U n F K)[0]? = some a0 := ⟨_, List.getElem?_eq_getElem (by have := K1.out; omega)⟩
    obtain ⟨b, cap, hv⟩ : ∃ b cap, v2 = .slice (some ⟨b, 0, none⟩) K cap := by
      rcases ho2.2 with ⟨h0, h1⟩ | ⟨b, cap, cur, h1, _⟩
      · have := K1.out; omega
      · exact ⟨b, cap, h1⟩
    subst hv
    have c0 : w2.cell? ⟨b, 0, none⟩ = some (.int .i64 (a0 : Int)) := by
      have h := ho2.cells (g := b) rfl 0 (nn a0) (by rw [List.getElem?_map, ha0]; rfl)
      rw [Addr.add_lit, Nat.zero_add] at h
      exact h
    have q0 : (0 : Int) < (K : Int) := by have := K1.out; omega
    have q1 : 0 < K := K1.out
    have A0 := Lib.hid ha0
    clear hA hc2 hp2 ho2 ha0 LY
    go_wp2_with fail
    go_ret2
    exact ⟨f2, C2.out, .inl ⟨HA.out, by rw [A0.out]; rfl, P2.out⟩⟩
  · have HA := Lib.hid hA
    have C2 := Lib.hid ((Cz.of_below B1.out).trans hc2)
    have P2 := Lib.hid hp2
    have BK := Lib.hid (back_pg F.length w2 hp2 (by rw [List.length_append]; have := AR.out.2.2.2.1; omega) (by rw [List.length_append]; omega))
    clear hA hc2 hp2 LY
    go_wp2_with fail
    refine BK.out.mono ?_
    rintro e w3 ⟨rfl, f3, hp3, hc3⟩
    rw [List.take_left] at hp3
    have P3 := Lib.hid hp3
    have C3 := Lib.hid (C2.out.trans hc3)
    clear hp3 hc3 BK
    go_wp2_with fail
    go_ret2
    exact ⟨f3, C3.out, .inr ⟨HA.out, rfl, P3.out⟩⟩
end Go.Proofs.Ytmgdpchjimlmeaa
