/-
  pager's Write, Back, Fresh.
-/
import Derived.Test.YtmgdpchjimlmeaaGh
namespace Go.Proofs.Ytmgdpchjimlmeaa
open Go.RowKit
set_option linter.unusedSimpArgs false
set_option linter.unusedVariables false
theorem own_ch {B g gs L n : Nat} {f : Value} {xs : List Value} {v : Value} {S : List (List UInt8)} {C : List Wt} {w w' : World} (h : w.ownsRow L 3 1 f n xs) (d : Dk B w g gs v S C) (k : Ch B g gs w w') : w'.ownsRow L 3 1 f n xs := by
  refine ⟨h.1, ?_⟩
  rcases h.2 with h0 | ⟨b, cap, cur, h1, h2, h3, h4⟩
  · exact .inl h0
  · exact .inr ⟨b, cap, cur, h1, h2, k.stay h3 (by decide) (ne_rows h3 d.hg (by decide)) (ne_rows h3 d.hs (by decide)), h4⟩
theorem own_cp {B p g gs L n : Nat} {f : Value} {xs : List Value} {v : Value} {S : List (List UInt8)} {C : List Wt} {w w' : World} {cs : Array Value} (h : w.ownsRow L 3 1 f n xs) (hp : w.heap[p]? = some (.cells cs 65 (0, 0))) (d : Dk B w g gs v S C) (k : Cp B p g gs w w') : w'.ownsRow L 3 1 f n xs := by
  refine ⟨h.1, ?_⟩
  rcases h.2 with h0 | ⟨b, cap, cur, h1, h2, h3, h4⟩
  · exact .inl h0
  · exact .inr ⟨b, cap, cur, h1, h2, k.stay h3 (by decide) (ne_rows h3 hp (by decide)) (ne_rows h3 d.hg (by decide)) (ne_rows h3 d.hs (by decide)), h4⟩
set_option maxHeartbeats 4000000 in
set_option maxRecDepth 100000 in
theorem write_yes {B L p g gs bm k0 : Nat} {v f : Value} {T R : Int} {U : Nat → Bool} {F : List Nat} {S : List (List UInt8)} {C : List Wt} (x k : Nat) (s : ByteArray) (w : World) (hp : Pb w p T R (.map (some bm)) g f) (hu : Us w bm k0 U) (hf : w.ownsRow L 3 1 f F.length (F.map nn)) (h : Dk B w g gs v S C) (hx : F.contains x = true) (hF : F.length ≤ 1000) (hS : 2 * x + 1 < S.length) (h1 : 1 ≤ k) (h9 : k ≤ 9) (ht : s.data.toList.length ≤ 120) (hC : C.length ≤ 1000) :
    Calls Try.prog 55 #[.pointer (some ⟨p, 0, none⟩), .int .i64 (x : Int), .int .i64 (k : Int), .string s] w fun e w' => e = .returned (.int .i64 0) ∧ Pb w' p T R (.map (some bm)) g f ∧ Us w' bm k0 U ∧ w'.ownsRow L 3 1 f F.length (F.map nn) ∧ (∃ v', Dk B w' g gs v' S ((C ++ [(2 * x, (sealL k s.data.toList).take 64)]) ++ [(2 * x + 1, (sealL k s.data.toList).drop 64)])) ∧ Ch B g gs w w' := by
  obtain ⟨A, c, rfl, hRl, hFr⟩ := rl_of_own hf
  have CT := Lib.hid (contains_any F A c x true w hRl (by omega) hx)
  have PW := Lib.hid (pwrite_any x k s w h hS h1 h9 ht hC)
  have HP := Lib.hid hp
  have HU := Lib.hid hu
  have HF := Lib.hid hf
  have HD := Lib.hid h
  have TOLD := Lib.hid (fun X => told_ok (p := p) X)
  have c5 := row_c (i := 5) hp rfl
  have c4 := row_c (i := 4) hp rfl
  have c3 := row_c (i := 3) hp rfl
  clear hp hu hf h hx hF hS h1 h9 ht hC hRl hFr
  go_enter Try.func55, Try.ntmps55
  go_wp2_with fail
  refine CT.out.mono ?_
  rintro e w1 ⟨rfl, hw⟩
  obtain rfl : w = w1 := hw.symm
  clear hw
  go_wp2_with fail
  refine PW.out.mono ?_
  rintro e w2 ⟨rfl, v2, hd, hc⟩
  have H2 := Lib.hid (And.intro hd hc)
  clear hd hc c3 c4 c5
  go_wp2_with fail
  refine (TOLD.out _).mono ?_
  rintro e w3 ⟨rfl, hw⟩
  obtain rfl : w2 = w3 := hw.symm
  clear hw
  go_wp2
  go_ret
  have pn := HD.out.p_ne HP.out
  exact ⟨rfl, H2.out.2.stay HP.out (by decide) pn.1 pn.2, HU.out.ch HD.out H2.out.2, own_ch HF.out HD.out H2.out.2, ⟨v2, H2.out.1⟩, H2.out.2⟩
theorem own_take {w : World} {L m : Nat} {A : Option Addr} {c : Nat} {F : List Nat} (h : w.ownsRow L 3 1 (.slice A F.length c) F.length (F.map nn)) (hm : m ≤ F.length) : w.ownsRow L 3 1 (.slice A m c) (F.take m).length ((F.take m).map nn) := by
  have hl : (F.take m).length = m := by rw [List.length_take]; omega
  refine ⟨by rw [List.length_map]; omega, ?_⟩
  rcases h.2 with ⟨h0, h1⟩ | ⟨b, cap, cur, h1, h2, h3, h4, h5, h6, h7⟩
  · injection h0 with a1 a2 a3
    exact .inl ⟨by rw [a1, a3, show m = 0 by omega], by omega⟩
  · injection h1 with a1 a2 a3
    subst a1 a3
    refine .inr ⟨b, c, cur, by rw [hl], h2, h3, by omega, h5, h6, ?_⟩
    rw [hl, List.map_take, ← h7, List.take_take, Nat.mul_one, Nat.mul_one, Nat.min_eq_left hm]
set_option maxHeartbeats 4000000 in
set_option maxRecDepth 100000 in
theorem back_any {L p g : Nat} {f m0 : Value} {T R : Int} {F : List Nat} (m : Nat) (w : World) (hp : Pb w p T R m0 g f) (hf : w.ownsRow L 3 1 f F.length (F.map nn)) (hF : F.length ≤ 1000) (hm : m ≤ F.length) :
    Calls Try.prog 42 #[.pointer (some ⟨p, 0, none⟩), .int .i64 (m : Int)] w fun e w' => e = .returned (.tuple #[]) ∧ ∃ f', w' = w.setCell ⟨p, 4, none⟩ f' ∧ Pb w' p T R m0 g f' ∧ w'.ownsRow L 3 1 f' (F.take m).length ((F.take m).map nn) ∧ (∀ k, f'.ownBlock = some k → f.ownBlock = some k) := by
  obtain ⟨A, c, rfl, hRl, hFr⟩ := rl_of_own hf
  have HP := Lib.hid hp
  have HO := Lib.hid (own_take hf hm)
  have NE := Lib.hid (fun b (e : (Value.slice A m c).ownBlock = some b) => Lib.ownsRow_kind (own_take hf hm) b e)
  have c4 := row_c (i := 4) hp rfl
  have z4 := frozen_of_row _ _ 4 _ _ hp
  have r4 := Lib.hid (heap_setCell_same _ _ 4 _ _ (.slice A m c) hp)
  obtain ⟨N, hN⟩ : ∃ N, F.length = N := ⟨_, rfl⟩
  have hcN : N ≤ c := by have := hRl.1; omega
  have hA : (A = none ∧ N = 0 ∧ c = 0) ∨ ∃ b, A = some ⟨b, 0, none⟩ := by
    rcases hf.2 with ⟨h0, h1⟩ | ⟨b, cap, cur, h1, _⟩
    · injection h0 with a1 a2 a3
      exact .inl ⟨a1, by omega, a3⟩
    · injection h1 with a1 _ _
      exact .inr ⟨b, a1⟩
  rw [hN] at c4 hF hm
  have m0' : (0 : Int) ≤ (m : Int) := by omega
  have e1 : max (m : Int) 0 = (m : Int) := by omega
  have e2 : min (m : Int) (N : Int) = (m : Int) := by omega
  have e3 : min m N = m := by omega
  have m1 : (m : Int) ≤ (c : Int) := by omega
  clear hp hf hRl hFr
  rcases hA with ⟨rfl, rfl, rfl⟩ | ⟨b, rfl⟩
  · obtain rfl : m = 0 := by omega
    go_enter Try.func42, Try.ntmps42
    go_wp2
    go_end0
    exact ⟨rfl, _, rfl, r4.out, HO.out.kept (grown_set p 4 _) (.inl rfl), fun _ h => h⟩
  · go_enter Try.func42, Try.ntmps42
    go_wp2
    go_end0
    exact ⟨rfl, _, rfl, r4.out, HO.out.kept (grown_set p 4 _) (.inr (fun e => by
      obtain ⟨cc, fz, h3⟩ := NE.out p e
      exact ne_rows h3 HP.out (by decide) rfl)), fun _ h => h⟩
end Go.Proofs.Ytmgdpchjimlmeaa
