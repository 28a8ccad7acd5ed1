/-
  Need; slices.Clone, pager's Fresh; pager's Read over a cache; link, mayFollow.
-/
import Derived.Test.YtmgdpchjimlmeaaGe
import Derived.Test.YtmgdpchjimlmeaaGj
namespace Go.Proofs.Ytmgdpchjimlmeaa
open Go.RowKit
set_option linter.unusedSimpArgs false
set_option linter.unusedVariables false
set_option maxHeartbeats 4000000 in
set_option maxRecDepth 100000 in
theorem pgread_c {B p g gs : Nat} {v f m0 : Value} {T R : Int} {S : List (List UInt8)} {C : List Wt} (n k M : Nat) (l : List UInt8) (w : World) (hp : Pb w p T R m0 g f) (h : Dk B w g gs v S C) (hC : C.length ≤ 1000) (hM : S.length / 2 = M) (hn : n < M) (hb : rd S C (2 * n) ++ rd S C (2 * n + 1) = sealL k l) (h1 : 1 ≤ k) (h9 : k ≤ 9) (hl : l.length ≤ 120) :
    Calls Try.prog 57 #[.pointer (some ⟨p, 0, none⟩), .int .i64 (n : Int)] w fun e w' => e = .returned (.tuple #[.int .i64 (k : Int), .string ⟨l.toArray⟩, .int .i64 0]) ∧ Below w.heap.size w w' := by
  have PG := Lib.hid (pages_any M w (row_c (i := 3) hp rfl) h hM)
  obtain ⟨o1, o2, o3⟩ := open_seal (k := k) (t := l) h1 h9 hl
  have PR := Lib.hid (show Calls Try.prog 70 #[.pointer (some ⟨g, 0, none⟩), .int .i64 (n : Int)] w fun e w' => e = .returned (.tuple #[.int .i64 (k : Int), .string ⟨l.toArray⟩, .int .i64 0]) ∧ Below w.heap.size w w' by
    have hh := pread_any n w h (by omega) hC (sealL k l) hb (by rw [seal_len hl]; omega)
    rw [o1, o2, o3] at hh
    exact hh)
  have HP := Lib.hid hp
  have TOLD := Lib.hid (fun X => told_ok (p := p) X)
  have c5 := row_c (i := 5) hp rfl
  have c3 := row_c (i := 3) hp rfl
  have M5 : M ≤ 512 := by have := h.n2; omega
  have d0 : decide ((n : Int) < 0) = false := decide_eq_false (by omega)
  have d1 : decide ((M : Int) ≤ (n : Int)) = false := decide_eq_false (by omega)
  have d2 : decide (M ≤ n) = false := decide_eq_false (by omega)
  have n0 : (0 : Int) ≤ (n : Int) := by omega
  obtain ⟨s, hs⟩ : ∃ s : ByteArray, (⟨l.toArray⟩ : ByteArray) = s := ⟨_, rfl⟩
  rw [hs] at PR ⊢
  clear hp h hM hn hb h1 h9 hl hC o1 o2 o3 hs M5
  go_enter Try.func57, Try.ntmps57
  go_wp2_with fail
  refine PG.out.mono ?_
  rintro e w1 ⟨rfl, hw⟩
  obtain rfl : w = w1 := hw.symm
  clear hw
  go_wp2_with fail
  refine PR.out.mono ?_
  rintro e w2 ⟨rfl, hb2⟩
  have B2 := Lib.hid hb2
  clear hb2 c3 c5
  go_wp2_with fail
  refine (TOLD.out _).mono ?_
  rintro e w3 ⟨rfl, hw⟩
  obtain rfl : w2 = w3 := hw.symm
  clear hw
  go_wp2
  go_ret3
  exact ⟨rfl, B2.out⟩
/-- How many pieces a text has. -/
def nd (n : Nat) : Nat := max 1 ((n + 117) / 118)
set_option maxRecDepth 100000 in
theorem need_mid (m : Nat) (hm : m ≤ 1048576) (w : World) (n : Int) (hn : min (max n 0) 1048576 = (m : Int)) :
    Calls Try.prog 53 #[.int .i64 n] w fun e w' => e = .returned (.int .i64 (nd m : Nat)) ∧ w' = w := by
  have w1 : wrap64 ((m : Int) + 118) = (m : Int) + 118 := IntWalk.wrap64_in _ ⟨by omega, by omega⟩
  have w2 : wrap64 ((m : Int) + 118 - 1) = (m : Int) + 117 := by rw [IntWalk.wrap64_in _ ⟨by omega, by omega⟩]; omega
  go_enter Try.func53, Try.ntmps53
  go_wp2_with fail
  go_ret
  refine ⟨?_, rfl⟩
  have e : ∀ z : Int, z = (m : Int) + 117 → (max 1 (z / 118) : Int) = ((nd m : Nat) : Int) := fun z hz => by
    unfold nd
    simp only [Int.max_def, Nat.max_def]
    split <;> split <;> omega
  rw [e _ (by omega)]
  rfl
theorem need_nat (m : Nat) (hm : m ≤ 1048576) (w : World) :
    Calls Try.prog 53 #[.int .i64 (m : Int)] w fun e w' => e = .returned (.int .i64 (nd m : Nat)) ∧ w' = w := need_mid m hm w _ (by omega)
theorem or_i64G {a b k : Nat} (ha : a % 2 ^ k = 0) (hb : b < 2 ^ k) (h : a < 72057594037927936) (hk : 2 ^ k ≤ 4294967296) : bits .or .i64 (a : Int) (b : Int) = ((a + b : Nat) : Int) := by
  show IntKind.i64.wrap ((BitVec.ofInt 64 (a : Int) ||| BitVec.ofInt 64 (b : Int)).toNat : Int) = _
  have e1 : (BitVec.ofInt 64 (a : Int)).toNat = a := by rw [BitVec.ofInt_natCast, BitVec.toNat_ofNat]; exact Nat.mod_eq_of_lt (by omega)
  have e2 : (BitVec.ofInt 64 (b : Int)).toNat = b := by rw [BitVec.ofInt_natCast, BitVec.toNat_ofNat]; exact Nat.mod_eq_of_lt (by omega)
  have e3 : a ||| b = a + b := by
    have h1 : a = (a / 2 ^ k) <<< k := by rw [Nat.shiftLeft_eq]; have := Nat.div_add_mod a (2 ^ k); rw [ha, Nat.mul_comm] at this; omega
    rw [h1, ← Nat.shiftLeft_add_eq_or_of_lt hb]
  rw [BitVec.toNat_or, e1, e2, e3]
  exact IntWalk.i64_in _ (by omega)
set_option maxHeartbeats 4000000 in
set_option maxRecDepth 100000 in
theorem link_yes (a b m r : Nat) (l : List UInt8) (w : World) (ha : a < 256) (hb : b < 256) (hm : a * 256 = m) (hr : m + b = r) (hl : 2 ≤ l.length) (hl2 : l.length ≤ 120) (h0 : at8 l 0 = a) (h1 : at8 l 1 = b) :
    Calls Try.prog 58 #[.int .i64 2, .string ⟨l.toArray⟩] w fun e w' => e = .returned (.tuple #[.int .i64 (r : Int), .bool true]) ∧ Below w.heap.size w w' := by
  have g0 := ba_at l 0
  have g1 := ba_at l 1
  rw [h0] at g0
  rw [h1] at g1
  have OR : bits .or .i64 (m : Int) (b : Int) = (r : Int) := by
    rw [or_i64G (k := 8) (by omega) (by omega) (by omega) (by omega)]
    omega
  have SH : ((a : Int) * 256) = (m : Int) := by omega
  have SW : IntKind.i64.wrap (m : Int) = (m : Int) := IntWalk.i64_in _ (by omega)
  have SA : IntKind.i64.wrap (a : Int) = (a : Int) := IntWalk.i64_in _ (by omega)
  have SY : IntKind.i64.wrap (b : Int) = (b : Int) := IntWalk.i64_in _ (by omega)
  have S2 : wrap64 (m : Int) = (m : Int) := IntWalk.wrap64_in _ ⟨by omega, by omega⟩
  have sz : (⟨l.toArray⟩ : ByteArray).size = l.length := str_size l
  obtain ⟨t, ht⟩ : ∃ t : ByteArray, (⟨l.toArray⟩ : ByteArray) = t := ⟨_, rfl⟩
  rw [ht] at sz g0 g1 ⊢
  obtain ⟨z, hz⟩ : ∃ z, t.size = z := ⟨_, rfl⟩
  have k1 : ¬ ((t.size : Int) < 2) := by omega
  have k2 : (0 : Int) < (t.size : Int) := by omega
  have k3 : (1 : Int) < (t.size : Int) := by omega
  have k4 : 0 < t.size := by omega
  have k5 : 1 < t.size := by omega
  clear hm hr hl hl2 h0 h1 ht hz sz
  go_enter Try.func58, Try.ntmps58
  go_upto_region 3 with fail
  go_quiet (fail)
  go_wp2
  go_ret2
  exact ⟨rfl, below_drewN (Below.refl _ _) nq⟩
theorem may_zero (p : Nat) (v : Value) (w : World) :
    Calls Try.prog 59 #[.pointer (some ⟨p, 0, none⟩), v, .int .i64 0] w fun e w' => e = .returned (.bool true) ∧ w' = w := by
  go_enter Try.func59, Try.ntmps59
  go_wp2
  go_ret
  exact ⟨rfl, rfl⟩
set_option maxHeartbeats 4000000 in
set_option maxRecDepth 100000 in
theorem may_yes {B p g gs : Nat} {v : Value} {S : List (List UInt8)} {C : List Wt} (F : List Nat) (A : Option Addr) (c x M : Nat) (w : World) (hp : w.cell? ⟨p, 3, none⟩ = some (.pointer (some ⟨g, 0, none⟩))) (h : Dk B w g gs v S C) (hM : S.length / 2 = M) (hF : Rl nn w A c F) (hl : F.length < 512) (hx : 2 ≤ x) (hxM : x < M) (hq : F.contains x = false) :
    Calls Try.prog 59 #[.pointer (some ⟨p, 0, none⟩), .slice A F.length c, .int .i64 (x : Int)] w fun e w' => e = .returned (.bool true) ∧ w' = w := by
  have PG := Lib.hid (pages_any M w hp h hM)
  have CT := Lib.hid (contains_any F A c x false w hF (by omega) hq)
  obtain ⟨k, hk⟩ : ∃ k, F.length = k := ⟨_, rfl⟩
  rw [hk] at CT hl ⊢
  have x0 : ¬ ((x : Int) = 0) := by omega
  have x1 : ((x : Int) == 0) = false := by simpa using (show ¬ x = 0 by omega)
  have x2 : (2 : Int) ≤ (x : Int) := by omega
  have x3 : (x : Int) < (M : Int) := by omega
  have x4 : (k : Int) < 512 := by omega
  have d2 : decide ((2 : Int) ≤ (x : Int)) = true := decide_eq_true x2
  have d3 : decide ((x : Int) < (M : Int)) = true := decide_eq_true x3
  have d3' : decide (x < M) = true := decide_eq_true hxM
  have d4 : decide ((k : Int) < 512) = true := decide_eq_true x4
  clear hp h hM hF hl hx hxM hq hk
  go_enter Try.func59, Try.ntmps59
  go_wp2_with fail
  refine PG.out.mono ?_
  rintro e w1 ⟨rfl, hw⟩
  obtain rfl : w = w1 := hw.symm
  clear hw
  go_wp2_with fail
  refine CT.out.mono ?_
  rintro e w1 ⟨rfl, hw⟩
  obtain rfl : w = w1 := hw.symm
  clear hw
  go_wp2
  go_ret
  exact ⟨rfl, rfl⟩
theorem may_ok {B p g gs : Nat} {v : Value} {S : List (List UInt8)} {C : List Wt} (F : List Nat) (A : Option Addr) (c x M k : Nat) (w : World) (hp : w.cell? ⟨p, 3, none⟩ = some (.pointer (some ⟨g, 0, none⟩))) (h : Dk B w g gs v S C) (hM : S.length / 2 = M) (hF : Rl nn w A c F) (hk : F.length = k) (hl : k < 512) (hx : x = 0 ∨ (2 ≤ x ∧ x < M ∧ F.contains x = false)) :
    Calls Try.prog 59 #[.pointer (some ⟨p, 0, none⟩), .slice A k c, .int .i64 (x : Int)] w fun e w' => e = .returned (.bool true) ∧ w' = w := by
  rcases hx with rfl | ⟨h1, h2, h3⟩
  · exact may_zero p _ w
  · rw [← hk]
    exact may_yes F A c x M w hp h hM hF (by omega) h1 h2 h3
end Go.Proofs.Ytmgdpchjimlmeaa
