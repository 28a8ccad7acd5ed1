/-
  The document's Right, whole; its Find.
-/
import Derived.Test.YtlfjopjfolbmiaaCq
namespace Go.Proofs.Ytlfjopjfolbmiaa
open Go.RowKit
set_option maxHeartbeats 1000000 in
set_option maxRecDepth 100000 in
theorem rright_any (next : Int) (A : Option Addr) (c : Nat) (vs : List (Int × Int)) (w : World) (h : Vs w A c vs) (hl : vs.length ≤ 1000000) :
    Calls Try.prog 16 #[.agg #[.int .i64 next, .slice A vs.length c]] w fun e w' => e = .returned (.bool (rightB next vs)) ∧ Below w.heap.size w w' := by
  by_cases hh : 1 ≤ next ∧ next ≤ 16777216 ∧ vs.length ≤ 12
  · obtain ⟨h1, h2, h3⟩ := hh
    have hr : rightB next vs = chainB next 0 vs := by unfold rightB; rw [decide_eq_true h1, decide_eq_true h2, decide_eq_true h3]; rfl
    rw [hr]
    exact rright_in next A c vs w h h1 h2 h3
  · have hr : rightB next vs = false := by
      unfold rightB
      by_cases a1 : 1 ≤ next
      · by_cases a2 : next ≤ 16777216
        · have a3 : ¬ vs.length ≤ 12 := fun a3 => hh ⟨a1, a2, a3⟩
          rw [decide_eq_false a3]; simp
        · rw [decide_eq_false a2]; simp
      · rw [decide_eq_false a1]; simp
    rw [hr]
    clear hr
    by_cases a1 : 1 ≤ next
    · have d1 : decide (next < 1) = false := by simp; omega
      by_cases a2 : next ≤ 16777216
      · have d2 : decide (16777216 < next) = false := by simp; omega
        have a3 : ¬ vs.length ≤ 12 := fun a3 => hh ⟨a1, a2, a3⟩
        have d3 : decide (12 < vs.length) = true := by simp; omega
        have d4 : decide ((12 : Int) < (vs.length : Int)) = true := by simp; omega
        clear hh
        go_enter Try.func16, Try.ntmps16
        go_wp2
        go_ret
        exact ⟨rfl, bda _ _⟩
      · have d2 : decide (16777216 < next) = true := by simp; omega
        clear hh
        go_enter Try.func16, Try.ntmps16
        go_wp2
        go_ret
        exact ⟨rfl, bda _ _⟩
    · have d1 : decide (next < 1) = true := by simp; omega
      clear hh
      go_enter Try.func16, Try.ntmps16
      go_wp2
      go_ret
      exact ⟨rfl, bda _ _⟩
set_option maxHeartbeats 2000000 in
set_option maxRecDepth 100000 in
theorem rfind0_some (next : Int) (A : Option Addr) (c : Nat) (vs : List (Int × Int)) (n : Int) (w : World) (h : Vs w A c vs) (hl : vs.length ≤ 1000000) (hz : n = 0) (hp : 0 < vs.length) :
    Calls Try.prog 18 #[.agg #[.int .i64 next, .slice A vs.length c], .int .i64 n] w fun e w' => e = .returned (.tuple #[.int .i64 ((vs.length - 1 : Nat) : Int), .bool true]) ∧ Below w.heap.size w w' := by
  have d0 : (n == 0) = true := by simpa using hz
  have d1 : decide ((0 : Int) < (vs.length : Int)) = true := by simp; omega
  have d1' : decide (0 < vs.length) = true := by simp; omega
  have e2 : ((vs.length : Int) - 1) = ((vs.length - 1 : Nat) : Int) := by omega
  clear hz
  have H := Lib.hid h
  clear h
  have RW := Lib.hid (heap_alloc_new w (.cells #[.int .i64 next, .slice A vs.length c] 34))
  go_enter Try.func18, Try.ntmps18
  go_wp2
  go_ret2
  exact ⟨rfl, bda _ _⟩
set_option maxHeartbeats 2000000 in
set_option maxRecDepth 100000 in
theorem rfind0_none (next : Int) (A : Option Addr) (c : Nat) (vs : List (Int × Int)) (n : Int) (w : World) (h : Vs w A c vs) (_ : vs.length ≤ 1000000) (hz : n = 0) (hp : vs.length = 0) :
    Calls Try.prog 18 #[.agg #[.int .i64 next, .slice A vs.length c], .int .i64 n] w fun e w' => e = .returned (.tuple #[.int .i64 0, .bool false]) ∧ Below w.heap.size w w' := by
  have d0 : (n == 0) = true := by simpa using hz
  have d0' : (n != 0) = false := by simpa using hz
  have d1 : decide ((0 : Int) < (vs.length : Int)) = false := decide_eq_false (by omega)
  have d1' : decide (0 < vs.length) = false := decide_eq_false (by omega)
  have d2 : decide ((0 : Int) < (0 : Int)) = false := rfl
  clear hz hp
  have H := Lib.hid h
  clear h
  have RW := Lib.hid (heap_alloc_new w (.cells #[.int .i64 next, .slice A vs.length c] 34))
  go_enter Try.func18, Try.ntmps18
  go_wp2_with fail
  obtain ⟨W, hW⟩ : ∃ W : World, W = w.alloc (.cells #[.int .i64 next, .slice A vs.length c] 34) := ⟨_, rfl⟩
  rw [← hW] at RW ⊢
  have B1 := Lib.hid (show Below w.heap.size w W by rw [hW]; exact bda _ _)
  clear hW
  have f1 := row_c RW.out (i := 1) rfl
  go_loop [6] (fun i => i = .int .i64 0) (fun i => 0)
  case atStart => exact rfl
  case round =>
    obtain rfl := hrel
    go_wp2
    go_ret2
    exact ⟨rfl, B1.out⟩
set_option maxHeartbeats 2000000 in
set_option maxRecDepth 100000 in
theorem rfindn_some (next : Int) (A : Option Addr) (c : Nat) (vs : List (Int × Int)) (n : Int) (w : World) (h : Vs w A c vs) (hl : vs.length ≤ 1000000) (hz : n ≠ 0) (kk : Nat) (hp : idxOf n vs 0 = some kk) :
    Calls Try.prog 18 #[.agg #[.int .i64 next, .slice A vs.length c], .int .i64 n] w fun e w' => e = .returned (.tuple #[.int .i64 kk, .bool true]) ∧ Below w.heap.size w w' := by
  have d0 : (n == 0) = false := by simpa using hz
  have d0' : (n != 0) = true := by simpa using hz
  have HP := Lib.hid hp
  clear hz hp
  have H := Lib.hid h
  clear h
  have RW := Lib.hid (heap_alloc_new w (.cells #[.int .i64 next, .slice A vs.length c] 34))
  go_enter Try.func18, Try.ntmps18
  go_wp2_with fail
  obtain ⟨W, hW⟩ : ∃ W : World, W = w.alloc (.cells #[.int .i64 next, .slice A vs.length c] 34) := ⟨_, rfl⟩
  rw [← hW] at RW ⊢
  have B1 := Lib.hid (show Below w.heap.size w W by rw [hW]; exact bda _ _)
  clear hW
  have f1 := row_c RW.out (i := 1) rfl
  go_loop [6] (fun i => ∃ k : Nat, k ≤ vs.length ∧ i = .int .i64 k ∧ Hid (idxOf n vs 0 = idxOf n (vs.drop k) k)) (fun i => vs.length - (intOf i).toNat)
  case atStart => exact ⟨0, Nat.zero_le _, rfl, Lib.hid rfl⟩
  case round =>
    obtain ⟨k, hk, rfl, hi⟩ := hrel
    by_cases hlt : k < vs.length
    · obtain ⟨b, off, hA, hbl, hcell⟩ := (H.out.below B1.out).2 (by omega)
      have g1 := (hcell k hlt).1
      have ED := Lib.hid (show idxOf n vs 0 = if (at2 vs k).1 = n then some k else idxOf n (vs.drop (k + 1)) (k + 1) by rw [hi.out, drop_at hlt]; rfl)
      have HLT := Lib.hid hlt
      clear hcell hi
      generalize at2 vs k = v at *
      obtain ⟨a, q⟩ := v
      simp only at g1 ED
      have k0 : (0 : Int) ≤ (k : Int) := by omega
      have k1 : (k : Int) < (vs.length : Int) := by omega
      subst hA
      by_cases he : a = n
      · have d1 : (a == n) = true := by simpa using he
        have EE := Lib.hid (show idxOf n vs 0 = some k by rw [ED.out, if_pos he])
        clear ED he
        have EK := Lib.hid (show k = kk by have := EE.out; rw [HP.out] at this; exact (Option.some.inj this).symm)
        go_wp2
        go_ret2
        have := EK.out
        subst this
        exact ⟨rfl, B1.out⟩
      · have d1 : (a == n) = false := by simpa using he
        have EE := Lib.hid (show idxOf n vs 0 = idxOf n (vs.drop (k + 1)) (k + 1) by rw [ED.out, if_neg he])
        clear ED he
        go_wp2
        go_round
        case rel => exact ⟨k + 1, HLT.out, by go_num, EE⟩
        case measure => simp [intOf]; have := HLT.out; omega
    · obtain rfl : k = vs.length := by omega
      have EE := Lib.hid (show idxOf n vs 0 = none by rw [hi.out, List.drop_length]; rfl)
      clear hi
      exact absurd (EE.out.symm.trans HP.out) (by simp)
set_option maxHeartbeats 2000000 in
set_option maxRecDepth 100000 in
theorem rfindn_none (next : Int) (A : Option Addr) (c : Nat) (vs : List (Int × Int)) (n : Int) (w : World) (h : Vs w A c vs) (hl : vs.length ≤ 1000000) (hz : n ≠ 0) (hp : idxOf n vs 0 = none) :
    Calls Try.prog 18 #[.agg #[.int .i64 next, .slice A vs.length c], .int .i64 n] w fun e w' => e = .returned (.tuple #[.int .i64 0, .bool false]) ∧ Below w.heap.size w w' := by
  have d0 : (n == 0) = false := by simpa using hz
  have d0' : (n != 0) = true := by simpa using hz
  have HP := Lib.hid hp
  clear hz hp
  have H := Lib.hid h
  clear h
  have RW := Lib.hid (heap_alloc_new w (.cells #[.int .i64 next, .slice A vs.length c] 34))
  go_enter Try.func18, Try.ntmps18
  go_wp2_with fail
  obtain ⟨W, hW⟩ : ∃ W : World, W = w.alloc (.cells #[.int .i64 next, .slice A vs.length c] 34) := ⟨_, rfl⟩
  rw [← hW] at RW ⊢
  have B1 := Lib.hid (show Below w.heap.size w W by rw [hW]; exact bda _ _)
  clear hW
  have f1 := row_c RW.out (i := 1) rfl
  go_loop [6] (fun i => ∃ k : Nat, k ≤ vs.length ∧ i = .int .i64 k ∧ Hid (idxOf n vs 0 = idxOf n (vs.drop k) k)) (fun i => vs.length - (intOf i).toNat)
  case atStart => exact ⟨0, Nat.zero_le _, rfl, Lib.hid rfl⟩
  case round =>
    obtain ⟨k, hk, rfl, hi⟩ := hrel
    by_cases hlt : k < vs.length
    · obtain ⟨b, off, hA, hbl, hcell⟩ := (H.out.below B1.out).2 (by omega)
      have g1 := (hcell k hlt).1
      have ED := Lib.hid (show idxOf n vs 0 = if (at2 vs k).1 = n then some k else idxOf n (vs.drop (k + 1)) (k + 1) by rw [hi.out, drop_at hlt]; rfl)
      have HLT := Lib.hid hlt
      clear hcell hi
      generalize at2 vs k = v at *
      obtain ⟨a, q⟩ := v
      simp only at g1 ED
      have k0 : (0 : Int) ≤ (k : Int) := by omega
      have k1 : (k : Int) < (vs.length : Int) := by omega
      subst hA
      by_cases he : a = n
      · have d1 : (a == n) = true := by simpa using he
        have EE := Lib.hid (show idxOf n vs 0 = some k by rw [ED.out, if_pos he])
        clear ED he
        exact absurd (EE.out.symm.trans HP.out) (by simp)
      · have d1 : (a == n) = false := by simpa using he
        have EE := Lib.hid (show idxOf n vs 0 = idxOf n (vs.drop (k + 1)) (k + 1) by rw [ED.out, if_neg he])
        clear ED he
        go_wp2
        go_round
        case rel => exact ⟨k + 1, HLT.out, by go_num, EE⟩
        case measure => simp [intOf]; have := HLT.out; omega
    · obtain rfl : k = vs.length := by omega
      have EE := Lib.hid (show idxOf n vs 0 = none by rw [hi.out, List.drop_length]; rfl)
      clear hi
      go_wp2
      go_ret2
      exact ⟨rfl, B1.out⟩
theorem rfind_some (next : Int) (A : Option Addr) (c : Nat) (vs : List (Int × Int)) (n : Int) (k : Nat) (w : World) (h : Vs w A c vs) (hl : vs.length ≤ 1000000) (hp : findP vs n = some k) :
    Calls Try.prog 18 #[.agg #[.int .i64 next, .slice A vs.length c], .int .i64 n] w fun e w' => e = .returned (.tuple #[.int .i64 k, .bool true]) ∧ Below w.heap.size w w' := by
  unfold findP at hp
  by_cases hz : n = 0
  · rw [if_pos hz] at hp
    by_cases h0 : vs.length = 0
    · rw [if_pos h0] at hp; cases hp
    · rw [if_neg h0] at hp
      injection hp with hp
      subst hp
      exact rfind0_some next A c vs n w h hl hz (by omega)
  · rw [if_neg hz] at hp
    exact rfindn_some next A c vs n w h hl hz k hp
theorem rfind_none (next : Int) (A : Option Addr) (c : Nat) (vs : List (Int × Int)) (n : Int) (w : World) (h : Vs w A c vs) (hl : vs.length ≤ 1000000) (hp : findP vs n = none) :
    Calls Try.prog 18 #[.agg #[.int .i64 next, .slice A vs.length c], .int .i64 n] w fun e w' => e = .returned (.tuple #[.int .i64 0, .bool false]) ∧ Below w.heap.size w w' := by
  unfold findP at hp
  by_cases hz : n = 0
  · rw [if_pos hz] at hp
    by_cases h0 : vs.length = 0
    · exact rfind0_none next A c vs n w h hl hz h0
    · rw [if_neg h0] at hp; cases hp
  · rw [if_neg hz] at hp
    exact rfindn_none next A c vs n w h hl hz hp
end Go.Proofs.Ytlfjopjfolbmiaa
