/-
  cat.Find.
-/
import Derived.Test.YtlfjopjfolbmiaaCe
namespace Go.Proofs.Ytlfjopjfolbmiaa
open Go.RowKit
/-- The first place of a number, if there is one. -/
def idxOf (n : Int) : List (Int × Int) → Nat → Option Nat
  | [], _ => none
  | v :: r, k => if v.1 = n then some k else idxOf n r (k + 1)
/-- What Find tells: the place, and whether there is one. -/
def findP (vs : List (Int × Int)) (n : Int) : Option Nat := if n = 0 then (if vs.length = 0 then none else some (vs.length - 1)) else idxOf n vs 0
def idxI : Option Nat → Int
  | none => -1
  | some k => (k : Int)
theorem idxOf_lt {n : Int} : ∀ {vs : List (Int × Int)} {k j : Nat}, idxOf n vs k = some j → k ≤ j ∧ j < k + vs.length
  | [], _, _, h => by cases h
  | v :: r, k, j, h => by
    unfold idxOf at h
    split at h
    · injection h with h; subst h; simp
    · have := idxOf_lt h; simp; omega
set_option maxHeartbeats 1000000 in
set_option maxRecDepth 100000 in
theorem find1_any (v : Int × Int) (n : Int) (g : Nat) (w : World) (hg : w.cell? ⟨g, 0, none⟩ = some (.int .i64 n)) :
    Calls Try.prog 31 #[.agg #[.int .i64 v.1, .int .i64 v.2], .pointer (some ⟨g, 0, none⟩)] w fun e w' => e = .returned (.bool (v.1 == n)) ∧ Below w.heap.size w w' := by
  obtain ⟨a, b⟩ := v
  have hlt := World.block_lt_of_cell? w _ hg
  go_enter Try.func31, Try.ntmps31
  go_wp2
  go_ret
  exact ⟨rfl, bda _ _⟩
set_option maxHeartbeats 2000000 in
set_option maxRecDepth 100000 in
theorem index_any (A : Option Addr) (c : Nat) (vs : List (Int × Int)) (n : Int) (g : Nat) (w : World) (h : Vs w A c vs) (hg : w.cell? ⟨g, 0, none⟩ = some (.int .i64 n)) (hl : vs.length ≤ 1000000) :
    Calls Try.prog 30 #[.slice A vs.length c, .func (.func 31) #[] #[.pointer (some ⟨g, 0, none⟩)]] w fun e w' => e = .returned (.int .i64 (idxI (idxOf n vs 0))) ∧ Below w.heap.size w w' := by
  have H := Lib.hid h
  have HG := Lib.hid hg
  clear h hg
  go_enter Try.func30, Try.ntmps30
  go_wp2
  go_loopw [8] (fun i wr => ∃ k : Nat, k ≤ vs.length ∧ i = .int .i64 k ∧ Hid (idxOf n vs 0 = idxOf n (vs.drop k) k) ∧ Hid (Below w.heap.size w wr)) (fun i _ => vs.length - (intOf i).toNat)
  case atStart => exact ⟨0, Nat.zero_le _, rfl, Lib.hid rfl, Lib.hid (Below.refl _ _)⟩
  case round =>
    obtain ⟨k, hk, rfl, hi, hb⟩ := hrel
    by_cases hlt : k < vs.length
    · obtain ⟨b, off, hA, hbl, hcell⟩ := H.out.2 (by omega)
      have f1 := (hb.out.cell (p := ⟨b, off + k * 2, none⟩) hbl).trans (hcell k hlt).1
      have f2 := (hb.out.cell (p := ⟨b, off + k * 2 + 1, none⟩) hbl).trans (hcell k hlt).2
      have HGW := Lib.hid ((hb.out.cell (p := ⟨g, 0, none⟩) (World.block_lt_of_cell? w _ HG.out)).trans HG.out)
      have ED := Lib.hid (show idxOf n vs 0 = if (at2 vs k).1 = n then some k else idxOf n (vs.drop (k + 1)) (k + 1) by rw [hi.out, drop_at hlt]; rfl)
      have HLT := Lib.hid hlt
      have FC := Lib.hid (fun V (hV : V.cell? ⟨g, 0, none⟩ = some (.int .i64 n)) => find1_any (at2 vs k) n g V hV)
      clear hcell hi
      generalize at2 vs k = v at *
      obtain ⟨a, q⟩ := v
      simp only at f1 f2 ED
      have k0 : (0 : Int) ≤ (k : Int) := by omega
      have k1 : (k : Int) < (vs.length : Int) := by omega
      subst hA
      by_cases he : a = n
      · have d1 : (a == n) = true := by simpa using he
        rw [d1] at FC
        have EE := Lib.hid (show idxOf n vs 0 = some k by rw [ED.out, if_pos he])
        clear ED he d1
        go_wp2_with fail
        refine (FC.out _ HGW.out).mono ?_
        rintro e w2 ⟨rfl, hb2⟩
        have K2 := Lib.hid (bon hb.out hb2)
        clear hb2
        go_wp2
        go_ret
        exact ⟨by rw [EE.out]; rfl, K2.out⟩
      · have d1 : (a == n) = false := by simpa using he
        rw [d1] at FC
        have EE := Lib.hid (show idxOf n vs 0 = idxOf n (vs.drop (k + 1)) (k + 1) by rw [ED.out, if_neg he])
        clear ED he d1
        go_wp2_with fail
        refine (FC.out _ HGW.out).mono ?_
        rintro e w2 ⟨rfl, hb2⟩
        have K2 := Lib.hid (bon hb.out hb2)
        clear hb2
        go_wp2
        go_roundw
        case rel => exact ⟨k + 1, HLT.out, by go_num, EE, K2⟩
        case measure => simp [intOf]; omega
    · obtain rfl : k = vs.length := by omega
      have EE := Lib.hid (show idxOf n vs 0 = none by rw [hi.out, List.drop_length]; rfl)
      clear hi
      go_wp2
      go_ret
      exact ⟨by rw [EE.out]; rfl, hb.out⟩
set_option maxHeartbeats 2000000 in
set_option maxRecDepth 100000 in
theorem find0_some (next : Int) (A : Option Addr) (c : Nat) (vs : List (Int × Int)) (n : Int) (w : World) (h : Vs w A c vs) (hl : vs.length ≤ 1000000) (hz : n = 0) (hp : 0 < vs.length) :
    Calls Try.prog 17 #[.agg #[.int .i64 next, .slice A vs.length c], .int .i64 n] w fun e w' => e = .returned (.tuple #[.int .i64 ((vs.length - 1 : Nat) : Int), .bool true]) ∧ Below w.heap.size w w' := by
  have IX := Lib.hid (fun V (hV : Vs V A c vs) g (hg : V.cell? ⟨g, 0, none⟩ = some (.int .i64 n)) => index_any A c vs n g V hV hg hl)
  have d0 : (n == 0) = true := by simpa using hz
  clear hz
  have e1 : decide ((vs.length : Int) - 1 < 0) = false := by simp; omega
  have e2 : ((vs.length : Int) - 1) = ((vs.length - 1 : Nat) : Int) := by omega
  have e3 : decide (((vs.length - 1 : Nat) : Int) < 0) = false := by simp
  have H := Lib.hid h
  clear h
  have hmf : ∀ (fn : Fn) (first cap : Array Value) (w : World), (Instr.makeFunc fn first cap).run Try.prog w = .ok (.func fn first cap) w := fun _ _ _ _ => rfl
  go_enter Try.func17, Try.ntmps17
  go_wp2_with fail
  obtain ⟨W, hW⟩ : ∃ W : World, W = (w.alloc (.cells #[.int .i64 next, .slice A vs.length c] 24)).alloc (.cells #[.int .i64 n] 3) := ⟨_, rfl⟩
  rw [← hW]
  have B1 := Lib.hid (show Below w.heap.size w W by rw [hW]; exact bon (bda _ _) (bda _ _))
  have r1 := row_on (heap_alloc_new w (.cells #[.int .i64 next, .slice A vs.length c] 24)) (bda _ (.cells #[.int .i64 n] 3))
  rw [← hW] at r1
  have R1 := Lib.hid r1
  have N1 := Lib.hid (show W.cell? ⟨w.heap.size + 1, 0, none⟩ = some (.int .i64 n) by rw [hW]; simp)
  clear hW r1 hmf
  refine (IX.out W (H.out.below B1.out) _ N1.out).mono ?_
  rintro e w2 ⟨rfl, hb⟩
  have K2 := Lib.hid (bon B1.out hb)
  have f1 := row_c (row_on R1.out hb) (i := 1) rfl
  have f2 := (hb.cell (p := ⟨w.heap.size + 1, 0, none⟩) (World.block_lt_of_cell? _ _ N1.out)).trans N1.out
  clear hb
  go_wp2
  go_ret2
  exact ⟨rfl, K2.out⟩
set_option maxHeartbeats 2000000 in
set_option maxRecDepth 100000 in
theorem find0_none (next : Int) (A : Option Addr) (c : Nat) (vs : List (Int × Int)) (n : Int) (w : World) (h : Vs w A c vs) (hl : vs.length ≤ 1000000) (hz : n = 0) (hp : vs.length = 0) :
    Calls Try.prog 17 #[.agg #[.int .i64 next, .slice A vs.length c], .int .i64 n] w fun e w' => e = .returned (.tuple #[.int .i64 0, .bool false]) ∧ Below w.heap.size w w' := by
  have d0 : (n == 0) = true := by simpa using hz
  clear hz
  have e1 : decide ((vs.length : Int) - 1 < 0) = true := decide_eq_true (by omega)
  have e1' : decide (vs.length < 1) = true := decide_eq_true (by omega)
  clear hp
  have IX := Lib.hid (fun V (hV : Vs V A c vs) g (hg : V.cell? ⟨g, 0, none⟩ = some (.int .i64 n)) => index_any A c vs n g V hV hg hl)
  have H := Lib.hid h
  clear h
  have hmf : ∀ (fn : Fn) (first cap : Array Value) (w : World), (Instr.makeFunc fn first cap).run Try.prog w = .ok (.func fn first cap) w := fun _ _ _ _ => rfl
  go_enter Try.func17, Try.ntmps17
  go_wp2_with fail
  obtain ⟨W, hW⟩ : ∃ W : World, W = (w.alloc (.cells #[.int .i64 next, .slice A vs.length c] 24)).alloc (.cells #[.int .i64 n] 3) := ⟨_, rfl⟩
  rw [← hW]
  have B1 := Lib.hid (show Below w.heap.size w W by rw [hW]; exact bon (bda _ _) (bda _ _))
  have r1 := row_on (heap_alloc_new w (.cells #[.int .i64 next, .slice A vs.length c] 24)) (bda _ (.cells #[.int .i64 n] 3))
  rw [← hW] at r1
  have R1 := Lib.hid r1
  have N1 := Lib.hid (show W.cell? ⟨w.heap.size + 1, 0, none⟩ = some (.int .i64 n) by rw [hW]; simp)
  clear hW r1 hmf
  refine (IX.out W (H.out.below B1.out) _ N1.out).mono ?_
  rintro e w2 ⟨rfl, hb⟩
  have K2 := Lib.hid (bon B1.out hb)
  have f1 := row_c (row_on R1.out hb) (i := 1) rfl
  have f2 := (hb.cell (p := ⟨w.heap.size + 1, 0, none⟩) (World.block_lt_of_cell? _ _ N1.out)).trans N1.out
  clear hb
  go_wp2
  go_ret2
  exact ⟨rfl, K2.out⟩
set_option maxHeartbeats 2000000 in
set_option maxRecDepth 100000 in
theorem findn_some (next : Int) (A : Option Addr) (c : Nat) (vs : List (Int × Int)) (n : Int) (w : World) (h : Vs w A c vs) (hl : vs.length ≤ 1000000) (hz : n ≠ 0) (k : Nat) (hp : idxOf n vs 0 = some k) :
    Calls Try.prog 17 #[.agg #[.int .i64 next, .slice A vs.length c], .int .i64 n] w fun e w' => e = .returned (.tuple #[.int .i64 k, .bool true]) ∧ Below w.heap.size w w' := by
  have IX := Lib.hid (fun V (hV : Vs V A c vs) g (hg : V.cell? ⟨g, 0, none⟩ = some (.int .i64 n)) => index_any A c vs n g V hV hg hl)
  rw [hp] at IX
  have e1 : (n == 0) = false := by simpa using hz
  clear hp hz
  unfold idxI at IX
  have e2 : decide ((k : Int) < 0) = false := by simp
  have H := Lib.hid h
  clear h
  have hmf : ∀ (fn : Fn) (first cap : Array Value) (w : World), (Instr.makeFunc fn first cap).run Try.prog w = .ok (.func fn first cap) w := fun _ _ _ _ => rfl
  go_enter Try.func17, Try.ntmps17
  go_wp2_with fail
  obtain ⟨W, hW⟩ : ∃ W : World, W = (w.alloc (.cells #[.int .i64 next, .slice A vs.length c] 24)).alloc (.cells #[.int .i64 n] 3) := ⟨_, rfl⟩
  rw [← hW]
  have B1 := Lib.hid (show Below w.heap.size w W by rw [hW]; exact bon (bda _ _) (bda _ _))
  have r1 := row_on (heap_alloc_new w (.cells #[.int .i64 next, .slice A vs.length c] 24)) (bda _ (.cells #[.int .i64 n] 3))
  rw [← hW] at r1
  have R1 := Lib.hid r1
  have N1 := Lib.hid (show W.cell? ⟨w.heap.size + 1, 0, none⟩ = some (.int .i64 n) by rw [hW]; simp)
  clear hW r1 hmf
  refine (IX.out W (H.out.below B1.out) _ N1.out).mono ?_
  rintro e w2 ⟨rfl, hb⟩
  have K2 := Lib.hid (bon B1.out hb)
  have f1 := row_c (row_on R1.out hb) (i := 1) rfl
  have f2 := (hb.cell (p := ⟨w.heap.size + 1, 0, none⟩) (World.block_lt_of_cell? _ _ N1.out)).trans N1.out
  clear hb
  go_wp2
  go_ret2
  exact ⟨rfl, K2.out⟩
set_option maxHeartbeats 2000000 in
set_option maxRecDepth 100000 in
theorem findn_none (next : Int) (A : Option Addr) (c : Nat) (vs : List (Int × Int)) (n : Int) (w : World) (h : Vs w A c vs) (hl : vs.length ≤ 1000000) (hz : n ≠ 0) (hp : idxOf n vs 0 = none) :
    Calls Try.prog 17 #[.agg #[.int .i64 next, .slice A vs.length c], .int .i64 n] w fun e w' => e = .returned (.tuple #[.int .i64 0, .bool false]) ∧ Below w.heap.size w w' := by
  have IX := Lib.hid (fun V (hV : Vs V A c vs) g (hg : V.cell? ⟨g, 0, none⟩ = some (.int .i64 n)) => index_any A c vs n g V hV hg hl)
  rw [hp] at IX
  have e1 : (n == 0) = false := by simpa using hz
  clear hp hz
  unfold idxI at IX
  have H := Lib.hid h
  clear h
  have hmf : ∀ (fn : Fn) (first cap : Array Value) (w : World), (Instr.makeFunc fn first cap).run Try.prog w = .ok (.func fn first cap) w := fun _ _ _ _ => rfl
  go_enter Try.func17, Try.ntmps17
  go_wp2_with fail
  obtain ⟨W, hW⟩ : ∃ W : World, W = (w.alloc (.cells #[.int .i64 next, .slice A vs.length c] 24)).alloc (.cells #[.int .i64 n] 3) := ⟨_, rfl⟩
  rw [← hW]
  have B1 := Lib.hid (show Below w.heap.size w W by rw [hW]; exact bon (bda _ _) (bda _ _))
  have r1 := row_on (heap_alloc_new w (.cells #[.int .i64 next, .slice A vs.length c] 24)) (bda _ (.cells #[.int .i64 n] 3))
  rw [← hW] at r1
  have R1 := Lib.hid r1
  have N1 := Lib.hid (show W.cell? ⟨w.heap.size + 1, 0, none⟩ = some (.int .i64 n) by rw [hW]; simp)
  clear hW r1 hmf
  refine (IX.out W (H.out.below B1.out) _ N1.out).mono ?_
  rintro e w2 ⟨rfl, hb⟩
  have K2 := Lib.hid (bon B1.out hb)
  have f1 := row_c (row_on R1.out hb) (i := 1) rfl
  have f2 := (hb.cell (p := ⟨w.heap.size + 1, 0, none⟩) (World.block_lt_of_cell? _ _ N1.out)).trans N1.out
  clear hb
  go_wp2
  go_ret2
  exact ⟨rfl, K2.out⟩
theorem find_some (next : Int) (A : Option Addr) (c : Nat) (vs : List (Int × Int)) (n : Int) (k : Nat) (w : World) (h : Vs w A c vs) (hl : vs.length ≤ 1000000) (hp : findP vs n = some k) :
    Calls Try.prog 17 #[.agg #[.int .i64 next, .slice A vs.length c], .int .i64 n] w fun e w' => e = .returned (.tuple #[.int .i64 k, .bool true]) ∧ Below w.heap.size w w' := by
  unfold findP at hp
  by_cases hz : n = 0
  · rw [if_pos hz] at hp
    by_cases h0 : vs.length = 0
    · rw [if_pos h0] at hp; cases hp
    · rw [if_neg h0] at hp
      injection hp with hp
      subst hp
      exact find0_some next A c vs n w h hl hz (by omega)
  · rw [if_neg hz] at hp
    exact findn_some next A c vs n w h hl hz k hp
theorem find_none (next : Int) (A : Option Addr) (c : Nat) (vs : List (Int × Int)) (n : Int) (w : World) (h : Vs w A c vs) (hl : vs.length ≤ 1000000) (hp : findP vs n = none) :
    Calls Try.prog 17 #[.agg #[.int .i64 next, .slice A vs.length c], .int .i64 n] w fun e w' => e = .returned (.tuple #[.int .i64 0, .bool false]) ∧ Below w.heap.size w w' := by
  unfold findP at hp
  by_cases hz : n = 0
  · rw [if_pos hz] at hp
    by_cases h0 : vs.length = 0
    · exact find0_none next A c vs n w h hl hz h0
    · rw [if_neg h0] at hp; cases hp
  · rw [if_neg hz] at hp
    exact findn_none next A c vs n w h hl hz hp
end Go.Proofs.Ytlfjopjfolbmiaa
