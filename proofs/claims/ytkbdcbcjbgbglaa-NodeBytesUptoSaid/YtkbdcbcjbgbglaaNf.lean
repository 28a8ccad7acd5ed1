/-
  Where a key stands: slices.BinarySearch, Child of both sides.
-/
import Derived.Test.YtkbdcbcjbgbglaaNe
namespace Go.Proofs.Ytkbdcbcjbgbglaa
open Go.RowKit
/-- How many keys ahead are below it. -/
def lbK (key : List UInt8) : List (List UInt8) → Nat
  | [] => 0
  | k :: r => if k < key then lbK key r + 1 else 0
def thereB (key : List UInt8) (ks : List (List UInt8)) : Bool := ks[lbK key ks]? == some key
def childI (lf : Bool) (key : List UInt8) (ks : List (List UInt8)) : Int :=
  if lf then (if thereB key ks then (lbK key ks : Int) else -1) else (if thereB key ks then (lbK key ks : Int) + 1 else (lbK key ks : Int))
theorem lbK_le (key : List UInt8) : ∀ ks, lbK key ks ≤ ks.length
  | [] => Nat.le_refl _
  | k :: r => by
    unfold lbK
    split
    · have := lbK_le key r; simp; omega
    · simp
theorem lbK_below {key : List UInt8} : ∀ {ks : List (List UInt8)} {t : Nat} {x : List UInt8}, ks[t]? = some x → t < lbK key ks → x < key
  | [], _, _, h, _ => by simp at h
  | k :: r, t, x, h, ht => by
    unfold lbK at ht
    split at ht
    · rename_i hk
      cases t with
      | zero => simp at h; subst h; exact hk
      | succ t => exact lbK_below (ks := r) (by simpa using h) (by omega)
    · omega
theorem lbK_eq {key : List UInt8} : ∀ {ks : List (List UInt8)} {lo : Nat}, lo ≤ ks.length → (∀ t x, ks[t]? = some x → (t < lo → x < key) ∧ (lo ≤ t → ¬ x < key)) → lbK key ks = lo
  | [], lo, h, _ => by simp at h; subst h; rfl
  | k :: r, lo, h, ha => by
    unfold lbK
    have h0 := ha 0 k rfl
    cases lo with
    | zero => rw [if_neg (h0.2 (Nat.le_refl _))]
    | succ lo =>
      rw [if_pos (h0.1 (by omega)), lbK_eq (lo := lo) (by simpa using h) (fun t x hx => by
        have := ha (t + 1) x (by simpa using hx)
        exact ⟨fun hh => this.1 (by omega), fun hh => this.2 (by omega)⟩)]
def Srt (ks : List (List UInt8)) : Prop := ∀ (i j : Nat) (x y : List UInt8), i < j → ks[i]? = some x → ks[j]? = some y → x < y
theorem lt_tr {a b c : List UInt8} (h : a < b) (k : b < c) : a < c := List.lt_trans h k
theorem chain_srt : ∀ {ks : List (List UInt8)} {p : Option (List UInt8)}, kchain p ks = true → Srt ks ∧ ∀ q, p = some q → ∀ x ∈ ks, q < x
  | [], p, _ => ⟨fun i j x y _ h => by simp at h, fun q _ x hx => by simp at hx⟩
  | k :: r, p, h => by
    unfold kchain kOk at h
    simp only [Bool.and_eq_true] at h
    obtain ⟨⟨_, hb⟩, hr⟩ := h
    obtain ⟨hs, hk⟩ := chain_srt hr
    have hk := hk k rfl
    refine ⟨fun i j x y hij hi hj => ?_, fun q hq x hx => ?_⟩
    · cases j with
      | zero => omega
      | succ j =>
        have hj' : r[j]? = some y := by simpa using hj
        cases i with
        | zero =>
          have : k = x := by simpa using hi
          subst this
          exact hk y (List.mem_of_getElem? hj')
        | succ i => exact hs i j x y (by omega) (by simpa using hi) hj'
    · subst hq
      have hqk : q < k := by unfold belowB at hb; simpa using hb
      rcases List.mem_cons.1 hx with rfl | hx
      · exact hqk
      · exact lt_tr hqk (hk x hx)
theorem srt_of_chain {ks : List (List UInt8)} (h : kchain none ks = true) : Srt ks := (chain_srt h).1
theorem nan1 (x : ByteArray) (w : World) : Calls Try.prog 46 #[.string x] w fun e w' => e = .returned (.bool false) ∧ w' = w := by
  go_enter Try.func46, Try.ntmps46
  go_wp2
  go_ret
  exact ⟨by simp, rfl⟩
theorem nan2 (x : ByteArray) (w : World) : Calls Try.prog 47 #[.string x] w fun e w' => e = .returned (.bool false) ∧ w' = w := by
  go_enter Try.func47, Try.ntmps47
  go_wp2
  go_ret
  exact ⟨by simp, rfl⟩
set_option maxHeartbeats 4000000 in
set_option maxRecDepth 100000 in
theorem less_any (x y : List UInt8) (w : World) : Calls Try.prog 45 #[sv x, sv y] w fun e w' => e = .returned (.bool (decide (x < y))) ∧ w' = w := by
  have LS := less_dec x y
  unfold sv
  generalize decide (x < y) = z at *
  have A1 := Lib.hid (fun V => nan2 (⟨x.toArray⟩ : ByteArray) V)
  go_enter Try.func45, Try.ntmps45
  go_wp2_with fail
  refine (A1.out _).mono ?_
  rintro e w2 ⟨rfl, rfl⟩
  go_wp2
  go_ret
  exact ⟨rfl, rfl⟩
set_option maxHeartbeats 4000000 in
set_option maxRecDepth 100000 in
theorem bsearch_any (A : Option Addr) (c : Nat) (ks : List (List UInt8)) (key : List UInt8) (w : World) (h : Rl sv w A c ks) (hl : ks.length ≤ 4000000) :
    Calls Try.prog 40 #[.slice A ks.length c, sv key] w fun e w' => ∃ (i : Nat) (b : Bool), e = .returned (.tuple #[.int .i64 i, .bool b]) ∧ i ≤ ks.length ∧ (b = true → i < ks.length) ∧ (Srt ks → i = lbK key ks ∧ b = thereB key ks) ∧ w' = w := by
  have H := Lib.hid h
  clear h
  unfold sv
  go_enter Try.func40, Try.ntmps40
  go_wp2_with fail
  go_loopw [7, 8] (fun i j wr => ∃ lo hi : Nat, i = .int .i64 lo ∧ j = .int .i64 hi ∧ lo ≤ hi ∧ hi ≤ ks.length ∧ wr = w ∧ Hid (Srt ks → ∀ t x, ks[t]? = some x → (t < lo → x < key) ∧ (hi ≤ t → ¬ x < key))) (fun i j _ => (intOf j).toNat - (intOf i).toNat)
  case atStart => exact ⟨0, ks.length, rfl, rfl, Nat.zero_le _, Nat.le_refl _, rfl, Lib.hid (fun _ t x hx => ⟨fun ht => absurd ht (Nat.not_lt_zero _), fun ht => by have := (List.getElem?_eq_some_iff.1 hx).1; omega⟩)⟩
  case round =>
    obtain ⟨lo, hi, rfl, rfl, hlh, hin, rfl, hI⟩ := hrel
    by_cases hlt : lo < hi
    · obtain ⟨m, hm⟩ : ∃ m, (lo + hi) / 2 = m := ⟨_, rfl⟩
      have m1 : ((lo : Int) + (hi : Int)) / 2 = (m : Int) := by omega
      have m2 : (m : Int) < (ks.length : Int) := by omega
      have m3 : (0 : Int) ≤ (m : Int) := by omega
      have M := Lib.hid (show lo ≤ m ∧ m < hi by omega)
      obtain ⟨x, hx⟩ := get_lt (xs := ks) (k := m) (by omega)
      obtain ⟨b, off, hA, _, g2⟩ := H.out.cell hx
      have HX := Lib.hid hx
      have LE := Lib.hid (fun V => less_any x key V)
      unfold sv at g2 LE
      subst hA
      clear hx hm
      cases hq : decide (x < key)
      · have HQ := Lib.hid hq
        rw [hq] at LE
        clear hq
        go_wp2_with fail
        refine (LE.out _).mono ?_
        rintro e w2 ⟨rfl, rfl⟩
        go_wp2
        go_roundw
        case rel =>
          refine ⟨lo, m, (by first | rfl | trivial), (by first | rfl | trivial), by have := M.out; omega, by have := M.out; omega, (by first | rfl | trivial), Lib.hid (fun hs t y hy => ⟨(hI.out hs t y hy).1, fun ht hlt => ?_⟩)⟩
          have hxk := of_decide_eq_false HQ.out
          rcases Nat.lt_or_ge m t with h1 | h1
          · exact hxk (lt_tr (hs m t x y h1 HX.out hy) hlt)
          · obtain rfl : t = m := by omega
            rw [HX.out] at hy; injection hy with hy; subst hy; exact hxk hlt
        case measure => simp [intOf]; have := M.out; omega
      · have HQ := Lib.hid hq
        rw [hq] at LE
        clear hq
        go_wp2_with fail
        refine (LE.out _).mono ?_
        rintro e w2 ⟨rfl, rfl⟩
        go_wp2
        go_roundw
        case rel =>
          refine ⟨m + 1, hi, by go_num, (by first | rfl | trivial), by have := M.out; omega, hin, (by first | rfl | trivial), Lib.hid (fun hs t y hy => ⟨fun ht => ?_, (hI.out hs t y hy).2⟩)⟩
          have hxk := of_decide_eq_true HQ.out
          rcases Nat.lt_or_ge t m with h1 | h1
          · exact lt_tr (hs t m y x h1 hy HX.out) hxk
          · obtain rfl : t = m := by omega
            rw [HX.out] at hy; injection hy with hy; subst hy; exact hxk
        case measure => simp [intOf]; have := M.out; omega
    · obtain rfl : lo = hi := by omega
      have EL := Lib.hid (fun hs => lbK_eq (key := key) hin (fun t x hx => hI.out hs t x hx))
      clear hI
      by_cases hn : lo < ks.length
      · obtain ⟨x, hx⟩ := get_lt (xs := ks) (k := lo) hn
        obtain ⟨b, off, hA, _, g2⟩ := H.out.cell hx
        have k0 : (0 : Int) ≤ (lo : Int) := by omega
        have k1 : (lo : Int) < (ks.length : Int) := by omega
        have HX := Lib.hid hx
        unfold sv at g2
        subst hA
        have A1 := Lib.hid (fun V => nan1 (⟨x.toArray⟩ : ByteArray) V)
        by_cases hxk : x = key
        · subst hxk
          clear hx
          go_wp2
          go_ret2
          exact ⟨lo, true, rfl, hin, fun _ => hn, fun hs => ⟨(EL.out hs).symm, by unfold thereB; rw [EL.out hs, HX.out]; simp⟩, rfl⟩
        · have e1 : (x == key) = false := by simpa using hxk
          clear hx
          go_wp2_with fail
          refine (A1.out _).mono ?_
          rintro e w2 ⟨rfl, rfl⟩
          go_wp2
          go_ret2
          exact ⟨lo, false, rfl, hin, (fun hh => by cases hh), fun hs => ⟨(EL.out hs).symm, by unfold thereB; rw [EL.out hs, HX.out]; simpa using hxk⟩, rfl⟩
      · obtain rfl : lo = ks.length := by omega
        go_wp2
        go_ret2
        exact ⟨ks.length, false, rfl, hin, (fun hh => by cases hh), fun hs => ⟨(EL.out hs).symm, by unfold thereB; rw [EL.out hs]; simp⟩, rfl⟩
set_option maxHeartbeats 4000000 in
set_option maxRecDepth 100000 in
theorem child_any (lf : Bool) (A : Option Addr) (c : Nat) (ks : List (List UInt8)) (B : Option Addr) (d : Nat) (ds : List Int) (key : List UInt8) (w : World) (h : Rl sv w A c ks) (hl : ks.length ≤ 4000000) :
    Calls Try.prog 22 #[.agg #[.bool lf, .slice A ks.length c, .slice B ds.length d], sv key] w fun e w' => ∃ r : Int, e = .returned (.int .i64 r) ∧ (Srt ks → r = childI lf key ks) ∧ Below w.heap.size w w' := by
  have BS := Lib.hid (fun V (hV : Rl sv V A c ks) => bsearch_any A c ks key V hV hl)
  have H := Lib.hid h
  clear h
  unfold sv at BS ⊢
  cases lf
  all_goals
    go_enter Try.func22, Try.ntmps22
    go_wp2_with fail
    refine (BS.out _ (H.out.below (bda _ _))).mono ?_
    rintro e w2 ⟨i, b, rfl, hi, _, hs, rfl⟩
    have HS := Lib.hid hs
    have i0 : IntKind.i64.wrap ((i : Int) + 1) = (i : Int) + 1 := IntWalk.i64_in _ (by omega)
    clear hs
    cases b
    all_goals
      go_wp2
      go_ret
      exact ⟨_, rfl, fun hh => by obtain ⟨h1, h2⟩ := HS.out hh; unfold childI; rw [← h2, ← h1]; simp, bda _ _⟩
theorem lbK_stop {key x : List UInt8} : ∀ {ks : List (List UInt8)}, ks[lbK key ks]? = some x → ¬ x < key
  | [], h => by simp at h
  | k :: r, h => by
    unfold lbK at h
    split at h
    · exact lbK_stop (ks := r) (by simpa using h)
    · rename_i hk
      have : k = x := by simpa using h
      subst this; exact hk
set_option maxHeartbeats 4000000 in
set_option maxRecDepth 100000 in
theorem rchild_any (lf : Bool) (A : Option Addr) (c : Nat) (ks : List (List UInt8)) (B : Option Addr) (d : Nat) (ds : List Int) (key : List UInt8) (w : World) (h : Rl sv w A c ks) (hl : ks.length ≤ 4000000) :
    Calls Try.prog 28 #[.agg #[.bool lf, .slice A ks.length c, .slice B ds.length d], sv key] w fun e w' => e = .returned (.int .i64 (childI lf key ks)) ∧ Below w.heap.size w w' := by
  have H := Lib.hid h
  clear h
  unfold sv
  go_enter Try.func28, Try.ntmps28
  go_wp2_with fail
  obtain ⟨W, hW⟩ : ∃ W : World, W = w.alloc (.cells #[.bool lf, .slice A ks.length c, .slice B ds.length d] 33) := ⟨_, rfl⟩
  have RW := Lib.hid (show W.heap[w.heap.size]? = some (.cells #[.bool lf, .slice A ks.length c, .slice B ds.length d] 33) by rw [hW]; exact heap_alloc_new _ _)
  have B1 := Lib.hid (show Below w.heap.size w W by rw [hW]; exact bda _ _)
  rw [← hW]
  clear hW
  go_loopw [5] (fun i wr => ∃ k : Nat, k ≤ lbK key ks ∧ i = .int .i64 k ∧ Hid (Below W.heap.size W wr)) (fun i _ => ks.length - (intOf i).toNat)
  case atStart => exact ⟨0, Nat.zero_le _, rfl, Lib.hid (Below.refl _ _)⟩
  case round =>
    obtain ⟨k, hk, rfl, hb⟩ := hrel
    have KW := Lib.hid (show Below w.heap.size w wr from B1.out.trans (hb.out.mono B1.out.size))
    have f0 := row_c (row_on RW.out hb.out) (i := 0) rfl
    have f1 := row_c (row_on RW.out hb.out) (i := 1) rfl
    have hkl : k ≤ ks.length := Nat.le_trans hk (lbK_le key ks)
    by_cases hlt : k < lbK key ks
    · have k2 := Nat.lt_of_lt_of_le hlt (lbK_le key ks)
      obtain ⟨x, hx⟩ := get_lt k2
      obtain ⟨b, off, hA, hbl, g2⟩ := (H.out.below KW.out).cell hx
      have LS := less_dec x key
      rw [decide_eq_true (lbK_below hx hlt)] at LS
      have HLT := Lib.hid hlt
      unfold sv at g2
      have k0 : (0 : Int) ≤ (k : Int) := by omega
      have k1 : (k : Int) < (ks.length : Int) := by omega
      subst hA
      clear hx hlt hk
      go_wp2
      go_roundw
      case rel => exact ⟨k + 1, HLT.out, by go_num, hb⟩
      case measure => simp [intOf]; omega
    · obtain rfl : k = lbK key ks := by omega
      have CI := Lib.hid (show childI lf key ks = if lf then (if thereB key ks then (lbK key ks : Int) else -1) else (if thereB key ks then (lbK key ks : Int) + 1 else (lbK key ks : Int)) from rfl)
      have TB := Lib.hid (show thereB key ks = (ks[lbK key ks]? == some key) from rfl)
      have ST := Lib.hid (fun x (hx : ks[lbK key ks]? = some x) => lbK_stop hx)
      have i0 : IntKind.i64.wrap ((lbK key ks : Int) + 1) = (lbK key ks : Int) + 1 := IntWalk.i64_in _ (by omega)
      by_cases hn : lbK key ks < ks.length
      · obtain ⟨x, hx⟩ := get_lt hn
        obtain ⟨b, off, hA, hbl, g2⟩ := (H.out.below KW.out).cell hx
        have LS := less_dec x key
        rw [decide_eq_false (ST.out x hx)] at LS
        have k0 : (0 : Int) ≤ (lbK key ks : Int) := by omega
        have k1 : (lbK key ks : Int) < (ks.length : Int) := by omega
        have TX := Lib.hid (show thereB key ks = (x == key) by rw [TB.out, hx]; rfl)
        unfold sv at g2
        clear hx TB ST hk hlt
        generalize lbK key ks = p at *
        generalize thereB key ks = tb at *
        subst hA
        by_cases hxk : x = key
        · subst hxk
          have TT := Lib.hid (show tb = true by rw [TX.out]; simp)
          clear TX
          cases lf
          all_goals
            have CC := Lib.hid CI.out
            rw [TT.out] at CC
            clear CI
            go_wp2
            go_ret
            exact ⟨congrArg (fun z => Ending.returned (.int .i64 z)) (by rw [CC.out]; rfl), KW.out⟩
        · have e1 : (x == key) = false := by simpa using hxk
          have TT := Lib.hid (show tb = false by rw [TX.out]; simpa using hxk)
          clear TX
          cases lf
          all_goals
            have CC := Lib.hid CI.out
            rw [TT.out] at CC
            clear CI
            go_wp2
            go_ret
            exact ⟨congrArg (fun z => Ending.returned (.int .i64 z)) (by rw [CC.out]; rfl), KW.out⟩
      · have hn2 : lbK key ks = ks.length := by have := lbK_le key ks; omega
        have TT := Lib.hid (show thereB key ks = false by rw [TB.out, hn2]; simp)
        clear ST TB hk hlt hn
        rw [hn2] at CI i0 ⊢
        generalize thereB key ks = tb at *
        cases lf
        all_goals
          have CC := Lib.hid CI.out
          rw [TT.out] at CC
          clear CI hn2
          go_wp2
          go_ret
          exact ⟨congrArg (fun z => Ending.returned (.int .i64 z)) (by rw [CC.out]; rfl), KW.out⟩
end Go.Proofs.Ytkbdcbcjbgbglaa
