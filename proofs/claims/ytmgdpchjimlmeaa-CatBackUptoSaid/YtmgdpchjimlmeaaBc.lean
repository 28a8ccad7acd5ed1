/-
  chain: the iterator over a text's pages.
-/
import Derived.Test.YtmgdpchjimlmeaaBa
import Derived.Test.YtmgdpchjimlmeaaBr
import Derived.RangeFuncNested
import Derived.RangeFuncBound
import Derived.RangeFuncCalls
import Derived.RangeFuncLeaves
import Derived.Shelf.Abstract
import Derived.Shelf.RegionOpen
import Derived.OwnWalkIn
import Derived.TacticsInMore
import Derived.LoopNIn
import Derived.LoopIn
import Derived.Maps.OwnIn
import Derived.Maps.AppendAt
namespace Go.Proofs.Ytmgdpchjimlmeaa
open Go.RowKit Go.Shelf
set_option linter.unusedSimpArgs false
set_option linter.unusedVariables false
attribute [local go_sem] Oper.semAt_some
/-- A page's link: the number of the next one. -/
def lnk (n : Nat) : List UInt8 := [UInt8.ofNat (n / 256), UInt8.ofNat n]
def nxt (xs : List (Nat × List UInt8)) (i : Nat) : Nat := (xs[i + 1]?.map Prod.fst).getD 0
/-- The pages of a text, and its pieces, stand so on the disk. -/
structure Chn (S : List (List UInt8)) (C : List Wt) (M : Nat) (xs : List (Nat × List UInt8)) : Prop where
  pos : 0 < xs.length
  len : xs.length ≤ 500
  nodup : (xs.map Prod.fst).Nodup
  ok : ∀ i x, xs[i]? = some x → 2 ≤ x.1 ∧ x.1 < M ∧ x.2.length ≤ 118 ∧ rd S C (2 * x.1) ++ rd S C (2 * x.1 + 1) = sealL 2 (lnk (nxt xs i) ++ x.2)
theorem Dk.keep {B g gs : Nat} {v : Value} {S : List (List UInt8)} {C : List Wt} {w w' : World} (h : Dk B w g gs v S C) (hs : w.heap.size ≤ w'.heap.size) (hk : ∀ k, k < w.heap.size → w'.heap[k]? = w.heap[k]?) : Dk B w' g gs v S C :=
  ⟨(hk g (heap_lt h.hg)).trans h.hg, (hk gs (heap_lt h.hs)).trans h.hs, ⟨h.ho.1, by
    rcases h.ho.2 with h0 | ⟨b, cap, cur, h1, h2, h3, h4⟩
    · exact .inl h0
    · exact .inr ⟨b, cap, cur, h1, h2, (hk b (heap_lt h3)).trans h3, h4⟩⟩, h.gB, h.sB, h.ne, Nat.le_trans h.hB hs, h.s64, h.c64, h.cn, h.n1, h.n2⟩
/-- Where the iterator lays memory, writes its own. -/
theorem Stays.below {α : Type} {J : List α → (Nat → Prop) → World → Prop} (hJ : Stays J) {s : List α} {X : Nat → Prop} {A B : World} (h : J s X A) (hb : Below A.heap.size A B) : ∃ X', J s X' B ∧ (∀ k, X k → X' k) ∧ ∀ k, A.heap.size ≤ k → k < B.heap.size → X' k :=
  ⟨_, hJ.new s X A B h hb, fun k hk => .inl hk, fun k h1 h2 => .inr ⟨h1, h2⟩⟩
theorem Stays.grown {α : Type} {J : List α → (Nat → Prop) → World → Prop} (hJ : Stays J) {s : List α} {X : Nat → Prop} {A B : World} {r : Option Nat} (h : J s X A) (hg : A.grownBy B r) (hr : ∀ g, r = some g → X g) : ∃ X', J s X' B ∧ (∀ k, X k → X' k) ∧ ∀ k, A.heap.size ≤ k → k < B.heap.size → X' k := by
  cases r with
  | none => exact hJ.below h ⟨hg.os, hg.tape, hg.output, hg.size, fun k hk => hg.block k hk (by simp)⟩
  | some g => exact ⟨_, hJ.own s X A B g h (hr g rfl) hg, fun k hk => .inl hk, fun k h1 h2 => .inr ⟨h1, h2⟩⟩
set_option maxHeartbeats 1000000 in
/-- chain: both arguments are boxed; the function value holds the boxes. -/
theorem chain_any (p : Nat) (first : Int) (w : World) :
    Calls Try.prog 44 #[.pointer (some ⟨p, 0, none⟩), .int .i64 first] w fun e w' => e = .returned (.func (.func 56) #[] #[.pointer (some ⟨w.heap.size + 1, 0, none⟩), .pointer (some ⟨w.heap.size, 0, none⟩)]) ∧ w' = (w.alloc (.cells #[.pointer (some ⟨p, 0, none⟩)] 31)).alloc (.cells #[.int .i64 first] 3) := by
  go_enter Try.func44, Try.ntmps44
  go_wp2
  go_ret
  exact ⟨rfl, rfl⟩
theorem own_keep {w w' : World} {T : TypeId} {B m n : Nat} {v : Value} {xs : List Value} (h : w.ownsRow B T m v n xs) (hk : ∀ b, v.ownBlock = some b → w'.heap[b]? = w.heap[b]?) : w'.ownsRow B T m v n xs :=
  ⟨h.1, by
    rcases h.2 with h0 | ⟨b, cap, cur, h1, h2, h3, h4⟩
    · exact .inl h0
    · exact .inr ⟨b, cap, cur, h1, h2, (hk b (by rw [h1]; rfl)).trans h3, h4⟩⟩
theorem own_geB {w : World} {T : TypeId} {B m n b : Nat} {v : Value} {xs : List Value} (h : w.ownsRow B T m v n xs) (e : v.ownBlock = some b) : B ≤ b := by
  rcases h.2 with ⟨h0, _⟩ | ⟨b', cap, cur, h1, h2, _⟩
  · rw [h0] at e; cases e
  · rw [h1] at e; cases e; exact h2
theorem nxt_is {S : List (List UInt8)} {C : List Wt} {M i nx : Nat} {xs : List (Nat × List UInt8)} (h : Chn S C M xs) (hi : i < xs.length) (e : nxt xs i = nx) : (nx = 0 ∧ i + 1 = xs.length) ∨ (2 ≤ nx ∧ nx < M ∧ (∃ z, xs[i + 1]? = some z ∧ z.1 = nx) ∧ ((xs.take (i + 1)).map Prod.fst).contains nx = false) := by
  unfold nxt at e
  rcases Nat.lt_or_ge (i + 1) xs.length with h1 | h1
  · have hz := List.getElem?_eq_getElem h1
    rw [hz] at e
    have e2 : (xs[i + 1]'h1).1 = nx := e
    obtain ⟨o1, o2, _⟩ := h.ok _ _ hz
    refine .inr ⟨by omega, by omega, ⟨_, hz, e2⟩, ?_⟩
    have hn := h.nodup
    rw [← List.take_append_drop (i + 1) xs, List.map_append, List.nodup_append] at hn
    have hm : nx ∈ (xs.drop (i + 1)).map Prod.fst := by
      rw [List.mem_map]
      refine ⟨xs[i + 1]'h1, ?_, e2⟩
      rw [List.mem_iff_getElem?]
      exact ⟨0, by rw [List.getElem?_drop]; exact hz⟩
    have hno : ¬ nx ∈ (xs.take (i + 1)).map Prod.fst := fun h2 => hn.2.2 _ h2 _ hm rfl
    simpa using hno
  · rw [List.getElem?_eq_none h1] at e
    exact .inl ⟨e.symm, by omega⟩
theorem lnk_at {nx : Nat} {y : List UInt8} (h : nx < 65536) : at8 (lnk nx ++ y) 0 = nx / 256 ∧ at8 (lnk nx ++ y) 1 = nx % 256 := by
  unfold at8 lnk
  constructor
  · simp [UInt8.toNat_ofNat']; omega
  · simp [UInt8.toNat_ofNat']
theorem take_next {α : Type} {xs : List α} {i : Nat} {y : α} (h : xs[i]? = some y) : xs.take i ++ [y] = xs.take (i + 1) := by
  obtain ⟨h1, h2⟩ := List.getElem?_eq_some_iff.1 h
  rw [List.take_succ_eq_append_getElem h1, h2]
def lenOf : Value → Nat
  | .slice _ n _ => n
  | _ => 0
def stepV (x : Nat × List UInt8) : Value := .agg #[.int .i64 (x.1 : Int), .string ⟨x.2.toArray⟩, .int .i64 0]
set_option maxRecDepth 100000 in
set_option maxHeartbeats 4000000 in
/-- The iterator hands on the pages, with their pieces, in their order. -/
theorem chain_hands {B p g gs : Nat} {v f m0 : Value} {T R : Int} {S : List (List UInt8)} {C : List Wt} (F : Fence) (hF : F = Fence.wide) (n : Nat) (hn : 1 ≤ n) (M : Nat) (xs : List (Nat × List UInt8)) (w0 w : World) (h0s : w0.heap.size ≤ w.heap.size) (h0k : ∀ k, k < w0.heap.size → w.heap[k]? = w0.heap[k]?) (hp : Pb w0 p T R m0 g f) (h : Dk B w0 g gs v S C) (hC : C.length ≤ 1000) (hM : S.length / 2 = M) (hx : Chn S C M xs) (b1 b2 : Nat) (hb2 : b2 < w.heap.size) (hc1 : w.cell? ⟨b1, 0, none⟩ = some (.int .i64 ((xs[0]?.map Prod.fst).getD 0 : Nat))) (hb1 : b1 < w.heap.size) (hc2 : w.heap[b2]? = some (.cells #[.pointer (some ⟨p, 0, none⟩)] 31 (0, 0))) :
    Hands F n Try.prog 56 #[.pointer (some ⟨b1, 0, none⟩), .pointer (some ⟨b2, 0, none⟩)] (fun x => #[stepV x]) (fun k => k < w0.heap.size ∨ k = b2) xs w := by
  subst hF
  intro l J W hW hJ hY h0
  have c1 : W.cell? ⟨b1, 0, none⟩ = _ := (hW.cell (p := ⟨b1, 0, none⟩) hb1).trans hc1
  have HBL := Lib.hid (show b2 < W.heap.size from Nat.lt_of_lt_of_le hb2 hW.size)
  have HC2 := Lib.hid (show W.heap[b2]? = _ from (hW.block b2 hb2).trans hc2)
  have KW := Lib.hid (show ∀ k, k < w0.heap.size → W.heap[k]? = w0.heap[k]? from fun k hk => (hW.block k (by omega)).trans (h0k k hk))
  have HS := Lib.hid (show w0.heap.size ≤ W.heap.size from Nat.le_trans h0s hW.size)
  have HX := Lib.hid hx
  have HP := Lib.hid hp
  have HD := Lib.hid h
  have HC := Lib.hid hC
  have HM := Lib.hid hM
  have HJ := Lib.hid hJ
  have HY := Lib.hid hY
  have H0 := Lib.hid h0
  clear hc1 hc2 hb1 hb2 h0k h0s hx hp h hC hM hJ hY h0 hW
  obtain ⟨a0, ha0⟩ : ∃ a0 : Nat, (xs[0]?.map Prod.fst).getD 0 = a0 := ⟨_, rfl⟩
  rw [ha0] at c1
  have HA0 := Lib.hid ha0
  clear ha0
  obtain ⟨i0, hi0, hz0, hz1, hz2⟩ := info_parts (show (Try.prog.info? 3).map (fun i => (i.zero, i.size, i.bytes)) = some (some (.int .i64 0), 1, 8) by kernel_rfl)
  have IP := Lib.hid (And.intro hi0 (And.intro hz0 (And.intro hz1 hz2)))
  clear hi0 hz0 hz1 hz2
  refine callsIn_of_wp Try.func56 rfl trivial ?_ rfl
  simp only [Try.ntmps56, List.size_toArray, List.length_cons, List.length_nil, Nat.reduceAdd, Nat.reduceSub, Array.replicate_succ, Array.replicate_zero, List.push_toArray, List.append_toArray, List.nil_append, List.cons_append]
  gi_wp2
  gi_loopw [4, 5] (fun av nv wr => ∃ (i a : Nat) (X : Nat → Prop), (∃ y, xs[i]? = some y ∧ y.1 = a) ∧ nv = .int .i64 (a : Int) ∧ Hid (wr.ownsRow W.heap.size 3 1 av i (((xs.take i).map Prod.fst).map nn)) ∧ Hid (∀ b, av.ownBlock = some b → X b) ∧ Hid (J (xs.take i) X wr) ∧ Hid (∀ k, k < w0.heap.size → wr.heap[k]? = w0.heap[k]?) ∧ Hid (wr.heap[b2]? = some (.cells #[.pointer (some ⟨p, 0, none⟩)] 31 (0, 0))) ∧ Hid (W.heap.size ≤ wr.heap.size)) (fun av _ _ => xs.length - lenOf av)
  case atStart =>
    refine ⟨0, a0, fun _ => False, ⟨_, List.getElem?_eq_getElem HX.out.pos, by rw [← HA0.out, List.getElem?_eq_getElem HX.out.pos]; rfl⟩, rfl, Lib.hid (World.ownsRow_nil _ _ _ _), Lib.hid (fun b e => by cases e), Lib.hid (by rw [List.take_zero]; exact H0.out), KW, HC2, Lib.hid (Nat.le_refl _)⟩
  case round =>
    obtain ⟨i, a, X, ⟨y, hy, hya⟩, rfl, HO, HOX, HJX, HKW, HB2, HSW⟩ := hrel
    obtain ⟨wl, hwl⟩ : ∃ x : World, wr = x := ⟨_, rfl⟩
    subst wr
    obtain ⟨t, ht⟩ : ∃ t, lnk (nxt xs i) ++ y.2 = t := ⟨_, rfl⟩
    obtain ⟨ok1, ok2, ok3, ok4⟩ := HX.out.ok i y hy
    rw [hya] at ok1 ok2 ok4
    rw [ht] at ok4
    have tl : t.length ≤ 120 := by rw [← ht]; unfold lnk; simp; omega
    have D1 := Lib.hid (HD.out.keep (Nat.le_trans HS.out HSW.out) HKW.out)
    have P1 := Lib.hid (show Pb wl p T R m0 g f from (HKW.out p (heap_lt HP.out)).trans HP.out)
    have PR := Lib.hid (pgread_c a 2 M t wl P1.out D1.out HC.out HM.out ok2 ok4 (by omega) (by omega) tl)
    have OK := Lib.hid (And.intro ok1 (And.intro ok2 (And.intro ok3 tl)))
    have HT := Lib.hid ht
    have HY1 := Lib.hid (And.intro hy hya)
    have c2 := row_c (i := 0) HB2.out rfl
    clear ok1 ok2 ok3 ok4 tl ht hy hya
    gi_wp2_with fail
    refine ⟨trivial, (callsIn_wide.2 PR.out).mono ?_⟩
    rintro e W1 ⟨rfl, hb⟩
    obtain ⟨X1, hJ1, hX1, hN1⟩ := HJ.out.below HJX.out hb
    obtain ⟨Pi, hPi⟩ : ∃ Pi, (xs.take i).map Prod.fst = Pi := ⟨_, rfl⟩
    have hil : i < xs.length := (List.getElem?_eq_some_iff.1 HY1.out.1).1
    have hpl : Pi.length = i := by rw [← hPi, List.length_map, List.length_take]; omega
    have ho := HO.out
    rw [hPi] at ho
    obtain ⟨A4, c4, hu4, hrl4, _⟩ := rl_of_own ho
    rw [hpl] at hu4
    subst hu4
    have o1 := Lib.hid (own_below ho hb)
    have IL := Lib.hid (show i < xs.length ∧ xs.length ≤ 500 from ⟨hil, HX.out.len⟩)
    have HPI := Lib.hid (And.intro hPi hpl)
    have hsz := hb.size
    have K1 := Lib.hid (show ∀ k, k < wl.heap.size → W1.heap[k]? = wl.heap[k]? from fun k hk => hb.block k hk)
    have S1 := Lib.hid hsz
    have J1 := Lib.hid hJ1
    have XX1 := Lib.hid hX1
    have bz : W.heap.size ≤ W1.heap.size := Nat.le_trans HSW.out hsz
    clear hJ1 hX1 hN1 hPi hil hpl ho hrl4 hb c2 hsz PR
    obtain ⟨hi0, hz0, hz1, hz2⟩ := IP.out
    gi_wp2_with (gi_at_builtin; refine wpListIn_append_own_at _ rfl _ _ 63 rfl W.heap.size 3 i0 (.int .i64 0) 1 8 Try.underlying63 hi0 hz0 hz1 hz2 rfl (by decide) _ _ _ rfl (o1.out.alloc _) ⟨W1.heap.size, 0, none⟩ 1 1 [.int .i64 (a : Int)] rfl rfl (cell_one_new _ _ _) (by simp [Value.oneCell']) (by unfold maxLen; have := IL.out; omega) (by have := IL.out; omega) (by simp; omega) ?_; intro v5 W2 hown5 hgrow _ hat; obtain ⟨g5, cap5, rfl⟩ := ownsRow_succ hown5)
    obtain ⟨X2, hj2, hx2, hn2⟩ : ∃ X', J (xs.take i) X' W2 ∧ (∀ k, X1 k → X' k) ∧ (∀ b, (Value.slice (some ⟨g5, 0, none⟩) (i + 1) cap5).ownBlock = some b → X' b) := by
      obtain ⟨Xa, ja, xa, na⟩ := HJ.out.below J1.out (bda W1 (.cells #[.int .i64 (a : Int)] 3))
      obtain ⟨Xb, jb, xb, nb⟩ := HJ.out.grown ja hgrow (fun g e => xa _ (XX1.out _ (HOX.out g e)))
      refine ⟨Xb, jb, fun k hk => xb _ (xa _ hk), fun b e => ?_⟩
      rcases hat with h | h
      · exact xb _ (xa _ (XX1.out _ (HOX.out b (h.symm.trans e))))
      · rw [h] at e
        have e2 := Option.some.inj e
        obtain ⟨cc, fz, h3⟩ := Lib.ownsRow_kind hown5 b (by rw [h]; exact e)
        exact nb b (by omega) (heap_lt h3)
    have K2 := Lib.hid (show ∀ k, k < w0.heap.size ∨ k = b2 → W2.heap[k]? = wl.heap[k]? from fun k hk => by
      have h1 : k < W.heap.size := by have := HS.out; have := HBL.out; omega
      have h2 := HSW.out
      have h3 := S1.out
      refine (hgrow.block k (by simp; omega) (fun e => ?_)).trans ((Below.heap_alloc _ _ k (by omega)).trans (K1.out k (by omega)))
      have := own_geB HO.out e.symm
      omega)
    have S2 := Lib.hid (show wl.heap.size ≤ W2.heap.size by have h1 := hgrow.size; have h2 := S1.out; simp at h1; omega)
    have O2 := Lib.hid (show W2.ownsRow W.heap.size 3 1 (.slice (some ⟨g5, 0, none⟩) (i + 1) cap5) (i + 1) (((xs.take (i + 1)).map Prod.fst).map nn) by rw [← take_next HY1.out.1, List.map_append, List.map_append, HPI.out.1]; show W2.ownsRow _ _ _ _ _ (Pi.map nn ++ [nn y.1]); rw [HY1.out.2]; exact hown5)
    have J2 := Lib.hid hj2
    have N2 := Lib.hid hn2
    obtain ⟨nx, hnx⟩ : ∃ nx, nxt xs i = nx := ⟨_, rfl⟩
    have NX := Lib.hid (nxt_is HX.out IL.out.1 hnx)
    have n5 : nx < 512 := by have := HD.out.n2; have := HM.out; rcases NX.out with h | h <;> omega
    have LK := Lib.hid (lnk_at (nx := nx) (y := y.2) (by omega))
    have HT2 := Lib.hid (show lnk nx ++ y.2 = t by rw [← hnx]; exact HT.out)
    have LY := Lib.hid (link_yes (nx / 256) (nx % 256) (nx / 256 * 256) nx t W2 (by omega) (by omega) rfl (by omega) (by rw [← HT2.out]; simp [lnk]) OK.out.2.2.2 (by rw [← HT2.out]; exact LK.out.1) (by rw [← HT2.out]; exact LK.out.2))
    have N5 := Lib.hid n5
    clear hj2 hx2 hn2 hown5 hgrow hat hi0 hz0 hz1 hz2 bz n5 hnx o1 K1 S1 J1 XX1 HOX HJX HO
    refine ⟨trivial, (callsIn_wide.2 LY.out).mono ?_⟩
    rintro e W3 ⟨rfl, hb3⟩
    obtain ⟨X3, hj3, hx3, hn3⟩ := HJ.out.below J2.out hb3
    have J3 := Lib.hid hj3
    have X23 := Lib.hid hx3
    have K3 := Lib.hid (show ∀ k, k < w0.heap.size ∨ k = b2 → W3.heap[k]? = wl.heap[k]? from fun k hk => (hb3.block k (by have := HS.out; have := HSW.out; have := S2.out; have := HBL.out; omega)).trans (K2.out k hk))
    have S3 := Lib.hid (Nat.le_trans S2.out hb3.size)
    have O3 := Lib.hid (own_below O2.out hb3)
    have D3 := Lib.hid (HD.out.keep (Nat.le_trans HS.out (Nat.le_trans HSW.out S3.out)) (fun k hk => (K3.out k (.inl hk)).trans (HKW.out k hk)))
    have P3 := Lib.hid (show Pb W3 p T R m0 g f from ((K3.out p (.inl (heap_lt HP.out))).trans (HKW.out p (heap_lt HP.out))).trans HP.out)
    have B3 := Lib.hid ((K3.out b2 (.inr rfl)).trans HB2.out)
    have MY : Calls Try.prog 59 #[.pointer (some ⟨p, 0, none⟩), .slice (some ⟨g5, 0, none⟩) (i + 1) cap5, .int .i64 (nx : Int)] W3 fun e w' => e = .returned (.bool true) ∧ w' = W3 := by
      have ho := O3.out
      obtain ⟨A6, c6, e6, hrl6, _⟩ := rl_of_own ho
      injection e6 with e1 e2 e3
      subst e1 e3
      exact may_ok _ _ _ nx M (i + 1) W3 (row_c (i := 3) P3.out rfl) D3.out HM.out hrl6 (by rw [List.length_map, List.length_take]; have := IL.out.1; omega) (by have := IL.out; omega) (by rcases NX.out with h | h; exact .inl h.1; exact .inr ⟨h.1, h.2.1, h.2.2.2⟩)
    have MYH := Lib.hid MY
    have c2 := row_c (i := 0) B3.out rfl
    clear hb3 hj3 hx3 hn3 MY LY J2 K2
    gi_wp2_with fail
    refine ⟨trivial, (callsIn_wide.2 MYH.out).mono ?_⟩
    rintro e w4 ⟨rfl, hw⟩
    obtain rfl : W3 = w4 := hw.symm
    clear hw
    have hyy := HY.out (xs.take i) y X3 W3 (by rw [take_next HY1.out.1]; exact List.take_prefix _ _) J3.out
    obtain ⟨fn, tmps, assign, body, hyr, hR⟩ := hyy
    unfold stepV at hyr
    rw [HY1.out.2] at hyr
    have HR := Lib.hid hR
    have e2 : (⟨t.toArray⟩ : ByteArray).extract 2 t.length = ⟨y.2.toArray⟩ := by
      rw [← HT2.out, ext_drop]; simp [lnk]
    have q2 : (2 : Int) ≤ (t.length : Int) := by rw [← HT2.out]; simp [lnk]; omega
    clear hR
    gi_wp2_with fail
    refine HR.out.mono ?_
    rintro e W4 ⟨rfl, j4, s4, k4⟩
    have JH := Lib.hid j4
    have G5 := Lib.hid (show X3 g5 from X23.out _ (N2.out g5 rfl))
    have K4 := Lib.hid (show ∀ k, k < w0.heap.size ∨ k = b2 → W4.heap[k]? = W3.heap[k]? from fun k hk => k4 k (.inl hk))
    have O4 := Lib.hid (own_keep O3.out (fun b e => by cases e; exact k4 _ (.inr G5.out)))
    have S4 := Lib.hid s4
    clear j4 s4 k4 hyr e2 q2
    rcases NX.out with ⟨hz, hl⟩ | ⟨h2, h3, ⟨z, hz, hz1⟩, h4⟩
    · have Z0 : ((nx : Int) == 0) = true := by rw [hz]; rfl
      have HL := Lib.hid hl
      clear hz hl
      gi_wp2_with fail
      refine bodyPost_ret (results_none rfl _ _ _) rfl ?_
      refine ⟨⟨_, rfl⟩, X3, ?_⟩
      have h := JH.out
      rw [take_next HY1.out.1, List.take_of_length_le (by have := HL.out; omega)] at h
      exact h
    · have Z0 : ((nx : Int) == 0) = false := by simpa using (show ¬ nx = 0 by omega)
      have HZ := Lib.hid (And.intro hz hz1)
      clear h2 h3 hz hz1 h4
      gi_wp2_with fail
      go_roundw
      case rel => exact ⟨i + 1, nx, X3, ⟨z, HZ.out⟩, rfl, O4, Lib.hid (fun b e => by cases e; exact G5.out), Lib.hid (by rw [← take_next HY1.out.1]; exact JH.out), Lib.hid (fun k hk => (K4.out k (.inl hk)).trans ((K3.out k (.inl hk)).trans (HKW.out k hk))), Lib.hid ((K4.out b2 (.inr rfl)).trans B3.out), Lib.hid (Nat.le_trans HSW.out (Nat.le_trans S3.out S4.out))⟩
      case measure => have := IL.out; simp only [lenOf]; omega
end Go.Proofs.Ytmgdpchjimlmeaa
