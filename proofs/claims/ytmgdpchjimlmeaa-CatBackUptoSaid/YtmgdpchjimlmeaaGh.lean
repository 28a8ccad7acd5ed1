/-
  pager's Format; Alloc: the least page that is neither used nor fresh.
-/
import Derived.Test.YtmgdpchjimlmeaaGg
namespace Go.Proofs.Ytmgdpchjimlmeaa
open Go.RowKit
set_option linter.unusedSimpArgs false
set_option linter.unusedVariables false
theorem Cp.to_ch {B p g gs : Nat} {w V w' : World} (hb : Below w.heap.size w V) (c : Cp B p g gs V w') (hp : w.heap.size ≤ p) (hB : B ≤ w.heap.size) : Ch B g gs w w' :=
  ⟨c.os.trans hb.os, c.tape.trans hb.tape, c.output.trans hb.output, Nat.le_trans hb.size c.size,
    fun k h1 h2 h3 => (c.block k h1 (by omega) h2 h3).trans (hb.block k (Nat.lt_of_lt_of_le h1 hB)),
    fun k h1 h2 h3 h4 => (c.typ k (Nat.lt_of_lt_of_le h1 hb.size) (by omega) h2 h3 (by rw [hb.block k h1]; exact h4)).trans (hb.block k h1)⟩
set_option maxHeartbeats 4000000 in
set_option maxRecDepth 100000 in
theorem format_yes {B g gs : Nat} {v : Value} {S : List (List UInt8)} {C : List Wt} (w : World) (h : Dk B w g gs v S C) (hS : 8 ≤ S.length) (hC : C.length ≤ 900) :
    Calls Try.prog 7 #[.pointer (some ⟨g, 0, none⟩)] w fun e w' => ∃ p bm, e = .returned (.tuple #[.pointer (some ⟨p, 0, none⟩), .int .i64 0]) ∧ w.heap.size ≤ p ∧ Pb w' p 1 0 (.map (some bm)) g (.slice none 0 0) ∧ Us w' bm 2 (nU []) ∧ Dk B w' g gs (.slice none 0 0) (flush S (C ++ hdW 1 0 (nU []))) [] ∧ Ch B g gs w w' := by
  have PO := Lib.hid (pagesOf_any (S.length / 2) w h rfl)
  obtain ⟨n, hn⟩ : ∃ n, S.length / 2 = n := ⟨_, rfl⟩
  rw [hn] at PO
  have n4 : decide ((n : Int) < 4) = false := decide_eq_false (by omega)
  have n4' : decide (n < 4) = false := decide_eq_false (by omega)
  obtain ⟨V, hV⟩ : ∃ V : World, V = w.alloc (.cells #[.int .i64 0, .int .i64 0, .map none, .pointer (some ⟨g, 0, none⟩), .slice none 0 0, .bool false] 65) := ⟨_, rfl⟩
  have hbV : Below w.heap.size w V := by rw [hV]; exact bda _ _
  have PV := Lib.hid (show Pb V w.heap.size 0 0 (.map none) g (.slice none 0 0) by rw [hV]; exact heap_alloc_new _ _)
  have DV := Lib.hid (h.below hbV)
  have BV := Lib.hid hbV
  have HB := Lib.hid h.hB
  have NH := Lib.hid (show Calls Try.prog 20 #[.int .i64 1, .int .i64 0, .slice none 0 0] V fun e w' => ∃ bm, e = .returned (.agg #[.int .i64 1, .int .i64 0, .map (some bm)]) ∧ V.heap.size ≤ bm ∧ Us w' bm 2 (nU []) ∧ Below V.heap.size V w' from newHead_any 1 0 [] none 0 V (Rl.nil_ _ _ _ _) (fun x hx => by simp at hx) (by simp))
  have HS := Lib.hid hS
  have HC := Lib.hid hC
  have HN := Lib.hid hn
  clear h hS hC hn hbV
  go_enter Try.func7, Try.ntmps7
  go_wp2_with fail
  refine PO.out.mono ?_
  rintro e w1 ⟨rfl, hw⟩
  obtain rfl : w = w1 := hw.symm
  clear hw
  go_wp2_with fail
  rw [← hV]
  refine NH.out.mono ?_
  rintro e w2 ⟨bm, rfl, hbm, hu, hb⟩
  have LY := Lib.hid (show Calls Try.prog 19 #[.pointer (some ⟨w.heap.size, 0, none⟩), .agg #[.int .i64 1, .int .i64 0, .map (some bm)]] w2 fun e w' => e = .returned (.int .i64 0) ∧ Pb w' w.heap.size 1 0 (.map (some bm)) g (.slice none 0 0) ∧ Us w' bm 2 (nU []) ∧ Dk B w' g gs (.slice none 0 0) (flush S (C ++ hdW 1 0 (nU []))) [] ∧ Cp B w.heap.size g gs w2 w' from lay_any 1 0 w2 (row_on PV.out hb) hu (DV.out.below hb) (by have := HS.out; omega) HC.out)
  have B2 := Lib.hid hb
  clear hV hu hb hbm
  go_wp2_with fail
  refine LY.out.mono ?_
  rintro e w3 ⟨rfl, hp3, hu3, hd3, hc3⟩
  have H3 := Lib.hid (And.intro hp3 (And.intro hu3 (And.intro hd3 hc3)))
  clear hp3 hu3 hd3 hc3
  go_wp2
  go_ret2
  exact ⟨_, _, rfl, Nat.le_refl _, H3.out.1, H3.out.2.1, H3.out.2.2.1, Cp.to_ch (bon BV.out B2.out) H3.out.2.2.2 (Nat.le_refl _) HB.out⟩
set_option maxHeartbeats 4000000 in
set_option maxRecDepth 100000 in
theorem format_no {B g gs : Nat} {v : Value} {S : List (List UInt8)} {C : List Wt} (w : World) (h : Dk B w g gs v S C) (hS : S.length < 8) :
    Calls Try.prog 7 #[.pointer (some ⟨g, 0, none⟩)] w fun e w' => e = .returned (.tuple #[.pointer none, .int .i64 1]) ∧ w' = w := by
  have PO := Lib.hid (pagesOf_any (S.length / 2) w h rfl)
  obtain ⟨n, hn⟩ : ∃ n, S.length / 2 = n := ⟨_, rfl⟩
  rw [hn] at PO
  have n4 : decide ((n : Int) < 4) = true := decide_eq_true (by omega)
  have n4' : decide (n < 4) = true := decide_eq_true (by omega)
  clear h hS hn
  go_enter Try.func7, Try.ntmps7
  go_wp2_with fail
  refine PO.out.mono ?_
  rintro e w1 ⟨rfl, hw⟩
  obtain rfl : w = w1 := hw.symm
  clear hw
  go_wp2
  go_ret2
  exact ⟨rfl, rfl⟩
/-- Is a page used, or fresh? -/
def taken (U : Nat → Bool) (F : List Nat) (i : Nat) : Bool := U i || F.contains i
/-- What an append to the fresh pages may turn: p's box, the row, nothing else. -/
structure Ca (p : Nat) (f f' : Value) (w w' : World) : Prop where
  os : w'.os = w.os
  tape : w'.tape = w.tape
  output : w'.output = w.output
  size : w.heap.size ≤ w'.heap.size
  block : ∀ k, k < w.heap.size → k ≠ p → some k ≠ f.ownBlock → w'.heap[k]? = w.heap[k]?
  own : ∀ k, f'.ownBlock = some k → f.ownBlock = some k ∨ w.heap.size ≤ k
theorem Ca.refl (p : Nat) (f : Value) (w : World) : Ca p f f w w := ⟨rfl, rfl, rfl, Nat.le_refl _, fun _ _ _ _ => rfl, fun _ h => .inl h⟩
theorem Ca.trans {p : Nat} {f f' f'' : Value} {a b c : World} (h : Ca p f f' a b) (k : Ca p f' f'' b c) : Ca p f f'' a c :=
  ⟨k.os.trans h.os, k.tape.trans h.tape, k.output.trans h.output, Nat.le_trans h.size k.size,
    fun i h1 h2 h3 => (k.block i (Nat.lt_of_lt_of_le h1 h.size) h2 (fun e => by
      rcases h.own i e.symm with h4 | h4
      · exact h3 h4.symm
      · omega)).trans (h.block i h1 h2 h3),
    fun i hi => by
      rcases k.own i hi with h1 | h1
      · exact h.own i h1
      · exact .inr (Nat.le_trans h.size h1)⟩
theorem Ca.of_below {p : Nat} {f : Value} {a b : World} (h : Below a.heap.size a b) : Ca p f f a b := ⟨h.os, h.tape, h.output, h.size, fun k h1 _ _ => h.block k h1, fun _ h => .inl h⟩
theorem Ca.below {N p : Nat} {f f' : Value} {w0 a b : World} (h : Ca p f f' a b) (hb : Below N w0 a) (hN : N ≤ a.heap.size) (hp : N ≤ p) (hf : ∀ k, f.ownBlock = some k → N ≤ k) : Below N w0 b :=
  ⟨h.os.trans hb.os, h.tape.trans hb.tape, h.output.trans hb.output, Nat.le_trans hb.size h.size, fun k hk => (h.block k (Nat.lt_of_lt_of_le hk hN) (by omega) (fun e => by have := hf k e.symm; omega)).trans (hb.block k hk)⟩
theorem Dk.grown {B g gs : Nat} {v : Value} {S : List (List UInt8)} {C : List Wt} {w w' : World} {r : Option Nat} (h : Dk B w g gs v S C) (hg : w.grownBy w' r) (hr : ∀ b, some b = r → ∃ cs T fr, w.heap[b]? = some (.cells cs T fr) ∧ T ≠ 107 ∧ T ≠ 58 ∧ T ≠ 105) : Dk B w' g gs v S C :=
  ⟨(hg.block g (heap_lt h.hg) (fun e => by obtain ⟨cs, T, fr, h1, _, h3, _⟩ := hr g e; exact ne_rows h1 h.hg h3 rfl)).trans h.hg,
   (hg.block gs (heap_lt h.hs) (fun e => by obtain ⟨cs, T, fr, h1, _, _, h4⟩ := hr gs e; exact ne_rows h1 h.hs h4 rfl)).trans h.hs,
   h.ho.kept hg (by
    cases e : v.ownBlock with
    | none => exact .inl rfl
    | some k =>
      refine .inr (fun e2 => ?_)
      obtain ⟨cs, T, fr, h1, h2, _⟩ := hr k e2
      obtain ⟨c, fz, h3⟩ := Lib.ownsRow_kind h.ho k e
      exact ne_rows h1 h3 h2 rfl), h.gB, h.sB, h.ne, Nat.le_trans h.hB hg.size, h.s64, h.c64, h.cn, h.n1, h.n2⟩
theorem one_newG {w : World} {a : Value} {T : TypeId} {j : Nat} {u : Value} (hj : [a][j]? = some u) : (w.alloc (.cells #[a] T)).cell? ((⟨w.heap.size, 0, none⟩ : Addr).add j) = some u := by
  rw [Addr.add_lit, Nat.zero_add, cell_of_row _ _ _ _ _ _ (heap_alloc_new w _)]
  simpa using hj
theorem taken_inU {U : Nat → Bool} {k : Nat} (h : k < 512) : inU U (.int .i64 (k : Int)) = U k := by rw [inU_nat, decide_eq_true h]; rfl
set_option maxHeartbeats 4000000 in
set_option maxRecDepth 100000 in
theorem alloc_any {B L p g gs bm k0 : Nat} {v f : Value} {T R : Int} {U : Nat → Bool} {F : List Nat} {S : List (List UInt8)} {C : List Wt} (n : Nat) (w : World) (hp : Pb w p T R (.map (some bm)) g f) (hu : Us w bm k0 U) (hf : w.ownsRow L 3 1 f F.length (F.map nn)) (hL : L ≤ w.heap.size) (h : Dk B w g gs v S C) (hn : S.length / 2 = n) (hF : F.length ≤ 1000) :
    Calls Try.prog 54 #[.pointer (some ⟨p, 0, none⟩)] w fun e w' => (∃ x f', x < n ∧ (∀ i, i < x → taken U F i = true) ∧ taken U F x = false ∧ e = .returned (.tuple #[.int .i64 (x : Int), .int .i64 0]) ∧ Pb w' p T R (.map (some bm)) g f' ∧ Us w' bm k0 U ∧ w'.ownsRow L 3 1 f' (F.length + 1) ((F ++ [x]).map nn) ∧ Dk B w' g gs v S C ∧ Ca p f f' w w') ∨ ((∀ i, i < n → taken U F i = true) ∧ e = .returned (.tuple #[.int .i64 0, .int .i64 6]) ∧ Below w.heap.size w w') := by
  have PG := Lib.hid (pages_any n w (row_c (i := 3) hp rfl) h hn)
  have n5 : n ≤ 512 := by have := h.n2; omega
  have HP := Lib.hid hp
  have HU := Lib.hid hu
  have HF := Lib.hid hf
  have HD := Lib.hid h
  have HL := Lib.hid hL
  have HFL := Lib.hid hF
  obtain ⟨A, c, rfl, hRl, hFr⟩ := rl_of_own hf
  have HR := Lib.hid hRl
  have N5 := Lib.hid n5
  have c5 := row_c (i := 5) hp rfl
  obtain ⟨i0, hi, hz0, hz1, hz2⟩ := info_parts (show (Try.prog.info? 3).map (fun i => (i.zero, i.size, i.bytes)) = some (some (.int .i64 0), 1, 8) by kernel_rfl)
  clear hp hu hf h hL hF hRl hFr hn n5
  go_enter Try.func54, Try.ntmps54
  go_wp2_with fail
  refine PG.out.mono ?_
  rintro e w1 ⟨rfl, hw⟩
  obtain rfl : w = w1 := hw.symm
  clear hw c5
  go_wp2_with fail
  go_loopw [11] (fun kv wr => ∃ k : Nat, k ≤ n ∧ kv = .int .i64 k ∧ Hid (∀ i, i < k → taken U F i = true) ∧ Hid (Below w.heap.size w wr)) (fun kv _ => n - (intOf kv).toNat)
  case atStart => exact ⟨0, by omega, rfl, Lib.hid (fun i hi => by omega), Lib.hid (Below.refl _ _)⟩
  case round =>
    obtain ⟨k, hk, rfl, hT, hb⟩ := hrel
    by_cases hk2 : k < n
    · have k1 : (k : Int) < (n : Int) := by omega
      have k5 : k < 512 := by have := N5.out; omega
      have KL := Lib.hid (And.intro hk2 k5)
      have kw := Lib.hid (wup (k := k) (by omega))
      obtain ⟨q, hq⟩ : ∃ q, U k = q := ⟨_, rfl⟩
      have P1 := Lib.hid (row_on HP.out hb.out)
      have UC := Lib.hid (uses_any (b := p) (k : Int) q wr (HU.out.below hb.out) (row_c (i := 2) P1.out rfl) (wf_nat k5) (by rw [taken_inU k5]; exact hq))
      have HQ := Lib.hid hq
      clear hq k5 hk2 hk
      go_wp2_with fail
      refine UC.out.mono ?_
      rintro e w2 ⟨rfl, hb2⟩
      have B2 := Lib.hid (bon hb.out hb2)
      clear UC hb2
      cases q
      · obtain ⟨r, hr⟩ : ∃ r, F.contains k = r := ⟨_, rfl⟩
        have CT := Lib.hid (contains_any F A c k r w2 (HR.out.below B2.out) (by have := HFL.out; omega) hr)
        have HQR := Lib.hid hr
        have c4 := row_c (i := 4) (row_on HP.out B2.out) rfl
        clear hr
        go_wp2_with fail
        refine CT.out.mono ?_
        rintro e w3 ⟨rfl, hw⟩
        obtain rfl : w2 = w3 := hw.symm
        clear hw CT
        cases r
        · have P2 := Lib.hid (row_on HP.out B2.out)
          have o1 := Lib.hid (own_below (w' := w2) HF.out B2.out)
          have z4 := frozen_of_row _ _ 4 _ _ P2.out
          have bz : L ≤ w2.heap.size := Nat.le_trans HL.out B2.out.size
          have F1 := Lib.hid (show F.length + 1 ≤ 1001 by have := HFL.out; omega)
          go_wp2_with (at_builtin; refine wpList_append_lies _ rfl _ _ 63 rfl L 3 i0 (.int .i64 0) 1 8 Try.underlying63 hi hz0 hz1 hz2 rfl (by decide) _ _ _ rfl (o1.out.alloc _) ⟨w2.heap.size, 0, none⟩ 1 1 [.int .i64 (k : Int)] rfl rfl (fun j u hj => one_newG hj) (by intro u hu; simp at hu; subst hu; rfl) (by have := F1.out; omega) (by unfold maxLen; have := F1.out; omega) (by have := F1.out; omega) (by simp; omega) (w2.heap.size + 1) (by simp) ?_)
          intro g1 cap w3 hown1 hgrow hat hgl1
          have P3 := Lib.hid (show w3.heap[p]? = _ from (hgrow.block p (by have := heap_lt P2.out; simp; omega) (fun e => by
            obtain ⟨cc, fz, h3⟩ := Lib.ownsRow_kind o1.out p e.symm
            exact ne_rows h3 P2.out (by decide) rfl)).trans (row_on P2.out (bda _ _)))
          have NE := Lib.hid (fun b (e : some b = (Value.slice A F.length c).ownBlock) => Lib.ownsRow_kind o1.out b e.symm)
          have U3 := Lib.hid (show Us w3 bm k0 U from ((HU.out.below B2.out).below (bda _ _)).kept hgrow (fun e => by
            obtain ⟨cc, fz, h3⟩ := NE.out bm e
            obtain ⟨es, cl, hb⟩ := (HU.out.below B2.out).isMap
            exact ne_map hb h3 rfl))
          have D3 := Lib.hid (((HD.out.below B2.out).below (bda w2 (.cells #[.int .i64 (k : Int)] 3))).grown hgrow (fun b e => by
            obtain ⟨cc, fz, h3⟩ := NE.out b e
            exact ⟨cc, _, fz, row_on h3 (bda _ _), by decide, by decide, by decide⟩))
          have C3 := Lib.hid (show Ca p (.slice A F.length c) (.slice (some ⟨g1, 0, none⟩) (F.length + 1) cap) w w3 from (Ca.of_below (p := p) (bon B2.out (bda _ _))).trans ⟨hgrow.os, hgrow.tape, hgrow.output, hgrow.size, fun k h1 _ h3 => hgrow.block k h1 h3, fun k hk => by
            have hkg : g1 = k := by simpa [Value.ownBlock] using hk
            subst hkg
            rcases hat with h1 | h1
            · exact .inl h1
            · exact .inr (by simp; omega)⟩)
          have p4 := row_c (i := 4) P3.out rfl
          have y4 := frozen_of_row _ _ 4 _ _ P3.out
          have O3 := Lib.hid hown1
          have TK := Lib.hid (show taken U F k = false by unfold taken; rw [HQ.out, HQR.out]; rfl)
          clear hown1 hgrow hat c4 z4
          go_wp2
          try rw [Exit.noGoto_ret]
          go_ret2
          have r4 := heap_setCell_same _ _ 4 _ _ (.slice (some ⟨g1, 0, none⟩) (F.length + 1) cap) P3.out
          refine .inl ⟨k, .slice (some ⟨g1, 0, none⟩) (F.length + 1) cap, KL.out.1, hT.out, TK.out, rfl, r4, ?_, ?_, ?_, ?_⟩
          · obtain ⟨es, cl, hb⟩ := U3.out.isMap
            exact U3.out.same (Below.heap_setCell _ _ _ _ (ne_map hb P3.out))
          · have h := O3.out.kept (grown_set p 4 (.slice (some ⟨g1, 0, none⟩) (F.length + 1) cap)) (.inr (fun e => by
              obtain ⟨cc, fz, h3⟩ := Lib.ownsRow_kind O3.out p e
              exact ne_rows h3 P3.out (by decide) rfl))
            rw [List.map_append]
            exact h
          · have pn := D3.out.p_ne P3.out
            exact D3.out.pset P3.out (by decide) pn.1 pn.2 _ _
          · exact C3.out.trans ⟨rfl, rfl, rfl, by simp [World.setCell], fun k _ hk _ => Below.heap_setCell _ _ _ _ hk, fun _ h => .inl h⟩
        · go_wp2_with fail
          go_roundw
          case rel => exact ⟨k + 1, KL.out.1, by rw [kw.out]; rfl, Lib.hid (fun i hi => by
            rcases Nat.lt_or_ge i k with h | h
            · exact hT.out i h
            · obtain rfl : i = k := by omega
              unfold taken; rw [HQR.out, Bool.or_true]), B2⟩
          case measure => exact meas_up KL.out.1 kw.out
      · go_wp2_with fail
        go_roundw
        case rel => exact ⟨k + 1, KL.out.1, by rw [kw.out]; rfl, Lib.hid (fun i hi => by
          rcases Nat.lt_or_ge i k with h | h
          · exact hT.out i h
          · obtain rfl : i = k := by omega
            unfold taken; rw [HQ.out, Bool.true_or]), B2⟩
        case measure => exact meas_up KL.out.1 kw.out
    · obtain rfl : k = n := by omega
      clear hk2 hk
      go_wp2
      go_ret2
      exact .inr ⟨hT.out, rfl, hb.out⟩
end Go.Proofs.Ytmgdpchjimlmeaa
