/-
  BlobBack.
-/
import Derived.Test.YtcinipfmijmiiaaBk
import Derived.BigQuiet
namespace Go.Proofs.Ytcinipfmijmiiaa
open Go.RowKit
set_option linter.unusedSimpArgs false
set_option linter.unusedVariables false
/-- The texts that were written, each from its first page. -/
structure Tk (S : List (List UInt8)) (C : List Wt) (u : Nat) (T : List (Nat × List UInt8)) : Prop where
  each : ∀ z ∈ T, 2 ≤ z.1 ∧ z.1 + nd z.2.length ≤ u + 2 ∧ z.2.length ≤ 2000 ∧ Chn S C 30 (chs (List.range' z.1 (nd z.2.length)) z.2)
  sum : u = (T.map fun z => nd z.2.length).sum
theorem Tk.add {S : List (List UInt8)} {C : List Wt} {u K : Nat} {T : List (Nat × List UInt8)} {t : List UInt8} (h : Tk S C u T) (hK : nd t.length = K) (ht : t.length ≤ 2000) (hu : u + K ≤ 28) : Tk S (C ++ wrs (List.range' (2 + u) K) t K) (u + K) (T ++ [(2 + u, t)]) := by
  refine ⟨fun z hz => ?_, by rw [List.map_append, List.sum_append, ← h.sum, ← hK]; simp⟩
  rcases List.mem_append.1 hz with hz | hz
  · obtain ⟨a, b, c, d⟩ := h.each z hz
    refine ⟨a, by omega, c, d.more fun x hx cc hc => ?_⟩
    rw [chs_fst] at hx
    have hx2 := List.mem_range'_1.1 hx
    obtain ⟨j, hj, e⟩ := wrs_mem hc
    have ej : ((List.range' (2 + u) K)[j]?).getD 0 = 2 + u + j := by rw [List.getElem?_range' hj]; simp
    rw [ej] at e
    omega
  · obtain rfl := List.mem_singleton.1 hz
    refine ⟨by show 2 ≤ 2 + u; omega, by show 2 + u + nd t.length ≤ _; omega, ht, ?_⟩
    show Chn S _ 30 (chs (List.range' (2 + u) (nd t.length)) t)
    rw [hK]
    exact chn_new hK (by omega) List.nodup_range' (by simp) (fun x hx => range_two hx (by omega) (by omega))
theorem sum_take {T : List (Nat × List UInt8)} {j : Nat} {z : Nat × List UInt8} (h : T[j]? = some z) : ((T.take (j + 1)).map fun z => nd z.2.length).sum = ((T.take j).map fun z => nd z.2.length).sum + nd z.2.length := by
  rw [← take_next h, List.map_append, List.sum_append]; simp
theorem sum_le (T : List (Nat × List UInt8)) (j : Nat) : ((T.take j).map fun z => nd z.2.length).sum ≤ (T.map fun z => nd z.2.length).sum := by
  have h := congrArg (fun l : List (Nat × List UInt8) => (l.map fun z => nd z.2.length).sum) (List.take_append_drop j T)
  simp only [List.map_append, List.sum_append] at h
  omega
/-- A row of strings behind a deed on the pager. -/
theorem ownS_cz {B L L2 p g gs bm k0 n : Nat} {T R : Int} {U : Nat → Bool} {F : List Nat} {S : List (List UInt8)} {C : List Wt} {f f' : Value} {w w' : World} {xs : List Value} {v : Value} (h : w.ownsRow L2 9 1 v n xs) (hp : Pg B L p g gs bm k0 T R U F S C f w) (c : Cz B p g gs f f' w w') : w'.ownsRow L2 9 1 v n xs := by
  refine ⟨h.1, ?_⟩
  rcases h.2 with h0 | ⟨b, cap, cur, h1, h2, h3, h4⟩
  · exact .inl h0
  · obtain ⟨a1, a2, a3⟩ := hp.ne h3 (by decide) (by decide) (by decide)
    refine .inr ⟨b, cap, cur, h1, h2, c.keep h3 (by decide) a1 a2 a3 (fun e => ?_), h4⟩
    obtain ⟨_, cs, fr, h5⟩ := hp.row e.symm
    exact ne_rows h3 h5 (by decide) rfl
theorem Pg.grownS {B L p g gs bm k0 : Nat} {T R : Int} {U : Nat → Bool} {F : List Nat} {S : List (List UInt8)} {C : List Wt} {f : Value} {w w' : World} {r : Option Nat} (h : Pg B L p g gs bm k0 T R U F S C f w) (hg : w.grownBy w' r) (hr : ∀ b, r = some b → ∃ cs fr, w.heap[b]? = some (.cells cs 9 fr)) : Pg B L p g gs bm k0 T R U F S C f w' := by
  obtain ⟨v, hd⟩ := h.dk
  refine ⟨(hg.block p (heap_lt h.pb) (fun e => ?_)).trans h.pb, h.us.same (hg.block bm h.us.lt (fun e => ?_)), h.fr.kept hg ?_, ⟨v, hd.grown hg (fun b e => ?_)⟩, Nat.le_trans h.hL hg.size⟩
  · obtain ⟨cs, fr, h1⟩ := hr p e.symm
    exact ne_rows h1 h.pb (by decide) rfl
  · obtain ⟨cs, fr, h1⟩ := hr bm e.symm
    obtain ⟨es, cl, hm⟩ := h.us.isMap
    exact ne_map hm h1 rfl
  · rcases hf : f.ownBlock with _ | b
    · exact .inl rfl
    · refine .inr fun e => ?_
      obtain ⟨cs, fr, h1⟩ := hr b e.symm
      obtain ⟨_, cs2, fr2, h5⟩ := h.row hf
      exact ne_rows h1 h5 (by decide) rfl
  · obtain ⟨cs, fr, h1⟩ := hr b e.symm
    exact ⟨cs, _, fr, h1, by decide, by decide, by decide⟩
theorem textB_any {x : List UInt8} {y s : ByteArray} {m : Nat} (hx : (⟨x.toArray⟩ : ByteArray) = y) (hs : y.extract 0 (min (y.size : Int) (m : Int)).toNat = s) : ∃ t : List UInt8, s = ⟨t.toArray⟩ ∧ t.length ≤ m := by
  refine ⟨s.data.toList, by simp, ?_⟩
  rw [← hs, show (y.extract 0 (min (y.size : Int) (m : Int)).toNat).data.toList.length = (y.extract 0 (min (y.size : Int) (m : Int)).toNat).size by simp, ByteArray.size_extract]
  omega
set_option maxHeartbeats 8000000 in
set_option maxRecDepth 100000 in
theorem blobBack_any (LA : Option Addr) (lc : Nat) (ls : List (List UInt8)) (w : World) (hl : Rl sv w LA lc ls) (hls : ∀ x ∈ ls, x.length ≤ maxLen) (hln : ls.length ≤ maxLen) : Calls Try.prog 3 #[.slice LA ls.length lc] w fun e w' => e = .returned (.bool true) ∧ Below w.heap.size w w' := by
  obtain ⟨nl, hnl⟩ : ∃ nl, ls.length = nl := ⟨_, rfl⟩
  have HNL := Lib.hid hnl
  have HL := Lib.hid hl
  have HLS := Lib.hid hls
  rw [hnl]
  obtain ⟨i0, hi0, hz0, hz1, hz2⟩ := info_parts (show (Try.prog.info? 3).map (fun i => (i.zero, i.size, i.bytes)) = some (some (.int .i64 0), 1, 8) by kernel_rfl)
  have IP := Lib.hid (And.intro hi0 (And.intro hz0 (And.intro hz1 hz2)))
  obtain ⟨j0, hj0, hy0, hy1, hy2⟩ := info_parts (show (Try.prog.info? 9).map (fun i => (i.zero, i.size, i.bytes)) = some (some (.string ⟨#[]⟩), 1, 16) by kernel_rfl)
  have JP := Lib.hid (And.intro hj0 (And.intro hy0 (And.intro hy1 hy2)))
  clear hi0 hz0 hz1 hz2 hj0 hy0 hy1 hy2 hl hls hln hnl
  go_enter Try.func3, Try.ntmps3
  go_wp2_with fail
  refine (examples_any w).mono ?_
  rintro e w0 ⟨rfl, hb⟩
  have B0 := Lib.hid hb
  clear hb
  have NEW := Lib.hid (show Calls Try.prog 7 #[.int .i64 60] w0 fun e w' => ∃ g gs, e = .returned (.tuple #[.pointer (some ⟨g, 0, none⟩), .int .i64 0]) ∧ Dk w'.heap.size w' g gs (.slice none 0 0) (List.replicate 60 z64) [] ∧ Below w0.heap.size w0 w' ∧ w0.heap.size ≤ g ∧ w0.heap.size ≤ gs from new_any 60 (by omega) (by omega) w0)
  go_wp2_with fail
  refine NEW.out.mono ?_
  rintro e w1 ⟨g, gs, rfl, hd1, hb1, hg, hgs⟩
  have B1 := Lib.hid (bon B0.out hb1)
  have HGG := Lib.hid (And.intro (Nat.le_trans B0.out.size hg) (Nat.le_trans B0.out.size hgs))
  obtain ⟨S0, hS0⟩ : ∃ S0, List.replicate 60 z64 = S0 := ⟨_, rfl⟩
  have SL0 := Lib.hid (show S0.length = 60 by rw [← hS0]; simp)
  rw [hS0] at hd1
  have FY := Lib.hid (format_yes w1 hd1 (by rw [SL0.out]; omega) (by simp))
  clear hd1 hb1 NEW hg hgs hS0
  go_wp2_with fail
  refine FY.out.mono ?_
  rintro e w2 ⟨p, bm, rfl, hp, hpb, hu, hd, hc⟩
  obtain ⟨S1, hS1⟩ : ∃ S1, flush S0 ([] ++ hdW 1 0 (nU [])) = S1 := ⟨_, rfl⟩
  have SL := Lib.hid (show S1.length = 60 by rw [← hS1, flush_len, SL0.out])
  rw [hS1] at hd
  have B2 := Lib.hid (hc.below B1.out B1.out.size HGG.out.1 HGG.out.2)
  have PP := Lib.hid (Nat.le_trans B1.out.size hp)
  have P2 := Lib.hid (show Pg w1.heap.size w2.heap.size p g gs bm 2 1 0 (nU []) (rg 0) S1 [] (.slice none 0 0) w2 from ⟨hpb, hu, World.ownsRow_nil _ _ _ _, ⟨_, hd⟩, Nat.le_refl _⟩)
  clear hS1 hp hpb hu hd hc FY
  go_wp2_with fail
  go_loopw [8, 9, 10, 11] (fun fv kv uv iv wr => ∃ (i u : Nat) (T : List (Nat × List UInt8)) (C : List Wt) (f : Value), iv = .int .i64 (i : Int) ∧ uv = .int .i64 (u : Int) ∧ Hid (i ≤ 5 ∧ i ≤ nl ∧ T.length ≤ i) ∧ Hid (u ≤ 28 ∧ C.length ≤ 2 * u) ∧ Hid (Tk S1 C u T) ∧ Hid (Pg w1.heap.size w2.heap.size p g gs bm 2 1 0 (nU []) (rg u) S1 C f wr) ∧ Hid (Below w.heap.size w wr) ∧ Hid (wr.ownsRow w.heap.size 3 1 fv T.length (T.map fun z => nn z.1)) ∧ Hid (wr.ownsRow w.heap.size 9 1 kv T.length (T.map fun z => sv z.2)) ∧ Hid (∀ b, fv.ownBlock = some b → some b ≠ f.ownBlock)) (fun _ _ _ iv _ => 5 - (intOf iv).toNat)
  case atStart => exact ⟨0, 0, [], [], _, rfl, rfl, Lib.hid ⟨by omega, by omega, by simp⟩, Lib.hid ⟨by omega, by simp⟩, Lib.hid ⟨by simp, by simp⟩, P2, B2, Lib.hid (World.ownsRow_nil _ _ _ _), Lib.hid (World.ownsRow_nil _ _ _ _), Lib.hid (fun b e => by cases e)⟩
  case round =>
    obtain ⟨i, u, T, C, f, rfl, rfl, HI, HU, HT, HP, HB, HO, HK, HN⟩ := hrel
    obtain ⟨wl, hwl⟩ : ∃ x : World, wr = x := ⟨_, rfl⟩
    subst wr
    obtain ⟨A8, c8, h8⟩ := own_form HO.out
    obtain ⟨A9, c9, h9⟩ := own_form HK.out
    have ho := HO.out
    have hk := HK.out
    have hn := HN.out
    clear HO HK HN
    subst h8 h9
    have HO := Lib.hid ho
    have HK := Lib.hid hk
    have HN := Lib.hid hn
    clear ho hk hn
    go_upto_region 14 with (fail)
    go_cut [53] (fun v wx => v = .bool (decide (i < nl ∧ i < 5)) ∧ wx = wl)
    case first =>
      have EX : (decide (i < nl) = false ∧ decide ((i : Int) < (nl : Int)) = false ∧ decide (i < nl ∧ i < 5) = false) ∨ (decide (i < nl) = true ∧ decide ((i : Int) < (nl : Int)) = true ∧ decide (i < 5) = false ∧ decide ((i : Int) < 5) = false ∧ decide (i < nl ∧ i < 5) = false) ∨ (decide (i < nl) = true ∧ decide ((i : Int) < (nl : Int)) = true ∧ decide (i < 5) = true ∧ decide ((i : Int) < 5) = true ∧ decide (i < nl ∧ i < 5) = true) := by
        by_cases h1 : i < nl
        · by_cases h2 : i < 5
          · exact .inr (.inr ⟨decide_eq_true h1, decide_eq_true (by omega), decide_eq_true h2, decide_eq_true (by omega), decide_eq_true ⟨h1, h2⟩⟩)
          · exact .inr (.inl ⟨decide_eq_true h1, decide_eq_true (by omega), decide_eq_false h2, decide_eq_false (by omega), decide_eq_false (fun h => h2 h.2)⟩)
        · exact .inl ⟨decide_eq_false h1, decide_eq_false (by omega), decide_eq_false (fun h => h1 h.1)⟩
      rcases EX with ⟨x1, x2, x5⟩ | ⟨x1, x2, x3, x4, x5⟩ | ⟨x1, x2, x3, x4, x5⟩
      all_goals
        have X5 := Lib.hid x5
        clear x5
        go_wp2_with fail
        go_meet
        exact ⟨by rw [X5.out], rfl⟩
    case rest =>
    obtain ⟨hcv, hw⟩ := hcut
    obtain rfl : wl = wc := hw.symm
    clear hw
    by_cases hgo : i < nl ∧ i < 5
    · rw [decide_eq_true hgo] at hcv
      subst hcv
      have IL := Lib.hid hgo
      obtain ⟨x, hx⟩ : ∃ x, ls[i]? = some x := ⟨_, List.getElem?_eq_getElem (by rw [HNL.out]; exact hgo.1)⟩
      obtain ⟨kb, ko, hA, hkb, hkx⟩ := (HL.out.below HB.out).cell hx
      unfold sv at hkx
      have XL := Lib.hid (show x.length ≤ 9223372036854775807 from HLS.out x (List.mem_of_getElem? hx))
      obtain ⟨y, hy⟩ : ∃ y : ByteArray, (⟨x.toArray⟩ : ByteArray) = y := ⟨_, rfl⟩
      rw [hy] at hkx
      have HYX := Lib.hid hy
      subst hA
      have k0 : (0 : Int) ≤ (i : Int) := by omega
      have k1 : (i : Int) < (nl : Int) := by omega
      clear hx hy hkb hgo
      go_upto_region 16 with fail
      go_quiet (fail)
      obtain ⟨s, hs⟩ : ∃ s : ByteArray, y.extract 0 (min (y.size : Int) 2000).toNat = s := ⟨_, rfl⟩
      obtain ⟨t, hst, htl⟩ := textB_any (m := 2000) HYX.out hs
      have HST := Lib.hid hst
      have HTL := Lib.hid htl
      rw [hs]
      clear hs hkx k0 k1 hst htl
      obtain ⟨w5, hw5⟩ : ∃ x : World, wl.drewN nq = x := ⟨_, rfl⟩
      have hb : Below wl.heap.size wl w5 := by rw [← hw5]; exact below_drewN (Below.refl _ _) nq
      rw [hw5]
      have P5 := Lib.hid (HP.out.below hb)
      have B5 := Lib.hid (bon HB.out hb)
      have O5 := Lib.hid (own_below HO.out hb)
      have K5 := Lib.hid (own_below HK.out hb)
      clear hw5 hb
      obtain ⟨K, hK⟩ : ∃ K, nd t.length = K := ⟨_, rfl⟩
      have KK := Lib.hid (show 1 ≤ K ∧ K ≤ 17 by rw [← hK]; have := HTL.out; unfold nd; omega)
      have HKN := Lib.hid hK
      have WR := Lib.hid (bwrite_any 30 K t w5 P5.out (by rw [SL.out]) (by have := HTL.out; omega) hK (by rw [rg_len]; have := HU.out; have := KK.out; omega) (by have := HU.out; have := KK.out; omega))
      rw [← HST.out] at WR
      have TS := Lib.hid (show s.size = t.length by rw [HST.out]; exact str_size t)
      clear hK
      go_wp2_with fail
      refine WR.out.mono ?_
      intro e w6 hq
      obtain ⟨i1, hi1⟩ : ∃ i1, i + 1 = i1 := ⟨_, rfl⟩
      have W1 := Lib.hid (show Value.int .i64 (wrap64 ((i : Int) + 1)) = .int .i64 (i1 : Int) by rw [IntWalk.wrap64_in _ ⟨by omega, by have := IL.out; omega⟩, ← hi1]; rfl)
      have II := Lib.hid hi1
      obtain ⟨u1, hu1⟩ : ∃ u1, u + K = u1 := ⟨_, rfl⟩
      have W2 := Lib.hid (show wrap64 ((u : Int) + (K : Int)) = (u1 : Int) by rw [IntWalk.wrap64_in _ ⟨by omega, by have := HU.out; have := KK.out; omega⟩]; omega)
      have UU := Lib.hid hu1
      have ND := Lib.hid (fun V => show Calls Try.prog 10 #[.int .i64 (t.length : Int)] V fun e w' => e = .returned (.int .i64 (K : Int)) ∧ w' = V by have h := need_nat t.length (by have := HTL.out; omega) V; rwa [HKN.out] at h)
      clear hi1 hu1
      rcases Nat.lt_or_ge 28 (u + K) with hfull | hroom
      · have hfew := als_rg_few (n := 30) (m := u) (k := K) (by have := HU.out; omega) (by omega)
        obtain ⟨f6, hc6, ⟨h2, _⟩ | ⟨_, rfl, hp6⟩⟩ := hq
        · omega
        have P6 := Lib.hid hp6
        have B6 := Lib.hid (hc6.below B5.out (by exact B5.out.size) (Nat.le_trans B1.out.size (Nat.le_refl _)) PP.out HGG.out.1 HGG.out.2 (fun k e => Nat.le_trans B2.out.size (P5.out.row e).1))
        obtain ⟨ho6, hn6⟩ := own_cz O5.out P5.out hc6 HN.out
        have O6 := Lib.hid ho6
        have N6 := Lib.hid hn6
        have K6 := Lib.hid (ownS_cz K5.out P5.out hc6)
        have FR := Lib.hid (fresh_pg w6 P6.out (by rw [rg_len]; have := HU.out; omega))
        rw [rg_len] at FR
        have d1 : decide ((28 : Int) < (u1 : Int)) = true := decide_eq_true (by have := UU.out; omega)
        have d2 : decide (28 < u1) = true := decide_eq_true (by have := UU.out; omega)
        have ts := TS.out
        have w2' := W2.out
        clear hp6 hc6 ho6 hn6 hfew hfull WR O5 K5 HO HK HN
        go_wp2_with fail
        try rw [ts]
        refine (ND.out w6).mono ?_
        rintro e w7 ⟨rfl, hw⟩
        obtain rfl : w6 = w7 := hw.symm
        clear hw
        go_wp2_with fail
        refine FR.out.mono ?_
        rintro e w7 ⟨v7, rfl, ho7, hb7⟩
        obtain ⟨A7, c7, h7⟩ := own_form ho7
        subst h7
        have P7 := Lib.hid (P6.out.below hb7)
        have B7 := Lib.hid (bon B6.out hb7)
        have O7 := Lib.hid (own_below O6.out hb7)
        have K7 := Lib.hid (own_below K6.out hb7)
        clear ho7 hb7 FR
        go_wp2_with fail
        have e3 := W1.out
        refine ⟨⟨i1, u, T, C, f6, e3, rfl, Lib.hid (by have := HI.out; have := IL.out; have := II.out; omega), HU, HT, P7, B7, O7, K7, N6⟩, ?_⟩
        rw [e3]
        have hi := IL.out
        have hi1 := II.out
        clear e3 W1 W2 w2' ts d1 d2
        show 5 - ((i1 : Int)).toNat < 5 - ((i : Int)).toNat
        omega
      · have hals := als_rg 30 u K (by omega)
        rw [hals] at hq
        obtain ⟨f6, hc6, ⟨_, he, hp6⟩ | ⟨h2, _⟩⟩ := hq
        case inr => simp at h2
        obtain ⟨a1, ha1⟩ : ∃ a1, 2 + u = a1 := ⟨_, rfl⟩
        rw [show ((List.range' (2 + u) K)[0]?).getD 0 = a1 by rw [List.getElem?_range' (by have := KK.out; omega)]; simp; omega] at he
        subst he
        rw [rg_add, UU.out, ha1] at hp6
        have P6 := Lib.hid hp6
        have B6 := Lib.hid (hc6.below B5.out (by exact B5.out.size) (Nat.le_trans B1.out.size (Nat.le_refl _)) PP.out HGG.out.1 HGG.out.2 (fun k e => Nat.le_trans B2.out.size (P5.out.row e).1))
        obtain ⟨ho6, hn6⟩ := own_cz O5.out P5.out hc6 HN.out
        have O6 := Lib.hid ho6
        have N6 := Lib.hid hn6
        have K6 := Lib.hid (ownS_cz K5.out P5.out hc6)
        have T6 := Lib.hid (show Tk S1 (C ++ wrs (List.range' a1 K) t K) u1 (T ++ [(a1, t)]) from by have h := HT.out.add HKN.out HTL.out hroom; rwa [ha1, UU.out] at h)
        have U6 := Lib.hid (show u1 ≤ 28 ∧ (C ++ wrs (List.range' a1 K) t K).length ≤ 2 * u1 from ⟨by have := UU.out; omega, by rw [List.length_append, wrs_len]; have := HU.out; have := UU.out; omega⟩)
        have FR := Lib.hid (fresh_pg w6 P6.out (by rw [rg_len]; have := U6.out; omega))
        rw [rg_len] at FR
        have d1 : decide ((28 : Int) < (u1 : Int)) = false := decide_eq_false (by have := UU.out; omega)
        have d2 : decide (28 < u1) = false := decide_eq_false (by have := UU.out; omega)
        have ts := TS.out
        have w2' := W2.out
        clear hp6 hc6 ho6 hn6 hals hroom ha1 WR O5 K5 HO HK HN
        go_wp2_with fail
        try rw [ts]
        refine (ND.out w6).mono ?_
        rintro e w7 ⟨rfl, hw⟩
        obtain rfl : w6 = w7 := hw.symm
        clear hw
        go_wp2_with fail
        refine FR.out.mono ?_
        rintro e w7 ⟨v7, rfl, ho7, hb7⟩
        obtain ⟨A7, c7, h7⟩ := own_form ho7
        subst h7
        have P7 := Lib.hid (P6.out.below hb7)
        have B7 := Lib.hid (bon B6.out hb7)
        have O7 := Lib.hid (own_below O6.out hb7)
        have K7 := Lib.hid (own_below K6.out hb7)
        have TL := Lib.hid (show T.length ≤ 5 by have := HI.out; omega)
        clear ho7 hb7 FR
        obtain ⟨hi0, hz0, hz1, hz2⟩ := IP.out
        go_upto_region 26 with (at_builtin; refine wpList_append_own_at _ rfl _ _ 31 rfl w.heap.size 3 i0 (.int .i64 0) 1 8 Try.underlying31 hi0 hz0 hz1 hz2 rfl (by decide) _ _ _ rfl (O7.out.alloc _) ⟨w7.heap.size, 0, none⟩ 1 1 [.int .i64 (a1 : Int)] rfl rfl (cell_one_new _ _ _) (by simp [Value.oneCell']) (by unfold maxLen; have := TL.out; omega) (by have := TL.out; omega) (by have := B7.out.size; simp; omega) ?_; intro v5 w8 hown5 hgrow _ hat; obtain ⟨g5, cap5, rfl⟩ := ownsRow_succ hown5)
        have hg2 : (w7.alloc (.cells #[.int .i64 (a1 : Int)] 3)).grownBy w8 (Value.slice A8 T.length c8).ownBlock := hgrow
        have hat2 : (Value.slice (some ⟨g5, 0, none⟩) (T.length + 1) cap5).ownBlock = (Value.slice A8 T.length c8).ownBlock ∨ (Value.slice (some ⟨g5, 0, none⟩) (T.length + 1) cap5).ownBlock = some (w7.heap.size + 1) := hat.imp id (fun h => h.trans (by simp))
        have hr2 : ∀ b, (Value.slice A8 T.length c8).ownBlock = some b → (∃ cs fr, (w7.alloc (.cells #[.int .i64 (a1 : Int)] 3)).heap[b]? = some (.cells cs 3 fr)) ∧ some b ≠ f6.ownBlock := fun b e => by
          obtain ⟨cs, fz, h3⟩ := Lib.ownsRow_kind (O7.out.alloc (.cells #[.int .i64 (a1 : Int)] 3)) b e
          exact ⟨⟨cs, fz, h3⟩, N6.out b e⟩
        have P8 := Lib.hid ((P7.out.below (bda _ _)).grown hg2 hr2)
        have B8 := Lib.hid ((B7.out.alloc B7.out.size _).grown hg2 (by have := B7.out.size; simp; omega) (fun b e => own_geB O7.out e))
        have N8 : ∀ b, (Value.slice (some ⟨g5, 0, none⟩) (T.length + 1) cap5).ownBlock = some b → some b ≠ f6.ownBlock := by
          intro b e e2
          rcases hat2 with a | a
          · exact N6.out b (a.symm.trans e) e2
          · have := Option.some.inj (a.symm.trans e)
            obtain ⟨_, cs, fr, h3⟩ := P7.out.row e2.symm
            have := heap_lt h3
            omega
        have hkne : ∀ b, (Value.slice A8 T.length c8).ownBlock = some b → (Value.slice A9 T.length c9).ownBlock ≠ some b := fun b e e2 => by
          obtain ⟨cs, fz, h3⟩ := Lib.ownsRow_kind O7.out b e
          obtain ⟨cs2, fz2, h4⟩ := Lib.ownsRow_kind K7.out b e2
          exact ne_rows h3 h4 (by decide) rfl
        have K8 := Lib.hid ((own_below K7.out (bda w7 (.cells #[.int .i64 (a1 : Int)] 3))).kept hg2 (by
          rcases h : (Value.slice A8 T.length c8).ownBlock with _ | b
          · rcases h9 : (Value.slice A9 T.length c9).ownBlock with _ | b9
            · exact .inl rfl
            · exact .inr (by simp)
          · exact .inr (hkne b h)))
        have O8 := Lib.hid hown5
        have N8 := Lib.hid N8
        clear hg2 hgrow hat hat2 hr2 hkne hown5 hi0 hz0 hz1 hz2 O7 K7 P7 B7
        obtain ⟨hj0, hy0, hy1, hy2⟩ := JP.out
        go_wp2_with (at_builtin; refine wpList_append_own_at _ rfl _ _ 22 rfl w.heap.size 9 j0 (.string ⟨#[]⟩) 1 16 Try.underlying22 hj0 hy0 hy1 hy2 rfl (by decide) _ _ _ rfl (K8.out.alloc _) ⟨w8.heap.size, 0, none⟩ 1 1 [.string s] rfl rfl (cell_one_new _ _ _) (by simp [Value.oneCell']) (by unfold maxLen; have := TL.out; omega) (by have := TL.out; omega) (by have := B8.out.size; simp; omega) ?_; intro v6 w9 hown6 hgrow _ hat; obtain ⟨g6, cap6, rfl⟩ := ownsRow_succ hown6)
        have hg3 : (w8.alloc (.cells #[.string s] 9)).grownBy w9 (Value.slice A9 T.length c9).ownBlock := hgrow
        have P9 := Lib.hid ((P8.out.below (bda _ _)).grownS hg3 (fun b e => by
          obtain ⟨cs, fz, h3⟩ := Lib.ownsRow_kind (K8.out.alloc (.cells #[.string s] 9)) b e
          exact ⟨cs, fz, h3⟩))
        have B9 := Lib.hid ((B8.out.alloc B8.out.size _).grown hg3 (by have := B8.out.size; simp; omega) (fun b e => own_geB K8.out e))
        have O9 := Lib.hid ((own_below O8.out (bda w8 (.cells #[.string s] 9))).kept hg3 (.inr fun e => by
          obtain ⟨cs, fz, h3⟩ := Lib.ownsRow_kind O8.out g5 rfl
          obtain ⟨cs2, fz2, h4⟩ := Lib.ownsRow_kind K8.out g5 e.symm
          exact ne_rows h3 h4 (by decide) rfl))
        have e3 := W1.out
        refine ⟨⟨i1, u1, T ++ [(a1, t)], C ++ wrs (List.range' a1 K) t K, f6, e3, rfl, Lib.hid (by have := HI.out; have := IL.out; have := II.out; simp; omega), U6, T6, P9, B9, Lib.hid ?_, Lib.hid ?_, N8⟩, ?_⟩
        · rw [List.length_append, List.map_append]; exact O9.out
        · rw [List.length_append, List.map_append]; rw [HST.out] at hown6; exact hown6
        rw [e3]
        have hi := IL.out
        have hi1 := II.out
        clear e3 W1 W2 w2' ts d1 d2
        show 5 - ((i1 : Int)).toNat < 5 - ((i : Int)).toNat
        omega
    · rw [decide_eq_false hgo] at hcv
      subst hcv
      clear hgo
      go_wp2_with fail
      have CC := Lib.hid (show C.length ≤ 1000 by have := HU.out; omega)
      have TL := Lib.hid (show T.length ≤ 5 by have := HI.out; omega)
      go_loopw [16, 17] (fun av iv wr => ∃ (j q : Nat), iv = .int .i64 (j : Int) ∧ av = .int .i64 (q : Int) ∧ Hid (j ≤ T.length ∧ q = ((T.take j).map fun z => nd z.2.length).sum) ∧ Hid (Below wl.heap.size wl wr)) (fun _ iv _ => T.length - (intOf iv).toNat)
      case atStart => exact ⟨0, 0, rfl, rfl, Lib.hid ⟨by omega, by simp⟩, Lib.hid (Below.refl _ _)⟩
      case round =>
        obtain ⟨j, q, rfl, rfl, HJ, HW⟩ := hrel
        obtain ⟨wq, hwq⟩ : ∃ x : World, wr = x := ⟨_, rfl⟩
        subst wr
        rcases Nat.lt_or_ge j T.length with hj | hj
        · have y1 : decide ((j : Int) < (T.length : Int)) = true := decide_eq_true (by omega)
          have y2 : decide (j < T.length) = true := decide_eq_true hj
          obtain ⟨z, hz⟩ : ∃ z, T[j]? = some z := ⟨_, List.getElem?_eq_getElem hj⟩
          obtain ⟨a, t⟩ := z
          obtain ⟨b8, hA8⟩ : ∃ b, A8 = some ⟨b, 0, none⟩ := by
            rcases HO.out.2 with ⟨h0, h1⟩ | ⟨b, cap, cur, h1, _⟩
            · omega
            · injection h1 with a1 _ _
              exact ⟨b, a1⟩
          obtain ⟨b9, hA9⟩ : ∃ b, A9 = some ⟨b, 0, none⟩ := by
            rcases HK.out.2 with ⟨h0, h1⟩ | ⟨b, cap, cur, h1, _⟩
            · omega
            · injection h1 with a1 _ _
              exact ⟨b, a1⟩
          have ho := HO.out
          have hk := HK.out
          rw [hA8] at ho
          rw [hA9] at hk
          rw [hA8, hA9]
          have c1 : wq.cell? ⟨b8, j, none⟩ = some (.int .i64 (a : Int)) := by
            have h := (own_below ho HW.out).cells (g := b8) rfl j (nn a) (by rw [List.getElem?_map, hz]; rfl)
            rw [Addr.add_lit, Nat.zero_add] at h
            exact h
          obtain ⟨st, hst⟩ : ∃ st : ByteArray, (⟨t.toArray⟩ : ByteArray) = st := ⟨_, rfl⟩
          have c2 : wq.cell? ⟨b9, j, none⟩ = some (.string st) := by
            have h := (own_below hk HW.out).cells (g := b9) rfl j (sv t) (by rw [List.getElem?_map, hz]; rfl)
            rw [Addr.add_lit, Nat.zero_add] at h
            rw [← hst]
            exact h
          obtain ⟨e1, e2, e3, e4⟩ := HT.out.each _ (List.mem_of_getElem? hz)
          dsimp only at e1 e2 e3 e4
          obtain ⟨K, hK⟩ : ∃ K, nd t.length = K := ⟨_, rfl⟩
          rw [hK] at e2 e4
          have KK := Lib.hid (show 1 ≤ K ∧ K ≤ 17 by rw [← hK]; unfold nd; omega)
          have k1 : q + K ≤ u := by
            have h1 := sum_take hz
            have h2 := sum_le T (j + 1)
            have h3 := HT.out.sum
            have h4 := HJ.out.2
            dsimp only at h1
            rw [hK] at h1
            omega
          have RD := Lib.hid (fun V (hV : Below wl.heap.size wl V) => bread_pg 30 (chs (List.range' a K) t) V (HP.out.below hV) CC.out (by rw [SL.out]) e4 a (by rw [chs_0, List.getElem?_range' (by have := KK.out; omega)]; simp) t (by have h := pieces_drop (List.range' a K) t 0 (by rw [List.length_range', ← hK]; exact nd_le _) (by omega); simpa using h) (by omega))
          rw [hst] at RD
          have PA := Lib.hid (fun V (hV : Below wl.heap.size wl V) => bpages_pg 30 (chs (List.range' a K) t) V (HP.out.below hV) CC.out (by rw [SL.out]) e4 a (by rw [chs_0, List.getElem?_range' (by have := KK.out; omega)]; simp))
          rw [chs_fst, chs_len, List.length_range'] at PA
          have q1 : (0 : Int) ≤ (j : Int) := by omega
          have q2 : (j : Int) < (T.length : Int) := by omega
          obtain ⟨j1, hj1⟩ : ∃ j1, j + 1 = j1 := ⟨_, rfl⟩
          have W1 := Lib.hid (show Value.int .i64 (wrap64 ((j : Int) + 1)) = .int .i64 (j1 : Int) by rw [IntWalk.wrap64_in _ ⟨by omega, by have := TL.out; omega⟩, ← hj1]; rfl)
          obtain ⟨qK, hqK⟩ : ∃ qK, q + K = qK := ⟨_, rfl⟩
          have W2 := Lib.hid (show Value.int .i64 (wrap64 ((q : Int) + (K : Int))) = .int .i64 (qK : Int) by rw [IntWalk.wrap64_in _ ⟨by omega, by have := HU.out; omega⟩, ← hqK]; rfl)
          have ND := Lib.hid (fun V => show Calls Try.prog 10 #[.int .i64 (t.length : Int)] V fun e w' => e = .returned (.int .i64 (K : Int)) ∧ w' = V by have h := need_nat t.length (by omega) V; rwa [hK] at h)
          have TS := Lib.hid (show st.size = t.length by rw [← hst]; exact str_size t)
          have JJ := Lib.hid (And.intro hj hj1)
          have QQ := Lib.hid (show qK = ((T.take j1).map fun z => nd z.2.length).sum by
            have h1 := sum_take hz
            dsimp only at h1
            rw [hK] at h1
            rw [← hj1, h1, ← HJ.out.2, hqK])
          clear hz ho hk hst e1 e2 e3 e4 hK k1 hj hj1 hqK
          go_wp2_with fail
          refine (RD.out wq HW.out).mono ?_
          rintro e w10 ⟨rfl, hb⟩
          have B10 := Lib.hid (HW.out.trans (hb.mono HW.out.size))
          have d1 : w10.cell? ⟨b8, j, none⟩ = some (.int .i64 (a : Int)) := (hb.cell (p := ⟨b8, j, none⟩) (World.block_lt_of_cell? _ _ c1)).trans c1
          have d2 : w10.cell? ⟨b9, j, none⟩ = some (.string st) := (hb.cell (p := ⟨b9, j, none⟩) (World.block_lt_of_cell? _ _ c2)).trans c2
          clear hb c1 c2
          go_wp2_with fail
          refine (PA.out w10 B10.out).mono ?_
          rintro e w11 ⟨v11, rfl, ho11, hb⟩
          obtain ⟨b11, cap11, h11⟩ : ∃ b cap, v11 = .slice (some ⟨b, 0, none⟩) K cap := by
            rcases ho11.2 with ⟨h0, h1⟩ | ⟨b, cap, cur, h1, _⟩
            · have := KK.out; omega
            · exact ⟨b, cap, h1⟩
          subst h11
          have B11 := Lib.hid (B10.out.trans (hb.mono B10.out.size))
          have g1 : w11.cell? ⟨b8, j, none⟩ = some (.int .i64 (a : Int)) := (hb.cell (p := ⟨b8, j, none⟩) (World.block_lt_of_cell? _ _ d1)).trans d1
          have g2 : w11.cell? ⟨b9, j, none⟩ = some (.string st) := (hb.cell (p := ⟨b9, j, none⟩) (World.block_lt_of_cell? _ _ d2)).trans d2
          have g3 : w11.cell? ⟨b11, 0, none⟩ = some (.int .i64 (a : Int)) := by
            have h := ho11.cells (g := b11) rfl 0 (nn a) (by rw [List.getElem?_map, List.getElem?_range' (by have := KK.out; omega)]; simp)
            rw [Addr.add_lit, Nat.zero_add] at h
            exact h
          have q3 : (0 : Int) < (K : Int) := by have := KK.out; omega
          have ND2 := Lib.hid (fun V => show Calls Try.prog 10 #[.int .i64 (st.size : Int)] V fun e w' => e = .returned (.int .i64 (K : Int)) ∧ w' = V by rw [TS.out]; exact ND.out V)
          clear hb d1 d2 ho11 RD PA
          go_upto_region 33 with fail
          go_quiet ((go_at_call 10; with_reducible exact Calls.quiet_of_same (ND2.out _)))
          go_wp2
          have e3 := W1.out
          have e4 := W2.out
          refine ⟨⟨j1, qK, e3, e4, Lib.hid ⟨by have := JJ.out; omega, QQ.out⟩, Lib.hid (below_drewN B11.out nq)⟩, ?_⟩
          rw [e3]
          have hj := JJ.out.1
          have hj1 := JJ.out.2
          clear e3 e4 W1 W2
          show T.length - ((j1 : Int)).toNat < T.length - ((j : Int)).toNat
          omega
        · obtain rfl : j = T.length := by have := HJ.out; omega
          have y1 : decide ((T.length : Int) < (T.length : Int)) = false := decide_eq_false (by omega)
          obtain rfl : q = u := by
            have h := HJ.out.2
            rw [List.take_of_length_le (Nat.le_refl _), ← HT.out.sum] at h
            exact h
          clear hj
          go_wp2
          try rw [Exit.noGoto_ret]
          go_ret
          exact ⟨rfl, HB.out.trans (HW.out.mono HB.out.size)⟩
end Go.Proofs.Ytcinipfmijmiiaa
