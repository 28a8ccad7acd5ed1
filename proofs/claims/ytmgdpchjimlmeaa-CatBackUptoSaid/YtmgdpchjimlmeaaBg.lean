/-
  Alloc, Write by one word; blob.lay: its first loop.
-/
import Derived.Test.YtmgdpchjimlmeaaBf
namespace Go.Proofs.Ytmgdpchjimlmeaa
open Go.RowKit
set_option linter.unusedSimpArgs false
set_option linter.unusedVariables false
theorem alloc_pg {B L p g gs bm k0 : Nat} {f : Value} {T R : Int} {U : Nat → Bool} {F : List Nat} {S : List (List UInt8)} {C : List Wt} (n : Nat) (w : World) (h : Pg B L p g gs bm k0 T R U F S C f w) (hn : S.length / 2 = n) (hF : F.length ≤ 1000) :
    Calls Try.prog 54 #[.pointer (some ⟨p, 0, none⟩)] w fun e w' => (∃ x f', al U n F = some x ∧ e = .returned (.tuple #[.int .i64 (x : Int), .int .i64 0]) ∧ Pg B L p g gs bm k0 T R U (F ++ [x]) S C f' w' ∧ Cz B p g gs f f' w w') ∨ (al U n F = none ∧ e = .returned (.tuple #[.int .i64 0, .int .i64 6]) ∧ Below w.heap.size w w') := by
  obtain ⟨v, hd⟩ := h.dk
  refine (alloc_any n w h.pb h.us h.fr h.hL hd hn hF).mono ?_
  rintro e w' (⟨x, f', h1, h2, h3, rfl, k1, k2, k3, k4, k5⟩ | ⟨h1, rfl, hb⟩)
  · exact .inl ⟨x, f', al_some h1 h2 h3, rfl, ⟨k1, k2, by rw [List.length_append]; exact k3, ⟨v, k4⟩, Nat.le_trans h.hL k5.size⟩, Cz.of_ca k5⟩
  · exact .inr ⟨al_none h1, rfl, hb⟩
theorem write_pg {B L p g gs bm k0 : Nat} {f : Value} {T R : Int} {U : Nat → Bool} {F : List Nat} {S : List (List UInt8)} {C : List Wt} (x : Nat) (t : List UInt8) (w : World) (h : Pg B L p g gs bm k0 T R U F S C f w) (hx : F.contains x = true) (hF : F.length ≤ 1000) (hS : 2 * x + 1 < S.length) (ht : t.length ≤ 120) (hC : C.length ≤ 1000) :
    Calls Try.prog 55 #[.pointer (some ⟨p, 0, none⟩), .int .i64 (x : Int), .int .i64 2, .string ⟨t.toArray⟩] w fun e w' => e = .returned (.int .i64 0) ∧ Pg B L p g gs bm k0 T R U F S (C ++ pwr x t) f w' ∧ Cz B p g gs f f w w' := by
  obtain ⟨v, hd⟩ := h.dk
  refine (write_yes x 2 ⟨t.toArray⟩ w h.pb h.us h.fr hd hx hF hS (by omega) (by omega) (by simpa using ht) hC).mono ?_
  rintro e w' ⟨rfl, k1, k2, k3, ⟨v', k4⟩, k5⟩
  refine ⟨rfl, ⟨k1, k2, k3, ⟨v', ?_⟩, Nat.le_trans h.hL k5.size⟩, Cz.of_ch k5⟩
  unfold pwr
  simpa [List.append_assoc] using k4
/-- A row of the caller's own (of another block than the fresh pages') behind a deed on the pager. -/
theorem own_cz {B L L2 p g gs bm k0 n : Nat} {T R : Int} {U : Nat → Bool} {F : List Nat} {S : List (List UInt8)} {C : List Wt} {f f' : Value} {w w' : World} {xs : List Value} {v : Value} (h : w.ownsRow L2 3 1 v n xs) (hp : Pg B L p g gs bm k0 T R U F S C f w) (c : Cz B p g gs f f' w w') (hne : ∀ b, v.ownBlock = some b → some b ≠ f.ownBlock) : w'.ownsRow L2 3 1 v n xs ∧ ∀ b, v.ownBlock = some b → some b ≠ f'.ownBlock := by
  refine ⟨⟨h.1, ?_⟩, fun b e e2 => ?_⟩
  · rcases h.2 with h0 | ⟨b, cap, cur, h1, h2, h3, h4⟩
    · exact .inl h0
    · obtain ⟨a1, a2, a3⟩ := hp.ne h3 (by decide) (by decide) (by decide)
      exact .inr ⟨b, cap, cur, h1, h2, c.keep h3 (by decide) a1 a2 a3 (hne b (by rw [h1]; rfl)), h4⟩
  · rcases c.own b e2.symm with a | a
    · exact hne b e a.symm
    · obtain ⟨cs, fz, h3⟩ := Lib.ownsRow_kind h b e
      have := heap_lt h3
      omega
theorem bc_lnk (nx : Nat) : bc (lnk nx) = [.int .u8 ((nx : Int) / 256 % 256), .int .u8 ((nx : Int) % 256)] := by
  unfold bc lnk
  simp only [List.map_cons, List.map_nil, UInt8.toNat_ofNat']
  congr 1
theorem conv_lnk (w : World) (nx : Nat) : (convert 68 9 (.slice (some ⟨w.heap.size, 0, none⟩) 2 2)).run Try.prog (w.alloc (.cells #[.int .u8 ((nx : Int) / 256 % 256), .int .u8 ((nx : Int) % 256)] 5)) = .ok (.string ⟨(lnk nx).toArray⟩) (w.alloc (.cells #[.int .u8 ((nx : Int) / 256 % 256), .int .u8 ((nx : Int) % 256)] 5)) := by
  refine conv_bytes _ _ 0 2 (lnk nx) 2 rfl (fun j v h => ?_)
  rw [bc_lnk] at h
  rw [Nat.zero_add]
  refine row_c (World.alloc_heap_new w _) ?_
  simpa using h
theorem conv_lnk0 (w : World) : (convert 68 9 (.slice (some ⟨w.heap.size, 0, none⟩) 2 2)).run Try.prog (w.alloc (.cells #[.int .u8 0, .int .u8 0] 5)) = .ok (.string ⟨(lnk 0).toArray⟩) (w.alloc (.cells #[.int .u8 0, .int .u8 0] 5)) := conv_lnk w 0
theorem ext_mid (l : List UInt8) (a c : Nat) : (⟨l.toArray⟩ : ByteArray).extract a c = ⟨((l.drop a).take (c - a)).toArray⟩ := by
  rw [Lib.extract_eq]
theorem need_len (m : Nat) (hm : m ≤ 100000) (w : World) :
    Calls Try.prog 53 #[.int .i64 (m : Int)] w fun e w' => e = .returned (.int .i64 (nd m : Nat)) ∧ w' = w := need_nat m (by omega) w
set_option maxRecDepth 100000 in
set_option maxHeartbeats 4000000 in
theorem blay_any {B L p g gs bm k0 : Nat} {f : Value} {T R : Int} {U : Nat → Bool} {F : List Nat} {S : List (List UInt8)} {C : List Wt} (n K : Nat) (l : List UInt8) (w : World) (h : Pg B L p g gs bm k0 T R U F S C f w) (hn : S.length / 2 = n) (hl : l.length ≤ 60000) (hK : nd l.length = K) (hF : F.length + K ≤ 1000) (hC : C.length + 2 * K ≤ 1000) (hf0 : ∀ b, f.ownBlock = some b → b < w.heap.size) :
    Calls Try.prog 41 #[.pointer (some ⟨p, 0, none⟩), .string ⟨l.toArray⟩] w fun e w' => ∃ f', Cz B p g gs f f' w w' ∧ (((als U n F K).length = K ∧ (∃ v', e = .returned (.tuple #[v', .int .i64 0]) ∧ w'.ownsRow w.heap.size 3 1 v' K ((als U n F K).map nn)) ∧ Pg B L p g gs bm k0 T R U (F ++ als U n F K) S (C ++ wrs (als U n F K) l K) f' w') ∨ ((als U n F K).length < K ∧ e = .returned (.tuple #[.slice none 0 0, .int .i64 6]) ∧ Pg B L p g gs bm k0 T R U (F ++ als U n F K) S C f' w')) := by
  have NE := Lib.hid (need_len l.length (by omega) w)
  rw [hK] at NE
  have H := Lib.hid h
  have HN := Lib.hid hn
  have HL := Lib.hid (And.intro hl hK)
  have HF := Lib.hid (And.intro hF hC)
  have HK := Lib.hid (show 1 ≤ K ∧ 118 * (K - 1) ≤ l.length ∧ l.length ≤ 118 * K by unfold nd at hK; omega)
  obtain ⟨i0, hi0, hz0, hz1, hz2⟩ := info_parts (show (Try.prog.info? 3).map (fun i => (i.zero, i.size, i.bytes)) = some (some (.int .i64 0), 1, 8) by kernel_rfl)
  have IP := Lib.hid (And.intro hi0 (And.intro hz0 (And.intro hz1 hz2)))
  have sz : (⟨l.toArray⟩ : ByteArray).size = l.length := str_size l
  obtain ⟨s, hs⟩ : ∃ s : ByteArray, (⟨l.toArray⟩ : ByteArray) = s := ⟨_, rfl⟩
  rw [hs] at sz ⊢
  have HS := Lib.hid hs
  clear hi0 hz0 hz1 hz2 h hn hl hK hF hC hs hf0
  go_enter Try.func41, Try.ntmps41
  go_wp2_with fail
  try simp only [sz]
  refine NE.out.mono ?_
  rintro e w1 ⟨rfl, hw⟩
  obtain rfl : w = w1 := hw.symm
  clear hw NE
  go_wp2_with fail
  go_loopw [6, 17] (fun pv cv wr => ∃ (i : Nat) (f' : Value), cv = .int .i64 (i : Int) ∧ Hid (i ≤ K ∧ (als U n F i).length = i) ∧ Hid (Pg B L p g gs bm k0 T R U (F ++ als U n F i) S C f' wr) ∧ Hid (Cz B p g gs f f' w wr) ∧ Hid (wr.ownsRow w.heap.size 3 1 pv i ((als U n F i).map nn)) ∧ Hid (∀ b, pv.ownBlock = some b → some b ≠ f'.ownBlock)) (fun pv _ _ => K - lenOf pv)
  case atStart =>
    exact ⟨0, f, rfl, Lib.hid ⟨by omega, rfl⟩, Lib.hid (by simpa [als] using H.out), Lib.hid (Cz.refl _ _ _ _ _ _), Lib.hid (World.ownsRow_nil _ _ _ _), Lib.hid (fun b e => by cases e)⟩
  case round =>
    obtain ⟨i, f', rfl, HI, HP, HC, HO, HB⟩ := hrel
    obtain ⟨wl, hwl⟩ : ∃ x : World, wr = x := ⟨_, rfl⟩
    subst wr
    obtain ⟨Ai, hAi⟩ : ∃ Ai, als U n F i = Ai := ⟨_, rfl⟩
    have HA := Lib.hid hAi
    have hO := HO.out
    rw [hAi] at HI HP hO
    obtain ⟨A4, c4, hu4⟩ := own_form hO
    subst hu4
    have HO := Lib.hid hO
    have AL := Lib.hid (alloc_pg n wl HP.out HN.out (by rw [List.length_append, HI.out.2]; have := HF.out; have := HI.out; omega))
    rcases Nat.lt_or_ge i K with hiK | hiK
    · have y1 : decide ((i : Int) < (K : Int)) = true := decide_eq_true (by omega)
      have y2 : decide (i < K) = true := decide_eq_true hiK
      have IL := Lib.hid hiK
      clear hAi hO hiK
      go_wp2_with fail
      refine AL.out.mono ?_
      rintro e w2 (⟨x, f2, ha, rfl, hp2, hc2⟩ | ⟨ha, rfl, hb⟩)
      · have HX := Lib.hid ha
        have HP2 := Lib.hid hp2
        have HC2 := Lib.hid (HC.out.trans hc2)
        obtain ⟨ho2, hn2⟩ := own_cz HO.out HP.out hc2 HB.out
        have O2 := Lib.hid ho2
        have N2 := Lib.hid hn2
        have S2 := Lib.hid (Nat.le_trans HC.out.size hc2.size)
        clear ha hp2 hc2 ho2 hn2 AL y1 y2
        obtain ⟨hi0, hz0, hz1, hz2⟩ := IP.out
        go_wp2_with (at_builtin; refine wpList_append_own_at _ rfl _ _ 63 rfl w.heap.size 3 i0 (.int .i64 0) 1 8 Try.underlying63 hi0 hz0 hz1 hz2 rfl (by decide) _ _ _ rfl (O2.out.alloc _) ⟨w2.heap.size, 0, none⟩ 1 1 [.int .i64 (x : Int)] rfl rfl (cell_one_new _ _ _) (by simp [Value.oneCell']) (by unfold maxLen; have := IL.out; have := HF.out; omega) (by have := IL.out; have := HF.out; omega) (by have := S2.out; simp; omega) ?_; intro v5 W2 hown5 hgrow _ hat; obtain ⟨g5, cap5, rfl⟩ := ownsRow_succ hown5)
        have hg2 : (w2.alloc _).grownBy W2 (Value.slice A4 i c4).ownBlock := hgrow
        have hat2 : (Value.slice (some ⟨g5, 0, none⟩) (i + 1) cap5).ownBlock = (Value.slice A4 i c4).ownBlock ∨ (Value.slice (some ⟨g5, 0, none⟩) (i + 1) cap5).ownBlock = some (w2.heap.size + 1) := hat.imp id (fun h => h.trans (by simp))
        have hr2 : ∀ b, (Value.slice A4 i c4).ownBlock = some b → (∃ cs fr, (w2.alloc (.cells #[.int .i64 (x : Int)] 3)).heap[b]? = some (.cells cs 3 fr)) ∧ some b ≠ f2.ownBlock := fun b e => by
          obtain ⟨cs, fz, h3⟩ := Lib.ownsRow_kind (O2.out.alloc (.cells #[.int .i64 (x : Int)] 3)) b e
          exact ⟨⟨cs, fz, h3⟩, N2.out b e⟩
        have P3 := Lib.hid ((HP2.out.below (bda _ _)).grown hg2 hr2)
        have C3 := Lib.hid (HC2.out.later (((Below.refl _ w2).alloc S2.out _).grown hg2 (by have := S2.out; simp; omega) (fun b e => own_geB O2.out e)))
        have E3 : als U n F (i + 1) = Ai ++ [x] := by rw [← HA.out]; exact als_next (by rw [HA.out]; exact HX.out)
        have B3 : ∀ b, (Value.slice (some ⟨g5, 0, none⟩) (i + 1) cap5).ownBlock = some b → some b ≠ f2.ownBlock := by
          intro b e e2
          rcases hat2 with a | a
          · exact N2.out b (a.symm.trans e) e2
          · have := Option.some.inj (a.symm.trans e)
            obtain ⟨_, cs, fr, h3⟩ := HP2.out.row e2.symm
            have := heap_lt h3
            omega
        have O3 := Lib.hid hown5
        have W1 : Value.int .i64 (wrap64 ((i : Int) + 1)) = .int .i64 ((i + 1 : Nat) : Int) := by rw [IntWalk.wrap64_in _ ⟨by omega, by have := IL.out; have := HF.out; omega⟩]; rfl
        refine ⟨⟨i + 1, f2, W1, ?_, ?_, C3, ?_, Lib.hid B3⟩, ?_⟩
        · rw [E3]; exact Lib.hid ⟨IL.out, by rw [List.length_append, HI.out.2]; rfl⟩
        · rw [E3, ← List.append_assoc]; exact P3
        · rw [E3, List.map_append]; exact O3
        · have := IL.out; simp only [lenOf]; omega
      · have HX := Lib.hid ha
        have HP2 := Lib.hid (HP.out.below hb)
        have HC2 := Lib.hid (HC.out.trans (Cz.of_below hb))
        clear ha hb AL y1 y2
        go_wp2
        go_ret2
        have E := als_stuck (by rw [HA.out]; exact HX.out) (K - i)
        rw [show i + (K - i) = K by have := IL.out; omega, HA.out] at E
        rw [E]
        exact ⟨_, HC2.out, .inr ⟨by have := IL.out; have := HI.out.2; omega, rfl, HP2.out⟩⟩
    · obtain rfl : i = K := by have := HI.out.1; omega
      clear hAi hO hiK AL
      have y1 : decide ((i : Int) < (i : Int)) = false := decide_eq_false (by omega)
      go_wp2_with fail
      have IK := Lib.hid (show 1 ≤ i ∧ i ≤ 1000 by have := HK.out; have := HF.out; omega)
      obtain ⟨b, rfl⟩ : ∃ b, A4 = some ⟨b, 0, none⟩ := by
        rcases HO.out.2 with ⟨h0, h1⟩ | ⟨b, cap, cur, h1, _⟩
        · have := IK.out.1; omega
        · injection h1 with a1 _ _
          exact ⟨b, a1⟩
      have AL := Lib.hid HI.out.2
      have NB := Lib.hid (show ∀ x ∈ Ai, x < n ∧ U x = false ∧ F.contains x = false from by rw [← HA.out]; exact als_new U n F i)
      go_loopw [34] (fun cv wr => ∃ (j : Nat), cv = .int .i64 (j : Int) ∧ Hid (j ≤ i) ∧ Hid (Pg B L p g gs bm k0 T R U (F ++ Ai) S (C ++ wrs Ai l j) f' wr) ∧ Hid (Cz B p g gs f f' w wr) ∧ Hid (wr.ownsRow w.heap.size 3 1 (.slice (some ⟨b, 0, none⟩) i c4) i (Ai.map nn))) (fun cv _ => match cv with | .int _ z => i - z.toNat | _ => 0)
      case atStart =>
        exact ⟨0, rfl, Lib.hid (by omega), Lib.hid (by simpa [wrs] using HP.out), HC, HO⟩
      case round =>
        obtain ⟨j, rfl, HJ, HPj, HCj, HOj⟩ := hrel
        obtain ⟨wq, hwq⟩ : ∃ x : World, wr = x := ⟨_, rfl⟩
        subst wr
        rcases Nat.lt_or_ge j i with hji | hji
        · have y1 : decide ((j : Int) < (i : Int)) = true := decide_eq_true (by omega)
          have y2 : decide (j < i) = true := decide_eq_true hji
          obtain ⟨x, hx⟩ : ∃ x, Ai[j]? = some x := ⟨_, List.getElem?_eq_getElem (by rw [AL.out]; exact hji)⟩
          have cx : wq.cell? ⟨b, j, none⟩ = some (.int .i64 (x : Int)) := by
            have h := HOj.out.cells (g := b) rfl j (nn x) (by rw [List.getElem?_map, hx]; rfl)
            rw [Addr.add_lit, Nat.zero_add] at h
            exact h
          have HX := Lib.hid hx
          obtain ⟨j1, hj1⟩ : ∃ j1, j + 1 = j1 := ⟨_, rfl⟩
          have w1 : wrap64 ((j : Int) + 1) = (j1 : Int) := by rw [IntWalk.wrap64_in _ ⟨by omega, by have := IK.out; omega⟩]; omega
          obtain ⟨a, ha⟩ : ∃ a, 118 * j = a := ⟨_, rfl⟩
          obtain ⟨a2, ha2⟩ : ∃ a2, 118 * j1 = a2 := ⟨_, rfl⟩
          have w2 : wrap64 ((j : Int) * 118) = (a : Int) := by rw [IntWalk.wrap64_in _ ⟨by omega, by have := IK.out; omega⟩]; omega
          have w3 : wrap64 ((j1 : Int) * 118) = (a2 : Int) := by rw [IntWalk.wrap64_in _ ⟨by omega, by have := IK.out; omega⟩]; omega
          obtain ⟨c, hc⟩ : ∃ c, min l.length a2 = c := ⟨_, rfl⟩
          have m1 : min (l.length : Int) (a2 : Int) = (c : Int) := by omega
          have ac : a ≤ c := by have := HK.out; omega
          have cl : c ≤ l.length := by omega
          have b1 : (a : Int) ≤ (c : Int) := by omega
          have b2 : (c : Int) ≤ (l.length : Int) := by omega
          have EX : s.extract a c = ⟨((l.drop (118 * j)).take 118).toArray⟩ := by
            rw [← HS.out, ext_mid, ha]
            congr 2
            rcases Nat.lt_or_ge l.length a2 with h | h
            · rw [List.take_of_length_le (by rw [List.length_drop]; omega), List.take_of_length_le (by rw [List.length_drop]; omega)]
            · rw [show c - a = 118 by omega]
          obtain ⟨pc, hpc⟩ : ∃ pc, (l.drop (118 * j)).take 118 = pc := ⟨_, rfl⟩
          rw [hpc] at EX
          rcases Nat.lt_or_ge j1 i with hn1 | hn1
          · have z1 : decide ((j1 : Int) < (i : Int)) = true := decide_eq_true (by omega)
            have z2 : decide (j1 < i) = true := decide_eq_true hn1
            obtain ⟨nx, hnx⟩ : ∃ nx, Ai[j1]? = some nx := ⟨_, List.getElem?_eq_getElem (by rw [AL.out]; exact hn1)⟩
            have cn : wq.cell? ⟨b, j1, none⟩ = some (.int .i64 (nx : Int)) := by
              have h := HOj.out.cells (g := b) rfl j1 (nn nx) (by rw [List.getElem?_map, hnx]; rfl)
              rw [Addr.add_lit, Nat.zero_add] at h
              exact h
            have HNX := Lib.hid hnx
            have HJJ := Lib.hid (And.intro hji (And.intro hn1 (And.intro hj1 (And.intro ha (And.intro ha2 hc)))))
            have q1 : (j1 : Int) < (i : Int) := by omega
            have q2 : (j : Int) < (i : Int) := by omega
            clear hj1 ha ha2 hc hx hnx
            have CV := conv_lnk wq nx
            obtain ⟨t, ht⟩ : ∃ t, lnk nx ++ pc = t := ⟨_, rfl⟩
            have APP : (⟨(lnk nx).toArray⟩ : ByteArray) ++ ⟨pc.toArray⟩ = ⟨t.toArray⟩ := by rw [← ht]; rw [ByteArray.mk_append_mk]; try simp
            have tl : t.length ≤ 120 := by rw [← ht, ← hpc]; simp [lnk]; omega
            obtain ⟨sl, hsl⟩ : ∃ sl : ByteArray, (⟨(lnk nx).toArray⟩ : ByteArray) = sl := ⟨_, rfl⟩
            obtain ⟨sp, hsp⟩ : ∃ sp : ByteArray, (⟨pc.toArray⟩ : ByteArray) = sp := ⟨_, rfl⟩
            obtain ⟨st, hst⟩ : ∃ st : ByteArray, (⟨t.toArray⟩ : ByteArray) = st := ⟨_, rfl⟩
            have nov : ¬ (9223372036854775807 < sl.size + sp.size) := by rw [← hsl, ← hsp, str_size, str_size, ← hpc]; simp [lnk]; omega
            have WR := Lib.hid (write_pg x t _ (HPj.out.below (bda wq (.cells #[.int .u8 ((nx : Int) / 256 % 256), .int .u8 ((nx : Int) % 256)] 5))) (by simp only [List.contains_eq_mem, decide_eq_true_eq]; exact List.mem_append_right _ (List.mem_of_getElem? HX.out)) (by rw [List.length_append, AL.out]; have := HF.out; omega) (by have h1 := (NB.out x (List.mem_of_getElem? HX.out)).1; have h2 := HN.out; omega) tl (by rw [List.length_append, wrs_len]; have := HF.out; omega))
            have HTT := Lib.hid (And.intro ht hpc)
            rw [hsl] at CV APP
            rw [hsp] at APP EX
            rw [hst] at APP WR
            clear ht hpc hsl hsp hst tl
            go_wp2_with fail
            refine WR.out.mono ?_
            rintro e w5 ⟨rfl, hp5, hc5⟩
            have P5 := Lib.hid hp5
            have C5 := Lib.hid ((HCj.out.trans (Cz.of_below (bda _ _))).trans hc5)
            have O5 := Lib.hid (own_cz (own_below HOj.out (bda _ _)) (HPj.out.below (bda _ _)) hc5 HB.out).1
            clear hp5 hc5 WR CV APP EX cx cn
            go_wp2_with fail
            refine ⟨⟨j1, by rw [w1], Lib.hid (show j1 ≤ i from Nat.le_of_lt hn1), ?_, C5, O5⟩, by rw [w1]; clear w1 w2 w3; have h1 := HJJ.out.2.2.1; have h2 := HJJ.out.1; show i - ((j1 : Int)).toNat < i - ((j : Int)).toNat; omega⟩
            have e1 : wrs Ai l j1 = wrs Ai l j ++ pwr x t := by
              rw [← HJJ.out.2.2.1, wrs_succ, HX.out]
              unfold txt
              rw [HJJ.out.2.2.1, HNX.out, HTT.out.2]
              show _ ++ pwr x (lnk nx ++ pc) = _
              rw [HTT.out.1]
            rw [e1, ← List.append_assoc]
            exact P5
          · have z1 : decide ((j1 : Int) < (i : Int)) = false := decide_eq_false (by omega)
            have z2 : decide (j1 < i) = false := decide_eq_false (by omega)
            have hnx : Ai[j1]? = none := List.getElem?_eq_none (by rw [AL.out]; exact hn1)
            have HNX := Lib.hid hnx
            have HJJ := Lib.hid (And.intro hji (And.intro hn1 (And.intro hj1 (And.intro ha (And.intro ha2 hc)))))
            have q1 : (i : Int) ≤ (j1 : Int) := by omega
            have q2 : (j : Int) < (i : Int) := by omega
            clear hj1 ha ha2 hc hx hnx
            have CV := conv_lnk0 wq
            obtain ⟨t, ht⟩ : ∃ t, lnk 0 ++ pc = t := ⟨_, rfl⟩
            have APP : (⟨(lnk 0).toArray⟩ : ByteArray) ++ ⟨pc.toArray⟩ = ⟨t.toArray⟩ := by rw [← ht]; rw [ByteArray.mk_append_mk]; try simp
            have tl : t.length ≤ 120 := by rw [← ht, ← hpc]; simp [lnk]; omega
            obtain ⟨sl, hsl⟩ : ∃ sl : ByteArray, (⟨(lnk 0).toArray⟩ : ByteArray) = sl := ⟨_, rfl⟩
            obtain ⟨sp, hsp⟩ : ∃ sp : ByteArray, (⟨pc.toArray⟩ : ByteArray) = sp := ⟨_, rfl⟩
            obtain ⟨st, hst⟩ : ∃ st : ByteArray, (⟨t.toArray⟩ : ByteArray) = st := ⟨_, rfl⟩
            have nov : ¬ (9223372036854775807 < sl.size + sp.size) := by rw [← hsl, ← hsp, str_size, str_size, ← hpc]; simp [lnk]; omega
            have WR := Lib.hid (write_pg x t _ (HPj.out.below (bda wq (.cells #[.int .u8 0, .int .u8 0] 5))) (by simp only [List.contains_eq_mem, decide_eq_true_eq]; exact List.mem_append_right _ (List.mem_of_getElem? HX.out)) (by rw [List.length_append, AL.out]; have := HF.out; omega) (by have h1 := (NB.out x (List.mem_of_getElem? HX.out)).1; have h2 := HN.out; omega) tl (by rw [List.length_append, wrs_len]; have := HF.out; omega))
            have HTT := Lib.hid (And.intro ht hpc)
            rw [hsl] at CV APP
            rw [hsp] at APP EX
            rw [hst] at APP WR
            clear ht hpc hsl hsp hst tl
            go_wp2_with fail
            refine WR.out.mono ?_
            rintro e w5 ⟨rfl, hp5, hc5⟩
            have P5 := Lib.hid hp5
            have C5 := Lib.hid ((HCj.out.trans (Cz.of_below (bda _ _))).trans hc5)
            have O5 := Lib.hid (own_cz (own_below HOj.out (bda _ _)) (HPj.out.below (bda _ _)) hc5 HB.out).1
            clear hp5 hc5 WR CV APP EX cx
            go_wp2_with fail
            refine ⟨⟨j1, by rw [w1], Lib.hid (show j1 ≤ i by have h1 := HJJ.out.2.2.1; have h2 := HJJ.out.1; omega), ?_, C5, O5⟩, by rw [w1]; clear w1 w2 w3; have h1 := HJJ.out.2.2.1; have h2 := HJJ.out.1; show i - ((j1 : Int)).toNat < i - ((j : Int)).toNat; omega⟩
            have e1 : wrs Ai l j1 = wrs Ai l j ++ pwr x t := by
              rw [← HJJ.out.2.2.1, wrs_succ, HX.out]
              unfold txt
              rw [HJJ.out.2.2.1, HNX.out, HTT.out.2]
              show _ ++ pwr x (lnk 0 ++ pc) = _
              rw [HTT.out.1]
            rw [e1, ← List.append_assoc]
            exact P5
        · obtain rfl : j = i := by have := HJ.out; omega
          have y1 : decide ((j : Int) < (j : Int)) = false := decide_eq_false (by omega)
          clear hji
          go_wp2_with fail
          try rw [Exit.noGoto_ret]
          go_ret2
          exact ⟨f', HCj.out, .inl ⟨by rw [HA.out]; exact AL.out, ⟨_, rfl, by rw [HA.out]; exact HOj.out⟩, by rw [HA.out]; exact HPj.out⟩⟩
end Go.Proofs.Ytmgdpchjimlmeaa
