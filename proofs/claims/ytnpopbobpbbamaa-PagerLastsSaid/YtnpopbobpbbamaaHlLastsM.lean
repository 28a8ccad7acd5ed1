/-
  PagerLasts.
-/
import Derived.Test.YtnpopbobpbbamaaHqM
import Derived.Test.YtnpopbobpbbamaaGf
import Derived.Deep.CutBlock
import Derived.Deep.CutRange
namespace Go.Proofs.Ytnpopbobpbbamaa
open Go.RowKit
set_option linter.unusedSimpArgs false
set_option linter.unusedVariables false
theorem own_ge {w : World} {T : TypeId} {B m n b : Nat} {v : Value} {xs : List Value} (h : w.ownsRow B T m v n xs) (e : v.ownBlock = some b) : B ≤ b := by
  rcases h.2 with ⟨h0, _⟩ | ⟨b', cap, cur, h1, h2, _⟩
  · rw [h0] at e; cases e
  · rw [h1] at e; cases e; exact h2
theorem cutQ_leL (c : Int) : cutQ c ≤ 64 := by unfold cutQ; omega
theorem rootOf_pos {n : Nat} (h : 1 ≤ n) : rootOf (n + 1) = n + 1 := by unfold rootOf; rw [if_neg (by omega)]
theorem used_q {b bm k0 q : Nat} {U : Nat → Bool} (w : World) (hu : Us w bm k0 U) (h2 : w.cell? ⟨b, 2, none⟩ = some (.map (some bm))) (hk : k0 ≤ 1000000) (hq : (usedL U).length = q) :
    Calls Try.prog 17 #[.pointer (some ⟨b, 0, none⟩)] w fun e w' => ∃ A c, e = .returned (.slice A q c) ∧ Below w.heap.size w w' := by
  refine (used_any w hu h2 hk).mono ?_
  rintro e w' ⟨v, rfl, ho, hb⟩
  obtain ⟨A, c, rfl, _, _⟩ := rl_of_own ho
  exact ⟨A, c, by rw [hq], hb⟩
theorem meas8 {i : Nat} (h : i < 8) (hw : wrap64 ((i : Int) + 1) = ((i + 1 : Nat) : Int)) : 8 - (intOf (.int .i64 (wrap64 ((i : Int) + 1)))).toNat < 8 - (intOf (.int .i64 (i : Int))).toNat := by
  rw [hw]
  show 8 - (((i + 1 : Nat) : Int)).toNat < 8 - ((i : Int)).toNat
  omega
theorem meas9 {i : Nat} (h : i < 8) : 8 - (intOf (.int .i64 ((i : Int) + 1))).toNat < 8 - (intOf (.int .i64 (i : Int))).toNat := by
  show 8 - (((i : Int) + 1)).toNat < 8 - ((i : Int)).toNat
  omega
/-- The text of a commit. -/
def Xof (ls : List (List UInt8)) (j : Nat) : List UInt8 := (ls[j]?.getD []).take 120
theorem Xof_len (ls : List (List UInt8)) (j : Nat) : (Xof ls j).length ≤ 120 := by unfold Xof; rw [List.length_take]; omega
theorem Xof_at {ls : List (List UInt8)} {j : Nat} {x : List UInt8} (h : ls[j]? = some x) : Xof ls j = x.take 120 := by unfold Xof; rw [h]; rfl
theorem Sx.below {fu : Int} {w0 w w' : World} {bw d t p q bh bm bq ds ts i : Nat} {S : List (List UInt8)} (h : Sx fu w0 w bw d t p q bh bm bq ds ts i S) (hb : Below w.heap.size w w') : Sx fu w0 w' bw d t p q bh bm bq ds ts i S :=
  ⟨row_on h.tw hb, h.hh.below hb, row_on h.pp hb, h.up.below hb, (h.dd.below hb).rebase hb.size (Nat.le_refl _), row_on h.pq hb, h.uq.below hb, (h.dt.below hb).rebaseN hb.size (Nat.le_refl _), h.npq, h.ndt, h.nst, bon h.bl hb, h.lp⟩
theorem Kp.of_bg {r : Option Nat} {w V w' : World} (hb : Below w.heap.size w V) (hg : V.grownBy w' r) : Kp (fun k => some k = r) w w' :=
  ⟨hg.os.trans hb.os, hg.tape.trans hb.tape, hg.output.trans hb.output, Nat.le_trans hb.size hg.size, fun k h1 h2 => (hg.block k (Nat.lt_of_lt_of_le h1 hb.size) h2).trans (hb.block k h1)⟩
theorem text_is {ls : List (List UInt8)} {k : Nat} {x : List UInt8} {y s : ByteArray} (h : Xof ls k = x.take 120) (hy : (⟨x.toArray⟩ : ByteArray) = y) (hs : y.extract 0 (min (y.size : Int) 120).toNat = s) : s.data.toList = Xof ls k := by
  subst hs
  subst hy
  rw [h]
  have e : (ByteArray.mk x.toArray).size = x.length := by simp [ByteArray.size]
  rw [e, Lib.extract_data]
  show List.take ((min (x.length : Int) 120).toNat - 0) (List.drop 0 x) = _
  rw [List.drop_zero, Nat.sub_zero]
  rcases Nat.le_total x.length 120 with h1 | h1
  · rw [List.take_of_length_le (by omega), List.take_of_length_le (by omega)]
  · congr 1
    omega
set_option maxHeartbeats 16000000 in
set_option maxRecDepth 100000 in
theorem pagerLasts_any (A : Option Addr) (c : Nat) (ls : List (List UInt8)) (fuse : Int) (K : Option Addr) (kc : Nat) (ks : List Int) (torn cut : Int) (w : World) (hl : Rl sv w A c ls) (hls : ∀ x ∈ ls, x.length ≤ maxLen) (hln : ls.length ≤ maxLen) (f0 : -9223372036854775808 ≤ fuse) (f1 : fuse ≤ 9223372036854775807) (hk : Rl nv w K kc ks) (hkn : ks.length ≤ 9223372036854775807) (c0 : -9223372036854775808 ≤ cut) (c1 : cut ≤ 9223372036854775807) :
    Calls Try.prog 3 #[.slice A ls.length c, .int .i64 fuse, .slice K ks.length kc, .int .i64 torn, .int .i64 cut] w fun e w' => e = .returned (.bool true) ∧ Below w.heap.size w w' := by
  obtain ⟨y, hy⟩ : ∃ y : Nat, (fuse < 0 → -(fuse + 1) = (y : Int)) ∧ (¬ fuse < 0 → fuse = (y : Int)) := by
    by_cases h : fuse < 0
    · exact ⟨(-(fuse + 1)).toNat, fun _ => by omega, fun h2 => absurd h h2⟩
    · exact ⟨fuse.toNat, fun h2 => absurd h2 h, fun _ => by omega⟩
  have HY := Lib.hid hy
  have HFU := Lib.hid (And.intro f0 f1)
  clear hy
  obtain ⟨f, hf⟩ : ∃ f : Nat, (y : Int).tmod 60 = (f : Int) := ⟨y % 60, by rw [Int.tmod_eq_emod_of_nonneg (by omega)]; omega⟩
  have HF := Lib.hid (show f < 60 by rw [Int.tmod_eq_emod_of_nonneg (by omega)] at hf; omega)
  have TF := Lib.hid hf
  have HL := Lib.hid hl
  have HLS := Lib.hid hls
  have HLN := Lib.hid hln
  have HK := Lib.hid hk
  have HKN := Lib.hid hkn
  have HCB := Lib.hid (And.intro c0 c1)
  obtain ⟨nl, hnl⟩ : ∃ n, ls.length = n := ⟨_, rfl⟩
  have HNL := Lib.hid hnl
  obtain ⟨nk, hnk⟩ : ∃ n, ks.length = n := ⟨_, rfl⟩
  have HNK := Lib.hid hnk
  rw [hnl, hnk]
  clear hf hl hls hln hk hkn c0 c1 hnl hnk f0 f1
  obtain ⟨i0, hi0, hz0, hz1, hz2⟩ := info_parts (show (Try.prog.info? 3).map (fun i => (i.zero, i.size, i.bytes)) = some (some (.int .i64 0), 1, 8) by kernel_rfl)
  have IP := Lib.hid (And.intro hi0 (And.intro hz0 (And.intro hz1 hz2)))
  clear hi0 hz0 hz1 hz2
  go_enter Try.func3, Try.ntmps3
  go_wp2_with fail
  refine (examples_any w).mono ?_
  rintro e w1 ⟨rfl, hb⟩
  have B1 := Lib.hid hb
  clear hb
  go_wp2_with fail
  refine (twins_any w1).mono ?_
  rintro e w2 ⟨bw, d, t, p, q, bh, bm, bq, ds, ts, S, rfl, hsx, hps, hbg⟩
  have LP := Lib.hid (show w.heap.size ≤ bw ∧ w.heap.size ≤ p ∧ w.heap.size ≤ q ∧ w.heap.size ≤ d ∧ w.heap.size ≤ t ∧ w.heap.size ≤ ds ∧ w.heap.size ≤ ts by have := hsx.lp; have := B1.out.size; omega)
  have B2 := Lib.hid (bon B1.out hsx.bl)
  have SX2 := Lib.hid hsx
  have BHG := Lib.hid (Nat.le_trans B1.out.size hbg)
  clear hbg
  have PS2 := Lib.hid (hps (Xof ls))
  have c0 := row_c (i := 0) hsx.tw rfl
  have FU := Lib.hid (fuse_any f w2 (hsx.dd.toDk) (by have := HF.out; omega))
  clear hsx hps
  go_upto_if 40 with fail
  go_cut [1] from 41 to 43 (fun a wx => a = .int .i64 (y : Int) ∧ wx = w2)
  case first =>
    have hy := HY.out
    have hfu := HFU.out
    by_cases hc : fuse < 0
    · have e0 := hy.1 hc
      obtain ⟨z0, hz0⟩ : ∃ z : Int, fuse + 1 = z := ⟨_, rfl⟩
      have u1 : wrap64 (fuse + 1) = z0 := by rw [hz0]; exact IntWalk.wrap64_in _ ⟨by omega, by omega⟩
      have u3 : Value.int .i64 (wrap64 (-z0)) = .int .i64 (y : Int) := by rw [IntWalk.wrap64_in _ ⟨by omega, by omega⟩]; congr 1; omega
      have U3 := Lib.hid u3
      clear hz0 e0 hy hfu u3
      go_wp2_with fail
      go_meet
      exact ⟨U3.out, rfl⟩
    · have e0 := hy.2 (by omega)
      have E0 := Lib.hid e0
      clear e0 hy hfu
      go_wp2_with fail
      go_meet
      exact ⟨by rw [E0.out], rfl⟩
  case rest =>
    obtain ⟨rfl, hw⟩ := hcut
    obtain rfl : w2 = wc := hw.symm
    clear hw
    have u4 := TF.out
    go_wp2_with fail
    refine FU.out.mono ?_
    rintro e w3 ⟨rfl, hd, hc⟩
    clear u4 c0 FU
    have R3 := Lib.hid (show Tw w3 bw d t p q bh from ch_row SX2.out.tw SX2.out.dd hc (by decide) (by decide) (by decide))
    have H3 := Lib.hid (ch_hs SX2.out.hh SX2.out.dd hc)
    have BB := Lib.hid (ch_below hc B2.out B2.out.size LP.out.2.2.2.1 LP.out.2.2.2.2.2.1)
    have SX3 := Lib.hid (show Sx (f : Int) w w3 bw d t p q bh bm bq ds ts 0 S from ⟨R3.out, H3.out, ch_row SX2.out.pp SX2.out.dd hc (by decide) (by decide) (by decide), SX2.out.up.chF SX2.out.dd hc, hd.rebase hc.size (Nat.le_refl _), ch_row SX2.out.pq SX2.out.dd hc (by decide) (by decide) (by decide), SX2.out.uq.chF SX2.out.dd hc, (ch_dk SX2.out.dt SX2.out.dd hc (fun h => SX2.out.ndt h.symm) (fun h => SX2.out.nst h.symm)).rebaseN hc.size (Nat.le_refl _), SX2.out.npq, SX2.out.ndt, SX2.out.nst, BB.out, LP.out⟩)
    clear hd hc
    go_upto_block 0 with fail
    go_cut [14, 15, 16, 17, 18, 19, 20, 21, 22, 23] from 51 to 151 (fun xv tv pv kv a1 a2 a3 a4 a5 a6 wr => ∃ (k i : Nat) (fu : Int) (dn : Bool) (B : Nat) (v : Value) (S : List (List UInt8)) (C : List Wt), xv = .int .i64 (k : Int) ∧ tv = .int .i64 (i : Int) ∧ kv = .int .i64 (i : Int) ∧ Hid (i ≤ 8 ∧ i ≤ nl) ∧ Hid (Df fu dn B wr d ds v S C) ∧ Hid (C.length ≤ 10) ∧ Hid (Lf S C k i (Xof ls)) ∧ Hid (Tw wr bw d t p q bh) ∧ Hid (Hs wr bh (2 * (i + 1)) (Iof i)) ∧ Hid (Below w.heap.size w wr) ∧ Hid (wr.ownsRow w.heap.size 3 1 pv i ((pgs i).map nn)) ∧ Hid (w.heap.size ≤ B))
    case first =>
      go_wp2_with fail
      go_loopw [14, 15, 16, 17] (fun xv tv pv kv wr => ∃ (k i : Nat) (fu : Int) (dn : Bool) (B : Nat) (v : Value) (S : List (List UInt8)) (C : List Wt), xv = .int .i64 (k : Int) ∧ tv = .int .i64 (i : Int) ∧ kv = .int .i64 (i : Int) ∧ Hid (i ≤ 8 ∧ i ≤ nl) ∧ Hid (Df fu dn B wr d ds v S C) ∧ Hid (C.length ≤ 10) ∧ Hid (Lf S C k i (Xof ls)) ∧ Hid (Tw wr bw d t p q bh) ∧ Hid (Hs wr bh (2 * (i + 1)) (Iof i)) ∧ Hid (Below w.heap.size w wr) ∧ Hid (wr.ownsRow w.heap.size 3 1 pv i ((pgs i).map nn)) ∧ Hid (w.heap.size ≤ B) ∧ Hid (dn = false → k = i ∧ ∃ (f bm bq : Nat) (S' : List (List UInt8)), f ≤ 600 ∧ Sx (f : Int) w wr bw d t p q bh bm bq ds ts i S' ∧ PS S' i (Xof ls))) (fun _ _ _ kv _ => 8 - (intOf kv).toNat)
      case atStart => exact ⟨0, 0, f, false, _, _, S, [], rfl, rfl, rfl, Lib.hid ⟨by omega, by omega⟩, Lib.hid SX3.out.dd, Lib.hid (by simp), Lib.hid (.inl ⟨rfl, rfl, PS2.out⟩), R3, H3, BB, Lib.hid (World.ownsRow_nil _ _ _ _), Lib.hid BB.out.size, Lib.hid (fun _ => ⟨rfl, f, bm, bq, S, by have := HF.out; omega, SX3.out, PS2.out⟩)⟩
      case round =>
        obtain ⟨k, i, fu, dn, B, v, S0, C, rfl, rfl, rfl, HI, HD, HC, HLF, HT, HH, HBW, HP, HBB, HLV⟩ := hrel
        obtain ⟨wl, hwl⟩ : ∃ x : World, wr = x := ⟨_, rfl⟩
        subst wr
        clear SX3 R3 H3 SX2 PS2 BB B1 B2 HF TF HY HFU
        have c0 := row_c (i := 0) HT.out rfl
        have DN := Lib.hid (down_anyF wl HD.out)
        by_cases h1 : i < nl
        · have k1 : (i : Int) < (nl : Int) := by omega
          have H1 := Lib.hid h1
          by_cases h2 : i < 8
          · have k2 : (i : Int) < 8 := by omega
            have H2 := Lib.hid h2
            cases dn
            · obtain ⟨rfl, f1, bm1, bq1, S1, hf1, hsx, hps⟩ := HLV.out rfl
              have SX := Lib.hid hsx
              have PSI := Lib.hid hps
              have HF1 := Lib.hid hf1
              clear hsx hps hf1 h1 h2
              obtain ⟨x, hx⟩ : ∃ x, ls[k]? = some x := ⟨_, List.getElem?_eq_getElem (by rw [HNL.out]; exact H1.out)⟩
              obtain ⟨kb, ko, hA, hkb, hkx⟩ := (HL.out.below HBW.out).cell hx
              unfold sv at hkx
              have XL := Lib.hid (show x.length ≤ 9223372036854775807 from HLS.out x (List.mem_of_getElem? hx))
              have HX := Lib.hid (Xof_at hx)
              obtain ⟨y, hy⟩ : ∃ y : ByteArray, (⟨x.toArray⟩ : ByteArray) = y := ⟨_, rfl⟩
              rw [hy] at hkx
              have HYX := Lib.hid hy
              subst hA
              clear hx hy hkb
              go_wp2_with fail
              refine DN.out.mono ?_
              rintro e w5 ⟨rfl, hw⟩
              obtain rfl : wl = w5 := hw.symm
              clear hw
              go_wp2_with fail
              have k0 : (0 : Int) ≤ (k : Int) := by omega
              go_quiet (fail)
              obtain ⟨s, hs⟩ : ∃ s : ByteArray, y.extract 0 (min (y.size : Int) 120).toNat = s := ⟨_, rfl⟩
              have HST := Lib.hid (text_is HX.out HYX.out hs)
              rw [hs]
              clear hs hkx k0 k1 k2
              obtain ⟨w5, hw5⟩ : ∃ x : World, wl.drewN nq = x := ⟨_, rfl⟩
              have hb : Below wl.heap.size wl w5 := by rw [← hw5]; exact below_drewN (Below.refl _ _) nq
              rw [hw5]
              clear hw5 c0
              have S5 := Lib.hid (SX.out.below hb)
              have hp0 : wl.ownsRow w.heap.size 3 1 u16 (pgs k).length ((pgs k).map nn) := by rw [pgs_len]; exact HP.out
              obtain ⟨A2, cp2, hpv, _, _⟩ := rl_of_own hp0
              rw [pgs_len] at hpv
              clear hp0
              subst hpv
              have PG5 := Lib.hid (own_below HP.out hb)
              have KIN := Lib.hid (fun b (e : some b = (Value.slice A2 k cp2).ownBlock) => show b < wl.heap.size by obtain ⟨cc, fz, h3⟩ := Lib.ownsRow_kind HP.out b e.symm; exact heap_lt h3)
              have HW5 := Lib.hid hb.size
              clear hb
              have c2 := row_c (i := 2) S5.out.tw rfl
              clear DN HD HC HLF HT HH HBW HP HBB HLV SX
              go_wp2_with fail
              refine (alloc_anyF 16 w5 S5.out.pp S5.out.up (F := []) (L := w5.heap.size) (World.ownsRow_nil _ _ _ _) (Nat.le_refl _) S5.out.dd (by rw [PSI.out.len]) (by simp)).mono ?_
              rintro e w6 (⟨x1, f1v, hx, ha, hb, rfl, hp, hu, hf, hd, hc⟩ | ⟨ha, _⟩)
              rotate_left
              · exact (full_no (by have := H2.out; omega) ha).elim
              have HX1 := Lib.hid (page_is ha hb)
              have K6 := Lib.hid (Kp.of_ca hc)
              have P6 := Lib.hid hp
              have U6 := Lib.hid hu
              have F6 := Lib.hid (show w6.ownsRow w5.heap.size 3 1 f1v [x1].length ([x1].map nn) from hf)
              have D6 := Lib.hid hd
              have T6 := Lib.hid (show Tw w6 bw d t p q bh from K6.out.row S5.out.tw (ne_rows S5.out.tw S5.out.pp (by decide)))
              have H6 := Lib.hid (K6.out.hs S5.out.hh (hs_ne S5.out.hh S5.out.pp))
              have Q6 := Lib.hid (show Pb w6 q _ _ _ _ _ from K6.out.row S5.out.pq (fun h => S5.out.npq h.symm))
              have V6 := Lib.hid (K6.out.us S5.out.uq (us_ne S5.out.uq S5.out.pp))
              have E6 := Lib.hid (K6.out.dk S5.out.dt (ne_rows S5.out.dt.hg S5.out.pp (by decide)) (ne_rows S5.out.dt.hs S5.out.pp (by decide)))
              have PG6 := Lib.hid (K6.out.own PG5.out (fun b cs fr _ hb => ne_rows hb S5.out.pp (by decide)))
              have B6 := Lib.hid (K6.out.below S5.out.bl (fun j hj h => by have := LP.out.2.1; omega))
              have W6 := Lib.hid (show wl.heap.size ≤ w6.heap.size by have := HW5.out; have := K6.out.size; omega)
              have K6b := Lib.hid K6.out.size
              have NPQ := Lib.hid S5.out.npq
              have NDT := Lib.hid (And.intro S5.out.ndt S5.out.nst)
              clear hx ha hb hp hu hf hd hc c2
              have c3 := row_c (i := 3) T6.out rfl
              go_wp2_with fail
              refine (alloc_any 16 w6 Q6.out V6.out (F := []) (L := w6.heap.size) (World.ownsRow_nil _ _ _ _) (Nat.le_refl _) E6.out (by rw [PSI.out.len]) (by simp)).mono ?_
              rintro e w7 (⟨x2, f2v, hx, ha, hb, rfl, hp, hu, hf, hd, hc⟩ | ⟨ha, _⟩)
              rotate_left
              · exact (full_no (by have := H2.out; omega) ha).elim
              obtain rfl : x1 = x2 := by rw [HX1.out]; exact (page_is ha hb).symm
              have K7 := Lib.hid (Kp.of_ca hc)
              have Q7 := Lib.hid hp
              have V7 := Lib.hid hu
              have G7 := Lib.hid (show w7.ownsRow w6.heap.size 3 1 f2v [x1].length ([x1].map nn) from hf)
              have E7 := Lib.hid hd
              have T7 := Lib.hid (show Tw w7 bw d t p q bh from K7.out.row T6.out (ne_rows T6.out Q6.out (by decide)))
              have H7 := Lib.hid (K7.out.hs H6.out (hs_ne H6.out Q6.out))
              have P7 := Lib.hid (show Pb w7 p _ _ _ _ _ from K7.out.row P6.out S5.out.npq)
              have U7 := Lib.hid (K7.out.us U6.out (us_ne U6.out Q6.out))
              have F7 := Lib.hid (K7.out.own F6.out (fun b cs fr _ hb => ne_rows hb Q6.out (by decide)))
              have D7 := Lib.hid (K7.out.df D6.out (ne_rows D6.out.hg Q6.out (by decide)) (ne_rows D6.out.hs Q6.out (by decide)) (fun b cs fr hb => ne_rows hb Q6.out (by decide)))
              have PG7 := Lib.hid (K7.out.own PG6.out (fun b cs fr _ hb => ne_rows hb Q6.out (by decide)))
              have B7 := Lib.hid (K7.out.below B6.out (fun j hj h => by have := LP.out.2.2.1; omega))
              have W7 := Lib.hid (Nat.le_trans W6.out K7.out.size)
              clear hx ha hb hp hu hf hd hc c3 K6 P6 U6 F6 D6 H6 V6 E6 PG6 B6
              have bz : w.heap.size ≤ w7.heap.size := B7.out.size
              have N8 := Lib.hid (show k + 1 ≤ 1001 by have := H2.out; omega)
              obtain ⟨hi0, hz0, hz1, hz2⟩ := IP.out
              go_wp2_with (at_builtin; refine wpList_append_lies _ rfl _ _ 23 rfl w.heap.size 3 i0 (.int .i64 0) 1 8 Try.underlying23 hi0 hz0 hz1 hz2 rfl (by decide) _ _ _ rfl (PG7.out.alloc _) ⟨w7.heap.size, 0, none⟩ 1 1 [.int .i64 (x1 : Int)] rfl rfl (fun j u hj => one_newG hj) (by intro u hu; simp at hu; subst hu; rfl) (by have := N8.out; omega) (by unfold maxLen; have := N8.out; omega) (by have := N8.out; omega) (by simp; omega) (w7.heap.size + 1) (by simp) ?_)
              intro g1 cap w8 hown1 hgrow hat hgl1
              have K8 := Lib.hid (Kp.of_bg (bda w7 (.cells #[.int .i64 (x1 : Int)] 3)) hgrow)
              have PG8 := Lib.hid (show w8.ownsRow w.heap.size 3 1 (.slice (some ⟨g1, 0, none⟩) (k + 1) cap) (k + 1) ((pgs (k + 1)).map nn) by rw [← pgs_next HX1.out]; exact hown1)
              have NK := Lib.hid (fun b (e : some b = (Value.slice A2 k cp2).ownBlock) => Lib.ownsRow_kind PG7.out b e.symm)
              have NG := Lib.hid (fun b (e : some b = (Value.slice A2 k cp2).ownBlock) => own_ge PG7.out e.symm)
              clear hown1 hgrow hat hgl1 hi0 hz0 hz1 hz2 bz
              have T8 := Lib.hid (show Tw w8 bw d t p q bh from K8.out.row T7.out (fun e => by obtain ⟨cc, fz, h3⟩ := NK.out _ e; exact ne_rows h3 T7.out (by decide) rfl))
              have H8 := Lib.hid (K8.out.hs H7.out (fun e => by obtain ⟨cc, fz, h3⟩ := NK.out _ e; exact hs_ne H7.out h3 rfl))
              have P8 := Lib.hid (show Pb w8 p _ _ _ _ _ from K8.out.row P7.out (fun e => by obtain ⟨cc, fz, h3⟩ := NK.out _ e; exact ne_rows h3 P7.out (by decide) rfl))
              have Q8 := Lib.hid (show Pb w8 q _ _ _ _ _ from K8.out.row Q7.out (fun e => by obtain ⟨cc, fz, h3⟩ := NK.out _ e; exact ne_rows h3 Q7.out (by decide) rfl))
              have U8 := Lib.hid (K8.out.us U7.out (fun e => by obtain ⟨cc, fz, h3⟩ := NK.out _ e; exact us_ne U7.out h3 rfl))
              have V8 := Lib.hid (K8.out.us V7.out (fun e => by obtain ⟨cc, fz, h3⟩ := NK.out _ e; exact us_ne V7.out h3 rfl))
              have F8 := Lib.hid (K8.out.own F7.out (fun b cs fr h1 _ e => by have := KIN.out b e; have := own_ge F7.out h1; have := HW5.out; omega))
              have G8 := Lib.hid (K8.out.own G7.out (fun b cs fr h1 _ e => by have := KIN.out b e; have := own_ge G7.out h1; have := W6.out; omega))
              have D8 := Lib.hid ((K8.out.df D7.out (fun e => by obtain ⟨cc, fz, h3⟩ := NK.out _ e; exact ne_rows h3 D7.out.hg (by decide) rfl) (fun e => by obtain ⟨cc, fz, h3⟩ := NK.out _ e; exact ne_rows h3 D7.out.hs (by decide) rfl) (fun b cs fr hb e => by obtain ⟨cc, fz, h3⟩ := NK.out _ e; exact ne_rows h3 hb (by decide) rfl)).rebase (Nat.le_trans (Nat.le_trans K6b.out K7.out.size) K8.out.size) (Nat.le_refl _))
              have E8 := Lib.hid ((K8.out.dk E7.out (fun e => by obtain ⟨cc, fz, h3⟩ := NK.out _ e; exact ne_rows h3 E7.out.hg (by decide) rfl) (fun e => by obtain ⟨cc, fz, h3⟩ := NK.out _ e; exact ne_rows h3 E7.out.hs (by decide) rfl)))
              have B8 := Lib.hid (K8.out.below B7.out (fun j hj e => by have := NG.out j e; omega))
              clear K7 T7 H7 P7 Q7 U7 V7 F7 G7 D7 E7 PG7 B7 Q6 T6 S5 PG5 K8
              have c2 := row_c (i := 2) T8.out rfl
              have kw := IntWalk.wrap64_in ((k : Int) + 1) ⟨by omega, by have := H2.out; omega⟩
              have KW := Lib.hid kw
              go_wp2_with fail
              refine (pgwrite_f (fu := f1) x1 2 s w8 P8.out U8.out F8.out D8.out HF1.out (by simp) (by simp) (by rw [PSI.out.len]; have := HX1.out; have := H2.out; omega) (by omega) (by omega) (by rw [HST.out]; exact Xof_len _ _) (by simp)).mono ?_
              rintro e w9 (⟨rfl, h2, hp, hu, hf, ⟨v1, hd⟩, hc⟩ | ⟨rfl, h2, ⟨v1, hd⟩, hc⟩)
              · have HC1 := Lib.hid hc
                have T9 := Lib.hid (show Tw w9 bw d t p q bh from (Kp.of_cp hc).row T8.out (fun h => h.elim (ne_rows T8.out P8.out (by decide)) (fun h => h.elim (ne_rows T8.out D8.out.hg (by decide)) (ne_rows T8.out D8.out.hs (by decide)))))
                have P9 := Lib.hid hp
                have U9 := Lib.hid hu
                have F9 := Lib.hid hf
                have D9 := Lib.hid hd
                have HG2 := Lib.hid h2
                clear hp hu hf hd hc h2 c2
                have c2 := row_c (i := 2) T9.out rfl
                go_wp2_with fail
                refine (commit_f (f := f1 - 2) (k + 1) x1 w9 P9.out U9.out F9.out D9.out (by have := HF1.out; omega) (by rw [PSI.out.len]; omega) (by simp [wr2]) (by simp) (by intro z hz; simp at hz; have := HX1.out; have := H2.out; omega) (by have := H2.out; omega) (by have := H2.out; omega) (by have := HX1.out; have := H2.out; omega) (root_new HX1.out (by have := H2.out; omega))).mono ?_
                rintro e w10 (⟨rfl, h4, ⟨b2, hp, hu⟩, hd, hc⟩ | ⟨rfl, h4, ⟨v2, hd⟩, hc⟩ | ⟨rfl, h5, h4, ⟨v2, hd⟩, hc⟩)
                · have KZ := Lib.hid (Kp.of_cp (HC1.out.trans hc))
                  have TZ := Lib.hid (show Tw w10 bw d t p q bh from KZ.out.row T8.out (fun h => h.elim (ne_rows T8.out P8.out (by decide)) (fun h => h.elim (ne_rows T8.out D8.out.hg (by decide)) (ne_rows T8.out D8.out.hs (by decide)))))
                  have HZ := Lib.hid (KZ.out.hs H8.out (fun h => h.elim (hs_ne H8.out P8.out) (fun h => h.elim (hs_ne H8.out D8.out.hg) (hs_ne H8.out D8.out.hs))))
                  have QZ := Lib.hid (show Pb w10 q _ _ _ _ _ from KZ.out.row Q8.out (fun h => h.elim (fun e => NPQ.out e.symm) (fun h => h.elim (ne_rows Q8.out D8.out.hg (by decide)) (ne_rows Q8.out D8.out.hs (by decide)))))
                  have VZ := Lib.hid (KZ.out.us V8.out (fun h => h.elim (us_ne V8.out P8.out) (fun h => h.elim (us_ne V8.out D8.out.hg) (us_ne V8.out D8.out.hs))))
                  have GZ := Lib.hid (KZ.out.own G8.out (fun b cs fr _ hb => (fun h => h.elim (ne_rows hb P8.out (by decide)) (fun h => h.elim (ne_rows hb D8.out.hg (by decide)) (ne_rows hb D8.out.hs (by decide))))))
                  have EZ := Lib.hid ((KZ.out.dk E8.out (fun h => h.elim (ne_rows E8.out.hg P8.out (by decide)) (fun h => h.elim (fun e => NDT.out.1 e.symm) (ne_rows E8.out.hg D8.out.hs (by decide)))) (fun h => h.elim (ne_rows E8.out.hs P8.out (by decide)) (fun h => h.elim (ne_rows E8.out.hs D8.out.hg (by decide)) (fun e => NDT.out.2 e.symm)))).rebaseN (Nat.le_trans E8.out.hB KZ.out.size) (Nat.le_refl _))
                  have PGZ := Lib.hid (KZ.out.own PG8.out (fun b cs fr _ hb => (fun h => h.elim (ne_rows hb P8.out (by decide)) (fun h => h.elim (ne_rows hb D8.out.hg (by decide)) (ne_rows hb D8.out.hs (by decide))))))
                  have BZ := Lib.hid (KZ.out.below B8.out (fun j hj => (fun h => h.elim (fun h => by have := LP.out.2.1; omega) (fun h => h.elim (fun h => by have := LP.out.2.2.2.1; omega) (fun h => by have := LP.out.2.2.2.2.2.1; omega)))))
                  have LB := Lib.hid (show w.heap.size ≤ w8.heap.size from B8.out.size)
                  clear T8 H8 P8 Q8 U8 V8 F8 G8 D8 E8 B8 PG8 KZ
                  have c3 := row_c (i := 3) TZ.out rfl
                  have PZ := Lib.hid hp
                  have UZ := Lib.hid hu
                  have DZ := Lib.hid hd
                  have HG4 := Lib.hid h4
                  clear hp hu hd hc h4 c2 T9 P9 U9 F9 D9 HC1
                  have kw := KW.out
                  go_wp2_with fail
                  refine (write_yes x1 2 s w10 QZ.out VZ.out GZ.out EZ.out (by simp) (by simp) (by rw [PSI.out.len]; have := HX1.out; have := H2.out; omega) (by omega) (by omega) (by rw [HST.out]; exact Xof_len _ _) (by simp)).mono ?_
                  rintro e wa ⟨rfl, hp, hu, hf, ⟨v3, hd⟩, hch⟩
                  have TA := Lib.hid (show Tw wa bw d t p q bh from ch_row TZ.out EZ.out.toF hch (by decide) (by decide) (by decide))
                  have QA := Lib.hid hp
                  have VA := Lib.hid hu
                  have GA := Lib.hid hf
                  have EA := Lib.hid hd
                  have HCH := Lib.hid hch
                  clear hp hu hf hd hch c3
                  have c3 := row_c (i := 3) TA.out rfl
                  go_wp2_with fail
                  refine (commit_yes (k + 1) x1 wa QA.out VA.out GA.out EA.out (by rw [PSI.out.len]; omega) (by simp) (by simp) (by intro z hz; simp at hz; have := HX1.out; have := H2.out; omega) (by have := H2.out; omega) (by have := H2.out; omega) (by have := HX1.out; have := H2.out; omega) (root_new HX1.out (by have := H2.out; omega))).mono ?_
                  rintro e wb ⟨b3, rfl, hp, hu, hd, hcp⟩
                  have KB := Lib.hid (Kp.of_cp ((Cp.of_ch (p := q) HCH.out).trans hcp))
                  have hps : PS (flush (flush S1 (([] ++ [(2 * x1, (sealL 2 s.data.toList).take 64)]) ++ [(2 * x1 + 1, (sealL 2 s.data.toList).drop 64)])) (hdW (k + 1 + 1) x1 (fun j => nU [x1] j || Uj (k + 1) j))) (k + 1) (Xof ls) := by rw [cat_wr2]; exact PSI.out.step HX1.out (by have := H2.out; omega) HST.out.symm (by rw [HST.out]; exact Xof_len _ _) (fun j => by rw [HX1.out]; exact Uj_next (fun _ => rfl) j)
                  obtain ⟨S2, hS2⟩ : ∃ S2, flush (flush S1 (([] ++ [(2 * x1, (sealL 2 s.data.toList).take 64)]) ++ [(2 * x1 + 1, (sealL 2 s.data.toList).drop 64)])) (hdW (k + 1 + 1) x1 (fun j => nU [x1] j || Uj (k + 1) j)) = S2 := ⟨_, rfl⟩
                  rw [hS2] at hps hd
                  have HS2 := Lib.hid hS2
                  have PS2 := Lib.hid hps
                  have QB := Lib.hid hp
                  have VB := Lib.hid hu
                  have EB := Lib.hid (hd.rebaseN KB.out.size (Nat.le_refl _))
                  have TB := Lib.hid (show Tw wb bw d t p q bh from KB.out.row TZ.out (fun h => h.elim (ne_rows TZ.out QZ.out (by decide)) (fun h => h.elim (ne_rows TZ.out EZ.out.hg (by decide)) (ne_rows TZ.out EZ.out.hs (by decide)))))
                  have HB := Lib.hid (KB.out.hs HZ.out (fun h => h.elim (hs_ne HZ.out QZ.out) (fun h => h.elim (hs_ne HZ.out EZ.out.hg) (hs_ne HZ.out EZ.out.hs))))
                  have DB := Lib.hid (KB.out.df DZ.out (fun h => h.elim (ne_rows DZ.out.hg QZ.out (by decide)) (fun h => h.elim (fun e => NDT.out.1 e) (ne_rows DZ.out.hg EZ.out.hs (by decide)))) (fun h => h.elim (ne_rows DZ.out.hs QZ.out (by decide)) (fun h => h.elim (ne_rows DZ.out.hs EZ.out.hg (by decide)) (fun e => NDT.out.2 e))) (fun b cs fr hb => (fun h => h.elim (ne_rows hb QZ.out (by decide)) (fun h => h.elim (ne_rows hb EZ.out.hg (by decide)) (ne_rows hb EZ.out.hs (by decide))))))
                  have PGB := Lib.hid (KB.out.own PGZ.out (fun b cs fr _ hb => (fun h => h.elim (ne_rows hb QZ.out (by decide)) (fun h => h.elim (ne_rows hb EZ.out.hg (by decide)) (ne_rows hb EZ.out.hs (by decide))))))
                  have BBw := Lib.hid (KB.out.below BZ.out (fun j hj => (fun h => h.elim (fun h => by have := LP.out.2.2.1; omega) (fun h => h.elim (fun h => by have := LP.out.2.2.2.2.1; omega) (fun h => by have := LP.out.2.2.2.2.2.2; omega)))))
                  have PB := Lib.hid (show Pb wb p _ _ _ _ _ from KB.out.row PZ.out (fun h => h.elim (fun e => NPQ.out e) (fun h => h.elim (ne_rows PZ.out EZ.out.hg (by decide)) (ne_rows PZ.out EZ.out.hs (by decide)))))
                  have UB := Lib.hid (KB.out.us UZ.out (fun h => h.elim (us_ne UZ.out QZ.out) (fun h => h.elim (us_ne UZ.out EZ.out.hg) (us_ne UZ.out EZ.out.hs))))
                  clear hp hu hd hcp hS2 hps c3 TZ HZ QZ VZ GZ EZ DZ PGZ BZ TA QA VA GA EA HCH KB PZ UZ
                  go_wp2_with fail
                  refine (note_any wb TB.out EB.out (by rw [PS2.out.len]; omega) HB.out (by have := H2.out; omega)).mono ?_
                  rintro e wc ⟨rfl, hh, hg⟩
                  have KC := Lib.hid (Kp.of_grown hg)
                  have TC := Lib.hid (show Tw wc bw d t p q bh from KC.out.row TB.out (fun e => hs_ne HB.out TB.out (Option.some.inj e).symm))
                  have HCC := Lib.hid (show Hs wc bh (2 * (k + 1 + 1)) (Iof (k + 1)) from hh.ext (fun l => Iof_ext PS2.out l))
                  have QC := Lib.hid (show Pb wc q _ _ _ _ _ from KC.out.row QB.out (fun e => hs_ne HB.out QB.out (Option.some.inj e).symm))
                  have n0 : (fun j => nU [x1] j || Uj (k + 1) j) 0 = true := by simp [nU]
                  have VC := Lib.hid (KC.out.us VB.out (fun e => us_ne_hs VB.out HB.out n0 (Option.some.inj e)))
                  have EC := Lib.hid ((KC.out.dk EB.out (fun e => hs_ne HB.out EB.out.hg (Option.some.inj e).symm) (fun e => hs_ne HB.out EB.out.hs (Option.some.inj e).symm)).rebaseN (Nat.le_trans EB.out.hB KC.out.size) (Nat.le_refl _))
                  have DC := Lib.hid (KC.out.df DB.out (fun e => hs_ne HB.out DB.out.hg (Option.some.inj e).symm) (fun e => hs_ne HB.out DB.out.hs (Option.some.inj e).symm) (fun b cs fr hb => (fun e => hs_ne HB.out hb (Option.some.inj e).symm)))
                  have PGC := Lib.hid (KC.out.own PGB.out (fun b cs fr _ hb => (fun e => hs_ne HB.out hb (Option.some.inj e).symm)))
                  have BC := Lib.hid (KC.out.below BBw.out (fun j hj e => by have h0 := Option.some.inj e; have := BHG.out; omega))
                  have PC := Lib.hid (show Pb wc p _ _ _ _ _ from KC.out.row PB.out (fun e => hs_ne HB.out PB.out (Option.some.inj e).symm))
                  have UC := Lib.hid (KC.out.us UB.out (fun e => us_ne_hs UB.out HB.out n0 (Option.some.inj e)))
                  clear hh hg n0 KC
                  have kw := KW.out
                  go_wp2
                  go_roundw
                  case rel =>
                    have dd : Df ((f1 - 2 - 4 : Nat) : Int) false w8.heap.size wc d ds (.slice none 0 0) S2 [] := by
                      have h := DC.out
                      rw [← cat_wr2, HS2.out] at h
                      exact h
                    have pp : Pb wc p ((k + 1 + 1 : Nat) : Int) (rootOf (k + 1 + 1) : Nat) (.map (some b2)) d (.slice none 0 0) := by rw [rootOf_next HX1.out]; exact PC.out
                    have pq : Pb wc q ((k + 1 + 1 : Nat) : Int) (rootOf (k + 1 + 1) : Nat) (.map (some b3)) t (.slice none 0 0) := by rw [rootOf_next HX1.out]; exact QC.out
                    have up : Us wc b2 (2 + 3 * (k + 1)) (Uj (k + 1 + 1)) := (UC.out.mono (by simp; omega)).ext (fun j _ => by rw [HX1.out]; exact Uj_next (fun _ => rfl) j)
                    have uq : Us wc b3 (2 + 3 * (k + 1)) (Uj (k + 1 + 1)) := (VC.out.mono (by simp; omega)).ext (fun j _ => by rw [HX1.out]; exact Uj_next (fun _ => rfl) j)
                    exact ⟨k + 1, k + 1, _, false, _, _, S2, [], rfl, rfl, by rw [kw]; rfl, Lib.hid ⟨by have := H2.out; omega, by have := H1.out; omega⟩, Lib.hid dd, Lib.hid (by simp), Lib.hid (.inl ⟨rfl, rfl, PS2.out⟩), TC, HCC, BC, PGC, LB, Lib.hid (fun _ => ⟨rfl, f1 - 2 - 4, b2, b3, S2, by have := HF1.out; omega, ⟨TC.out, HCC.out, pp, up, dd.rebase dd.hB (Nat.le_refl _), pq, uq, EC.out, NPQ.out, NDT.out.1, NDT.out.2, BC.out, LP.out⟩, PS2.out⟩)⟩
                  case measure => rw [kw]; exact meas9 H2.out
                · have KZ := Lib.hid (Kp.of_cp (HC1.out.trans hc))
                  have TZ := Lib.hid (show Tw w10 bw d t p q bh from KZ.out.row T8.out (fun h => h.elim (ne_rows T8.out P8.out (by decide)) (fun h => h.elim (ne_rows T8.out D8.out.hg (by decide)) (ne_rows T8.out D8.out.hs (by decide)))))
                  have HZ := Lib.hid (KZ.out.hs H8.out (fun h => h.elim (hs_ne H8.out P8.out) (fun h => h.elim (hs_ne H8.out D8.out.hg) (hs_ne H8.out D8.out.hs))))
                  have QZ := Lib.hid (show Pb w10 q _ _ _ _ _ from KZ.out.row Q8.out (fun h => h.elim (fun e => NPQ.out e.symm) (fun h => h.elim (ne_rows Q8.out D8.out.hg (by decide)) (ne_rows Q8.out D8.out.hs (by decide)))))
                  have VZ := Lib.hid (KZ.out.us V8.out (fun h => h.elim (us_ne V8.out P8.out) (fun h => h.elim (us_ne V8.out D8.out.hg) (us_ne V8.out D8.out.hs))))
                  have GZ := Lib.hid (KZ.out.own G8.out (fun b cs fr _ hb => (fun h => h.elim (ne_rows hb P8.out (by decide)) (fun h => h.elim (ne_rows hb D8.out.hg (by decide)) (ne_rows hb D8.out.hs (by decide))))))
                  have EZ := Lib.hid ((KZ.out.dk E8.out (fun h => h.elim (ne_rows E8.out.hg P8.out (by decide)) (fun h => h.elim (fun e => NDT.out.1 e.symm) (ne_rows E8.out.hg D8.out.hs (by decide)))) (fun h => h.elim (ne_rows E8.out.hs P8.out (by decide)) (fun h => h.elim (ne_rows E8.out.hs D8.out.hg (by decide)) (fun e => NDT.out.2 e.symm)))).rebaseN (Nat.le_trans E8.out.hB KZ.out.size) (Nat.le_refl _))
                  have PGZ := Lib.hid (KZ.out.own PG8.out (fun b cs fr _ hb => (fun h => h.elim (ne_rows hb P8.out (by decide)) (fun h => h.elim (ne_rows hb D8.out.hg (by decide)) (ne_rows hb D8.out.hs (by decide))))))
                  have BZ := Lib.hid (KZ.out.below B8.out (fun j hj => (fun h => h.elim (fun h => by have := LP.out.2.1; omega) (fun h => h.elim (fun h => by have := LP.out.2.2.2.1; omega) (fun h => by have := LP.out.2.2.2.2.2.1; omega)))))
                  have LB := Lib.hid (show w.heap.size ≤ w8.heap.size from B8.out.size)
                  clear T8 H8 P8 Q8 U8 V8 F8 G8 D8 E8 B8 PG8 KZ
                  have c3 := row_c (i := 3) TZ.out rfl
                  have DZ := Lib.hid hd
                  clear hd hc h4 c2 T9 P9 U9 F9 D9 HC1 kw
                  go_wp2_with fail
                  refine (write_yes x1 2 s w10 QZ.out VZ.out GZ.out EZ.out (by simp) (by simp) (by rw [PSI.out.len]; have := HX1.out; have := H2.out; omega) (by omega) (by omega) (by rw [HST.out]; exact Xof_len _ _) (by simp)).mono ?_
                  rintro e wa ⟨rfl, hp, hu, hf, ⟨v3, hd⟩, hch⟩
                  have TA := Lib.hid (show Tw wa bw d t p q bh from ch_row TZ.out EZ.out.toF hch (by decide) (by decide) (by decide))
                  have QA := Lib.hid hp
                  have VA := Lib.hid hu
                  have GA := Lib.hid hf
                  have EA := Lib.hid hd
                  have HCH := Lib.hid hch
                  clear hp hu hf hd hch c3
                  have c3 := row_c (i := 3) TA.out rfl
                  go_wp2_with fail
                  refine (commit_yes (k + 1) x1 wa QA.out VA.out GA.out EA.out (by rw [PSI.out.len]; omega) (by simp) (by simp) (by intro z hz; simp at hz; have := HX1.out; have := H2.out; omega) (by have := H2.out; omega) (by have := H2.out; omega) (by have := HX1.out; have := H2.out; omega) (root_new HX1.out (by have := H2.out; omega))).mono ?_
                  rintro e wb ⟨b3, rfl, hp, hu, hd, hcp⟩
                  have KB := Lib.hid (Kp.of_cp ((Cp.of_ch (p := q) HCH.out).trans hcp))
                  have hps : PS (flush (flush S1 (([] ++ [(2 * x1, (sealL 2 s.data.toList).take 64)]) ++ [(2 * x1 + 1, (sealL 2 s.data.toList).drop 64)])) (hdW (k + 1 + 1) x1 (fun j => nU [x1] j || Uj (k + 1) j))) (k + 1) (Xof ls) := by rw [cat_wr2]; exact PSI.out.step HX1.out (by have := H2.out; omega) HST.out.symm (by rw [HST.out]; exact Xof_len _ _) (fun j => by rw [HX1.out]; exact Uj_next (fun _ => rfl) j)
                  obtain ⟨S2, hS2⟩ : ∃ S2, flush (flush S1 (([] ++ [(2 * x1, (sealL 2 s.data.toList).take 64)]) ++ [(2 * x1 + 1, (sealL 2 s.data.toList).drop 64)])) (hdW (k + 1 + 1) x1 (fun j => nU [x1] j || Uj (k + 1) j)) = S2 := ⟨_, rfl⟩
                  rw [hS2] at hps hd
                  have HS2 := Lib.hid hS2
                  have PS2 := Lib.hid hps
                  have QB := Lib.hid hp
                  have VB := Lib.hid hu
                  have EB := Lib.hid (hd.rebaseN KB.out.size (Nat.le_refl _))
                  have TB := Lib.hid (show Tw wb bw d t p q bh from KB.out.row TZ.out (fun h => h.elim (ne_rows TZ.out QZ.out (by decide)) (fun h => h.elim (ne_rows TZ.out EZ.out.hg (by decide)) (ne_rows TZ.out EZ.out.hs (by decide)))))
                  have HB := Lib.hid (KB.out.hs HZ.out (fun h => h.elim (hs_ne HZ.out QZ.out) (fun h => h.elim (hs_ne HZ.out EZ.out.hg) (hs_ne HZ.out EZ.out.hs))))
                  have DB := Lib.hid (KB.out.df DZ.out (fun h => h.elim (ne_rows DZ.out.hg QZ.out (by decide)) (fun h => h.elim (fun e => NDT.out.1 e) (ne_rows DZ.out.hg EZ.out.hs (by decide)))) (fun h => h.elim (ne_rows DZ.out.hs QZ.out (by decide)) (fun h => h.elim (ne_rows DZ.out.hs EZ.out.hg (by decide)) (fun e => NDT.out.2 e))) (fun b cs fr hb => (fun h => h.elim (ne_rows hb QZ.out (by decide)) (fun h => h.elim (ne_rows hb EZ.out.hg (by decide)) (ne_rows hb EZ.out.hs (by decide))))))
                  have PGB := Lib.hid (KB.out.own PGZ.out (fun b cs fr _ hb => (fun h => h.elim (ne_rows hb QZ.out (by decide)) (fun h => h.elim (ne_rows hb EZ.out.hg (by decide)) (ne_rows hb EZ.out.hs (by decide))))))
                  have BBw := Lib.hid (KB.out.below BZ.out (fun j hj => (fun h => h.elim (fun h => by have := LP.out.2.2.1; omega) (fun h => h.elim (fun h => by have := LP.out.2.2.2.2.1; omega) (fun h => by have := LP.out.2.2.2.2.2.2; omega)))))
                  clear hp hu hd hcp hS2 hps c3 TZ HZ QZ VZ GZ EZ DZ PGZ BZ TA QA VA GA EA HCH KB
                  go_wp2_with fail
                  refine (note_any wb TB.out EB.out (by rw [PS2.out.len]; omega) HB.out (by have := H2.out; omega)).mono ?_
                  rintro e wc ⟨rfl, hh, hg⟩
                  have KC := Lib.hid (Kp.of_grown hg)
                  have TC := Lib.hid (show Tw wc bw d t p q bh from KC.out.row TB.out (fun e => hs_ne HB.out TB.out (Option.some.inj e).symm))
                  have HCC := Lib.hid (show Hs wc bh (2 * (k + 1 + 1)) (Iof (k + 1)) from hh.ext (fun l => Iof_ext PS2.out l))
                  have QC := Lib.hid (show Pb wc q _ _ _ _ _ from KC.out.row QB.out (fun e => hs_ne HB.out QB.out (Option.some.inj e).symm))
                  have n0 : (fun j => nU [x1] j || Uj (k + 1) j) 0 = true := by simp [nU]
                  have VC := Lib.hid (KC.out.us VB.out (fun e => us_ne_hs VB.out HB.out n0 (Option.some.inj e)))
                  have EC := Lib.hid ((KC.out.dk EB.out (fun e => hs_ne HB.out EB.out.hg (Option.some.inj e).symm) (fun e => hs_ne HB.out EB.out.hs (Option.some.inj e).symm)).rebaseN (Nat.le_trans EB.out.hB KC.out.size) (Nat.le_refl _))
                  have DC := Lib.hid (KC.out.df DB.out (fun e => hs_ne HB.out DB.out.hg (Option.some.inj e).symm) (fun e => hs_ne HB.out DB.out.hs (Option.some.inj e).symm) (fun b cs fr hb => (fun e => hs_ne HB.out hb (Option.some.inj e).symm)))
                  have PGC := Lib.hid (KC.out.own PGB.out (fun b cs fr _ hb => (fun e => hs_ne HB.out hb (Option.some.inj e).symm)))
                  have BC := Lib.hid (KC.out.below BBw.out (fun j hj e => by have h0 := Option.some.inj e; have := BHG.out; omega))
                  clear hh hg n0 KC
                  have kw := KW.out
                  go_wp2
                  go_roundw
                  case rel =>
                    have hh := seal_halves (k := 2) (t := s.data.toList) (by rw [HST.out]; exact Xof_len _ _)
                    exact ⟨k, k + 1, 0, true, _, _, S1, _, rfl, rfl, by rw [kw]; rfl, Lib.hid ⟨by have := H2.out; omega, by have := H1.out; omega⟩, DC, Lib.hid (by simp [wr2]), Lib.hid (.inr (.inl ⟨rfl, PSI.out, 2, _, _, by rw [HX1.out]; rfl, hh.1, hh.2⟩)), TC, HCC, BC, PGC, LB, Lib.hid (fun h => by cases h)⟩
                  case measure => rw [kw]; exact meas9 H2.out
                · have KZ := Lib.hid (Kp.of_cp (HC1.out.trans hc))
                  have TZ := Lib.hid (show Tw w10 bw d t p q bh from KZ.out.row T8.out (fun h => h.elim (ne_rows T8.out P8.out (by decide)) (fun h => h.elim (ne_rows T8.out D8.out.hg (by decide)) (ne_rows T8.out D8.out.hs (by decide)))))
                  have HZ := Lib.hid (KZ.out.hs H8.out (fun h => h.elim (hs_ne H8.out P8.out) (fun h => h.elim (hs_ne H8.out D8.out.hg) (hs_ne H8.out D8.out.hs))))
                  have QZ := Lib.hid (show Pb w10 q _ _ _ _ _ from KZ.out.row Q8.out (fun h => h.elim (fun e => NPQ.out e.symm) (fun h => h.elim (ne_rows Q8.out D8.out.hg (by decide)) (ne_rows Q8.out D8.out.hs (by decide)))))
                  have VZ := Lib.hid (KZ.out.us V8.out (fun h => h.elim (us_ne V8.out P8.out) (fun h => h.elim (us_ne V8.out D8.out.hg) (us_ne V8.out D8.out.hs))))
                  have GZ := Lib.hid (KZ.out.own G8.out (fun b cs fr _ hb => (fun h => h.elim (ne_rows hb P8.out (by decide)) (fun h => h.elim (ne_rows hb D8.out.hg (by decide)) (ne_rows hb D8.out.hs (by decide))))))
                  have EZ := Lib.hid ((KZ.out.dk E8.out (fun h => h.elim (ne_rows E8.out.hg P8.out (by decide)) (fun h => h.elim (fun e => NDT.out.1 e.symm) (ne_rows E8.out.hg D8.out.hs (by decide)))) (fun h => h.elim (ne_rows E8.out.hs P8.out (by decide)) (fun h => h.elim (ne_rows E8.out.hs D8.out.hg (by decide)) (fun e => NDT.out.2 e.symm)))).rebaseN (Nat.le_trans E8.out.hB KZ.out.size) (Nat.le_refl _))
                  have PGZ := Lib.hid (KZ.out.own PG8.out (fun b cs fr _ hb => (fun h => h.elim (ne_rows hb P8.out (by decide)) (fun h => h.elim (ne_rows hb D8.out.hg (by decide)) (ne_rows hb D8.out.hs (by decide))))))
                  have BZ := Lib.hid (KZ.out.below B8.out (fun j hj => (fun h => h.elim (fun h => by have := LP.out.2.1; omega) (fun h => h.elim (fun h => by have := LP.out.2.2.2.1; omega) (fun h => by have := LP.out.2.2.2.2.2.1; omega)))))
                  have LB := Lib.hid (show w.heap.size ≤ w8.heap.size from B8.out.size)
                  clear T8 H8 P8 Q8 U8 V8 F8 G8 D8 E8 B8 PG8 KZ
                  have c3 := row_c (i := 3) TZ.out rfl
                  have DZ := Lib.hid hd
                  clear hd hc h4 h5 c2 T9 P9 U9 F9 D9 HC1 kw
                  go_wp2_with fail
                  refine (write_yes x1 2 s w10 QZ.out VZ.out GZ.out EZ.out (by simp) (by simp) (by rw [PSI.out.len]; have := HX1.out; have := H2.out; omega) (by omega) (by omega) (by rw [HST.out]; exact Xof_len _ _) (by simp)).mono ?_
                  rintro e wa ⟨rfl, hp, hu, hf, ⟨v3, hd⟩, hch⟩
                  have TA := Lib.hid (show Tw wa bw d t p q bh from ch_row TZ.out EZ.out.toF hch (by decide) (by decide) (by decide))
                  have QA := Lib.hid hp
                  have VA := Lib.hid hu
                  have GA := Lib.hid hf
                  have EA := Lib.hid hd
                  have HCH := Lib.hid hch
                  clear hp hu hf hd hch c3
                  have c3 := row_c (i := 3) TA.out rfl
                  go_wp2_with fail
                  refine (commit_yes (k + 1) x1 wa QA.out VA.out GA.out EA.out (by rw [PSI.out.len]; omega) (by simp) (by simp) (by intro z hz; simp at hz; have := HX1.out; have := H2.out; omega) (by have := H2.out; omega) (by have := H2.out; omega) (by have := HX1.out; have := H2.out; omega) (root_new HX1.out (by have := H2.out; omega))).mono ?_
                  rintro e wb ⟨b3, rfl, hp, hu, hd, hcp⟩
                  have KB := Lib.hid (Kp.of_cp ((Cp.of_ch (p := q) HCH.out).trans hcp))
                  have hps : PS (flush (flush S1 (([] ++ [(2 * x1, (sealL 2 s.data.toList).take 64)]) ++ [(2 * x1 + 1, (sealL 2 s.data.toList).drop 64)])) (hdW (k + 1 + 1) x1 (fun j => nU [x1] j || Uj (k + 1) j))) (k + 1) (Xof ls) := by rw [cat_wr2]; exact PSI.out.step HX1.out (by have := H2.out; omega) HST.out.symm (by rw [HST.out]; exact Xof_len _ _) (fun j => by rw [HX1.out]; exact Uj_next (fun _ => rfl) j)
                  obtain ⟨S2, hS2⟩ : ∃ S2, flush (flush S1 (([] ++ [(2 * x1, (sealL 2 s.data.toList).take 64)]) ++ [(2 * x1 + 1, (sealL 2 s.data.toList).drop 64)])) (hdW (k + 1 + 1) x1 (fun j => nU [x1] j || Uj (k + 1) j)) = S2 := ⟨_, rfl⟩
                  rw [hS2] at hps hd
                  have HS2 := Lib.hid hS2
                  have PS2 := Lib.hid hps
                  have QB := Lib.hid hp
                  have VB := Lib.hid hu
                  have EB := Lib.hid (hd.rebaseN KB.out.size (Nat.le_refl _))
                  have TB := Lib.hid (show Tw wb bw d t p q bh from KB.out.row TZ.out (fun h => h.elim (ne_rows TZ.out QZ.out (by decide)) (fun h => h.elim (ne_rows TZ.out EZ.out.hg (by decide)) (ne_rows TZ.out EZ.out.hs (by decide)))))
                  have HB := Lib.hid (KB.out.hs HZ.out (fun h => h.elim (hs_ne HZ.out QZ.out) (fun h => h.elim (hs_ne HZ.out EZ.out.hg) (hs_ne HZ.out EZ.out.hs))))
                  have DB := Lib.hid (KB.out.df DZ.out (fun h => h.elim (ne_rows DZ.out.hg QZ.out (by decide)) (fun h => h.elim (fun e => NDT.out.1 e) (ne_rows DZ.out.hg EZ.out.hs (by decide)))) (fun h => h.elim (ne_rows DZ.out.hs QZ.out (by decide)) (fun h => h.elim (ne_rows DZ.out.hs EZ.out.hg (by decide)) (fun e => NDT.out.2 e))) (fun b cs fr hb => (fun h => h.elim (ne_rows hb QZ.out (by decide)) (fun h => h.elim (ne_rows hb EZ.out.hg (by decide)) (ne_rows hb EZ.out.hs (by decide))))))
                  have PGB := Lib.hid (KB.out.own PGZ.out (fun b cs fr _ hb => (fun h => h.elim (ne_rows hb QZ.out (by decide)) (fun h => h.elim (ne_rows hb EZ.out.hg (by decide)) (ne_rows hb EZ.out.hs (by decide))))))
                  have BBw := Lib.hid (KB.out.below BZ.out (fun j hj => (fun h => h.elim (fun h => by have := LP.out.2.2.1; omega) (fun h => h.elim (fun h => by have := LP.out.2.2.2.2.1; omega) (fun h => by have := LP.out.2.2.2.2.2.2; omega)))))
                  clear hp hu hd hcp hS2 hps c3 TZ HZ QZ VZ GZ EZ DZ PGZ BZ TA QA VA GA EA HCH KB
                  go_wp2_with fail
                  refine (note_any wb TB.out EB.out (by rw [PS2.out.len]; omega) HB.out (by have := H2.out; omega)).mono ?_
                  rintro e wc ⟨rfl, hh, hg⟩
                  have KC := Lib.hid (Kp.of_grown hg)
                  have TC := Lib.hid (show Tw wc bw d t p q bh from KC.out.row TB.out (fun e => hs_ne HB.out TB.out (Option.some.inj e).symm))
                  have HCC := Lib.hid (show Hs wc bh (2 * (k + 1 + 1)) (Iof (k + 1)) from hh.ext (fun l => Iof_ext PS2.out l))
                  have QC := Lib.hid (show Pb wc q _ _ _ _ _ from KC.out.row QB.out (fun e => hs_ne HB.out QB.out (Option.some.inj e).symm))
                  have n0 : (fun j => nU [x1] j || Uj (k + 1) j) 0 = true := by simp [nU]
                  have VC := Lib.hid (KC.out.us VB.out (fun e => us_ne_hs VB.out HB.out n0 (Option.some.inj e)))
                  have EC := Lib.hid ((KC.out.dk EB.out (fun e => hs_ne HB.out EB.out.hg (Option.some.inj e).symm) (fun e => hs_ne HB.out EB.out.hs (Option.some.inj e).symm)).rebaseN (Nat.le_trans EB.out.hB KC.out.size) (Nat.le_refl _))
                  have DC := Lib.hid (KC.out.df DB.out (fun e => hs_ne HB.out DB.out.hg (Option.some.inj e).symm) (fun e => hs_ne HB.out DB.out.hs (Option.some.inj e).symm) (fun b cs fr hb => (fun e => hs_ne HB.out hb (Option.some.inj e).symm)))
                  have PGC := Lib.hid (KC.out.own PGB.out (fun b cs fr _ hb => (fun e => hs_ne HB.out hb (Option.some.inj e).symm)))
                  have BC := Lib.hid (KC.out.below BBw.out (fun j hj e => by have h0 := Option.some.inj e; have := BHG.out; omega))
                  clear hh hg n0 KC
                  have kw := KW.out
                  go_wp2
                  go_roundw
                  case rel =>
                    have hh := seal_halves (k := 2) (t := s.data.toList) (by rw [HST.out]; exact Xof_len _ _)
                    obtain ⟨g1x, g2x⟩ := PSI.out.data hh.1 hh.2 HX1.out (by have := H2.out; omega)
                    rw [List.take_append_drop, HST.out] at g2x
                    exact ⟨k, k + 1, 0, true, _, _, _, _, rfl, rfl, by rw [kw]; rfl, Lib.hid ⟨by have := H2.out; omega, by have := H1.out; omega⟩, DC, Lib.hid (by rw [List.length_take]; simp [hdW]; omega), Lib.hid (.inr (.inr ⟨rfl, g1x, by have e := HX1.out; rw [← e]; rw [HST.out]; exact g2x, f1 - 2 - 1, _, by rw [HX1.out], fun j => Uj_next (fun _ => rfl) j⟩)), TC, HCC, BC, PGC, LB, Lib.hid (fun h => by cases h)⟩
                  case measure => rw [kw]; exact meas9 H2.out
              · have KZ := Lib.hid (Kp.of_cp (hc))
                have TZ := Lib.hid (show Tw w9 bw d t p q bh from KZ.out.row T8.out (fun h => h.elim (ne_rows T8.out P8.out (by decide)) (fun h => h.elim (ne_rows T8.out D8.out.hg (by decide)) (ne_rows T8.out D8.out.hs (by decide)))))
                have HZ := Lib.hid (KZ.out.hs H8.out (fun h => h.elim (hs_ne H8.out P8.out) (fun h => h.elim (hs_ne H8.out D8.out.hg) (hs_ne H8.out D8.out.hs))))
                have QZ := Lib.hid (show Pb w9 q _ _ _ _ _ from KZ.out.row Q8.out (fun h => h.elim (fun e => NPQ.out e.symm) (fun h => h.elim (ne_rows Q8.out D8.out.hg (by decide)) (ne_rows Q8.out D8.out.hs (by decide)))))
                have VZ := Lib.hid (KZ.out.us V8.out (fun h => h.elim (us_ne V8.out P8.out) (fun h => h.elim (us_ne V8.out D8.out.hg) (us_ne V8.out D8.out.hs))))
                have GZ := Lib.hid (KZ.out.own G8.out (fun b cs fr _ hb => (fun h => h.elim (ne_rows hb P8.out (by decide)) (fun h => h.elim (ne_rows hb D8.out.hg (by decide)) (ne_rows hb D8.out.hs (by decide))))))
                have EZ := Lib.hid ((KZ.out.dk E8.out (fun h => h.elim (ne_rows E8.out.hg P8.out (by decide)) (fun h => h.elim (fun e => NDT.out.1 e.symm) (ne_rows E8.out.hg D8.out.hs (by decide)))) (fun h => h.elim (ne_rows E8.out.hs P8.out (by decide)) (fun h => h.elim (ne_rows E8.out.hs D8.out.hg (by decide)) (fun e => NDT.out.2 e.symm)))).rebaseN (Nat.le_trans E8.out.hB KZ.out.size) (Nat.le_refl _))
                have PGZ := Lib.hid (KZ.out.own PG8.out (fun b cs fr _ hb => (fun h => h.elim (ne_rows hb P8.out (by decide)) (fun h => h.elim (ne_rows hb D8.out.hg (by decide)) (ne_rows hb D8.out.hs (by decide))))))
                have BZ := Lib.hid (KZ.out.below B8.out (fun j hj => (fun h => h.elim (fun h => by have := LP.out.2.1; omega) (fun h => h.elim (fun h => by have := LP.out.2.2.2.1; omega) (fun h => by have := LP.out.2.2.2.2.2.1; omega)))))
                have LB := Lib.hid (show w.heap.size ≤ w8.heap.size from B8.out.size)
                clear T8 H8 P8 Q8 U8 V8 F8 G8 D8 E8 B8 PG8 KZ
                have c3 := row_c (i := 3) TZ.out rfl
                have DZ := Lib.hid hd
                clear hd hc h2 c2 kw
                go_wp2_with fail
                refine (write_yes x1 2 s w9 QZ.out VZ.out GZ.out EZ.out (by simp) (by simp) (by rw [PSI.out.len]; have := HX1.out; have := H2.out; omega) (by omega) (by omega) (by rw [HST.out]; exact Xof_len _ _) (by simp)).mono ?_
                rintro e wa ⟨rfl, hp, hu, hf, ⟨v3, hd⟩, hch⟩
                have TA := Lib.hid (show Tw wa bw d t p q bh from ch_row TZ.out EZ.out.toF hch (by decide) (by decide) (by decide))
                have QA := Lib.hid hp
                have VA := Lib.hid hu
                have GA := Lib.hid hf
                have EA := Lib.hid hd
                have HCH := Lib.hid hch
                clear hp hu hf hd hch c3
                have c3 := row_c (i := 3) TA.out rfl
                go_wp2_with fail
                refine (commit_yes (k + 1) x1 wa QA.out VA.out GA.out EA.out (by rw [PSI.out.len]; omega) (by simp) (by simp) (by intro z hz; simp at hz; have := HX1.out; have := H2.out; omega) (by have := H2.out; omega) (by have := H2.out; omega) (by have := HX1.out; have := H2.out; omega) (root_new HX1.out (by have := H2.out; omega))).mono ?_
                rintro e wb ⟨b3, rfl, hp, hu, hd, hcp⟩
                have KB := Lib.hid (Kp.of_cp ((Cp.of_ch (p := q) HCH.out).trans hcp))
                have hps : PS (flush (flush S1 (([] ++ [(2 * x1, (sealL 2 s.data.toList).take 64)]) ++ [(2 * x1 + 1, (sealL 2 s.data.toList).drop 64)])) (hdW (k + 1 + 1) x1 (fun j => nU [x1] j || Uj (k + 1) j))) (k + 1) (Xof ls) := by rw [cat_wr2]; exact PSI.out.step HX1.out (by have := H2.out; omega) HST.out.symm (by rw [HST.out]; exact Xof_len _ _) (fun j => by rw [HX1.out]; exact Uj_next (fun _ => rfl) j)
                obtain ⟨S2, hS2⟩ : ∃ S2, flush (flush S1 (([] ++ [(2 * x1, (sealL 2 s.data.toList).take 64)]) ++ [(2 * x1 + 1, (sealL 2 s.data.toList).drop 64)])) (hdW (k + 1 + 1) x1 (fun j => nU [x1] j || Uj (k + 1) j)) = S2 := ⟨_, rfl⟩
                rw [hS2] at hps hd
                have HS2 := Lib.hid hS2
                have PS2 := Lib.hid hps
                have QB := Lib.hid hp
                have VB := Lib.hid hu
                have EB := Lib.hid (hd.rebaseN KB.out.size (Nat.le_refl _))
                have TB := Lib.hid (show Tw wb bw d t p q bh from KB.out.row TZ.out (fun h => h.elim (ne_rows TZ.out QZ.out (by decide)) (fun h => h.elim (ne_rows TZ.out EZ.out.hg (by decide)) (ne_rows TZ.out EZ.out.hs (by decide)))))
                have HB := Lib.hid (KB.out.hs HZ.out (fun h => h.elim (hs_ne HZ.out QZ.out) (fun h => h.elim (hs_ne HZ.out EZ.out.hg) (hs_ne HZ.out EZ.out.hs))))
                have DB := Lib.hid (KB.out.df DZ.out (fun h => h.elim (ne_rows DZ.out.hg QZ.out (by decide)) (fun h => h.elim (fun e => NDT.out.1 e) (ne_rows DZ.out.hg EZ.out.hs (by decide)))) (fun h => h.elim (ne_rows DZ.out.hs QZ.out (by decide)) (fun h => h.elim (ne_rows DZ.out.hs EZ.out.hg (by decide)) (fun e => NDT.out.2 e))) (fun b cs fr hb => (fun h => h.elim (ne_rows hb QZ.out (by decide)) (fun h => h.elim (ne_rows hb EZ.out.hg (by decide)) (ne_rows hb EZ.out.hs (by decide))))))
                have PGB := Lib.hid (KB.out.own PGZ.out (fun b cs fr _ hb => (fun h => h.elim (ne_rows hb QZ.out (by decide)) (fun h => h.elim (ne_rows hb EZ.out.hg (by decide)) (ne_rows hb EZ.out.hs (by decide))))))
                have BBw := Lib.hid (KB.out.below BZ.out (fun j hj => (fun h => h.elim (fun h => by have := LP.out.2.2.1; omega) (fun h => h.elim (fun h => by have := LP.out.2.2.2.2.1; omega) (fun h => by have := LP.out.2.2.2.2.2.2; omega)))))
                clear hp hu hd hcp hS2 hps c3 TZ HZ QZ VZ GZ EZ DZ PGZ BZ TA QA VA GA EA HCH KB
                go_wp2_with fail
                refine (note_any wb TB.out EB.out (by rw [PS2.out.len]; omega) HB.out (by have := H2.out; omega)).mono ?_
                rintro e wc ⟨rfl, hh, hg⟩
                have KC := Lib.hid (Kp.of_grown hg)
                have TC := Lib.hid (show Tw wc bw d t p q bh from KC.out.row TB.out (fun e => hs_ne HB.out TB.out (Option.some.inj e).symm))
                have HCC := Lib.hid (show Hs wc bh (2 * (k + 1 + 1)) (Iof (k + 1)) from hh.ext (fun l => Iof_ext PS2.out l))
                have QC := Lib.hid (show Pb wc q _ _ _ _ _ from KC.out.row QB.out (fun e => hs_ne HB.out QB.out (Option.some.inj e).symm))
                have n0 : (fun j => nU [x1] j || Uj (k + 1) j) 0 = true := by simp [nU]
                have VC := Lib.hid (KC.out.us VB.out (fun e => us_ne_hs VB.out HB.out n0 (Option.some.inj e)))
                have EC := Lib.hid ((KC.out.dk EB.out (fun e => hs_ne HB.out EB.out.hg (Option.some.inj e).symm) (fun e => hs_ne HB.out EB.out.hs (Option.some.inj e).symm)).rebaseN (Nat.le_trans EB.out.hB KC.out.size) (Nat.le_refl _))
                have DC := Lib.hid (KC.out.df DB.out (fun e => hs_ne HB.out DB.out.hg (Option.some.inj e).symm) (fun e => hs_ne HB.out DB.out.hs (Option.some.inj e).symm) (fun b cs fr hb => (fun e => hs_ne HB.out hb (Option.some.inj e).symm)))
                have PGC := Lib.hid (KC.out.own PGB.out (fun b cs fr _ hb => (fun e => hs_ne HB.out hb (Option.some.inj e).symm)))
                have BC := Lib.hid (KC.out.below BBw.out (fun j hj e => by have h0 := Option.some.inj e; have := BHG.out; omega))
                clear hh hg n0 KC
                have kw := KW.out
                go_wp2
                go_roundw
                case rel =>
                  have hh := seal_halves (k := 2) (t := s.data.toList) (by rw [HST.out]; exact Xof_len _ _)
                  exact ⟨k, k + 1, 0, true, _, _, S1, _, rfl, rfl, by rw [kw]; rfl, Lib.hid ⟨by have := H2.out; omega, by have := H1.out; omega⟩, DC, Lib.hid (by simp [wr2]; omega), Lib.hid (.inr (.inl ⟨rfl, PSI.out, f1, _, _, by rw [HX1.out]; rfl, hh.1, hh.2⟩)), TC, HCC, BC, PGC, LB, Lib.hid (fun h => by cases h)⟩
                case measure => rw [kw]; exact meas9 H2.out
            · go_wp2_with fail
              refine DN.out.mono ?_
              rintro e w5 ⟨rfl, hw⟩
              obtain rfl : wl = w5 := hw.symm
              clear hw
              go_wp2_with fail
              go_meet
              exact ⟨k, i, fu, true, B, v, S0, C, rfl, rfl, rfl, HI, HD, HC, HLF, HT, HH, HBW, HP, HBB⟩
          · have k2 : ¬ (i : Int) < 8 := by omega
            clear h1 h2
            go_wp2_with fail
            go_meet
            exact ⟨k, i, fu, dn, B, v, S0, C, rfl, rfl, rfl, HI, HD, HC, HLF, HT, HH, HBW, HP, HBB⟩
        · have k1 : ¬ (i : Int) < (nl : Int) := by omega
          clear h1
          go_wp2_with fail
          go_meet
          exact ⟨k, i, fu, dn, B, v, S0, C, rfl, rfl, rfl, HI, HD, HC, HLF, HT, HH, HBW, HP, HBB⟩
    case rest =>
      obtain ⟨k, i, fu, dn, B, v, S0, C, rfl, rfl, rfl, HI, HD, HC, HLF, HT, HH, HBW, HP, HBB⟩ := hcut
      obtain ⟨wl, hwl⟩ : ∃ x : World, wc = x := ⟨_, rfl⟩
      subst wc
      clear SX3 R3 H3 SX2 PS2 BB B1 B2 HF TF HY HFU
      have c0 := row_c (i := 0) HT.out rfl
      go_wp2_with fail
      have CRA : Calls Try.prog 12 #[.pointer (some ⟨d, 0, none⟩), .slice K nk kc, .int .i64 torn, .int .i64 cut] wl fun e w' => e = .returned (.tuple #[]) ∧ Dk B w' d ds (.slice none 0 0) (crash ks torn (cutQ cut) S0 C) [] ∧ Ch B d ds wl w' := by
        rw [← HNK.out]
        exact crash_anyF K kc ks torn cut wl HD.out (by have := HC.out; omega) (HK.out.below HBW.out) HKN.out (fun h b o e => by
          obtain ⟨b2, o2, e2, hlt2, _⟩ := HK.out.2 h
          rw [e] at e2
          injection e2 with e2
          injection e2 with e2 _
          have := LP.out.2.2.2.2.2.1
          omega) HCB.out.1 HCB.out.2
      refine CRA.mono ?_
      rintro e wh ⟨rfl, hd, hc⟩
      clear CRA
      have hk8 : k ≤ 8 := by have h := HLF.out; have := HI.out; rcases h with h | h | h <;> omega
      have hfn := HLF.out.crash (ks := ks) (torn := torn) (q := cutQ cut) (cutQ_leL cut) hk8
      obtain ⟨S2, hS2⟩ : ∃ S2, crash ks torn (cutQ cut) S0 C = S2 := ⟨_, rfl⟩
      rw [hS2] at hfn hd
      have FN := Lib.hid hfn
      have K8 := Lib.hid hk8
      have DC := Lib.hid hd
      have TC := Lib.hid (show Tw wh bw d t p q bh from ch_row HT.out HD.out hc (by decide) (by decide) (by decide))
      have HCC := Lib.hid (ch_hs HH.out HD.out hc)
      have PGC := Lib.hid (own_chF HP.out HD.out hc)
      have hp0 : wh.ownsRow w.heap.size 3 1 u16 (pgs i).length ((pgs i).map nn) := by rw [pgs_len]; exact PGC.out
      obtain ⟨A2, cp2, hpv, hrl, _⟩ := rl_of_own hp0
      rw [pgs_len] at hpv
      subst hpv
      have RLP := Lib.hid hrl
      clear hrl hp0
      have BC := Lib.hid (ch_below hc HBW.out HBB.out LP.out.2.2.2.1 LP.out.2.2.2.2.2.1)
      have IK := Lib.hid (show k ≤ i ∧ i ≤ k + 1 ∧ i ≤ nl from by have := hfn.tr; have := HI.out; omega)
      clear hd hc hS2 hfn hk8 c0 HD HC HLF HT HH HBW HP HBB
      go_wp2_with fail
      rcases FN.out.open K8.out with ht | ⟨ht, n, G, hn, hn9, hG, hbst, hdt⟩
      · refine (torn_any true wh TC.out DC.out (by rw [FN.out.len]; omega) HCC.out ht).mono ?_
        rintro e wd ⟨rfl, hb⟩
        have BD := Lib.hid (bon BC.out hb)
        clear hb ht
        go_wp2
        go_ret
        exact ⟨rfl, BD.out⟩
      · have HN := Lib.hid hn
        have HN9 := Lib.hid hn9
        have HDT := Lib.hid hdt
        have PO := Lib.hid (fun X (hX : Below wh.heap.size wh X) => popen_any G 16 X (DC.out.below hX) (by rw [FN.out.len]) (by omega) (by simp) (fun m hm => ⟨_, rd_pg S2 m, pg_le FN.out.s64 m, hG m hm⟩) (some (hdOf (n + 1))) hbst)
        clear hn hn9 hG hbst hdt
        refine (torn_any false wh TC.out DC.out (by rw [FN.out.len]; omega) HCC.out ht).mono ?_
        rintro e wd ⟨rfl, hb⟩
        have BD := Lib.hid hb
        have c0 := row_c (i := 0) (row_on TC.out hb) rfl
        clear hb ht
        go_wp2_with fail
        refine (PO.out wd BD.out).mono ?_
        rintro e we (⟨h, _⟩ | ⟨qh, p2, bm2, ho, rfl, lp2, hpb, hus, hb2⟩)
        · cases h
        obtain rfl := Option.some.inj ho
        have P2 := Lib.hid (show Pb we p2 ((n + 1 : Nat) : Int) (rootOf (n + 1) : Nat) (.map (some bm2)) d (.slice none 0 0) from hpb)
        have U2 := Lib.hid (show Us we bm2 512 (Uj (n + 1)) from hus)
        have BE := Lib.hid (bon BD.out hb2)
        have BX := Lib.hid (bon BC.out BE.out)
        clear hpb hus hb2 c0 ho lp2 PO
        go_wp2_with fail
        refine (turn_any ((n + 1 : Nat) : Int) we (row_c (i := 0) P2.out rfl)).mono ?_
        rintro e w9 ⟨rfl, hw⟩
        obtain rfl : we = w9 := hw.symm
        clear hw
        obtain ⟨T, hT⟩ : ∃ T : Int, ((n + 1 : Nat) : Int) = T := ⟨_, rfl⟩
        rw [hT]
        have HT2 := Lib.hid hT
        have wT : wrap64 (T - 1) = (n : Int) := by rw [IntWalk.wrap64_in _ ⟨by have := HN9.out; omega, by have := HN9.out; omega⟩]; omega
        have wk : wrap64 ((k : Int) + 1) = (k : Int) + 1 := IntWalk.wrap64_in _ ⟨by omega, by have := K8.out; omega⟩
        have hg : ¬ ((k : Int) + 1 < (i : Int)) := by have := IK.out; omega
        have WK := Lib.hid (And.intro wk hg)
        have WT := Lib.hid wT
        clear hT wk hg
        go_upto_region 36 with (fail)
        try rw [WT.out]
        clear wT
        go_cut [189, 195] from 182 to 195 (fun a b wx => b = .bool false ∧ wx = we)
        case first =>
          have wk := WK.out.1
          have hg := WK.out.2
          by_cases hnk : n = k
          · subst k
            go_wp2_with fail
            go_meet
            exact ⟨by rw [decide_eq_false (by omega)], rfl⟩
          · have hni : n = i := by rcases HN.out with h | h; exact absurd h hnk; exact h
            subst hni
            have e1 : ¬ ((n : Int) = (k : Int)) := by omega
            have e2 : ((n : Int) != (k : Int)) = true := by simp; omega
            go_wp2_with fail
            go_meet
            exact ⟨by rw [decide_eq_false (by omega)], rfl⟩
        case rest =>
          obtain ⟨rfl, hw⟩ := hcut
          obtain rfl : we = wc := hw.symm
          clear hw
          have NI := Lib.hid (show n ≤ i by rcases HN.out with h | h <;> (have := IK.out; omega))
          by_cases h0 : n = 0
          · have hzb : ((n : Int) == 0) = true := by simp [h0]
            have hz : (n : Int) = 0 := by omega
            have PZ := Lib.hid (show Pb we p2 T 0 (.map (some bm2)) d (.slice none 0 0) by have h := P2.out; rw [HT2.out, show rootOf (n + 1) = 0 by unfold rootOf; rw [if_pos (by omega)]] at h; exact h)
            have UQ := Lib.hid (show (usedL (Uj (n + 1))).length = 2 by rw [used_Uj HN9.out]; omega)
            have HZ := Lib.hid hz
            clear hz h0
            go_wp2_with fail
            refine (root_any (b := p2) 0 we (row_c (i := 1) PZ.out rfl)).mono ?_
            rintro e w9 ⟨rfl, hw⟩
            obtain rfl : we = w9 := hw.symm
            clear hw hzb
            go_wp2_with fail
            refine (used_q (b := p2) (bm := bm2) we U2.out (row_c (i := 2) PZ.out rfl) (by omega) UQ.out).mono ?_
            rintro e w10 ⟨A7, c7, rfl, hb⟩
            have BF := Lib.hid (bon BX.out hb)
            clear hb
            go_wp2
            go_ret
            exact ⟨rfl, BF.out⟩
          · have hz : ¬ (n : Int) = 0 := by omega
            have hzb : ((n : Int) == 0) = false := by simpa using (show ¬ n = 0 by omega)
            obtain ⟨m, hm⟩ : ∃ m, n = m + 1 := ⟨n - 1, by omega⟩
            have HM := Lib.hid hm
            clear hm
            obtain ⟨N, hN⟩ : ∃ N : Nat, n + 1 = N := ⟨_, rfl⟩
            have PN := Lib.hid (show Pb we p2 T (N : Int) (.map (some bm2)) d (.slice none 0 0) by have h := P2.out; rw [HT2.out, rootOf_pos (by omega), hN] at h; exact h)
            have HNN := Lib.hid hN
            have R1 := Lib.hid (root_any (b := p2) (N : Int) we (row_c (i := 1) PN.out rfl))
            have PR := Lib.hid (pgread_yes N 2 16 (Xof ls m) we PN.out (DC.out.below BE.out) (by rw [FN.out.len]) (by have := HN9.out; omega) (by have h := HDT.out m (by have := HM.out; omega); rw [show m + 2 = N by have := HM.out; omega] at h; exact h) (by omega) (by omega) (Xof_len _ _))
            obtain ⟨x, hx⟩ : ∃ x, ls[m]? = some x := ⟨_, List.getElem?_eq_getElem (by rw [HNL.out]; have := NI.out; have := IK.out; have := HM.out; omega)⟩
            obtain ⟨sb, hsb⟩ : ∃ sb : ByteArray, (⟨(Xof ls m).toArray⟩ : ByteArray) = sb := ⟨_, rfl⟩
            rw [hsb] at PR
            obtain ⟨kb, ko, hA, hkb, hkx⟩ := (HL.out.below BX.out).cell hx
            unfold sv at hkx
            obtain ⟨y1, hy1⟩ : ∃ y : ByteArray, (⟨x.toArray⟩ : ByteArray) = y := ⟨_, rfl⟩
            rw [hy1] at hkx
            have HSY := Lib.hid (show y1.extract 0 (min (y1.size : Int) 120).toNat = sb from by
              rw [← hsb]
              apply ByteArray.ext; apply Array.toList_inj.1
              exact text_is (Xof_at hx) hy1 rfl)
            have HKX := Lib.hid (And.intro hkb hkx)
            have XL := Lib.hid (show y1.size ≤ 9223372036854775807 by rw [← hy1]; exact HLS.out x (List.mem_of_getElem? hx))
            subst hA
            obtain ⟨pb, po, hA2, hpb, hpx⟩ := (RLP.out.below BE.out).cell (pgs_at (i := i) (j := m) (by have := NI.out; have := IK.out; have := HM.out; omega))
            unfold nn at hpx
            rw [show m + 2 = N by have := HM.out; omega] at hpx
            have HPX := Lib.hid (And.intro hpb hpx)
            subst hA2
            clear hx hsb hkb hkx hy1 hN hpb hpx
            go_wp2_with fail
            clear hz hzb
            refine R1.out.mono ?_
            rintro e w9 ⟨rfl, hw⟩
            obtain rfl : we = w9 := hw.symm
            clear hw
            go_wp2_with fail
            refine PR.out.mono ?_
            rintro e wf ⟨rfl, hb⟩
            have PF := Lib.hid (show Pb wf p2 T (N : Int) (.map (some bm2)) d (.slice none 0 0) from row_on PN.out hb)
            have UF := Lib.hid (U2.out.below hb)
            have BF := Lib.hid (bon BX.out hb)
            have hkx : wf.cell? ⟨kb, ko + m, none⟩ = some (.string y1) := (hb.cell (p := ⟨kb, _, none⟩) HKX.out.1).trans HKX.out.2
            have hpx : wf.cell? ⟨pb, po + m, none⟩ = some (.int .i64 (N : Int)) := (hb.cell (p := ⟨pb, _, none⟩) HPX.out.1).trans HPX.out.2
            have lk : kb < wf.heap.size := Nat.lt_of_lt_of_le HKX.out.1 hb.size
            have lp : pb < wf.heap.size := Nat.lt_of_lt_of_le HPX.out.1 hb.size
            clear hb
            go_wp2_with fail
            have lx := XL.out
            have sy := HSY.out
            have w1 : wrap64 ((n : Int) - 1) = (m : Int) := by rw [IntWalk.wrap64_in _ ⟨by have := HN9.out; omega, by have := HN9.out; omega⟩]; have := HM.out; omega
            have m0 : (0 : Int) ≤ (m : Int) := by omega
            have m1 : (m : Int) < (i : Int) := by have := NI.out; have := IK.out; have := HM.out; omega
            have m2 : (m : Int) < (nl : Int) := by have := NI.out; have := IK.out; have := HM.out; omega
            obtain ⟨q2, hq2⟩ : ∃ q2, n + 2 = q2 := ⟨_, rfl⟩
            have w2 : wrap64 ((n : Int) + 2) = (q2 : Int) := by rw [IntWalk.wrap64_in _ ⟨by omega, by have := HN9.out; omega⟩]; omega
            have UQ := Lib.hid (show (usedL (Uj (n + 1))).length = q2 by rw [← hq2]; exact used_Uj HN9.out)
            have HQ2 := Lib.hid hq2
            clear hq2
            have w1b : IntKind.i64.wrap ((n : Int) - 1) = (m : Int) := by have := HM.out; have := HN9.out; simp [IntKind.wrap, IntKind.signed, IntKind.bits]; omega
            have w2b : IntKind.i64.wrap ((n : Int) + 2) = (q2 : Int) := by have := HQ2.out; have := HN9.out; simp [IntKind.wrap, IntKind.signed, IntKind.bits]; omega
            have mn0 : (0 : Int) ≤ min (y1.size : Int) 120 := by omega
            have mn1 : min (y1.size : Int) 120 ≤ (y1.size : Int) := by omega
            have KD := Lib.hid (bd0 wf)
            have RD := Lib.hid (fun X (h : X = wf.drew) => show Calls Try.prog 16 #[.pointer (some ⟨p2, 0, none⟩)] X fun e w' => e = .returned (.int .i64 (N : Int)) ∧ w' = X from root_any (b := p2) (N : Int) X (by rw [h]; exact row_c (i := 1) (row_on PF.out KD.out) rfl))
            have UD := Lib.hid (show Calls Try.prog 17 #[.pointer (some ⟨p2, 0, none⟩)] wf.drew fun e w' => ∃ A c, e = .returned (.slice A q2 c) ∧ Below wf.drew.heap.size wf.drew w' from used_q (b := p2) (bm := bm2) _ (UF.out.below KD.out) (row_c (i := 2) (row_on PF.out KD.out) rfl) (k0 := 512) (by omega) UQ.out)
            try rw [← sy]
            go_region_held3 (fun w' => ∀ b o, b < wf.heap.size → w'.cell? ⟨b, o, none⟩ = wf.cell? ⟨b, o, none⟩)
              (first | with_reducible exact bcell KD.out | with_reducible exact bcell K13.out)
              (first
                | (go_at_call 16; (with_reducible refine (RD.out _ rfl).mono ?_); rintro e w12 ⟨rfl, rfl⟩)
                | (go_at_call 17; (with_reducible refine UD.out.mono ?_); rintro e w13 ⟨A7, c7, rfl, hb⟩; (have K13 := Lib.hid (KD.out.trans (hb.mono KD.out.size))); clear hb))
            rename_i hHeld
            clear hHeld hkx hpx lk lp lx sy w1 m0 m1 m2 w2 w1b w2b mn0 mn1
            go_wp2
            go_ret
            exact ⟨rfl, bon BF.out K13.out⟩
end Go.Proofs.Ytnpopbobpbbamaa
