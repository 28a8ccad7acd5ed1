/-
  Commit over a pager by one word; cat.Save, cat.Load.
-/
import Derived.Test.YtmgdpchjimlmeaaVaM
import Derived.Test.YtmgdpchjimlmeaaBi
import Derived.Test.YtmgdpchjimlmeaaGk
namespace Go.Proofs.Ytmgdpchjimlmeaa
open Go.RowKit
set_option linter.unusedSimpArgs false
set_option linter.unusedVariables false
theorem putV_at {S : List (List UInt8)} {k : Nat} {t : List UInt8} (ht : t.length = 64) (h64 : ∀ s ∈ S, s.length = 64) (hk : k < S.length) (i : Nat) : (put S k t 64)[i]?.getD [] = if k = i then t else S[i]?.getD [] := by
  unfold put
  have e : (S[k]?.getD []).drop 64 = [] := by
    rw [List.getElem?_eq_getElem hk, Option.getD_some, List.drop_of_length_le (by rw [h64 _ (List.getElem_mem hk)]; exact Nat.le_refl _)]
  rw [e, List.append_nil, List.take_of_length_le (by omega), List.getElem?_set]
  by_cases h : k = i
  · subst h; rw [if_pos rfl, if_pos rfl, if_pos hk]; rfl
  · rw [if_neg h, if_neg h]
theorem flush_cons (S : List (List UInt8)) (c : Wt) (C : List Wt) : flush S (c :: C) = flush (put S c.1 c.2 64) C := rfl
theorem rd_cons (S : List (List UInt8)) (c : Wt) (C : List Wt) (i : Nat) : rd S (c :: C) i = C.foldl (fun acc c => if c.1 = i then c.2 else acc) (if c.1 = i then c.2 else S[i]?.getD []) := rfl
theorem flushV_len : ∀ (C : List Wt) (S : List (List UInt8)), (flush S C).length = S.length
  | [], _ => rfl
  | c :: C, S => by rw [flush_cons, flushV_len C, put_len]
theorem flush_64 : ∀ {C : List Wt} {S : List (List UInt8)}, (∀ s ∈ S, s.length = 64) → (∀ c ∈ C, c.2.length = 64) → (∀ c ∈ C, c.1 < S.length) → ∀ s ∈ flush S C, s.length = 64
  | [], _, h, _, _ => h
  | c :: C, S, h, h2, h3 => by
    rw [flush_cons]
    exact flush_64 (put_64 (h3 c List.mem_cons_self) h (h2 c List.mem_cons_self) (Nat.le_refl _)) (fun d hd => h2 d (List.mem_cons_of_mem _ hd)) (fun d hd => by rw [put_len]; exact h3 d (List.mem_cons_of_mem _ hd))
/-- What is last reads as it read while it waited. -/
theorem rd_flush (i : Nat) : ∀ {C : List Wt} {S : List (List UInt8)}, (∀ s ∈ S, s.length = 64) → (∀ c ∈ C, c.2.length = 64) → (∀ c ∈ C, c.1 < S.length) → rd (flush S C) [] i = rd S C i
  | [], _, _, _, _ => rfl
  | c :: C, S, h, h2, h3 => by
    have hc := h2 c List.mem_cons_self
    have hn := h3 c List.mem_cons_self
    have h64 := put_64 hn h hc (Nat.le_refl 64)
    rw [flush_cons, rd_flush i h64 (fun d hd => h2 d (List.mem_cons_of_mem _ hd)) (fun d hd => by rw [put_len]; exact h3 d (List.mem_cons_of_mem _ hd)), rd_cons, ← putV_at hc h hn i]
    rfl
theorem hdW_64 (T R : Nat) (U : Nat → Bool) : (∀ c ∈ hdW T R U, c.2.length = 64) ∧ ∀ c ∈ hdW T R U, c.1 < 4 := by
  have := seal_len (k := 1) (t := headL T R U) (by rw [headL_len]; omega)
  refine ⟨fun c hc => ?_, fun c hc => ?_⟩
  · unfold hdW at hc
    rcases List.mem_cons.1 hc with rfl | hc
    · show ((sealL 1 _).take 64).length = 64; rw [List.length_take]; omega
    · rcases List.mem_cons.1 hc with rfl | hc
      · show ((sealL 1 _).drop 64).length = 64; rw [List.length_drop]; omega
      · cases hc
  · unfold hdW at hc
    rcases List.mem_cons.1 hc with rfl | hc
    · show 2 * (T % 2) < 4; omega
    · rcases List.mem_cons.1 hc with rfl | hc
      · show 2 * (T % 2) + 1 < 4; omega
      · cases hc
theorem commit_pg {B L p g gs bm k0 : Nat} {f : Value} {R0 : Int} {U : Nat → Bool} {F : List Nat} {S : List (List UInt8)} {C : List Wt} (T R : Nat) (w : World) (h : Pg B L p g gs bm k0 (T : Int) R0 U F S C f w) (hS : 4 ≤ S.length) (hC : C.length ≤ 900) (hF : F.length ≤ 1000) (h5 : ∀ x ∈ F, x < 512) (hk : k0 ≤ 900000) (hT : T ≤ 1000000) (hR : R ≤ 1000000) (hroot : rootB (fun i => nU F i || U i) (R : Int) = true) :
    Calls Try.prog 13 #[.pointer (some ⟨p, 0, none⟩), .int .i64 (R : Int)] w fun e w' => ∃ b2 S2, e = .returned (.int .i64 0) ∧ Pg B L p g gs b2 (2 + F.length + k0) ((T + 1 : Nat) : Int) R (fun i => nU F i || U i) [] S2 [] (.slice none 0 0) w' ∧ S2.length = S.length ∧ (∀ i, 4 ≤ i → rd S2 [] i = rd S C i) ∧ Cp B p g gs w w' := by
  obtain ⟨v, hd⟩ := h.dk
  refine (commit_yes T R w h.pb h.us h.fr hd hS hC hF h5 hk hT hR hroot).mono ?_
  rintro e w' ⟨b2, rfl, k1, k2, k3, k4⟩
  obtain ⟨x1, x2⟩ := hdW_64 (T + 1) R (fun i => nU F i || U i)
  refine ⟨b2, _, rfl, ⟨k1, k2, World.ownsRow_nil _ _ _ _, ⟨_, k3⟩, Nat.le_trans h.hL k4.size⟩, by rw [flushV_len, flushV_len], fun i hi => ?_, k4⟩
  have f64 := flush_64 hd.s64 hd.c64 hd.cn
  rw [rd_flush i f64 x1 (fun c hc => by rw [flushV_len]; have := x2 c hc; omega), ← rd_flush i hd.s64 hd.c64 hd.cn]
  have := rd_no (S := flush S C) (C := []) (i := i) (D := hdW (T + 1) R (fun i => nU F i || U i)) (fun c hc => by have := x2 c hc; omega)
  rwa [List.nil_append] at this
/-- A text's chain behind a Commit. -/
theorem Chn.later {S S2 : List (List UInt8)} {C : List Wt} {M : Nat} {xs : List (Nat × List UInt8)} (h : Chn S C M xs) (h2 : ∀ i, 4 ≤ i → rd S2 [] i = rd S C i) : Chn S2 [] M xs :=
  ⟨h.pos, h.len, h.nodup, fun i x hx => by
    obtain ⟨a, b, c, d⟩ := h.ok i x hx
    exact ⟨a, b, c, by rw [h2 _ (by omega), h2 _ (by omega)]; exact d⟩⟩
set_option maxRecDepth 100000 in
set_option maxHeartbeats 4000000 in
theorem save_pg {B L p g gs bm k0 : Nat} {f : Value} {T R : Int} {U : Nat → Bool} {F : List Nat} {S : List (List UInt8)} {C : List Wt} (n K : Nat) (next : Int) (A : Option Addr) (c : Nat) (vs : List (Int × Int)) (w : World) (h : Pg B L p g gs bm k0 T R U F S C f w) (hv : Cat.Vs w A c vs) (hr : Cat.rightB next vs = true) (hn : S.length / 2 = n) (hK : nd (Cat.encL next vs).length = K) (hF : F.length + K ≤ 1000) (hC : C.length + 2 * K ≤ 1000) :
    Calls Try.prog 12 #[.pointer (some ⟨p, 0, none⟩), .agg #[.int .i64 next, .slice A vs.length c]] w fun e w' => ∃ f', Cz B p g gs f f' w w' ∧ (((als U n F K).length = K ∧ e = .returned (.tuple #[.int .i64 (((als U n F K)[0]?).getD 0 : Nat), .int .i64 0]) ∧ Pg B L p g gs bm k0 T R U (F ++ als U n F K) S (C ++ wrs (als U n F K) (Cat.encL next vs) K) f' w') ∨ ((als U n F K).length < K ∧ e = .returned (.tuple #[.int .i64 0, .int .i64 6]) ∧ Pg B L p g gs bm k0 T R U F S C f' w')) := by
  have H := Lib.hid h
  have HV := Lib.hid hv
  have hl := (Cat.right_all hr).2.2.1
  have EN := Lib.hid (fun V (hV : Cat.Vs V A c vs) => Cat.encode_yes next A c vs V hV hr)
  have AR := Lib.hid (And.intro hn (And.intro hK (And.intro hF hC)))
  have LL := Lib.hid (show (Cat.encL next vs).length ≤ 60000 by rw [Cat.enc_len]; omega)
  obtain ⟨l, hl2⟩ : ∃ l, Cat.encL next vs = l := ⟨_, rfl⟩
  rw [hl2] at EN AR LL ⊢
  clear h hv hn hK hF hC hl hl2 hr
  go_enter Try.func12, Try.ntmps12
  go_wp2_with fail
  obtain ⟨W, hW⟩ : ∃ W : World, w.alloc (.cells #[.int .i64 next, .slice A vs.length c] 24) = W := ⟨_, rfl⟩
  have hb : Below w.heap.size w W := by rw [← hW]; exact bda _ _
  try rw [hW]
  refine (EN.out W (HV.out.below hb)).mono ?_
  rintro e w1 ⟨rfl, hb1⟩
  have P1 := Lib.hid ((H.out.below hb).below hb1)
  have C1 := Lib.hid ((Cz.of_below (B := B) (p := p) (g := g) (gs := gs) (f := f) hb).trans (Cz.of_below hb1))
  have WR := Lib.hid (bwrite_any n K l w1 P1.out AR.out.1 LL.out AR.out.2.1 AR.out.2.2.1 AR.out.2.2.2)
  clear hb hb1 hW
  go_wp2_with fail
  refine WR.out.mono ?_
  rintro e w2 ⟨f2, hc2, ⟨hA, rfl, hp2⟩ | ⟨hA, rfl, hp2⟩⟩
  · have X := Lib.hid (And.intro (C1.out.trans hc2) (And.intro hA hp2))
    clear hc2 hA hp2 WR
    go_wp2
    go_ret2
    exact ⟨f2, X.out.1, .inl ⟨X.out.2.1, rfl, X.out.2.2⟩⟩
  · have X := Lib.hid (And.intro (C1.out.trans hc2) (And.intro hA hp2))
    clear hc2 hA hp2 WR
    go_wp2
    go_ret2
    exact ⟨f2, X.out.1, .inr ⟨X.out.2.1, rfl, X.out.2.2⟩⟩
/-- A list's row is none of a box of another form. -/
theorem vs_ne {w : World} {A : Option Addr} {c g : Nat} {vs : List (Int × Int)} {a : Int} {X : Option Addr} {n m : Nat} {T : TypeId} {fr : Nat × Nat} (h : Cat.Vs w A c vs) (hr : w.heap[g]? = some (.cells #[.int .i64 a, .slice X n m] T fr)) : ∀ b off, A = some ⟨b, off, none⟩ → 0 < vs.length → b ≠ g := by
  rintro b off rfl h0 rfl
  obtain ⟨b', off', e, hlt, hc⟩ := h.2 h0
  injection e with e
  injection e with e1 e2
  subst e1 e2
  obtain ⟨h1, h2⟩ := hc 0 h0
  rw [Nat.zero_mul, Nat.add_zero] at h1 h2
  match off, h1, h2 with
  | 0, h1, h2 =>
    have := row_c hr (i := 1) rfl
    rw [Nat.zero_add] at h2
    rw [h2] at this
    injection this with this
    cases this
  | 1, h1, h2 =>
    have := row_c hr (i := 1) rfl
    rw [h1] at this
    injection this with this
    cases this
  | k + 2, h1, h2 =>
    simp [World.cell?, hr] at h1
theorem vs_set {w : World} {A : Option Addr} {c g : Nat} {vs : List (Int × Int)} (h : Cat.Vs w A c vs) (hne : ∀ b off, A = some ⟨b, off, none⟩ → 0 < vs.length → b ≠ g) (o : Nat) (x : Value) : Cat.Vs (w.setCell ⟨g, o, none⟩ x) A c vs :=
  ⟨h.1, fun h0 => by
    obtain ⟨b, off, e, hlt, hc⟩ := h.2 h0
    have hb := hne b off e h0
    exact ⟨b, off, e, by simpa [World.setCell] using hlt, fun j hj => ⟨(World.cell?_setCell_other _ _ _ _ (fun e => by have := congrArg Addr.block e; simp at this; omega)).trans (hc j hj).1, (World.cell?_setCell_other _ _ _ _ (fun e => by have := congrArg Addr.block e; simp at this; omega)).trans (hc j hj).2⟩⟩⟩
set_option maxRecDepth 100000 in
set_option maxHeartbeats 4000000 in
theorem load_pg {B L p g gs bm k0 n : Nat} {f : Value} {T : Int} {U : Nat → Bool} {F : List Nat} {S : List (List UInt8)} {C : List Wt} (M : Nat) (xs : List (Nat × List UInt8)) (w : World) (h : Pg B L p g gs bm k0 T (n : Int) U F S C f w) (hn : 1 ≤ n) (hC : C.length ≤ 1000) (hM : S.length / 2 = M) (hx : Chn S C M xs) (ha0 : (xs[0]?.map Prod.fst).getD 0 = n) (l : List UInt8) (hl : (xs.map (·.2)).flatten = l) (hfl : l.length ≤ 1000000) (N de : Int) (vs : List (Int × Int))
    (hdec : ∀ V, Calls Try.prog 9 #[.string ⟨l.toArray⟩] V fun e w' => ∃ A c, e = .returned (.tuple #[.agg #[.int .i64 N, .slice A vs.length c], .int .i64 de]) ∧ Cat.Vs w' A c vs ∧ Below V.heap.size V w') :
    Calls Try.prog 14 #[.pointer (some ⟨p, 0, none⟩)] w fun e w' => ∃ A c, e = .returned (.tuple #[.agg #[.int .i64 N, .slice A vs.length c], .int .i64 de]) ∧ Cat.Vs w' A c vs ∧ Below w.heap.size w w' := by
  have RD := Lib.hid (fun V (hV : Below w.heap.size w V) => bread_pg M xs V (h.below hV) hC hM hx n ha0 l hl hfl)
  have RT := Lib.hid (fun V (hV : Below w.heap.size w V) => root_any (b := p) (n : Int) V (row_c (i := 1) ((hV.block p (heap_lt h.pb)).trans h.pb) rfl))
  have DC := Lib.hid hdec
  have P0 := Lib.hid (show p < w.heap.size from heap_lt h.pb)
  have n0 : ((n : Int) == 0) = false := by simp; omega
  have n1 : ¬ ((n : Int) = 0) := by omega
  obtain ⟨s, hs⟩ : ∃ s : ByteArray, (⟨l.toArray⟩ : ByteArray) = s := ⟨_, rfl⟩
  rw [hs] at RD DC
  clear h hn hC hM hx ha0 hl hfl hdec hs
  go_enter Try.func14, Try.ntmps14
  go_wp2_with fail
  obtain ⟨W, hW⟩ : ∃ W : World, w.alloc (.cells #[.int .i64 0, .slice none 0 0] 24) = W := ⟨_, rfl⟩
  have hb : Below w.heap.size w W := by rw [← hW]; exact bda _ _
  have R := Lib.hid (show W.heap[w.heap.size]? = some (.cells #[.int .i64 0, .slice none 0 0] 24 (0, 0)) by rw [← hW]; exact heap_alloc_new _ _)
  have HB := Lib.hid hb
  try rw [hW]
  clear hb
  refine (RT.out W HB.out).mono ?_
  rintro e w1 ⟨rfl, hw⟩
  obtain rfl : W = w1 := hw.symm
  clear hw hW
  go_wp2_with fail
  refine (RT.out W HB.out).mono ?_
  rintro e w1 ⟨rfl, hw⟩
  obtain rfl : W = w1 := hw.symm
  clear hw
  go_wp2_with fail
  refine (RD.out W HB.out).mono ?_
  rintro e w1 ⟨rfl, hb1⟩
  have B1 := Lib.hid (bon HB.out hb1)
  have R1 := Lib.hid (row_on R.out hb1)
  clear hb1
  go_wp2_with fail
  refine (DC.out w1).mono ?_
  rintro e w2 ⟨A, c, rfl, hv, hb2⟩
  have B2 := Lib.hid (bon B1.out hb2)
  have r2 := row_on R1.out hb2
  have z0 := frozen_of_row _ _ 0 _ _ r2
  have z1 := frozen_of_row _ _ 1 _ _ r2
  have q0 := row_c r2 (i := 0) rfl
  have q1 := row_c r2 (i := 1) rfl
  have R2 := Lib.hid r2
  have V2 := Lib.hid hv
  clear hv hb2 r2
  go_wp2_with fail
  have ne := vs_ne V2.out R2.out
  have v3 := vs_set (vs_set V2.out ne 0 (.int .i64 N)) ne 1 (.slice A vs.length c)
  have b3 := (B2.out.setCell (p := ⟨w.heap.size, 0, none⟩) (Nat.le_refl _) (.int .i64 N)).setCell (p := ⟨w.heap.size, 1, none⟩) (Nat.le_refl _) (.slice A vs.length c)
  have e1 := heap_setCell_same w2 w.heap.size 0 _ _ (.int .i64 N) R2.out
  have e2 := heap_setCell_same _ w.heap.size 1 _ _ (.slice A vs.length c) e1
  have c0 := row_c e2 (i := 0) rfl
  have c1 := row_c e2 (i := 1) rfl
  refine bodyPost_ret (v := .tuple #[.agg #[.int .i64 N, .slice A vs.length c], .int .i64 de]) (by simp [results, Try.results14, go_sem, c0, c1]) rfl ?_
  exact ⟨A, c, rfl, v3, b3⟩
end Go.Proofs.Ytmgdpchjimlmeaa
