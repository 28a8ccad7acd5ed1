/-
  blob.Read: a range over the iterator.
-/
import Derived.Test.YtmgdpchjimlmeaaBd
import Derived.Test.YtmgdpchjimlmeaaShelf
import Derived.Lib.Join
import Derived.Lib.OwnBridge
import Derived.Lib.ItoaLen
namespace Go.Proofs.Ytmgdpchjimlmeaa
open Go.RowKit Go.Shelf
set_option linter.unusedSimpArgs false
set_option linter.unusedVariables false
attribute [local go_sem] Oper.semAt_some
theorem inter_nilB (zs : List (List UInt8)) : List.intercalate [] zs = zs.flatten := by
  unfold List.intercalate
  induction zs with
  | nil => rfl
  | cons a l ih =>
    cases l with
    | nil => simp [List.intersperse]
    | cons b l => simp only [List.intersperse, List.flatten_cons] at ih ⊢; rw [ih]; simp
set_option maxHeartbeats 4000000 in
theorem join_own (base : Nat) (v : Value) (n : Nat) (zs : List (List UInt8)) (w : World) (h : w.ownsRow base 9 1 v n (zs.map Proofs.encStr)) (hv : v ≠ .slice none 0 0) (hn : n ≤ 1000000) (hlen : zs.flatten.length ≤ 1000000) :
    Calls Try.prog 45 #[v, .string ⟨#[]⟩] w fun e w' => e = .returned (.string ⟨zs.flatten.toArray⟩) ∧ Below w.heap.size w w' := by
  obtain ⟨g, cap, rfl, hb, hg, hnc, hm, hl, hH⟩ := Lib.holds_of_ownsRow h hv
  subst hl
  have ej : Lib.join ((zs.map fun l => (⟨l.toArray⟩ : ByteArray)).map (·.data.toList)) (⟨#[]⟩ : ByteArray).data.toList = zs.flatten := by
    rw [List.map_map]
    have e1 : ((fun x : ByteArray => x.data.toList) ∘ fun l : List UInt8 => (⟨l.toArray⟩ : ByteArray)) = id := by funext l; simp
    rw [e1, List.map_id]
    show List.intercalate [] zs = zs.flatten
    exact inter_nilB zs
  have h1 := Try.strings_Join g 0 cap (zs.map fun l => (⟨l.toArray⟩ : ByteArray)) ⟨#[]⟩ w (fun j x hx => by
    rw [List.getElem?_map] at hx
    rcases hz : zs[j]? with _ | l
    · rw [hz] at hx; cases hx
    · rw [hz] at hx
      simp only [Option.map_some, Option.some.injEq] at hx
      subst hx
      have := h.cells (g := g) rfl j (Proofs.encStr l) (by rw [List.getElem?_map, hz]; rfl)
      rw [Addr.add_lit] at this
      exact this) hg (by simp; omega) (by simp; omega) (by rw [ej]; omega)
  rw [ej, List.length_map] at h1
  exact h1
set_option maxRecDepth 100000 in
set_option maxHeartbeats 4000000 in
theorem bread_any {B p g gs : Nat} {v f m0 : Value} {T R : Int} {S : List (List UInt8)} {C : List Wt} (M : Nat) (xs : List (Nat × List UInt8)) (w : World) (hp : Pb w p T R m0 g f) (h : Dk B w g gs v S C) (hC : C.length ≤ 1000) (hM : S.length / 2 = M) (hx : Chn S C M xs) (a0 : Nat) (ha0 : (xs[0]?.map Prod.fst).getD 0 = a0) (hfl : (xs.map (·.2)).flatten.length ≤ 1000000) :
    Calls Try.prog 29 #[.pointer (some ⟨p, 0, none⟩), .int .i64 (a0 : Int)] w fun e w' => e = .returned (.tuple #[.string ⟨(xs.map (·.2)).flatten.toArray⟩, .int .i64 0]) ∧ Below w.heap.size w w' := by
  obtain ⟨i0, hi0, hz0, hz1, hz2⟩ := info_parts (show (Try.prog.info? 9).map (fun i => (i.zero, i.size, i.bytes)) = some (some (.string ⟨#[]⟩), 1, 16) by kernel_rfl)
  have IP := Lib.hid (And.intro hi0 (And.intro hz0 (And.intro hz1 hz2)))
  clear hi0 hz0 hz1 hz2
  have hpos := hx.pos
  refine (callsIn_wide (n := 20)).1 ?_
  refine callsIn_of_wp_marks Try.func29 rfl trivial ?_ rfl
  simp only [Try.ntmps29, List.size_toArray, List.length_cons, List.length_nil, Nat.reduceAdd, Nat.reduceSub, Array.replicate_succ, Array.replicate_zero, List.push_toArray, List.append_toArray, List.nil_append, List.cons_append]
  gi_wp2_with fail
  refine ⟨trivial, (callsIn_wide.2 (chain_any p _ _)).mono ?_⟩
  rintro e W1 ⟨rfl, hw1⟩
  subst hw1
  gi_wp2_with fail
  obtain ⟨V0, hV0⟩ : ∃ V0, ((w.alloc (Obj.cells #[Value.string { data := #[] }] 9)).alloc (Obj.cells #[Value.int IntKind.i64 0] 28)) = V0 := ⟨_, rfl⟩
  obtain ⟨V, hV⟩ : ∃ V, ((V0.alloc (Obj.cells #[Value.slice none 0 0] 92)).alloc (Obj.cells #[Value.pointer (some { block := p, off := 0 })] 31)).alloc (Obj.cells #[Value.int IntKind.i64 (a0 : Int)] 3) = V := ⟨_, rfl⟩
  have s0 : V0.heap.size = w.heap.size + 2 := by rw [← hV0]; simp
  have sV : V.heap.size = w.heap.size + 5 := by rw [← hV]; simp [s0]
  have bV : Below w.heap.size w V := by
    rw [← hV, ← hV0]
    exact (((((Below.refl _ w).alloc (Nat.le_refl _) _).alloc (by simp) _).alloc (by simp; omega) _).alloc (by simp; omega) _).alloc (by simp; omega) _
  have b0 : V.heap[w.heap.size]? = some (.cells #[Value.string { data := #[] }] 9 (0, 0)) := by rw [← hV, ← hV0]; simp only [heap_ha, World.size_alloc]; repeat (first | rw [if_pos trivial] | rw [if_pos (by omega)] | rw [if_neg (by omega)])
  have b1 : V.heap[w.heap.size + 1]? = some (.cells #[.int .i64 0] 28 (0, 0)) := by rw [← hV, ← hV0]; simp only [heap_ha, World.size_alloc]; repeat (first | rw [if_pos trivial] | rw [if_pos (by omega)] | rw [if_neg (by omega)])
  have b2 : V.heap[w.heap.size + 2]? = some (.cells #[.slice none 0 0] 92 (0, 0)) := by rw [← hV, ← hV0]; simp only [heap_ha, World.size_alloc]; repeat (first | rw [if_pos trivial] | rw [if_pos (by omega)] | rw [if_neg (by omega)])
  have b3 : V.heap[w.heap.size + 3]? = some (.cells #[.pointer (some ⟨p, 0, none⟩)] 31 (0, 0)) := by rw [← hV, ← hV0]; simp only [heap_ha, World.size_alloc]; repeat (first | rw [if_pos trivial] | rw [if_pos (by omega)] | rw [if_neg (by omega)])
  have b4 : V.heap[w.heap.size + 4]? = some (.cells #[.int .i64 (a0 : Int)] 3 (0, 0)) := by rw [← hV, ← hV0]; simp only [heap_ha, World.size_alloc]; repeat (first | rw [if_pos trivial] | rw [if_pos (by omega)] | rw [if_neg (by omega)])
  rw [hV0, hV]
  have HV := Lib.hid hV
  have HP := Lib.hid (show Pb V p T R m0 g f from (bV.block p (heap_lt hp)).trans hp)
  have CH := Lib.hid (chain_hands Fence.wide rfl 19 (by omega) M xs w V bV.size (fun k hk => bV.block k hk) hp h hC hM hx (w.heap.size + 4) (w.heap.size + 3) (by omega) (by rw [ha0]; exact row_c (i := 0) b4 rfl) (by omega) b3)
  have XL := Lib.hid hx.len
  clear hV hV0 b3 b4 hp h hC hM hx ha0 s0
  have bw : w.heap.size ≤ w.heap.size + 2 := by omega
  have bv : w.heap.size + 2 < V.heap.size := by omega
  refine wpIn_range_hands rfl (by omega) (gf := 56) (lb := #[.pointer (some ⟨w.heap.size + 4, 0, none⟩), .pointer (some ⟨w.heap.size + 3, 0, none⟩)]) rfl trivial (enters_of Try.func56 (by kernel_rfl) rfl) CH.out (fun x => rfl) (fun k hk => by omega)
    (Gt (w.heap.size + 2) 92 9 1 (fun x : Nat × List UInt8 => Proofs.encStr x.2) w V) (Gt.stays bv bw) (fun s X A o hI hs => hI.put bv bw (.inr rfl) o)
    (fun W1 hb => ⟨⟨_, (hb.block _ bv).trans b2, World.ownsRow_nil _ _ _ _, fun g e => by cases e⟩, fun k hk => hb.block k (by omega), bV.trans (hb.mono (by omega)), hb.size, fun k hk => hk.elim⟩)
    (fun x a' A => ∃ bs, V.heap.size + 1 < bs ∧ A.heap[bs]? = some (.cells #[.int .i64 (x.1 : Int), .string ⟨x.2.toArray⟩, .int .i64 0] 97 (0, 0)) ∧ a' = { tmps := #[.pointer (some ⟨p, 0, none⟩), .int .i64 (a0 : Int), undef, undef, .pointer (some ⟨w.heap.size, 0, none⟩), .pointer (some ⟨w.heap.size + 1, 0, none⟩), .pointer (some ⟨w.heap.size + 1 + 1, 0, none⟩), .pointer (some ⟨bs, 0, none⟩), .pointer (some ⟨p, 0, none⟩), .int .i64 (a0 : Int), .func (.func 56) #[] #[.pointer (some ⟨w.heap.size + 1 + 1 + 1 + 1, 0, none⟩), .pointer (some ⟨w.heap.size + 1 + 1 + 1, 0, none⟩)], stepV x, undef, undef, undef, undef, undef, undef, undef, undef, undef, undef, undef, undef], defers := [] }) ?hAx ?assign ?body ?done
  case hAx =>
    rintro x a' A ob ⟨bs, h1, h2, h3⟩ hs
    exact ⟨bs, h1, (World.putObj_heap_other (by omega)).trans h2, h3⟩
  case assign =>
    intro l pre x X W K hI hs hX hK
    unfold stepV at *
    gi_wp2
    refine hK _ _ ⟨by simp, fun k hk => Below.heap_alloc _ _ _ ?_⟩ (hI.below bv bw (bda _ _) (fun k hk => .inl hk)) ⟨W.heap.size, by omega, World.alloc_heap_new _ _, rfl⟩
    rcases hk with (a | a) | a | a | a
    · omega
    · omega
    · exact (hX k a).2
    · omega
    · omega
  case body =>
    rintro l pre x X a' W hI ⟨bs, hbs, hb, rfl⟩ hpre hs hX
    obtain ⟨⟨vv, h1, h2, h3⟩, lo, bl, hv, hx⟩ := hI
    have c0 := row_c (i := 0) hb rfl
    have c1 := row_c (i := 1) hb rfl
    have c2 := row_c (i := 2) hb rfl
    have cv : W.cell? ⟨w.heap.size + 1 + 1, 0, none⟩ = some vv := h1.cell
    have H1 := Lib.hid h1
    have PL := Lib.hid (show pre.length < xs.length by have := hpre.length_le; simp at this; omega)
    have H := Lib.hid (And.intro lo (And.intro bl (And.intro hv hx)))
    have H3 := Lib.hid h3
    have HH := Lib.hid (And.intro hbs (And.intro hpre (And.intro hs hX)))
    obtain ⟨A4, c4, hu4⟩ := slice_of_own h2
    subst hu4
    have O2 := Lib.hid h2
    clear hb h1 h2 h3 lo bl hv hx hbs hpre hs hX bv bw
    obtain ⟨hi0, hz0, hz1, hz2⟩ := IP.out
    gi_wp2_with (gi_at_builtin; refine wpListIn_append_own_at _ rfl _ _ 92 rfl w.heap.size 9 i0 (.string ⟨#[]⟩) 1 16 Try.underlying92 hi0 hz0 hz1 hz2 rfl (by decide) _ _ _ rfl (O2.out.alloc _) ⟨W.heap.size, 0, none⟩ 1 1 [.string ⟨x.2.toArray⟩] rfl rfl (cell_one_new _ _ _) (by simp [Value.oneCell']) (by have h8 := XL.out; have h9 := PL.out; unfold maxLen; omega) (by have h8 := XL.out; have h9 := PL.out; omega) (by have h8 := H.out.2.1.size; simp; omega) ?_; intro v5 W2 hown5 hgrow _ hat; obtain ⟨g5, cap5, rfl⟩ := ownsRow_succ hown5; have hbx := (H1.out.alloc _).kept hgrow (H1.out.not_row (by decide) O2.out); have cv5 : W2.cell? ⟨w.heap.size + 1 + 1, 0, none⟩ = _ := hbx.cell; have cf5 : W2.frozen? ⟨w.heap.size + 1 + 1, 0, none⟩ = _ := hbx.frozen)
    have hat2 : (Value.slice (some ⟨g5, 0, none⟩) (pre.length + 1) cap5).ownBlock = (Value.slice A4 pre.length c4).ownBlock ∨ (Value.slice (some ⟨g5, 0, none⟩) (pre.length + 1) cap5).ownBlock = some (W.heap.size + 1) := hat.imp id (fun h => h.trans (by simp))
    have hg2 : (W.alloc _).grownBy W2 (Value.slice A4 pre.length c4).ownBlock := hgrow
    have ho5 : W2.ownsRow w.heap.size 9 1 (.slice (some ⟨g5, 0, none⟩) (pre.length + 1) cap5) (pre ++ [x]).length ((pre ++ [x]).map (fun x : Nat × List UInt8 => Proofs.encStr x.2)) := by rw [List.map_append, List.length_append]; exact hown5
    obtain ⟨v6, hv6⟩ : ∃ v6, Value.slice (some ⟨g5, 0, none⟩) (pre.length + 1) cap5 = v6 := ⟨_, rfl⟩
    obtain ⟨v7, hv7⟩ : ∃ v7, Value.slice A4 pre.length c4 = v7 := ⟨_, rfl⟩
    rw [hv6] at hat2 ho5 ⊢
    rw [hv7] at hat2 hbx hg2
    have H1' := H1.out
    have O2' := O2.out
    have H3' := H3.out
    rw [hv7] at H1' O2' H3'
    obtain ⟨lo, bl, hv, hx⟩ := H.out
    obtain ⟨hbs, hpre, hs, hX⟩ := HH.out
    have hset : Boxed (W2.setCell ⟨w.heap.size + 1 + 1, 0, none⟩ v6) (w.heap.size + 2) 92 v6 := hbx.set v6
    have gset := grownBy_setCell' W2 (w.heap.size + 1 + 1) v6
    have KH : ∀ k, k < W.heap.size → k ≠ w.heap.size + 2 → (∀ g, v7.ownBlock = some g → k ≠ g) → (W2.setCell ⟨w.heap.size + 1 + 1, 0, none⟩ v6).heap[k]? = W.heap[k]? := fun k h1 h2 h3 => (Below.heap_setCell _ _ _ k h2).trans ((hg2.block k (by simp; omega) (fun e => h3 k e.symm rfl)).trans (Below.heap_alloc _ _ k h1))
    have SZ : W.heap.size ≤ (W2.setCell ⟨w.heap.size + 1 + 1, 0, none⟩ v6).heap.size := by have h1 := gset.size; have h2 := hg2.size; simp at h1 h2 ⊢; omega
    have NB : ∀ g, v6.ownBlock = some g → ¬ X g ∧ V.heap.size + 2 ≤ g := by
      intro g e
      rcases hat2 with a | a
      · exact H3' g (a.symm.trans e)
      · have := Option.some.inj (a.symm.trans e)
        exact ⟨fun hg => by have := (hX g hg).2; omega, by omega⟩
    refine ⟨⟨⟨v6, hset, ho5.kept gset (.inr (hbx.not_row (by decide) ho5).symm), NB⟩, fun k hk => (KH k (by omega) (by omega) (fun g e => by have := (H3' g e).2; omega)).trans (lo k hk), ?_, Nat.le_trans hv SZ, hx⟩, SZ, fun k hk => ?_⟩
    · exact ((bl.alloc bl.size _).grown hg2 (by have := bl.size; simp; omega) (fun k e => by have := (H3' k e).2; omega)).setCell (p := ⟨w.heap.size + 1 + 1, 0, none⟩) (by show w.heap.size ≤ w.heap.size + 1 + 1; omega) v6
    · rcases hk with (a | a) | a | a | a
      · exact KH k (by omega) (by omega) (fun g e => by have := (H3' g e).2; omega)
      · exact KH k (by omega) (by omega) (fun g e => by have := (H3' g e).2; omega)
      · exact KH k (hX k a).2 (by have := hx k a; omega) (fun g e c => (H3' g e).1 (c ▸ a))
      · exact KH k (by omega) (by omega) (fun g e => by have := (H3' g e).2; omega)
      · exact KH k (by omega) (by omega) (fun g e => by have := (H3' g e).2; omega)
  case done =>
    rintro X W hI hD
    obtain ⟨⟨vv, h1, h2, h3⟩, lo, bl, hv, hx⟩ := hI
    have r0 := (lo _ (by omega)).trans b0
    have r1 := (lo _ (by omega)).trans b1
    have c0 := row_c (i := 0) r0 rfl
    have c1 := row_c (i := 0) r1 rfl
    have f0 : W.frozen? ⟨w.heap.size, 0, none⟩ = false := by simp [World.frozen?, r0]
    have f1 : W.frozen? ⟨w.heap.size + 1, 0, none⟩ = false := by simp [World.frozen?, r1]
    have cv : W.cell? ⟨w.heap.size + 1 + 1, 0, none⟩ = some vv := h1.cell
    obtain ⟨A4, c4, hu4⟩ := slice_of_own h2
    subst hu4
    have O2 := Lib.hid h2
    have H := Lib.hid (And.intro lo (And.intro bl (And.intro hv hx)))
    have HD := Lib.hid hD
    have R0 := Lib.hid r0
    have R1 := Lib.hid r1
    clear h1 h2 h3 lo bl hv hx hD bw bv b0 b1 b2 r0 r1
    have XP := Lib.hid hpos
    have JN := Lib.hid (join_own w.heap.size (.slice A4 xs.length c4) xs.length (xs.map (·.2)) W (by have := O2.out; rw [List.map_map]; exact this) (by intro h; injection h with a b c; have := XP.out; omega) (by have := XL.out; omega) hfl)
    gi_wp2_with fail
    refine ⟨trivial, (callsIn_wide.2 JN.out).mono ?_⟩
    rintro e W7 ⟨rfl, hb⟩
    obtain ⟨t, ht⟩ : ∃ t : ByteArray, (⟨((xs.map (·.2)).flatten).toArray⟩ : ByteArray) = t := ⟨_, rfl⟩
    have R0 := Lib.hid ((hb.block _ (heap_lt R0.out)).trans R0.out)
    have R1 := Lib.hid ((hb.block _ (heap_lt R1.out)).trans R1.out)
    have HD := Lib.hid ((hb.block _ (heap_lt HD.out)).trans HD.out)
    have HB := Lib.hid (H.out.2.1.trans (hb.mono H.out.2.1.size))
    have f0 : W7.frozen? ⟨w.heap.size, 0, none⟩ = false := by simp [World.frozen?, R0.out]
    have f1 : W7.frozen? ⟨w.heap.size + 1, 0, none⟩ = false := by simp [World.frozen?, R1.out]
    have c0 := row_c (i := 0) R0.out rfl
    have c1 := row_c (i := 0) R1.out rfl
    have OO := O2
    clear hb cv O2
    rw [ht]
    gi_wp2_with fail
    obtain ⟨v6, hv6⟩ : ∃ v6, Value.string t = v6 := ⟨_, rfl⟩
    obtain ⟨W5, hW5⟩ : ∃ W5, W7.setCell ⟨w.heap.size, 0, none⟩ v6 = W5 := ⟨_, rfl⟩
    rw [hv6, hW5]
    have g1 := grownBy_setCell' W7 w.heap.size v6
    rw [hW5] at g1
    have g2 := grownBy_setCell' W5 (w.heap.size + 1) (.int .i64 0)
    have q0 : Boxed W5 w.heap.size 9 v6 := by rw [← hW5]; exact Boxed.set v6 (show Boxed W7 w.heap.size _ _ from R0.out)
    have q1 : Boxed W5 (w.heap.size + 1) 28 _ := (show Boxed W7 _ _ _ from R1.out).kept g1 (by simp)
    have p0 := q0.kept g2 (by simp)
    have p1 := q1.set (.int .i64 0)
    have hd := (g2.block _ (heap_lt ((g1.block _ (heap_lt HD.out) (by simp; omega)).trans HD.out)) (by simp; omega)).trans ((g1.block _ (heap_lt HD.out) (by simp; omega)).trans HD.out)
    have bl5 := ((HB.out.setCell (p := ⟨w.heap.size, 0, none⟩) (Nat.le_refl _) v6).setCell (p := ⟨w.heap.size + 1, 0, none⟩) (by show _ ≤ w.heap.size + 1; omega) (.int .i64 0))
    rw [hW5] at bl5
    obtain ⟨W6, hW6⟩ : ∃ W6, W5.setCell ⟨w.heap.size + 1, 0, none⟩ (.int .i64 0) = W6 := ⟨_, rfl⟩
    rw [hW6] at p0 p1 hd bl5 ⊢
    rw [sV] at hd
    have g3 := grownBy_putObj' W6 (w.heap.size + 5) (.deferred none)
    refine ⟨by simp, .inl ⟨_, _, rfl, run_takeDeferred hd, ?_⟩⟩
    have z0 := p0.kept g3 (by simp)
    have z1 := p1.kept g3 (by simp)
    have b6 := bl5.grown g3 (by have := bl5.size; omega) (fun k e => by have := Option.some.inj e; omega)
    have c0 := z0.cell
    have c1 := z1.cell
    have e0 := hv6.symm
    clear hv6
    subst e0
    exact ⟨.tuple #[.string t, .int .i64 0], by simp [results, Try.results29, go_sem, c0, c1], by rw [ht], b6⟩
end Go.Proofs.Ytmgdpchjimlmeaa
