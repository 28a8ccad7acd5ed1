/-
  quo.root, above, Sqrt.
-/
import Derived.Test.YtceningojnfgpaaGcd
import Derived.Test.YtceningojnfgpaaRoot
namespace Go.Proofs.Ytceningojnfgpaa
open Go.RowKit
/-- What above answers. -/
def Abv (w : World) (x : Nat) (e : Ending) (w' : World) : Prop := ∃ A' c' u, e = .returned (.slice A' (digs u).length c') ∧ Dg w' A' c' (digs u) ∧ Below w.heap.size w w' ∧ x < (u + 1) * (u + 1) ∧ 0 < u ∧ (digs u).length ≤ 600000
set_option maxHeartbeats 4000000 in
theorem root_of (A : Option Addr) (c : Nat) (xs : List Nat) (w : World) (h : Dg w A c xs) (hl : xs.length ≤ 500000) (ex : digs (val xs) = xs)
    (ha : 0 < xs.length → Calls Try.prog 54 #[.slice A xs.length c] w fun e w' => Abv w (val xs) e w') :
    Calls Try.prog 38 #[.slice A xs.length c] w fun e w' => ∃ A' c', e = .returned (.slice A' (digs (rt (val xs))).length c') ∧ Dg w' A' c' (digs (rt (val xs))) ∧ Below w.heap.size w w' := by
  rcases Nat.eq_zero_or_pos xs.length with h0 | h0
  · obtain rfl : xs = [] := List.eq_nil_of_length_eq_zero h0
    have e0 : rt (val []) = 0 := by simp only [val]; rw [rt]; simp
    clear ha ex h
    go_enter Try.func38, Try.ntmps38
    go_wp2
    go_ret
    rw [e0, digs_zero]
    exact ⟨none, 0, rfl, Dg.nil_ _ _, Below.refl _ _⟩
  · have t0 : ((xs.length : Int) == 0) = false := beq_eq_false_iff_ne.2 (by omega)
    have x0 : val xs ≠ 0 := fun e => by rw [e, digs_zero] at ex; have := congrArg List.length ex; simp at this; omega
    have HA := Lib.hid (ha h0)
    have H := Lib.hid h
    have X0 := Lib.hid x0
    obtain ⟨x, hx⟩ : ∃ x, val xs = x := ⟨_, rfl⟩
    have HX := Lib.hid hx
    clear h ha x0 ex
    go_enter Try.func38, Try.ntmps38
    go_wp2_with fail
    refine HA.out.mono ?_
    rintro e w1 ⟨A1, c1, u, rfl, g1, g2, g3, g4, g5⟩
    rw [hx] at g3
    have G1 := Lib.hid g1
    have G2 := Lib.hid g2
    have G3 := Lib.hid g3
    have G4 := Lib.hid g4
    have G5 := Lib.hid g5
    clear g1 g2 g3 g4 g5 hx
    go_wp2
    go_loopg [3] u (fun g s wr => ∃ (A3 : Option Addr) (c3 : Nat), s = .slice A3 (digs g).length c3 ∧ Hid (0 < g) ∧ Hid (x < (g + 1) * (g + 1)) ∧ (digs g).length ≤ 600000 ∧ Hid (Dg wr A3 c3 (digs g)) ∧ Hid (Below w.heap.size w wr))
    case atStart => exact ⟨A1, c1, rfl, G4.out, G3.out, G5.out, G1.out, G2.out⟩
    case round =>
      obtain ⟨A3, c3, rfl, P0, P1, b1, D1, HB⟩ := hrel
      have L0 := Lib.hid (((live_start wr).add (H.out.below HB.out)).add D1.out)
      go_wp2_with fail
      refine Calls.mono (divmod_l (xs := xs) (ys := digs gk) (x := x) (y := gk) L0.out (by simp) (by simp) rfl rfl HX.out (val_digs _) (by omega) (by omega) (by have := P0.out; omega)) ?_
      rintro e w2 ⟨A4, c4, A5, c5, rfl, h1⟩
      have L1 := Lib.hid h1
      clear h1
      have l1 : (digs (x / gk)).length ≤ 500000 := Nat.le_trans (digs_len_mono _ _ (Nat.div_le_self x gk)) (by rw [← HX.out]; have := digs_len_le H.out.2.1; omega)
      have l2 := digs_add_len gk (x / gk)
      go_wp2_with fail
      refine Calls.mono (add_l (xs := digs gk) (ys := digs (x / gk)) (x := gk) (y := x / gk) L1.out (by simp) (by simp) rfl rfl (val_digs _) (val_digs _) (by omega) (by omega)) ?_
      rintro e w3 ⟨A6, c6, rfl, h1⟩
      have L2 := Lib.hid h1
      clear h1
      go_wp2_with fail
      refine Calls.mono (shr_l (xs := digs (gk + x / gk)) (x := gk + x / gk) (i := 1) (k := 1) L2.out (by simp) rfl (val_digs _) (by omega) rfl (by omega)) ?_
      rintro e w4 ⟨A7, c7, rfl, h1⟩
      rw [Nat.pow_one] at h1
      rw [Nat.pow_one]
      have L3 := Lib.hid h1
      clear h1
      obtain ⟨t, ht⟩ : ∃ t, (gk + x / gk) / 2 = t := ⟨_, rfl⟩
      rw [ht] at L3
      rw [ht]
      have HT := Lib.hid ht
      have l3 : (digs t).length ≤ (digs (gk + x / gk)).length := digs_len_mono _ _ (by omega)
      clear ht
      obtain ⟨q, hq⟩ : ∃ q : Int, cmpi t gk = q := ⟨_, rfl⟩
      have HC := Lib.hid hq
      go_wp2_with fail
      refine Calls.mono (cmp_l (xs := digs t) (ys := digs gk) (x := t) (y := gk) L3.out (by simp) (by simp) rfl rfl (val_digs _) (val_digs _) (by omega) (by omega) HC.out) ?_
      rintro e w5 ⟨rfl, h1⟩
      have L4 := Lib.hid h1
      clear h1
      rcases Nat.lt_or_ge t gk with hlt | hge
      · have d0 : decide (0 ≤ q) = false := by rw [← hq, cmpi_lt hlt]; rfl
        have HLT := Lib.hid hlt
        clear hq hlt
        go_wp2
        go_roundg t
        case measure => exact HLT.out
        case rel =>
          have hn := newton P0.out HT.out.symm
          have hp : 0 < t := Nat.lt_of_lt_of_le (rt_pos (by rw [← HX.out]; exact X0.out)) (rt_le hn)
          exact ⟨A7, c7, rfl, hp, hn, Nat.le_trans (digs_len_mono _ _ (Nat.le_of_lt HLT.out)) b1, L4.out.get (by simp), HB.out.trans (L4.out.1.mono HB.out.size)⟩
      · have d0 : decide (0 ≤ q) = true := by
          rw [← hq]
          rcases Nat.eq_or_lt_of_le hge with e | e
          · rw [cmpi_eq e.symm]; rfl
          · rw [cmpi_gt e]; rfl
        have HS := Lib.hid (rt_is (newton_end P0.out HT.out.symm hge) P1.out)
        clear hq hge
        go_wp2
        go_ret
        rw [HX.out, ← HS.out]
        exact ⟨A3, c3, rfl, L4.out.get (by simp), HB.out.trans (L4.out.1.mono HB.out.size)⟩
theorem two_pow_half (b : Nat) : 2 ^ b ≤ 2 ^ ((b + 1) / 2) * 2 ^ ((b + 1) / 2) := by
  rw [← Nat.pow_add]; exact Nat.pow_le_pow_right (by omega) (by omega)
theorem sq_up {x u : Nat} (h : x < u * u) : x < (u + 1) * (u + 1) := Nat.lt_of_lt_of_le h (Nat.mul_le_mul (by omega) (by omega))
set_option maxHeartbeats 4000000 in
theorem above_small (A : Option Addr) (c : Nat) (xs : List Nat) (w : World) (h : Dg w A c xs) (hl : xs.length < 4) :
    Calls Try.prog 54 #[.slice A xs.length c] w fun e w' => Abv w (val xs) e w' := by
  have L0 := Lib.hid ((live_start w).add h)
  have hb : blen (val xs) ≤ 32 * xs.length := bits_le _ _ (by have := val_lt h.2.1; rwa [show (4294967296 : Nat) ^ xs.length = 2 ^ (32 * xs.length) by rw [Nat.pow_mul]] at this)
  have hB := Lib.hid (blen_lt (val xs))
  have t0 : ((xs.length : Int) / 4 == 0) = true := by rw [beq_iff_eq]; omega
  have t1 : (xs.length : Int) / 4 = 0 := by omega
  clear h
  go_enter Try.func54, Try.ntmps54
  go_wp2_with fail
  have Ln := Lib.hid (L0.out.new1 1 1 rfl (by omega))
  refine Calls.mono (bits_l (xs := xs) (x := val xs) Ln.out (by simp) rfl rfl (by omega) rfl) ?_
  rintro e w1 ⟨rfl, h1⟩
  have L1 := Lib.hid h1
  clear h1
  go_wp2_with fail
  refine Calls.mono (shl_l (xs := [1]) (x := 1) (k := (blen (val xs) + 1) / 2) L1.out (by simp) rfl (by simp [val]) (by simp) (by omega) (by omega)) ?_
  rw [Nat.one_mul]
  rintro e w2 ⟨A2, c2, rfl, h1⟩
  have L2 := Lib.hid h1
  clear h1
  have hlen := pow_digs_len ((blen (val xs) + 1) / 2)
  go_wp2
  go_ret
  exact ⟨A2, c2, 2 ^ ((blen (val xs) + 1) / 2), rfl, L2.out.get (by simp), L2.out.1, sq_up (Nat.lt_of_lt_of_le hB.out (two_pow_half _)), Nat.pow_pos (by omega), by omega⟩
theorem own_row {w : World} {base g : Nat} {ys : List Nat} (h : Row w g ys) (hb : base ≤ g) (hm : ys.length ≤ maxLen) : w.ownsRow base 37 1 (.slice (some ⟨g, 0, none⟩) ys.length ys.length) ys.length (cells ys) :=
  ⟨by simp [cells], .inr ⟨g, ys.length, (cells ys).toArray, rfl, hb, h, Nat.le_refl _, hm, by simp [cells], by rw [Nat.mul_one, List.take_of_length_le (by simp [cells])]⟩⟩
theorem digs_lift (k u : Nat) (hu : u ≠ 0) : digs (4294967296 ^ k * u) = List.replicate k 0 ++ digs u := by
  have e : val (List.replicate k 0 ++ digs u) = 4294967296 ^ k * u := by rw [val_append, val_zeros, List.length_replicate, val_digs]; omega
  rw [← e]
  refine digs_val (fun x hx => ?_) (fun x hx => ?_)
  · rcases List.mem_append.1 hx with hx | hx
    · exact ok_zeros k x hx
    · exact ok_digs u x hx
  · rw [List.getLast?_append] at hx
    rcases hd : (digs u).getLast? with _ | z
    · exfalso; rw [List.getLast?_eq_none_iff] at hd; exact hu (digs_nil.1 (by rw [hd]; rfl))
    · rw [hd] at hx; simp at hx; subst hx; exact last_digs hd
set_option maxHeartbeats 4000000 in
theorem above_big (b off c k h r : Nat) (xs : List Nat) (w : World) (hl : xs.length ≤ 500000) (hk : xs.length / 4 = k) (hk0 : 0 < k) (hh : 2 * k = h) (hc : xs.length ≤ c)
    (HR : Hid (Calls Try.prog 38 #[.slice (some ⟨b, off + h, none⟩) (xs.length - h) (c - h)] w fun e w' => ∃ A' c', e = .returned (.slice A' (digs r).length c') ∧ Dg w' A' c' (digs r) ∧ Below w.heap.size w w'))
    (hr : (digs r).length ≤ 500000 - k) (hx : Hid (val xs < 4294967296 ^ k * (r + 1) * (4294967296 ^ k * (r + 1)))) :
    Calls Try.prog 54 #[.slice (some ⟨b, off, none⟩) xs.length c] w fun e w' => Abv w (val xs) e w' := by
  have i1 : (xs.length : Int) / 4 = (k : Int) := by omega
  have i2 : (2 : Int) * (k : Int) = (h : Int) := by omega
  have i3 : ((k : Int) == 0) = false := beq_eq_false_iff_ne.2 (by omega)
  have i4 : h ≤ xs.length := by omega
  have i5 : ¬ (c = h) := by omega
  have i6 : k ≤ 125000 := by omega
  have hmk := run_make_row' (P := Try.prog) 22 37 (.int .u32 0) 4 Try.underlying22 elem_info rfl .i64 .i64 k (by omega) (by omega)
  obtain ⟨i0, hi, hz0, hz1, hz2⟩ := info_parts elem_info
  clear hk hh
  go_enter Try.func54, Try.ntmps54
  go_wp2_with fail
  refine HR.out.mono ?_
  rintro e w1 ⟨A1, c1, rfl, g1, g2⟩
  have L1 := Lib.hid (show Live w w1 [(A1, c1, digs r)] from (show Live w w1 [] from ⟨g2, fun t ht => by simp at ht⟩).add g1)
  clear g1 g2
  go_wp2_with fail
  have Ln := Lib.hid (L1.out.new1 1 1 rfl (by omega))
  refine Calls.mono (add_l (xs := digs r) (ys := [1]) (x := r) (y := 1) Ln.out (by simp) (by simp) rfl rfl (val_digs _) (by simp [val]) (by omega) (by simp)) ?_
  rintro e w2 ⟨A2, c2, rfl, h1⟩
  have D2 := Lib.hid (show Dg w2 A2 c2 (digs (r + 1)) from h1.get (by simp))
  have B2 := Lib.hid h1.1
  clear h1
  have hd0 : 0 < (digs (r + 1)).length := by
    rcases Nat.eq_zero_or_pos (digs (r + 1)).length with h0 | h0
    · have := digs_nil.1 h0; omega
    · exact h0
  have hdl := digs_add_len r 1
  have hd1 := digs_small (n := 1) (by omega)
  have HD := Lib.hid (digs_lift k (r + 1) (by omega))
  have OK := Lib.hid (ok_digs (r + 1))
  obtain ⟨b2, off2, hA2, hb2, _⟩ := D2.out.2.2 hd0
  have D2' := D2.out
  subst hA2
  generalize digs (r + 1) = T at *
  have D3 := Lib.hid D2'
  clear D2 D2'
  have HO := Lib.hid (own_row (base := w2.heap.size) (Row.made w2 k) (Nat.le_refl _) (by rw [List.length_replicate]; unfold maxLen; omega))
  rw [List.length_replicate] at HO
  go_wp2_with (at_builtin; refine wpList_append_own _ rfl _ _ 22 rfl w2.heap.size 37 i0 (.int .u32 0) 1 4 Try.underlying22 hi hz0 hz1 hz2 rfl (by decide) _ _ _ rfl HO.out ⟨b2, off2, none⟩ T.length c2 (cells T) rfl ?qc1 ?qc2 ?qc3 ?qc4 ?qc5 ?qc6 ?_)
  case qc1 => simp [cells]
  case qc2 =>
    intro j u hj
    rw [← dg_cell D3.out hj]
    exact World.cell?_alloc_lt w2 _ _ (by rw [Addr.add_lit]; exact hb2)
  case qc3 => intro u hu; unfold cells at hu; obtain ⟨x, _, rfl⟩ := List.mem_map.1 hu; rfl
  case qc4 => unfold maxLen; omega
  case qc5 => omega
  case qc6 => simp
  intro v' w3 hown hgrow hnil
  have e1 : cells (List.replicate k 0) ++ cells T = cells (List.replicate k 0 ++ T) := by simp [cells]
  rw [e1] at hown
  obtain ⟨A', c', hv, hd⟩ := dg_of_own hown (by
    intro x hx
    rcases List.mem_append.1 hx with hx | hx
    · exact ok_zeros k x hx
    · exact OK.out x hx)
  have HV := Lib.hid hv
  have HDD := Lib.hid hd
  have HGR := Lib.hid (((Below.refl _ w2).alloc (Nat.le_refl _) _).grown hgrow (by simp) (by intro k hk; simp [Value.ownBlock] at hk; omega))
  clear hv hown hd hgrow hnil e1
  go_wp2
  go_ret
  refine ⟨A', c', 4294967296 ^ k * (r + 1), by rw [HD.out, ← HV.out]; rfl, by rw [HD.out]; exact HDD.out, B2.out.trans (HGR.out.mono B2.out.size), sq_up hx.out, Nat.mul_pos (Nat.pow_pos (by omega)) (by omega), by rw [HD.out, List.length_append, List.length_replicate]; omega⟩
end Go.Proofs.Ytceningojnfgpaa
