import Derived.Test.YthgkdpfkaobgoaaDoorM0
import Derived.Maps.AppendAt
import Derived.Deep.AppendLies
import Derived.Test.YthgkdpfkaobgoaaDoorM1
import Derived.Test.YthgkdpfkaobgoaaDoorM2
import Derived.Lib.AppendIntMem
import Derived.Lib.Walk
import Derived.Deep.DeepCutAuto
import Derived.Lib.OwnBridge
import Derived.Lib.Join
import Derived.Lib.ItoaLen
section
/-
  The reference's own text (astrolaberef01): at, Trim.
-/
namespace Go.Proofs.YthgkdpfkaobgoaaDoor
open Go.RowKit
set_option maxHeartbeats 400000 in
set_option maxRecDepth 100000 in
theorem rat_any (A : Option Addr) (c : Nat) (xs : List Nat) (i : Nat) (w : World) (h : Dg w A c xs) (hi : i ≤ 9223372036854775807) :
    Calls Tryd.prog 75 #[.slice A xs.length c, .int .i64 i] w fun e w' => e = .returned (.int .u64 (xs[i]?.getD 0 : Nat)) ∧ w = w' := by
  by_cases h1 : xs.length ≤ i
  · have d0 : decide (xs.length ≤ i) = true := by simp [h1]
    have HF : Hid ((0 : Int) = ((xs[i]?.getD 0 : Nat) : Int)) := by rw [List.getElem?_eq_none h1]; rfl
    clear h1
    go_enter Tryd.func75, Tryd.ntmps75
    go_wp2
    go_ret
    exact ⟨ret_i HF.out, rfl⟩
  · have d0 : decide (xs.length ≤ i) = false := by simp; omega
    obtain ⟨b, off, hA, hb, hcx⟩ := h.2.2 (by omega)
    have hx := hcx i (by omega)
    have hX := getD_lt h.2.1 i
    have hlt : i < xs.length := by omega
    generalize xs[i]?.getD 0 = x at *
    clear hcx h1 h
    subst hA
    go_enter Tryd.func75, Tryd.ntmps75
    go_wp2
    go_ret
    exact ⟨rfl, rfl⟩
/-- append(out, xs...) where xs has no array and no elements. -/
theorem wpList_append_nil {P : Program} {w : World} {ops : Array Oper} {rest : List Oper} {o : Oper} {a : Act} {Q : Exit → Act → World → Prop} (hgd : o.guard = none) (s x : Operand) (t : TypeId)
    (ho : o.op = .call { callee := .builtin .append, args := #[s, x], argTypes := #[t, t] }) (e : TypeId) (i : TypeInfo) (ht : P.underlying t = some (.slice e)) (hi : P.info? e = some i)
    (c : Nat) (hs : a.eval s = .slice none 0 0) (hx : a.eval x = .slice none 0 c) (h : wpList P ops Q rest (a.put o.dst (.slice none 0 0)) w) : wpList P ops Q (o :: rest) a w := by
  refine wpList_plain hgd fun K hK => ?_
  have hrun : (Builtin.append_ #[t, t] o.type #[.slice none 0 0, .slice none 0 c]).run P w = .ok (.slice none 0 0) w := by
    simp [Builtin.append_, run_underlying ht, sizeOf, typeInfo, hi, Builtin.lenOf, Builtin.firstCells]
  unfold Oper.wp
  simp [execOp, ho, resolve, invoke, builtin, hs, hx, hrun, Result.andThen]
  exact hK _ _ h
theorem rtrim_eq {xs : List Nat} {k : Nat} (hk32 : ok32 xs) (hk : k ≤ xs.length) (hz : ∀ j, k ≤ j → j < xs.length → xs[j]?.getD 0 = 0) (hl : 0 < k → xs[k - 1]?.getD 0 ≠ 0) : xs.take k = digs (val xs) := digs_take hk32 hk hz hl
set_option maxHeartbeats 2000000 in
set_option maxRecDepth 100000 in
theorem rtrim_f (A : Option Addr) (c : Nat) (xs : List Nat) (w : World) (h : Dg w A c xs) (hl : xs.length ≤ 16777216) :
    Calls Tryd.prog 54 #[.slice A xs.length c] w fun e w' => ∃ A' c', e = .returned (.slice A' (digs (val xs)).length c') ∧ Dg w' A' c' (digs (val xs)) ∧ Below w.heap.size w w' ∧ Fr w.heap.size A' := by
  obtain ⟨i0, hi, hz0, hz1, hz2⟩ := info_parts elem_info
  rcases A with _ | A
  · have h0 : xs = [] := by
      rcases Nat.eq_zero_or_pos xs.length with h0 | h0
      · exact List.eq_nil_of_length_eq_zero h0
      · obtain ⟨b, off, e, _⟩ := h.2.2 h0
        cases e
    subst h0
    clear h hl
    rw [show val [] = 0 from rfl, digs_zero]
    go_enter Tryd.func54, Tryd.ntmps54
    go_wp2
    go_loop [3] (fun n => n = .int .i64 0) (fun n => (intOf n).toNat)
    case atStart => rfl
    case round =>
      subst hrel
      go_wp2_with (at_builtin; refine wpList_append_nil rfl _ _ 22 rfl 75 i0 Tryd.underlying22 hi c rfl rfl ?_)
      go_ret
      exact ⟨none, 0, rfl, Dg.nil_ _ _, Below.refl _ _, fr_none _⟩
  · have H := Lib.hid h
    have hcap := h.1
    clear h
    go_enter Tryd.func54, Tryd.ntmps54
    go_wp2
    go_loop [3] (fun n => ∃ k : Nat, k ≤ xs.length ∧ n = .int .i64 k ∧ Hid (∀ j, k ≤ j → j < xs.length → xs[j]?.getD 0 = 0)) (fun n => (intOf n).toNat)
    case atStart => exact ⟨xs.length, Nat.le_refl _, rfl, fun j h1 h2 => by omega⟩
    case round =>
      obtain ⟨k, hk, rfl, hz⟩ := hrel
      by_cases hk0 : k = 0
      · subst hk0
        have HT := Lib.hid (show ([] : List Value) = cells (digs (val xs)) from by rw [← digs_take H.out.2.1 hk hz (fun h => absurd h (by omega))]; rfl)
        clear hz hk
        go_wp2_with (at_builtin; refine wpList_append_own _ rfl _ _ 22 rfl w.heap.size 75 i0 (.int .u32 0) 1 4 Tryd.underlying22 hi hz0 hz1 hz2 rfl (by decide) _ _ _ rfl (World.ownsRow_nil _ _ _ _) A 0 c [] rfl rfl (fun j u hj => by simp at hj) (fun u hu => by simp at hu) (by unfold maxLen; omega) (by omega) (Nat.le_refl _) ?_)
        intro v' w1 hown hgrow hnil
        try simp only [Nat.add_zero, List.append_nil] at hown
        rw [HT.out] at hown
        obtain ⟨A', c', hv, hd, hfr⟩ := dg_of_own_f hown (ok_digs _)
        have HV := Lib.hid hv
        have HFR := Lib.hid hfr
        clear hfr hv hown hnil
        go_wp2
        go_ret
        exact ⟨A', c', by rw [← HV.out]; rfl, hd, (Below.refl _ w).grown hgrow (Nat.le_refl _) (by intro k hk; simp [Value.ownBlock] at hk), HFR.out⟩
      · obtain ⟨b, off, hA, hb, hcell⟩ := H.out.2.2 (by omega)
        have hc1 := hcell (k - 1) (by omega)
        have hkc : k ≤ c := by omega
        have hk1 : 0 < k := by omega
        injection hA with hA
        by_cases hx : xs[k - 1]?.getD 0 = 0
        · have hx' : ((xs[k - 1]?.getD 0 : Nat) == (0 : Int)) = true := by rw [hx]; rfl
          have HX := Lib.hid hx
          clear hcell hx
          subst hA
          go_wp2
          go_round
          case rel =>
            refine ⟨k - 1, by omega, by go_num, fun j h1 h2 => ?_⟩
            by_cases hj : j = k - 1
            · subst hj; exact HX.out
            · exact hz j (by omega) h2
          case measure => simp [intOf]; omega
        · have hx' : ((xs[k - 1]?.getD 0 : Nat) == (0 : Int)) = false := by simp; omega
          have HT := Lib.hid (show cells (xs.take k) = cells (digs (val xs)) from by rw [digs_take H.out.2.1 hk hz (fun _ => hx)])
          clear hcell hx
          subst hA
          go_wp2_with (at_builtin; refine wpList_append_own _ rfl _ _ 22 rfl w.heap.size 75 i0 (.int .u32 0) 1 4 Tryd.underlying22 hi hz0 hz1 hz2 rfl (by decide) _ _ _ rfl (World.ownsRow_nil _ _ _ _) ⟨b, off, none⟩ k c (cells (xs.take k)) rfl ?qc1 ?qc2 ?qc3 ?qc4 ?qc5 ?qc6 ?_)
          case qc1 => simp [cells] <;> omega
          case qc2 =>
            intro j u hj
            obtain ⟨hlt, rfl⟩ := cells_get hj
            rw [List.length_take] at hlt
            have h1 : j < k := Nat.lt_of_lt_of_le hlt (Nat.min_le_left _ _)
            have h2 : j < xs.length := Nat.lt_of_lt_of_le hlt (Nat.min_le_right _ _)
            rw [List.getElem?_take, if_pos h1]
            have hdc := dg_cell H.out (cells_at h2)
            rw [Addr.add_lit] at hdc
            exact hdc
          case qc3 => intro u hu; unfold cells at hu; obtain ⟨x, _, rfl⟩ := List.mem_map.1 hu; rfl
          case qc4 => unfold maxLen; omega
          case qc5 => omega
          intro v' w1 hown hgrow hnil
          rw [HT.out] at hown
          obtain ⟨A', c', hv, hd, hfr⟩ := dg_of_own_f hown (ok_digs _)
          have HV := Lib.hid hv
          have HFR := Lib.hid hfr
          clear hfr hv hown hnil
          go_wp2
          go_ret
          exact ⟨A', c', by rw [← HV.out]; rfl, hd, (Below.refl _ w).grown hgrow (Nat.le_refl _) (by intro k hk; simp [Value.ownBlock] at hk), HFR.out⟩
theorem rtrim_any (A : Option Addr) (c : Nat) (xs : List Nat) (w : World) (h : Dg w A c xs) (hl : xs.length ≤ 16777216) :
    Calls Tryd.prog 54 #[.slice A xs.length c] w fun e w' => ∃ A' c', e = .returned (.slice A' (digs (val xs)).length c') ∧ Dg w' A' c' (digs (val xs)) ∧ Below w.heap.size w w' :=
  (rtrim_f A c xs w h hl).mono fun _ _ ⟨A', c', h1, h2, h3, _⟩ => ⟨A', c', h1, h2, h3⟩
end Go.Proofs.YthgkdpfkaobgoaaDoor
end

section
/-
  The reference's own text (astrolaberef01): Small, Bits, Bit, From, Cmp.
-/
namespace Go.Proofs.YthgkdpfkaobgoaaDoor
open Go.RowKit
theorem or_join' (a b : Nat) (ha : a < 4294967296) (hb : b < 4294967296) : bits BinOp.or IntKind.u64 (a : Int) ((b : Int) * 4294967296) = ((a + 4294967296 * b : Nat) : Int) := by
  have e : (b : Int) * 4294967296 = ((b * 4294967296 : Nat) : Int) := by omega
  rw [e, u64_or_nat _ _ (by omega) (by omega), Nat.or_comm, nat_join 32 _ _ (by omega) (by omega)]
  congr 1
  omega
set_option maxHeartbeats 1000000 in
set_option maxRecDepth 100000 in
theorem rsmall_any (A : Option Addr) (c : Nat) (xs : List Nat) (w : World) (h : Dg w A c xs) (hl : xs.length ≤ 16777216) :
    Calls Tryd.prog 56 #[.slice A xs.length c] w fun e w' => e = .returned (.tuple #[.int .u64 (small? (val xs)), .bool (decide (val xs < 18446744073709551616))]) ∧ Below w.heap.size w w' := by
  have H := Lib.hid h
  clear h
  go_enter Tryd.func56, Tryd.ntmps56
  go_wp2_with fail
  refine (rtrim_any A c xs _ H.out hl).mono ?_
  rintro e w1 ⟨A1, c1, rfl, h1, hb⟩
  have H1 := Lib.hid h1
  have HB := Lib.hid hb
  clear h1 hb
  by_cases hlt : val xs < 18446744073709551616
  · have hs := digs_small hlt
    have hv := val_digs (val xs)
    have o := ok_digs (val xs)
    have x0 := getD_lt o 0
    have x1 := getD_lt o 1
    have d0 : decide (2 < (digs (val xs)).length) = false := by simp; omega
    have HV : (digs (val xs))[0]?.getD 0 + 4294967296 * ((digs (val xs))[1]?.getD 0) = val xs := by
      generalize digs (val xs) = D at *
      rcases D with _ | ⟨d0, _ | ⟨d1, _ | ⟨d2, r⟩⟩⟩
      · simp [val] at hv ⊢; omega
      · simp [val] at hv ⊢; omega
      · simp [val] at hv ⊢; omega
      · simp at hs
    have HF := Lib.hid (small_yes HV.symm hlt)
    have HO := Lib.hid (or_join' _ _ x0 x1)
    clear hlt hv o HV
    generalize digs (val xs) = D at *
    have r0 := Lib.hid (rat_any A1 c1 D 0 w1 H1.out (by omega))
    have r1 := Lib.hid (rat_any A1 c1 D 1 w1 H1.out (by omega))
    generalize D[0]?.getD 0 = x at *
    generalize D[1]?.getD 0 = y at *
    go_wp2_with fail
    refine r0.out.mono ?_
    rintro e w' ⟨rfl, rfl⟩
    go_wp2_with fail
    refine r1.out.mono ?_
    rintro e w' ⟨rfl, rfl⟩
    go_wp2
    go_ret2
    exact ⟨ret_ub ⟨HO.out.trans HF.out.1, HF.out.2⟩, HB.out⟩
  · have HF := Lib.hid (small_no (n := val xs) (by omega))
    have hg := digs_great (n := val xs) (by omega)
    have d0 : decide (2 < (digs (val xs)).length) = true := by simp; omega
    clear hlt
    go_wp2
    go_ret2
    exact ⟨ret_ub HF.out, HB.out⟩
set_option maxHeartbeats 1000000 in
set_option maxRecDepth 100000 in
theorem rbits_any (A : Option Addr) (c : Nat) (xs : List Nat) (w : World) (h : Dg w A c xs) (hl : xs.length ≤ 16777216) :
    Calls Tryd.prog 84 #[.slice A xs.length c] w fun e w' => e = .returned (.int .i64 (blen (val xs))) ∧ Below w.heap.size w w' := by
  have l1 := digs_len_le h.2.1
  have H := Lib.hid h
  clear h
  go_enter Tryd.func84, Tryd.ntmps84
  go_wp2_with fail
  refine (rtrim_any A c xs _ H.out hl).mono ?_
  rintro e w1 ⟨A1, c1, rfl, h1, hb⟩
  have H1 := Lib.hid h1
  have HB := Lib.hid hb
  clear h1 hb
  by_cases h0 : val xs = 0
  · have e0 : digs (val xs) = [] := by rw [h0, digs_zero]
    have HF := Lib.hid (show (0 : Int) = (blen (val xs) : Int) from by rw [h0, blen_zero]; rfl)
    rw [e0]
    clear h0 e0
    go_wp2
    go_ret
    exact ⟨ret_i HF.out, HB.out⟩
  · have hb := blen_digs (val xs) h0
    have hn : (digs (val xs)).length ≠ 0 := fun h => h0 (digs_nil.1 h)
    have ok := ok_digs (val xs)
    generalize digs (val xs) = X at *
    obtain ⟨b, off, hA, hbk, hcx⟩ := H1.out.2.2 (by omega)
    have hx := hcx (X.length - 1) (by omega)
    have hlt := getD_lt ok (X.length - 1)
    generalize X[X.length - 1]?.getD 0 = d at *
    have hbl : blen d ≤ 64 := by rw [blen_eq _ (by omega)]; exact Lib.bitLen_le d 64 (by omega) (by omega)
    have HBL := Lib.hid hb
    have t0 : 0 < X.length := by omega
    have t1 : ((X.length : Int) == 0) = false := beq_eq_false_iff_ne.2 (by omega)
    clear hcx hb h0 hn ok
    subst hA
    go_wp2
    go_loop [4, 5] (fun bi kk => ∃ i k : Nat, bi = .int .i64 (32 * ((X.length : Int) - 1) + i) ∧ kk = .int .u32 k ∧ k < 4294967296 ∧ Hid (i + blen k = blen d)) (fun _ kk => (intOf kk).toNat)
    case atStart => exact ⟨0, d, by go_num, rfl, hlt, by simp [Hid]⟩
    case round =>
      obtain ⟨i, k, rfl, rfl, hk, HE⟩ := hrel
      have hi : i ≤ 64 := by have := HE.out; omega
      by_cases h0 : k = 0
      · subst h0
        have HI := Lib.hid (show (32 * ((X.length : Int) - 1) + i) = (blen (val xs) : Int) from by have := HE.out; rw [blen_zero] at this; rw [HBL.out]; omega)
        clear HE
        go_wp2
        go_ret
        exact ⟨ret_i HI.out, HB.out⟩
      · have hkp : 0 < k := by omega
        have HK := Lib.hid (blen_pos h0)
        go_wp2
        go_round
        case rel => exact ⟨i + 1, k / 2, by go_num, by go_num, by omega, by have := HE.out; rw [HK.out] at this; show i + 1 + blen (k / 2) = blen d; omega⟩
        case measure => simp [intOf]; omega
set_option maxHeartbeats 400000 in
set_option maxRecDepth 100000 in
theorem rfrom_any (n : Nat) (w : World) (hn : n < 18446744073709551616) :
    Calls Tryd.prog 52 #[.int .u64 n] w fun e w' => ∃ A' c', e = .returned (.slice A' (digs n).length c') ∧ Dg w' A' c' (digs n) ∧ Below w.heap.size w w' := by
  have hv : val [n % 4294967296, n / 4294967296] = n := by simp only [val]; omega
  have hd := dg_two w ((n : Int) % 4294967296) ((n : Int) / 4294967296) (n % 4294967296) (n / 4294967296) (by omega) (by omega) 75 (by omega) (by omega)
  have hs := rtrim_any _ _ _ _ hd (by simp)
  rw [hv] at hs
  have HS := Lib.hid hs
  clear hs hv hd
  go_enter Tryd.func52, Tryd.ntmps52
  go_wp2_with fail
  refine Calls.mono (show Calls Tryd.prog 54 #[.slice _ 2 2] _ _ from HS.out) ?_
  rintro e w' ⟨A1, c1, rfl, h1, hb⟩
  have H1 := Lib.hid h1
  clear h1
  go_wp2
  go_ret
  exact ⟨A1, c1, rfl, H1.out, ((Below.refl _ _).alloc (Nat.le_refl _) _).trans (hb.mono (by simp))⟩
end Go.Proofs.YthgkdpfkaobgoaaDoor
end

section
/-
  The reference's own text (astrolaberef01): Cmp, Add, Sub.
-/
namespace Go.Proofs.YthgkdpfkaobgoaaDoor
open Go.RowKit
/-- A list with noughts behind. -/
def pad (xs : List Nat) (N : Nat) : List Nat := xs ++ List.replicate (N - xs.length) 0
theorem pad_len {xs : List Nat} {N : Nat} (h : xs.length ≤ N) : (pad xs N).length = N := by simp [pad]; omega
theorem pad_val (xs : List Nat) (N : Nat) : val (pad xs N) = val xs := by rw [pad, val_append, val_zeros]; simp
theorem pad_ok {xs : List Nat} (N : Nat) (h : ok32 xs) : ok32 (pad xs N) := by
  intro x hx
  rcases List.mem_append.1 hx with hx | hx
  · exact h x hx
  · rw [List.eq_of_mem_replicate hx]; omega
theorem pad_get (xs : List Nat) (N j : Nat) : (pad xs N)[j]?.getD 0 = xs[j]?.getD 0 := by
  rcases Nat.lt_or_ge j xs.length with h | h
  · rw [pad, List.getElem?_append_left h]
  · rw [pad, List.getElem?_append_right h, List.getElem?_eq_none h, List.getElem?_replicate]
    split <;> rfl
theorem val_take_step (xs : List Nat) (k : Nat) : val (xs.take (k + 1)) = val (xs.take k) + 4294967296 ^ k * (xs[k]?.getD 0) := by
  rcases Nat.lt_or_ge k xs.length with h | h
  · rw [take_one h, val_snoc, List.length_take, Nat.min_eq_left (by omega)]
  · rw [List.take_of_length_le (by omega), List.take_of_length_le h, List.getElem?_eq_none h]; simp
theorem val_take_mod {xs : List Nat} (h : ok32 xs) (k : Nat) : val (xs.take k) = val xs % 4294967296 ^ k := by
  have e : val xs = val (xs.take k) + 4294967296 ^ k * val (xs.drop k) := by
    rcases Nat.lt_or_ge k xs.length with hl | hl
    · conv => lhs; rw [← List.take_append_drop k xs, val_append]
      rw [List.length_take, Nat.min_eq_left (by omega)]
    · rw [List.take_of_length_le hl, List.drop_eq_nil_of_le hl]; simp [val]
  have hlt : val (xs.take k) < 4294967296 ^ k := by
    have h1 := val_lt (xs := xs.take k) (fun x hx => h x (List.mem_of_mem_take hx))
    rw [List.length_take] at h1
    exact Nat.lt_of_lt_of_le h1 (Nat.pow_le_pow_right (by omega) (Nat.min_le_left _ _))
  rw [e, Nat.add_mul_mod_self_left, Nat.mod_eq_of_lt hlt]
theorem pad_lt {xs ys : List Nat} {N k : Nat} (hx : ok32 xs) (hy : ok32 ys) (lx : xs.length ≤ N) (ly : ys.length ≤ N) (hk : k < N) (hj : ∀ j, k < j → j < N → xs[j]?.getD 0 = ys[j]?.getD 0) (h : xs[k]?.getD 0 < ys[k]?.getD 0) : val xs < val ys := by
  rw [← pad_val xs N, ← pad_val ys N]
  exact val_lt_at _ _ k (by rw [pad_len lx, pad_len ly]) (pad_ok N hx) (pad_ok N hy) (by rw [pad_len lx]; exact hk) (fun j a b => by rw [pad_len lx] at b; rw [pad_get, pad_get]; exact hj j a b) (by rw [pad_get, pad_get]; exact h)
theorem pad_eq {xs ys : List Nat} {N : Nat} (lx : xs.length ≤ N) (ly : ys.length ≤ N) (hj : ∀ j, j < N → xs[j]?.getD 0 = ys[j]?.getD 0) : val xs = val ys := by
  rw [← pad_val xs N, ← pad_val ys N]
  exact congrArg val (val_eq_of (by rw [pad_len lx, pad_len ly]) (fun j b => by rw [pad_len lx] at b; rw [pad_get, pad_get]; exact hj j b))
set_option maxHeartbeats 2000000 in
set_option maxRecDepth 100000 in
theorem rcmp_any (A B : Option Addr) (c d : Nat) (xs ys : List Nat) (w : World) (h : Dg w A c xs) (h' : Dg w B d ys) (hl : xs.length ≤ 16777216) (hl' : ys.length ≤ 16777216) :
    Calls Tryd.prog 59 #[.slice A xs.length c, .slice B ys.length d] w fun e w' => e = .returned (.int .i64 (cmpi (val xs) (val ys))) ∧ w = w' := by
  have hN : ∃ N : Nat, max (xs.length : Int) (ys.length : Int) = (N : Int) ∧ xs.length ≤ N ∧ ys.length ≤ N ∧ N ≤ 16777216 := ⟨max xs.length ys.length, by omega, by omega, by omega, by omega⟩
  obtain ⟨N, eN, n1, n2, n3⟩ := hN
  have EN := Lib.hid eN
  have RX := Lib.hid (fun (k : Nat) (hk : k ≤ 9223372036854775807) => rat_any A c xs k w h hk)
  have RY := Lib.hid (fun (k : Nat) (hk : k ≤ 9223372036854775807) => rat_any B d ys k w h' hk)
  have O1 := Lib.hid h.2.1
  have O2 := Lib.hid h'.2.1
  clear eN h h'
  go_enter Tryd.func59, Tryd.ntmps59
  go_wp2
  go_loop [5] (fun i => ∃ k : Nat, k ≤ N ∧ i = .int .i64 (↑k - 1) ∧ Hid (∀ j, k ≤ j → j < N → xs[j]?.getD 0 = ys[j]?.getD 0)) (fun i => (intOf i + 1).toNat)
  case atStart => exact ⟨N, Nat.le_refl _, congrArg (Value.int .i64) (by rw [EN.out]), fun j a b => by omega⟩
  case round =>
    obtain ⟨k, hk, rfl, hz⟩ := hrel
    rcases k with _ | k
    · rw [show (((0 : Nat) : Int) - 1) = -1 from rfl]
      have HF := Lib.hid (cmpi_eq (a := val xs) (b := val ys) (pad_eq n1 n2 (fun j hj => hz j (Nat.zero_le _) hj)))
      go_wp2
      go_ret
      exact ⟨ret_i HF.out.symm, rfl⟩
    · rw [show (((k + 1 : Nat) : Int) - 1) = (k : Int) from by omega]
      have hX := getD_lt O1.out k
      have hY := getD_lt O2.out k
      have rx := Lib.hid (RX.out k (by omega))
      have ry := Lib.hid (RY.out k (by omega))
      have HJ := Lib.hid (fun j (a : k < j) (b : j < N) => hz j (by omega) b)
      rcases Nat.lt_trichotomy (xs[k]?.getD 0) (ys[k]?.getD 0) with h | h | h
      · have HF := Lib.hid (cmpi_lt (pad_lt O1.out O2.out n1 n2 (by omega) HJ.out h))
        have d0 : decide (xs[k]?.getD 0 < ys[k]?.getD 0) = true := by simp [h]
        clear h
        go_wp2_with fail
        refine rx.out.mono ?_
        rintro e w' ⟨rfl, rfl⟩
        go_wp2_with fail
        refine ry.out.mono ?_
        rintro e w' ⟨rfl, rfl⟩
        go_wp2
        go_ret
        exact ⟨ret_i HF.out.symm, rfl⟩
      · have HX := Lib.hid h
        have d0 : decide (xs[k]?.getD 0 < ys[k]?.getD 0) = false := by simp; omega
        have d1 : decide (ys[k]?.getD 0 < xs[k]?.getD 0) = false := by simp; omega
        clear h
        go_wp2_with fail
        refine rx.out.mono ?_
        rintro e w' ⟨rfl, rfl⟩
        go_wp2_with fail
        refine ry.out.mono ?_
        rintro e w' ⟨rfl, rfl⟩
        go_wp2_with fail
        refine rx.out.mono ?_
        rintro e w' ⟨rfl, rfl⟩
        go_wp2_with fail
        refine ry.out.mono ?_
        rintro e w' ⟨rfl, rfl⟩
        go_wp2
        go_round
        case rel =>
          refine ⟨k, by omega, rfl, fun j a b => ?_⟩
          rcases Nat.eq_or_lt_of_le a with e | e
          · subst e; exact HX.out
          · exact hz j (by omega) b
        case measure => simp [intOf] <;> omega
      · have HF := Lib.hid (cmpi_gt (pad_lt O2.out O1.out n2 n1 (by omega) (fun j a b => (HJ.out j a b).symm) h))
        have d0 : decide (xs[k]?.getD 0 < ys[k]?.getD 0) = false := by simp; omega
        have d1 : decide (ys[k]?.getD 0 < xs[k]?.getD 0) = true := by simp [h]
        clear h
        go_wp2_with fail
        refine rx.out.mono ?_
        rintro e w' ⟨rfl, rfl⟩
        go_wp2_with fail
        refine ry.out.mono ?_
        rintro e w' ⟨rfl, rfl⟩
        go_wp2_with fail
        refine rx.out.mono ?_
        rintro e w' ⟨rfl, rfl⟩
        go_wp2_with fail
        refine ry.out.mono ?_
        rintro e w' ⟨rfl, rfl⟩
        go_wp2
        go_ret
        exact ⟨ret_i HF.out.symm, rfl⟩
theorem rsum_step {xs ys zs : List Nat} {k s d c t : Nat} (hz : zs.length = k) (h : val zs + 4294967296 ^ k * c = val (xs.take k) + val (ys.take k))
    (hs : s + 4294967296 * d = xs[k]?.getD 0 + ys[k]?.getD 0 + c) (ht : t = s) : val (zs ++ [t]) + 4294967296 ^ (k + 1) * d = val (xs.take (k + 1)) + val (ys.take (k + 1)) := by
  subst ht
  rw [val_take_step, val_take_step, val_snoc, hz, Nat.pow_succ]
  have : 4294967296 ^ k * t + 4294967296 ^ k * 4294967296 * d = 4294967296 ^ k * (xs[k]?.getD 0) + 4294967296 ^ k * (ys[k]?.getD 0) + 4294967296 ^ k * c := by
    rw [Nat.mul_assoc, ← Nat.mul_add, hs, Nat.mul_add, Nat.mul_add]
  omega
theorem sum_end {a b c p q z : Nat} (h : c + p * z = a + b) (ha : a < q) (hb : b < q) (hp : 2 * q ≤ p) : c = a + b := by
  rcases z with _ | z
  · omega
  · have : p ≤ p * (z + 1) := Nat.le_mul_of_pos_right _ (by omega)
    omega
theorem pow_twice (N : Nat) : 2 * 4294967296 ^ N ≤ 4294967296 ^ (N + 1) := by
  rw [Nat.pow_succ]
  have := Nat.mul_le_mul_left (4294967296 ^ N) (show 2 ≤ 4294967296 by omega)
  rw [Nat.mul_comm 2]
  exact this
theorem rsum_end {xs ys zs : List Nat} {N z : Nat} (o1 : ok32 xs) (o2 : ok32 ys) (n1 : xs.length ≤ N) (n2 : ys.length ≤ N) (h : val zs + 4294967296 ^ (N + 1) * z = val (xs.take (N + 1)) + val (ys.take (N + 1))) : val zs = val xs + val ys := by
  rw [List.take_of_length_le (by omega), List.take_of_length_le (by omega)] at h
  exact sum_end h (Nat.lt_of_lt_of_le (val_lt o1) (Nat.pow_le_pow_right (by omega) n1)) (Nat.lt_of_lt_of_le (val_lt o2) (Nat.pow_le_pow_right (by omega) n2)) (pow_twice N)
theorem ok_snoc {zs : List Nat} (h : ok32 zs) {x : Nat} (hx : x < 4294967296) : ok32 (zs ++ [x]) := by
  intro z hz
  rcases List.mem_append.1 hz with hz | hz
  · exact h z hz
  · simp at hz; omega
theorem own_snoc {w : World} {base : Nat} {e : TypeId} {v : Value} {k : Nat} {zs : List Nat} {x : Int} {t : Nat} (h : w.ownsRow base e 1 v (k + 1) (cells zs ++ [.int .u32 x])) (hx : x = (t : Int)) : w.ownsRow base e 1 v (k + 1) (cells (zs ++ [t])) := by
  subst hx
  simpa [cells] using h
theorem cell_new (w : World) (x : Value) (t : TypeId) : ∀ j u, [x][j]? = some u → (w.alloc (.cells #[x] t)).cell? ((⟨w.heap.size, 0, none⟩ : Addr).add j) = some u := by
  intro j u hj
  match j, hj with
  | 0, hj =>
    simp at hj; subst hj
    rw [Addr.add_lit, cell_of_row _ _ _ _ _ _ (heap_alloc_new w _)]
    rfl
set_option maxHeartbeats 4000000 in
set_option maxRecDepth 100000 in
theorem radd_any (A B : Option Addr) (c d : Nat) (xs ys : List Nat) (w : World) (h : Dg w A c xs) (h' : Dg w B d ys) (hl : xs.length ≤ 1048576) (hl' : ys.length ≤ 1048576) :
    Calls Tryd.prog 47 #[.slice A xs.length c, .slice B ys.length d] w fun e w' => ∃ A' c', e = .returned (.slice A' (digs (val xs + val ys)).length c') ∧ Dg w' A' c' (digs (val xs + val ys)) ∧ Below w.heap.size w w' := by
  have hN : ∃ N : Nat, max (xs.length : Int) (ys.length : Int) = (N : Int) ∧ xs.length ≤ N ∧ ys.length ≤ N ∧ N ≤ 1048576 := ⟨max xs.length ys.length, by omega, by omega, by omega, by omega⟩
  obtain ⟨N, eN, n1, n2, n3⟩ := hN
  obtain ⟨i0, hinf, hz0, hz1, hz2⟩ := info_parts elem_info
  have H := Lib.hid h
  have H' := Lib.hid h'
  have O1 := Lib.hid h.2.1
  have O2 := Lib.hid h'.2.1
  clear h h'
  go_enter Tryd.func47, Tryd.ntmps47
  go_wp2
  go_loopw [5, 6, 7] (fun v cy i wr => ∃ (k z : Nat) (zs : List Nat), k ≤ N + 1 ∧ i = .int .i64 k ∧ cy = .int .u64 z ∧ z ≤ 1 ∧ wr.ownsRow w.heap.size 75 1 v k (cells zs) ∧ Hid (zs.length = k) ∧ ok32 zs ∧
    Hid (val zs + 4294967296 ^ k * z = val (xs.take k) + val (ys.take k)) ∧ Below w.heap.size w wr) (fun _ _ i _ => N + 1 - (intOf i).toNat)
  case atStart => exact ⟨0, 0, [], Nat.zero_le _, rfl, rfl, by omega, World.ownsRow_nil _ _ _ _, by simp [Hid], by intro x hx; simp at hx, by simp [Hid, val], Below.refl _ _⟩
  case round =>
    obtain ⟨k, z, zs, hk, rfl, rfl, hz, hown, HL, hok, HE, hbel⟩ := hrel
    by_cases hlt : k < N + 1
    · have d0 : decide ((k : Int) < max (xs.length : Int) (ys.length : Int) + 1) = true := by rw [eN]; simp; omega
      have rx := Lib.hid (rat_any A c xs k wr (H.out.keep hbel.size (fun b o h => hbel.cell (p := ⟨b, o, none⟩) h)) (by omega))
      have ry := Lib.hid (rat_any B d ys k wr (H'.out.keep hbel.size (fun b o h => hbel.cell (p := ⟨b, o, none⟩) h)) (by omega))
      have hX := getD_lt O1.out k
      have hY := getD_lt O2.out k
      generalize ex : xs[k]?.getD 0 = x at *
      generalize ey : ys[k]?.getD 0 = y at *
      have HX := Lib.hid ex
      have HY := Lib.hid ey
      clear ex ey eN
      go_wp2_with fail
      refine rx.out.mono ?_
      rintro e w' ⟨rfl, rfl⟩
      go_wp2_with fail
      refine ry.out.mono ?_
      rintro e w' ⟨rfl, rfl⟩
      go_wp2_with (at_builtin; refine wpList_append_own _ rfl _ _ 22 rfl w.heap.size 75 i0 (.int .u32 0) 1 4 Tryd.underlying22 hinf hz0 hz1 hz2 rfl (by decide) _ _ _ rfl (hown.alloc _) ⟨wr.heap.size, 0, none⟩ 1 1 [.int .u32 (((x : Int) + y + z) % 4294967296)] rfl rfl (cell_new _ _ _) (fun u hu => by simp at hu; subst hu; rfl) (by unfold maxLen; omega) (by omega) (by have := hbel.size; simp; omega) ?_)
      intro v' w1 hown1 hgrow hnil
      have e1 : ((x : Int) + y + z) % 4294967296 = (lo (x + y + z) : Nat) := by unfold lo; omega
      have hown2 := Lib.hid (own_snoc hown1 e1)
      have hb1 := Lib.hid ((hbel.alloc hbel.size _).grown hgrow (by simp; have := hbel.size; omega) (fun g hg => (hown.lt g hg).1))
      clear hown1 hgrow hnil hown e1
      go_wp2
      go_roundw
      case rel =>
        have hp := lo_hi (x + y + z)
        have hq := lo_lt (x + y + z)
        have e2 : ((x : Int) + y + z) / 4294967296 = (hi (x + y + z) : Nat) := by unfold hi; omega
        exact ⟨k + 1, hi (x + y + z), zs ++ [lo (x + y + z)], hlt, by go_num, by rw [e2], by omega, hown2.out, by have := HL.out; simp [Hid]; omega, ok_snoc hok hq,
          rsum_step HL.out HE.out (by rw [HX.out, HY.out]; exact hp) rfl, hb1.out⟩
      case measure => simp [intOf]; omega
    · have hk' : k = N + 1 := by omega
      have d0 : decide ((k : Int) < max (xs.length : Int) (ys.length : Int) + 1) = false := by rw [eN]; simp; omega
      obtain ⟨A2, c2, hv, hd⟩ := dg_of_own hown hok
      have HV := Lib.hid (show val zs = val xs + val ys from by
        have h1 := HE.out
        rw [hk'] at h1
        exact rsum_end O1.out O2.out n1 n2 h1)
      have HD := Lib.hid (rtrim_any A2 c2 zs wr hd (by have := HL.out; omega))
      rw [HV.out] at HD
      subst hv
      clear hown hd eN hlt
      go_wp2_with fail
      refine HD.out.mono ?_
      rintro e w2 ⟨A3, c3, rfl, h3, hb3⟩
      have H3 := Lib.hid h3
      have HB3 := Lib.hid hb3
      clear h3 hb3
      go_wp2
      go_ret
      exact ⟨A3, c3, rfl, H3.out, hbel.trans (HB3.out.mono hbel.size)⟩
end Go.Proofs.YthgkdpfkaobgoaaDoor
end

section
/-
  The reference's own text (astrolaberef01): Sub, Mul.
-/
namespace Go.Proofs.YthgkdpfkaobgoaaDoor
open Go.RowKit
theorem rsub_step {xs ys zs : List Nat} {k s d c t : Nat} (hz : zs.length = k) (h : val (xs.take k) + 4294967296 ^ k * c = val zs + val (ys.take k))
    (hs : s + ys[k]?.getD 0 + c = xs[k]?.getD 0 + 4294967296 * d) (ht : t = s) : val (xs.take (k + 1)) + 4294967296 ^ (k + 1) * d = val (zs ++ [t]) + val (ys.take (k + 1)) := by
  subst ht
  rw [val_take_step, val_take_step, val_snoc, hz, Nat.pow_succ]
  have : 4294967296 ^ k * (xs[k]?.getD 0) + 4294967296 ^ k * 4294967296 * d = 4294967296 ^ k * t + 4294967296 ^ k * (ys[k]?.getD 0) + 4294967296 ^ k * c := by
    rw [Nat.mul_assoc, ← Nat.mul_add, ← hs, Nat.mul_add, Nat.mul_add]
  omega
theorem rsub_end {xs ys zs : List Nat} {d : Nat} (o1 : ok32 xs) (o2 : ok32 ys) (o3 : ok32 zs) (hz : zs.length = xs.length) (hle : val ys ≤ val xs) (h : val (xs.take xs.length) + 4294967296 ^ xs.length * d = val zs + val (ys.take xs.length)) : val zs = val xs - val ys := by
  have hy : val (ys.take xs.length) = val ys := by
    rw [val_take_mod o2, Nat.mod_eq_of_lt (Nat.lt_of_le_of_lt hle (val_lt o1))]
  rw [List.take_of_length_le (Nat.le_refl _), hy] at h
  exact sub_end h (by rw [← hz]; exact val_lt o3) hle
set_option maxHeartbeats 1000000 in
set_option maxRecDepth 100000 in
theorem rsub_no (A B : Option Addr) (c d : Nat) (xs ys : List Nat) (w : World) (h : Dg w A c xs) (h' : Dg w B d ys) (hl : xs.length ≤ 1048576) (hl' : ys.length ≤ 1048576) (hlt : val xs < val ys) :
    Calls Tryd.prog 48 #[.slice A xs.length c, .slice B ys.length d] w fun e w' => e = .returned (.tuple #[.slice none 0 0, .bool false]) ∧ w = w' := by
  have HC := Lib.hid (rcmp_any A B c d xs ys w h h' (by omega) (by omega))
  rw [cmpi_lt hlt] at HC
  clear h h' hlt
  go_enter Tryd.func48, Tryd.ntmps48
  go_wp2_with fail
  refine HC.out.mono ?_
  rintro e w' ⟨rfl, rfl⟩
  go_wp2
  go_ret2
  exact ⟨rfl, rfl⟩
set_option maxHeartbeats 4000000 in
set_option maxRecDepth 100000 in
theorem rsub_f (A B : Option Addr) (c d : Nat) (xs ys : List Nat) (w : World) (h : Dg w A c xs) (h' : Dg w B d ys) (hl : xs.length ≤ 1048576) (hl' : ys.length ≤ 1048576) (hge : val ys ≤ val xs) :
    Calls Tryd.prog 48 #[.slice A xs.length c, .slice B ys.length d] w fun e w' => ∃ A' c', e = .returned (.tuple #[.slice A' (digs (val xs - val ys)).length c', .bool true]) ∧ Dg w' A' c' (digs (val xs - val ys)) ∧ Below w.heap.size w w' ∧ Fr w.heap.size A' := by
  obtain ⟨i0, hinf, hz0, hz1, hz2⟩ := info_parts elem_info
  have HC := Lib.hid (rcmp_any A B c d xs ys w h h' (by omega) (by omega))
  have H := Lib.hid h
  have H' := Lib.hid h'
  have O1 := Lib.hid h.2.1
  have O2 := Lib.hid h'.2.1
  have HG := Lib.hid hge
  have hc0 : 0 ≤ cmpi (val xs) (val ys) := by
    rcases Nat.lt_or_ge (val ys) (val xs) with h | h
    · rw [cmpi_gt h]; omega
    · rw [cmpi_eq (by omega)]; omega
  clear h h' hge
  generalize cmpi (val xs) (val ys) = q at *
  have hq : decide (q < 0) = false := by simp; omega
  go_enter Tryd.func48, Tryd.ntmps48
  go_wp2_with fail
  refine HC.out.mono ?_
  rintro e w' ⟨rfl, rfl⟩
  go_wp2
  go_loopw [6, 7, 8] (fun v cy i wr => ∃ (k z : Nat) (zs : List Nat), k ≤ xs.length ∧ i = .int .i64 k ∧ cy = .int .u64 z ∧ z ≤ 1 ∧ wr.ownsRow w.heap.size 75 1 v k (cells zs) ∧ Hid (zs.length = k) ∧ ok32 zs ∧
    Hid (val (xs.take k) + 4294967296 ^ k * z = val zs + val (ys.take k)) ∧ Below w.heap.size w wr) (fun _ _ i _ => xs.length - (intOf i).toNat)
  case atStart => exact ⟨0, 0, [], Nat.zero_le _, rfl, rfl, by omega, World.ownsRow_nil _ _ _ _, by simp [Hid], by intro x hx; simp at hx, by simp [Hid, val], Below.refl _ _⟩
  case round =>
    obtain ⟨k, z, zs, hk, rfl, rfl, hz, hown, HL, hok, HE, hbel⟩ := hrel
    by_cases hlt : k < xs.length
    · have rx := Lib.hid (rat_any A c xs k wr (H.out.keep hbel.size (fun b o h => hbel.cell (p := ⟨b, o, none⟩) h)) (by omega))
      have ry := Lib.hid (rat_any B d ys k wr (H'.out.keep hbel.size (fun b o h => hbel.cell (p := ⟨b, o, none⟩) h)) (by omega))
      have hX := getD_lt O1.out k
      have hY := getD_lt O2.out k
      generalize ex : xs[k]?.getD 0 = x at *
      generalize ey : ys[k]?.getD 0 = y at *
      have HX := Lib.hid ex
      have HY := Lib.hid ey
      clear ex ey
      go_wp2_with fail
      refine rx.out.mono ?_
      rintro e w' ⟨rfl, rfl⟩
      go_wp2_with fail
      refine ry.out.mono ?_
      rintro e w' ⟨rfl, rfl⟩
      go_wp2_with (at_builtin; refine wpList_append_own _ rfl _ _ 22 rfl w.heap.size 75 i0 (.int .u32 0) 1 4 Tryd.underlying22 hinf hz0 hz1 hz2 rfl (by decide) _ _ _ rfl (hown.alloc _) ⟨wr.heap.size, 0, none⟩ 1 1 [.int .u32 (((x : Int) + 4294967296 - y - z) % 4294967296)] rfl rfl (cell_new _ _ _) (fun u hu => by simp at hu; subst hu; rfl) (by unfold maxLen; omega) (by omega) (by have := hbel.size; simp; omega) ?_)
      intro v' w1 hown1 hgrow hnil
      obtain ⟨hp, hq1, hq2⟩ := sub_parts hX hY hz
      have e1 : ((x : Int) + 4294967296 - y - z) % 4294967296 = (sublo x y z : Nat) := by unfold sublo; omega
      have e2 : 1 - ((x : Int) + 4294967296 - y - z) / 4294967296 = (subhi x y z : Nat) := by unfold subhi; split <;> omega
      have hown2 := Lib.hid (own_snoc hown1 e1)
      have HE2 := Lib.hid e2
      have HP := Lib.hid hp
      have hb1 := Lib.hid ((hbel.alloc hbel.size _).grown hgrow (by simp; have := hbel.size; omega) (fun g hg => (hown.lt g hg).1))
      clear hown1 hgrow hnil hown e1 e2 hp
      go_wp2
      go_roundw
      case rel =>
        exact ⟨k + 1, subhi x y z, zs ++ [sublo x y z], hlt, by go_num, by rw [HE2.out], by omega, hown2.out, by have := HL.out; simp [Hid]; omega, ok_snoc hok hq1,
          rsub_step HL.out HE.out (by rw [HX.out, HY.out]; exact HP.out) rfl, hb1.out⟩
      case measure => simp [intOf]; omega
    · have hk' : k = xs.length := by omega
      subst hk'
      obtain ⟨A2, c2, hv, hd⟩ := dg_of_own hown hok
      have HV := Lib.hid (rsub_end O1.out O2.out hok HL.out HG.out HE.out)
      have HD := Lib.hid (rtrim_f A2 c2 zs wr hd (by have := HL.out; omega))
      rw [HV.out] at HD
      subst hv
      clear hown hd hlt
      go_wp2_with fail
      refine HD.out.mono ?_
      rintro e w2 ⟨A3, c3, rfl, h3, hb3, hf3⟩
      have HF3 := Lib.hid hf3
      have H3 := Lib.hid h3
      have HB3 := Lib.hid hb3
      clear h3 hb3 hf3
      go_wp2
      go_ret2
      exact ⟨A3, c3, rfl, H3.out, hbel.trans (HB3.out.mono hbel.size), fun b o e => Nat.le_trans hbel.size (HF3.out b o e)⟩
theorem rsub_yes (A B : Option Addr) (c d : Nat) (xs ys : List Nat) (w : World) (h : Dg w A c xs) (h' : Dg w B d ys) (hl : xs.length ≤ 1048576) (hl' : ys.length ≤ 1048576) (hge : val ys ≤ val xs) :
    Calls Tryd.prog 48 #[.slice A xs.length c, .slice B ys.length d] w fun e w' => ∃ A' c', e = .returned (.tuple #[.slice A' (digs (val xs - val ys)).length c', .bool true]) ∧ Dg w' A' c' (digs (val xs - val ys)) ∧ Below w.heap.size w w' :=
  (rsub_f A B c d xs ys w h h' hl hl' hge).mono fun _ _ ⟨A', c', h1, h2, h3, _⟩ => ⟨A', c', h1, h2, h3⟩
end Go.Proofs.YthgkdpfkaobgoaaDoor
end

section
/-
  The reference's own text (astrolaberef01): Mul.
-/
namespace Go.Proofs.YthgkdpfkaobgoaaDoor
open Go.RowKit
theorem Row.new_zeros (w : World) (n : Nat) : Row (w.alloc (.cells (madeCells #[.int .u32 0] n) 75)) w.heap.size (List.replicate n 0) := Row.made w n
set_option maxHeartbeats 4000000 in
set_option maxRecDepth 100000 in
theorem rmul_any (A B : Option Addr) (c d : Nat) (xs ys : List Nat) (w : World) (h : Dg w A c xs) (h' : Dg w B d ys) (hl : xs.length ≤ 1048576) (hl' : ys.length ≤ 1048576) :
    Calls Tryd.prog 50 #[.slice A xs.length c, .slice B ys.length d] w fun e w' => ∃ A' c', e = .returned (.slice A' (digs (val xs * val ys)).length c') ∧ Dg w' A' c' (digs (val xs * val ys)) ∧ Below w.heap.size w w' := by
  have H := Lib.hid h
  have H' := Lib.hid h'
  have O1 := Lib.hid h.2.1
  have O2 := Lib.hid h'.2.1
  clear h h'
  have hmk := run_make_row' (P := Tryd.prog) 22 75 (.int .u32 0) 4 Tryd.underlying22 elem_info rfl .i64 .i64 (xs.length + ys.length) (by omega) (by omega)
  rw [show ((xs.length + ys.length : Nat) : Int) = (xs.length : Int) + (ys.length : Int) by omega] at hmk
  go_enter Tryd.func50, Tryd.ntmps50
  go_wp2
  go_loopw [6] (fun i wr => ∃ (k : Nat) (zs : List Nat), k ≤ xs.length ∧ i = .int .i64 k ∧ Row wr w.heap.size zs ∧ Hid (zs.length = xs.length + ys.length) ∧ ok32 zs ∧
    Hid (val (zs.take (k + ys.length)) = val (xs.take k) * val ys) ∧ Below w.heap.size w wr) (fun i _ => xs.length - (intOf i).toNat)
  case atStart => exact ⟨0, List.replicate (xs.length + ys.length) 0, Nat.zero_le _, rfl, Row.made _ _, by simp [Hid], ok_zeros _, by simp [Hid, val, List.take_replicate, val_zeros], (Below.refl _ _).alloc (Nat.le_refl _) _⟩
  case round =>
    obtain ⟨i, z0, hix, rfl, hrow0, HL0, hok0, HE0, hbel0⟩ := hrel
    by_cases hlt : i < xs.length
    · obtain ⟨b, off, hA, hb, hcx⟩ := H.out.2.2 (by omega)
      have hx0 := hcx i (by omega)
      have hX := getD_lt O1.out i
      generalize ex : xs[i]?.getD 0 = x at *
      have HX := Lib.hid ex
      clear ex hcx
      subst hA
      have HR0 := Lib.hid hrow0
      have HB0 := Lib.hid hbel0
      have hsz := hbel0.size
      clear hrow0 hbel0
      obtain ⟨wo, rfl⟩ : ∃ wo : World, wo = wr := ⟨_, rfl⟩
      go_wp2
      go_loopw [7, 8] (fun cy kk wr => ∃ (k cc : Nat) (zs : List Nat), k ≤ ys.length ∧ kk = .int .i64 k ∧ cy = .int .u64 cc ∧ cc < 4294967296 ∧ Row wr w.heap.size zs ∧ Hid (zs.length = z0.length) ∧ ok32 zs ∧ Hid (∀ j, i + k ≤ j → zs[j]? = z0[j]?) ∧
        Hid (val (zs.take (i + k)) + 4294967296 ^ (i + k) * cc = val (z0.take (i + k)) + 4294967296 ^ i * (val (ys.take k) * x)) ∧ Below w.heap.size wo wr) (fun _ kk _ => ys.length - (intOf kk).toNat)
      case atStart => exact ⟨0, 0, z0, Nat.zero_le _, rfl, rfl, by omega, HR0.out, by simp [Hid], hok0, by simp [Hid], by simp [Hid, val], Below.refl _ _⟩
      case round =>
        obtain ⟨k, cc, zs, hk, rfl, rfl, hc, hrow, HL, hok, HJ, HE, hbel⟩ := hrel
        have hx := ((HB0.out.trans hbel).cell (p := ⟨b, off + i, none⟩) hb).trans hx0
        by_cases hlk : k < ys.length
        · obtain ⟨b', off', hB, hb', hcy⟩ := H'.out.2.2 (by omega)
          have hy := ((HB0.out.trans hbel).cell (p := ⟨b', off' + k, none⟩) hb').trans (hcy k (by omega))
          have hY := getD_lt O2.out k
          have hcell := hrow.cell (i := i + k) (by have := HL.out; have := HL0.out; omega)
          have hfr := hrow.frozen (i + k)
          have hZ := getD_lt hok (i + k)
          generalize ez : zs[i + k]?.getD 0 = z at *
          generalize ey : ys[k]?.getD 0 = y at *
          have HZ := Lib.hid ez
          have HY := Lib.hid ey
          have hp0 : 0 ≤ (x : Int) * (y : Int) := by rw [← Int.natCast_mul]; omega
          have hpn : x * y ≤ 18446744065119617025 := Nat.le_trans (Nat.mul_le_mul (Nat.le_of_lt_succ hX) (Nat.le_of_lt_succ hY)) (by decide)
          have hp1 : (x : Int) * (y : Int) ≤ 18446744065119617025 := by rw [← Int.natCast_mul]; omega
          have hki : (i : Int) + (k : Int) < (xs.length : Int) + (ys.length : Int) := by omega
          have hk0 : (0 : Int) ≤ (i : Int) + (k : Int) := by omega
          have hw : IntKind.i64.wrap ((i : Int) + (k : Int)) = (i : Int) + (k : Int) := IntWalk.i64_in _ (by omega)
          clear ez ey hcy hpn
          subst hB
          go_wp2
          go_quiet (fail)
          go_wp2
          go_roundw
          case rel =>
            have ep : (x : Int) * (y : Int) = ((y * x : Nat) : Int) := by rw [← Int.natCast_mul, Nat.mul_comm]
            have e1 : ((x : Int) * (y : Int) + (z : Int) + (cc : Int)) % 4294967296 = (lo (z + y * x + cc) : Nat) := by rw [ep]; unfold lo; omega
            have e2 : ((x : Int) * (y : Int) + (z : Int) + (cc : Int)) / 4294967296 = (hi (z + y * x + cc) : Nat) := by rw [ep]; unfold hi; omega
            have hlh := lo_hi (z + y * x + cc)
            have hlo := lo_lt (z + y * x + cc)
            have hyx : y * x ≤ 18446744065119617025 := by have : ((y * x : Nat) : Int) ≤ 18446744065119617025 := by rw [← ep]; exact hp1
                                                          omega
            have hhi : hi (z + y * x + cc) < 4294967296 := by unfold hi; omega
            have hl1 := HL.out
            have hl0 := HL0.out
            refine ⟨k + 1, hi (z + y * x + cc), zs.set (i + k) (lo (z + y * x + cc)), hlk, by go_num, by rw [e2], hhi, (hrow.drewN _).set_int e1, by simp only [List.length_set]; exact HL, ok_set hok hlo _, fun j hj => ?_, ?_, ?_⟩
            · rw [get_set_other (by omega)]; exact HJ.out j (by omega)
            · refine row_step (by omega) (by omega) hlk hl1 HE.out ?_ rfl
              rw [← HJ.out _ (Nat.le_refl _), HZ.out, HY.out]
              exact hlh
            · exact (below_drewN hbel _).setCell (by simp) _
          case measure => simp [intOf]; omega
        · have hk' : k = ys.length := by omega
          subst hk'
          have hcell := hrow.cell (i := i + ys.length) (by have := HL.out; have := HL0.out; omega)
          have hfr := hrow.frozen (i + ys.length)
          have hki : (i : Int) + (ys.length : Int) < (xs.length : Int) + (ys.length : Int) := by omega
          have hk0 : (0 : Int) ≤ (i : Int) + (ys.length : Int) := by omega
          clear hlk
          go_wp2
          go_roundw
          case rel =>
            have hl1 := HL.out
            have hl0 := HL0.out
            have hE := HE.out
            rw [List.take_of_length_le (Nat.le_refl ys.length)] at hE
            have e1 : (cc : Int) % 4294967296 = (cc : Nat) := by omega
            exact ⟨i + 1, zs.set (i + ys.length) cc, hlt, by go_num, by first | exact hrow.set_ _ _ | exact hrow.set_int e1, by simp only [List.length_set]; exact hl1.trans hl0, ok_set hok hc _,
              mul_step (by omega) hl1 hlt HE0.out (by rw [HX.out]; exact hE), (HB0.out.trans hbel).setCell (by simp) _⟩
          case measure => simp [intOf]; omega
    · have hk' : i = xs.length := by omega
      subst hk'
      have HV := Lib.hid (show val z0 = val xs * val ys from by
        have := HE0.out
        rw [List.take_of_length_le (Nat.le_refl xs.length), List.take_of_length_le (by have := HL0.out; omega : z0.length ≤ xs.length + ys.length)] at this
        exact this)
      have HD := Lib.hid (rtrim_any (some ⟨w.heap.size, 0, none⟩) (xs.length + ys.length) z0 wr (hrow0.dg hok0 (by have := HL0.out; omega)) (by have := HL0.out; omega))
      rw [HV.out] at HD
      have HLZ := HL0.out
      rw [HLZ] at HD
      clear hlt HLZ
      go_wp2_with fail
      refine HD.out.mono ?_
      rintro e w2 ⟨A3, c3, rfl, h3, hb3⟩
      have H3 := Lib.hid h3
      have HB3 := Lib.hid hb3
      clear h3 hb3
      go_wp2
      go_ret
      exact ⟨A3, c3, rfl, H3.out, hbel0.trans (HB3.out.mono hbel0.size)⟩
end Go.Proofs.YthgkdpfkaobgoaaDoor
end

section
/-
  The reference's own text (astrolaberef01): Shl, Shr.
-/
namespace Go.Proofs.YthgkdpfkaobgoaaDoor
open Go.RowKit
theorem rshl_or (x c p : Nat) (hx : x < 4294967296) (hc : c < 2 ^ p) (hp : p < 32) :
    bits BinOp.or IntKind.u64 (IntKind.u64.wrap ((x : Int) * 2 ^ p)) (c : Int) = ((x * 2 ^ p + c : Nat) : Int) ∧ x * 2 ^ p + c < 18446744073709551616 := by
  have hpl : 2 ^ p < 4294967296 := Nat.pow_lt_pow_right (by omega) (by omega : p < 32)
  have hm : x * 2 ^ p ≤ 4294967295 * 4294967295 := Nat.mul_le_mul (by omega) (by omega)
  have e : IntKind.u64.wrap ((x : Int) * 2 ^ p) = ((x * 2 ^ p : Nat) : Int) := by
    have e1 : (x : Int) * 2 ^ p = ((x * 2 ^ p : Nat) : Int) := by rw [Int.natCast_mul, Int.natCast_pow]; rfl
    have e2 : ∀ m : Int, IntKind.u64.wrap m = m % 18446744073709551616 := fun m => by simp [IntKind.wrap, IntKind.bits, IntKind.signed]
    rw [e1, e2]; omega
  refine ⟨?_, by omega⟩
  rw [e, u64_or_nat _ _ (by omega) (by omega), nat_join p _ _ (Nat.mul_mod_left _ _) hc]
theorem rshl_step {zs xs : List Nat} {k W p c t d : Nat} (hz : zs.length = W + k) (h : val zs + 4294967296 ^ (W + k) * c = 4294967296 ^ W * (val (xs.take k) * 2 ^ p))
    (hs : t + 4294967296 * d = (xs[k]?.getD 0) * 2 ^ p + c) : val (zs ++ [t]) + 4294967296 ^ (W + (k + 1)) * d = 4294967296 ^ W * (val (xs.take (k + 1)) * 2 ^ p) := by
  rw [← Nat.add_assoc, val_take_step, val_snoc, hz, Nat.pow_succ, Nat.add_mul, Nat.mul_add, ← h]
  have e1 : 4294967296 ^ W * (4294967296 ^ k * (xs[k]?.getD 0) * 2 ^ p) = 4294967296 ^ (W + k) * (xs[k]?.getD 0 * 2 ^ p) := by
    rw [Nat.pow_add, Nat.mul_assoc, Nat.mul_assoc]
  have e2 : 4294967296 ^ (W + k) * t + 4294967296 ^ (W + k) * 4294967296 * d = 4294967296 ^ (W + k) * (xs[k]?.getD 0 * 2 ^ p) + 4294967296 ^ (W + k) * c := by
    rw [Nat.mul_assoc, ← Nat.mul_add, hs, Nat.mul_add]
  rw [e1]
  omega
theorem own_zeros {w : World} {e : TypeId} (n : Nat) (hm : n ≤ maxLen) : (w.alloc (.cells (madeCells #[.int .u32 0] n) e)).ownsRow w.heap.size e 1 (.slice (some ⟨w.heap.size, 0, none⟩) n n) n (cells (List.replicate n 0)) := by
  refine ⟨by simp [cells], .inr ⟨w.heap.size, n, madeCells #[.int .u32 0] n, rfl, Nat.le_refl _, heap_alloc_new w _, Nat.le_refl _, hm, by simp [size_madeCells], ?_⟩⟩
  apply List.ext_getElem
  · simp [madeCells, cells]
  · intro i h1 h2
    simp [madeCells, cells, Nat.mod_one]
set_option maxHeartbeats 1000000 in
set_option maxRecDepth 100000 in
theorem rshl_no (A : Option Addr) (c : Nat) (xs : List Nat) (n : Int) (w : World) (hn : n < 0 ∨ 100000 < n) :
    Calls Tryd.prog 67 #[.slice A xs.length c, .int .i64 n] w fun e w' => e = .returned (.tuple #[.slice none 0 0, .bool false]) ∧ w = w' := by
  by_cases h : n < 0
  · have d0 : decide (n < 0) = true := by simp [h]
    go_enter Tryd.func67, Tryd.ntmps67
    go_wp2
    go_ret2
    exact ⟨rfl, rfl⟩
  · have d0 : decide (n < 0) = false := by simp; omega
    have d1 : decide (100000 < n) = true := by simp; omega
    clear h hn
    go_enter Tryd.func67, Tryd.ntmps67
    go_wp2
    go_ret2
    exact ⟨rfl, rfl⟩
set_option maxHeartbeats 4000000 in
set_option maxRecDepth 100000 in
theorem rshl_any (A : Option Addr) (c : Nat) (xs : List Nat) (n : Nat) (w : World) (h : Dg w A c xs) (hl : xs.length ≤ 1048576) (hn : n ≤ 100000) :
    Calls Tryd.prog 67 #[.slice A xs.length c, .int .i64 n] w fun e w' => ∃ A' c', e = .returned (.tuple #[.slice A' (digs (val xs * 2 ^ n)).length c', .bool true]) ∧ Dg w' A' c' (digs (val xs * 2 ^ n)) ∧ Below w.heap.size w w' := by
  obtain ⟨i0, hinf, hz0, hz1, hz2⟩ := info_parts elem_info
  have H := Lib.hid h
  have O1 := Lib.hid h.2.1
  have HP := Lib.hid (pow_parts n)
  clear h
  have d0 : decide ((n : Int) < 0) = false := by simp
  have d1 : decide (100000 < (n : Int)) = false := by simp; omega
  have hmk := run_make_row' (P := Tryd.prog) 22 75 (.int .u32 0) 4 Tryd.underlying22 elem_info rfl .i64 .i64 (n / 32) (by omega) (by omega)
  rw [show ((n / 32 : Nat) : Int) = (n : Int) / 32 by omega] at hmk
  go_enter Tryd.func67, Tryd.ntmps67
  go_wp2
  go_loopw [6, 7, 8] (fun v cy i wr => ∃ (k z : Nat) (zs : List Nat), k ≤ xs.length ∧ i = .int .i64 k ∧ cy = .int .u64 z ∧ Hid (z < 2 ^ (n % 32)) ∧ z < 4294967296 ∧ wr.ownsRow w.heap.size 75 1 v (n / 32 + k) (cells zs) ∧ Hid (zs.length = n / 32 + k) ∧ ok32 zs ∧
    Hid (val zs + 4294967296 ^ (n / 32 + k) * z = 4294967296 ^ (n / 32) * (val (xs.take k) * 2 ^ (n % 32))) ∧ Below w.heap.size w wr) (fun _ _ i _ => xs.length - (intOf i).toNat)
  case atStart => exact ⟨0, 0, List.replicate (n / 32) 0, Nat.zero_le _, rfl, rfl, Nat.pow_pos (by omega), by omega, own_zeros _ (by unfold maxLen; omega), by simp [Hid], ok_zeros _, by simp [Hid, val, val_zeros], (Below.refl _ _).alloc (Nat.le_refl _) _⟩
  case round =>
    obtain ⟨k, z, zs, hk, rfl, rfl, hz, hz', hown, HL, hok, HE, hbel⟩ := hrel
    by_cases hlt : k < xs.length
    · obtain ⟨b, off, hA, hb, hcx⟩ := H.out.2.2 (by omega)
      have hx := (hbel.cell (p := ⟨b, off + k, none⟩) hb).trans (hcx k (by omega))
      have hX := getD_lt O1.out k
      generalize ex : xs[k]?.getD 0 = x at *
      have HX := Lib.hid ex
      clear ex hcx
      subst hA
      obtain ⟨ho, hs64⟩ := rshl_or x z (n % 32) hX hz (by omega)
      have hcd : x * 2 ^ (n % 32) + z < 4294967296 * 2 ^ (n % 32) := by
        have : x * 2 ^ (n % 32) + 2 ^ (n % 32) ≤ 4294967296 * 2 ^ (n % 32) := by
          calc x * 2 ^ (n % 32) + 2 ^ (n % 32) = (x + 1) * 2 ^ (n % 32) := by rw [Nat.add_mul, Nat.one_mul]
            _ ≤ 4294967296 * 2 ^ (n % 32) := Nat.mul_le_mul_right _ hX
        have := hz
        unfold Hid at this
        omega
      obtain ⟨s, hs⟩ : ∃ s, s = x * 2 ^ (n % 32) + z := ⟨_, rfl⟩
      rw [← hs] at ho hs64 hcd
      have HS := Lib.hid hs
      have HO := Lib.hid ho
      have HCD := Lib.hid hcd
      clear hs ho hcd
      go_upto_region 9 with fail
      rw [HO.out]
      go_wp2_with (at_builtin; refine wpList_append_own _ rfl _ _ 22 rfl w.heap.size 75 i0 (.int .u32 0) 1 4 Tryd.underlying22 hinf hz0 hz1 hz2 rfl (by decide) _ _ _ rfl (hown.alloc _) ⟨wr.heap.size, 0, none⟩ 1 1 [.int .u32 ((s : Int) % 4294967296)] rfl rfl (cell_new _ _ _) (fun u hu => by simp at hu; subst hu; rfl) (by unfold maxLen; omega) (by omega) (by have := hbel.size; simp; omega) ?_)
      intro v' w1 hown1 hgrow hnil
      have e1 : (s : Int) % 4294967296 = (lo s : Nat) := by unfold lo; omega
      have hown2 := Lib.hid (own_snoc hown1 e1)
      have hb1 := Lib.hid ((hbel.alloc hbel.size _).grown hgrow (by simp; have := hbel.size; omega) (fun g hg => (hown.lt g hg).1))
      clear hown1 hgrow hnil hown e1
      go_wp2
      go_roundw
      case rel =>
        have hp := lo_hi s
        have hq := lo_lt s
        have e2 : (s : Int) / 4294967296 = (hi s : Nat) := by unfold hi; omega
        have hh : hi s < 2 ^ (n % 32) := by unfold hi; rw [Nat.div_lt_iff_lt_mul (by omega), Nat.mul_comm]; exact HCD.out
        exact ⟨k + 1, hi s, zs ++ [lo s], hlt, by go_num, by rw [e2], hh, by unfold hi; omega, hown2.out, by have := HL.out; simp [Hid]; omega, ok_snoc hok hq,
          rshl_step HL.out HE.out (by rw [HX.out, hp, HS.out]), hb1.out⟩
      case measure => simp [intOf]; omega
    · have hk' : k = xs.length := by omega
      subst hk'
      clear hlt
      go_wp2_with (at_builtin; refine wpList_append_own _ rfl _ _ 22 rfl w.heap.size 75 i0 (.int .u32 0) 1 4 Tryd.underlying22 hinf hz0 hz1 hz2 rfl (by decide) _ _ _ rfl (hown.alloc _) ⟨wr.heap.size, 0, none⟩ 1 1 [.int .u32 (z : Int)] rfl rfl (cell_new _ _ _) (fun u hu => by simp at hu; subst hu; rfl) (by unfold maxLen; omega) (by omega) (by have := hbel.size; simp; omega) ?_)
      intro v' w1 hown1 hgrow hnil
      have hown2 := own_snoc hown1 (t := z) rfl
      have hb1 := (hbel.alloc hbel.size (.cells #[.int .u32 (z : Int)] 75)).grown hgrow (by simp; have := hbel.size; omega) (fun g hg => (hown.lt g hg).1)
      have hok' := ok_snoc hok hz'
      obtain ⟨A2, c2, hv, hd⟩ := dg_of_own hown2 hok'
      have HV := Lib.hid (show val (zs ++ [z]) = val xs * 2 ^ n from by
        have := HE.out
        rw [List.take_of_length_le (Nat.le_refl xs.length)] at this
        rw [val_snoc, HL.out, this, ← HP.out, Nat.mul_left_comm])
      have HD := Lib.hid (rtrim_any A2 c2 (zs ++ [z]) w1 hd (by have := HL.out; simp; omega))
      rw [HV.out] at HD
      have HB1 := Lib.hid hb1
      clear hown hown1 hown2 hd hgrow hnil hok' hb1 HV
      generalize zs ++ [z] = ZS at *
      rw [hv]
      clear hv
      go_wp2_with fail
      refine HD.out.mono ?_
      rintro e w2 ⟨A3, c3, rfl, h3, hb3⟩
      have H3 := Lib.hid h3
      have HB3 := Lib.hid hb3
      clear h3 hb3
      go_wp2
      go_ret2
      exact ⟨A3, c3, rfl, H3.out, HB1.out.trans (HB3.out.mono HB1.out.size)⟩
end Go.Proofs.YthgkdpfkaobgoaaDoor
end

section
/-
  The reference's own text (astrolaberef01): Shr.
-/
namespace Go.Proofs.YthgkdpfkaobgoaaDoor
open Go.RowKit
theorem rshr_step {zs ys : List Nat} {k p s : Nat} (hz : zs.length = k) (hk : k < ys.length) (hok : ok32 ys) (hp : p < 32) (h : val zs + 4294967296 ^ k * (val (ys.drop k) / 2 ^ p) = val ys / 2 ^ p)
    (hs : s = ys[k]?.getD 0 + 4294967296 * (ys[k + 1]?.getD 0)) : val (zs ++ [s / 2 ^ p % 4294967296]) + 4294967296 ^ (k + 1) * (val (ys.drop (k + 1)) / 2 ^ p) = val ys / 2 ^ p := by
  have hss := two_pow_split p (by omega)
  have hP : 0 < 2 ^ p := Nat.pow_pos (by omega)
  have e1 : s / 2 ^ p % 4294967296 = val (ys.drop k) / 2 ^ p % 4294967296 := by
    rw [hs, val_drop_cons hk, shr_math _ _ _ _ hss hP, shr_math _ _ _ _ hss hP, Nat.add_mul_mod_self_left, Nat.add_mul_mod_self_left]
    congr 2
    rw [← val_mod hok (k + 1), Nat.mod_mul_mod]
  have e2 : val (ys.drop k) / 2 ^ p / 4294967296 = val (ys.drop (k + 1)) / 2 ^ p := by
    rw [Nat.div_div_eq_div_mul, Nat.mul_comm, ← Nat.div_div_eq_div_mul, val_drop_cons hk]
    congr 1
    have := getD_lt hok k
    omega
  rw [val_snoc, hz, e1, ← e2, Nat.pow_succ, Nat.mul_assoc, Nat.add_assoc, ← Nat.mul_add, Nat.mod_add_div]
  exact h
set_option maxHeartbeats 1000000 in
set_option maxRecDepth 100000 in
theorem rshr_neg (A : Option Addr) (c : Nat) (xs : List Nat) (n : Int) (w : World) (h : Dg w A c xs) (hl : xs.length ≤ 1048576) (hn : n < 0) :
    Calls Tryd.prog 68 #[.slice A xs.length c, .int .i64 n] w fun e w' => ∃ A' c', e = .returned (.slice A' (digs (val xs)).length c') ∧ Dg w' A' c' (digs (val xs)) ∧ Below w.heap.size w w' := by
  have HT := Lib.hid (rtrim_any A c xs w h (by omega))
  clear h
  have d0 : decide (n < 0) = true := by simp [hn]
  go_enter Tryd.func68, Tryd.ntmps68
  go_wp2_with fail
  refine HT.out.mono ?_
  rintro e w' ⟨A1, c1, rfl, h1, hb⟩
  have H1 := Lib.hid h1
  clear h1
  go_wp2
  go_ret
  exact ⟨A1, c1, rfl, H1.out, hb⟩
set_option maxHeartbeats 4000000 in
set_option maxRecDepth 100000 in
theorem rshr_any (A : Option Addr) (c : Nat) (xs : List Nat) (n : Nat) (w : World) (h : Dg w A c xs) (hl : xs.length ≤ 1048576) (hn : n ≤ 9223372036854775807) :
    Calls Tryd.prog 68 #[.slice A xs.length c, .int .i64 n] w fun e w' => ∃ A' c', e = .returned (.slice A' (digs (val xs / 2 ^ n)).length c') ∧ Dg w' A' c' (digs (val xs / 2 ^ n)) ∧ Below w.heap.size w w' := by
  obtain ⟨i0, hinf, hz0, hz1, hz2⟩ := info_parts elem_info
  have H := Lib.hid h
  have O1 := Lib.hid h.2.1
  clear h
  have d0 : decide ((n : Int) < 0) = false := by simp
  have HN := Lib.hid hn
  by_cases hw : xs.length ≤ n / 32
  · have d1 : decide ((xs.length : Int) ≤ (n : Int) / 32) = true := by simp; omega
    have HF := Lib.hid (show val xs / 2 ^ n = 0 from by
      rw [← shr_pow, ← val_drop xs O1.out, List.drop_eq_nil_of_le hw]; simp [val])
    clear hw
    go_enter Tryd.func68, Tryd.ntmps68
    go_wp2
    go_ret
    rw [HF.out, digs_zero]
    exact ⟨none, 0, rfl, Dg.nil_ _ _, Below.refl _ _⟩
  · have d1 : decide ((xs.length : Int) ≤ (n : Int) / 32) = false := by simp; omega
    have HVY := Lib.hid (show val (xs.drop (n / 32)) / 2 ^ (n % 32) = val xs / 2 ^ n from by rw [val_drop xs O1.out, shr_pow])
    have hyl : (xs.drop (n / 32)).length = xs.length - n / 32 := List.length_drop
    have HG := Lib.hid (fun j => show (xs.drop (n / 32))[j]?.getD 0 = xs[n / 32 + j]?.getD 0 from by rw [List.getElem?_drop])
    have OY := Lib.hid (show ok32 (xs.drop (n / 32)) from fun x hx => O1.out x (List.mem_of_mem_drop hx))
    have HYL := Lib.hid hyl
    clear hyl
    generalize xs.drop (n / 32) = Y at *
    go_enter Tryd.func68, Tryd.ntmps68
    go_wp2
    go_loopw [5, 6] (fun v i wr => ∃ (k : Nat) (zs : List Nat), n / 32 + k ≤ xs.length ∧ i = .int .i64 ((n : Int) / 32 + k) ∧ wr.ownsRow w.heap.size 75 1 v k (cells zs) ∧ Hid (zs.length = k) ∧ ok32 zs ∧
      Hid (val zs + 4294967296 ^ k * (val (Y.drop k) / 2 ^ (n % 32)) = val Y / 2 ^ (n % 32)) ∧ Below w.heap.size w wr) (fun _ i _ => xs.length - (intOf i).toNat)
    case atStart => exact ⟨0, [], by omega, by go_num, World.ownsRow_nil _ _ _ _, by simp [Hid], by intro x hx; simp at hx, by simp [Hid, val], Below.refl _ _⟩
    case round =>
      obtain ⟨k, zs, hk, rfl, hown, HL, hok, HE, hbel⟩ := hrel
      by_cases hlt : n / 32 + k < xs.length
      · have dlt : decide ((n : Int) / 32 + (k : Int) < (xs.length : Int)) = true := by simp; omega
        have rx := Lib.hid (rat_any A c xs (n / 32 + k) wr (H.out.keep hbel.size (fun b o h => hbel.cell (p := ⟨b, o, none⟩) h)) (by omega))
        have ry := Lib.hid (rat_any A c xs (n / 32 + k + 1) wr (H.out.keep hbel.size (fun b o h => hbel.cell (p := ⟨b, o, none⟩) h)) (by omega))
        have hX := getD_lt O1.out (n / 32 + k)
        have hY := getD_lt O1.out (n / 32 + k + 1)
        have g0 := HG.out k
        have g1 := HG.out (k + 1)
        rw [← Nat.add_assoc] at g1
        have HG0 := Lib.hid g0
        have HG1 := Lib.hid g1
        clear g0 g1
        generalize xs[n / 32 + k]?.getD 0 = x at *
        generalize xs[n / 32 + k + 1]?.getD 0 = y at *
        have ho := or_join' x y hX hY
        obtain ⟨s, hs⟩ : ∃ s, s = x + 4294967296 * y := ⟨_, rfl⟩
        have hs64 : s < 18446744073709551616 := by omega
        rw [← hs] at ho
        have HS := Lib.hid hs
        have HO := Lib.hid ho
        clear hs ho
        rw [show ((n / 32 + k : Nat) : Int) = (n : Int) / 32 + (k : Int) by omega] at rx
        rw [show ((n / 32 + k + 1 : Nat) : Int) = (n : Int) / 32 + (k : Int) + 1 by omega] at ry
        have hp0 : (0 : Int) ≤ (n : Int) / 32 + (k : Int) := by omega
        go_wp2_with fail
        refine rx.out.mono ?_
        rintro e w' ⟨rfl, rfl⟩
        go_wp2_with fail
        refine ry.out.mono ?_
        rintro e w' ⟨rfl, rfl⟩
        go_upto_region 10 with fail
        rw [HO.out]
        have hd0 : 0 ≤ (s : Int) / 2 ^ (n % 32) := Int.ediv_nonneg (by omega) (Int.le_of_lt (Int.pow_pos (by omega)))
        go_wp2_with (at_builtin; refine wpList_append_own _ rfl _ _ 22 rfl w.heap.size 75 i0 (.int .u32 0) 1 4 Tryd.underlying22 hinf hz0 hz1 hz2 rfl (by decide) _ _ _ rfl (hown.alloc _) ⟨wr.heap.size, 0, none⟩ 1 1 [.int .u32 (((s : Int) / 2 ^ (n % 32)) % 4294967296)] rfl rfl (cell_new _ _ _) (fun u hu => by simp at hu; subst hu; rfl) (by unfold maxLen; omega) (by omega) (by have := hbel.size; simp; omega) ?_)
        intro v' w1 hown1 hgrow hnil
        have e1 : ((s : Int) / 2 ^ (n % 32)) % 4294967296 = (s / 2 ^ (n % 32) % 4294967296 : Nat) := by rw [Int.natCast_emod, Int.natCast_ediv, Int.natCast_pow]; rfl
        have hown2 := Lib.hid (own_snoc hown1 e1)
        have hb1 := Lib.hid ((hbel.alloc hbel.size _).grown hgrow (by simp; have := hbel.size; omega) (fun g hg => (hown.lt g hg).1))
        clear hown1 hgrow hnil hown e1
        go_wp2
        go_roundw
        case rel =>
          have hyl := HYL.out
          exact ⟨k + 1, zs ++ [s / 2 ^ (n % 32) % 4294967296], by omega, by go_num, hown2.out, by have := HL.out; simp [Hid]; omega, ok_snoc hok (Nat.mod_lt _ (by omega)),
            rshr_step HL.out (by omega) OY.out (by omega) HE.out (by rw [HG0.out, HG1.out]; exact HS.out), hb1.out⟩
        case measure => simp [intOf]; omega
      · have dlt : decide ((n : Int) / 32 + (k : Int) < (xs.length : Int)) = false := by simp; omega
        obtain ⟨A2, c2, hv, hd⟩ := dg_of_own hown hok
        have HV := Lib.hid (show val zs = val xs / 2 ^ n from by
          have := HE.out
          rw [List.drop_eq_nil_of_le (by have := HYL.out; omega), HVY.out] at this
          simpa [val] using this)
        have HD := Lib.hid (rtrim_any A2 c2 zs wr hd (by have := HL.out; omega))
        rw [HV.out] at HD
        subst hv
        clear hown hd hlt
        go_wp2_with fail
        refine HD.out.mono ?_
        rintro e w2 ⟨A3, c3, rfl, h3, hb3⟩
        have H3 := Lib.hid h3
        have HB3 := Lib.hid hb3
        clear h3 hb3
        go_wp2
        go_ret
        exact ⟨A3, c3, rfl, H3.out, hbel.trans (HB3.out.mono hbel.size)⟩
end Go.Proofs.YthgkdpfkaobgoaaDoor
end

section
/-
  The reference's calls (astrolaberef01) over what a law carries along.
-/
namespace Go.Proofs.YthgkdpfkaobgoaaDoor
open Go.RowKit
section
variable {w0 w w' : World} {L : List (Option Addr × Nat × List Nat)} {A B : Option Addr} {c d n m : Nat} {xs ys : List Nat} {x y : Nat}
theorem Live.none_ (h : Live w0 w L) : Live w0 w ((none, 0, []) :: L) := h.add (Dg.nil_ _ _)
theorem radd_l (hL : Live w0 w L) (h1 : (A, c, xs) ∈ L) (h2 : (B, d, ys) ∈ L) (hn : n = xs.length) (hm : m = ys.length) (hx : val xs = x) (hy : val ys = y) (b1 : xs.length ≤ 1048576) (b2 : ys.length ≤ 1048576) :
    Calls Tryd.prog 47 #[.slice A n c, .slice B m d] w fun e w' => ∃ A' c', e = .returned (.slice A' (digs (x + y)).length c') ∧ Live w0 w' ((A', c', digs (x + y)) :: L) := by
  subst hn hm hx hy
  exact (radd_any A B c d xs ys w (hL.get h1) (hL.get h2) b1 b2).mono fun e w' ⟨A', c', he, hd, hb⟩ => ⟨A', c', he, (hL.step hb).add hd⟩
theorem rmul_l (hL : Live w0 w L) (h1 : (A, c, xs) ∈ L) (h2 : (B, d, ys) ∈ L) (hn : n = xs.length) (hm : m = ys.length) (hx : val xs = x) (hy : val ys = y) (b1 : xs.length ≤ 1048576) (b2 : ys.length ≤ 1048576) :
    Calls Tryd.prog 50 #[.slice A n c, .slice B m d] w fun e w' => ∃ A' c', e = .returned (.slice A' (digs (x * y)).length c') ∧ Live w0 w' ((A', c', digs (x * y)) :: L) := by
  subst hn hm hx hy
  exact (rmul_any A B c d xs ys w (hL.get h1) (hL.get h2) b1 b2).mono fun e w' ⟨A', c', he, hd, hb⟩ => ⟨A', c', he, (hL.step hb).add hd⟩
theorem rsub_l (hL : Live w0 w L) (h1 : (A, c, xs) ∈ L) (h2 : (B, d, ys) ∈ L) (hn : n = xs.length) (hm : m = ys.length) (hx : val xs = x) (hy : val ys = y) (b1 : xs.length ≤ 1048576) (b2 : ys.length ≤ 1048576) (hle : y ≤ x) :
    Calls Tryd.prog 48 #[.slice A n c, .slice B m d] w fun e w' => ∃ A' c', e = .returned (.tuple #[.slice A' (digs (x - y)).length c', .bool true]) ∧ Live w0 w' ((A', c', digs (x - y)) :: L) := by
  subst hn hm hx hy
  exact (rsub_yes A B c d xs ys w (hL.get h1) (hL.get h2) b1 b2 hle).mono fun e w' ⟨A', c', he, hd, hb⟩ => ⟨A', c', he, (hL.step hb).add hd⟩
theorem rsub_l_no (hL : Live w0 w L) (h1 : (A, c, xs) ∈ L) (h2 : (B, d, ys) ∈ L) (hn : n = xs.length) (hm : m = ys.length) (hx : val xs = x) (hy : val ys = y) (b1 : xs.length ≤ 1048576) (b2 : ys.length ≤ 1048576) (hlt : x < y) :
    Calls Tryd.prog 48 #[.slice A n c, .slice B m d] w fun e w' => e = .returned (.tuple #[.slice none 0 0, .bool false]) ∧ Live w0 w' L := by
  subst hn hm hx hy
  exact (rsub_no A B c d xs ys w (hL.get h1) (hL.get h2) b1 b2 hlt).mono fun e w' ⟨he, hw⟩ => ⟨he, by rw [← hw]; exact hL⟩
theorem rcmp_l {q : Int} (hL : Live w0 w L) (h1 : (A, c, xs) ∈ L) (h2 : (B, d, ys) ∈ L) (hn : n = xs.length) (hm : m = ys.length) (hx : val xs = x) (hy : val ys = y) (b1 : xs.length ≤ 1048576) (b2 : ys.length ≤ 1048576) (hq : cmpi x y = q) :
    Calls Tryd.prog 59 #[.slice A n c, .slice B m d] w fun e w' => e = .returned (.int .i64 q) ∧ Live w0 w' L := by
  subst hn hm hx hy hq
  exact (rcmp_any A B c d xs ys w (hL.get h1) (hL.get h2) (by omega) (by omega)).mono fun e w' ⟨he, hw⟩ => ⟨he, by rw [← hw]; exact hL⟩
theorem rbits_l {q : Int} (hL : Live w0 w L) (h1 : (A, c, xs) ∈ L) (hn : n = xs.length) (hx : val xs = x) (b1 : xs.length ≤ 1048576) (hq : (blen x : Int) = q) :
    Calls Tryd.prog 84 #[.slice A n c] w fun e w' => e = .returned (.int .i64 q) ∧ Live w0 w' L := by
  subst hn hx hq
  exact (rbits_any A c xs w (hL.get h1) (by omega)).mono fun e w' ⟨he, hb⟩ => ⟨he, hL.step hb⟩
theorem rtrim_l (hL : Live w0 w L) (h1 : (A, c, xs) ∈ L) (hn : n = xs.length) (hx : val xs = x) (b1 : xs.length ≤ 1048576) :
    Calls Tryd.prog 54 #[.slice A n c] w fun e w' => ∃ A' c', e = .returned (.slice A' (digs x).length c') ∧ Live w0 w' ((A', c', digs x) :: L) := by
  subst hn hx
  exact (rtrim_any A c xs w (hL.get h1) (by omega)).mono fun e w' ⟨A', c', he, hd, hb⟩ => ⟨A', c', he, (hL.step hb).add hd⟩
theorem rfrom_l {i : Int} {k : Nat} (hL : Live w0 w L) (hi : i = (k : Int)) (hk : k < 18446744073709551616) :
    Calls Tryd.prog 52 #[.int .u64 i] w fun e w' => ∃ A' c', e = .returned (.slice A' (digs k).length c') ∧ Live w0 w' ((A', c', digs k) :: L) := by
  subst hi
  exact (rfrom_any k w hk).mono fun e w' ⟨A', c', he, hd, hb⟩ => ⟨A', c', he, (hL.step hb).add hd⟩
theorem small_g {q : Int} {p : Bool} (hL : Live w0 w L) (h1 : (A, c, xs) ∈ L) (hn : n = xs.length) (hx : val xs = x) (b1 : xs.length ≤ 1048576) (hq : (small? x : Int) = q) (hp : decide (x < 18446744073709551616) = p) :
    Calls Tryd.prog 55 #[.slice A n c] w fun e w' => e = .returned (.tuple #[.int .u64 q, .bool p]) ∧ Live w0 w' L := by
  subst hn hx hq hp
  exact (small_any A c xs w (hL.get h1) (by omega)).mono fun e w' ⟨he, k, hw⟩ => ⟨he, by rw [hw]; exact hL.drewN k⟩
theorem rsmall_g {q : Int} {p : Bool} (hL : Live w0 w L) (h1 : (A, c, xs) ∈ L) (hn : n = xs.length) (hx : val xs = x) (b1 : xs.length ≤ 1048576) (hq : (small? x : Int) = q) (hp : decide (x < 18446744073709551616) = p) :
    Calls Tryd.prog 56 #[.slice A n c] w fun e w' => e = .returned (.tuple #[.int .u64 q, .bool p]) ∧ Live w0 w' L := by
  subst hn hx hq hp
  exact (rsmall_any A c xs w (hL.get h1) (by omega)).mono fun e w' ⟨he, hb⟩ => ⟨he, hL.step hb⟩
theorem rshl_l {i : Int} {k : Nat} (hL : Live w0 w L) (h1 : (A, c, xs) ∈ L) (hn : n = xs.length) (hx : val xs = x) (b1 : xs.length ≤ 1048576) (hi : i = (k : Int)) (hk : k ≤ 100000) :
    Calls Tryd.prog 67 #[.slice A n c, .int .i64 i] w fun e w' => ∃ A' c', e = .returned (.tuple #[.slice A' (digs (x * 2 ^ k)).length c', .bool true]) ∧ Live w0 w' ((A', c', digs (x * 2 ^ k)) :: L) := by
  subst hn hx hi
  exact (rshl_any A c xs k w (hL.get h1) b1 hk).mono fun e w' ⟨A', c', he, hd, hb⟩ => ⟨A', c', he, (hL.step hb).add hd⟩
theorem rshl_l_no {i : Int} (hL : Live w0 w L) (_h1 : (A, c, xs) ∈ L) (hn : n = xs.length) (hi : i < 0 ∨ 100000 < i) :
    Calls Tryd.prog 67 #[.slice A n c, .int .i64 i] w fun e w' => e = .returned (.tuple #[.slice none 0 0, .bool false]) ∧ Live w0 w' L := by
  subst hn
  exact (rshl_no A c xs i w hi).mono fun e w' ⟨he, hw⟩ => ⟨he, by rw [← hw]; exact hL⟩
theorem shl_l_no {i : Int} (hL : Live w0 w L) (_h1 : (A, c, xs) ∈ L) (hn : n = xs.length) (hi : i < 0 ∨ 100000 < i) :
    Calls Tryd.prog 65 #[.slice A n c, .int .i64 i] w fun e w' => e = .returned (.tuple #[.slice none 0 0, .bool false]) ∧ Live w0 w' L := by
  subst hn
  exact (shl_no A c xs i w hi).mono fun e w' ⟨he, hw⟩ => ⟨he, by rw [← hw]; exact hL⟩
theorem rshr_l {i : Int} {k : Nat} (hL : Live w0 w L) (h1 : (A, c, xs) ∈ L) (hn : n = xs.length) (hx : val xs = x) (b1 : xs.length ≤ 1048576) (hi : i = (k : Int)) (hk : k ≤ 9223372036854775807) :
    Calls Tryd.prog 68 #[.slice A n c, .int .i64 i] w fun e w' => ∃ A' c', e = .returned (.slice A' (digs (x / 2 ^ k)).length c') ∧ Live w0 w' ((A', c', digs (x / 2 ^ k)) :: L) := by
  subst hn hx hi
  exact (rshr_any A c xs k w (hL.get h1) b1 hk).mono fun e w' ⟨A', c', he, hd, hb⟩ => ⟨A', c', he, (hL.step hb).add hd⟩
theorem rshr_l_neg {i : Int} (hL : Live w0 w L) (h1 : (A, c, xs) ∈ L) (hn : n = xs.length) (hx : val xs = x) (b1 : xs.length ≤ 1048576) (hi : i < 0) :
    Calls Tryd.prog 68 #[.slice A n c, .int .i64 i] w fun e w' => ∃ A' c', e = .returned (.slice A' (digs x).length c') ∧ Live w0 w' ((A', c', digs x) :: L) := by
  subst hn hx
  exact (rshr_neg A c xs i w (hL.get h1) b1 hi).mono fun e w' ⟨A', c', he, hd, hb⟩ => ⟨A', c', he, (hL.step hb).add hd⟩
theorem shr_l_neg {i : Int} (hL : Live w0 w L) (h1 : (A, c, xs) ∈ L) (hn : n = xs.length) (hx : val xs = x) (b1 : xs.length ≤ 1048576) (hi : i < 0) :
    Calls Tryd.prog 66 #[.slice A n c, .int .i64 i] w fun e w' => ∃ A' c', e = .returned (.slice A' (digs x).length c') ∧ Live w0 w' ((A', c', digs x) :: L) := by
  subst hn hx
  exact (shr_neg A c xs i w (hL.get h1) b1 hi).mono fun e w' ⟨A', c', he, hd, hb⟩ => ⟨A', c', he, (hL.step hb).add hd⟩
end
end Go.Proofs.YthgkdpfkaobgoaaDoor
end

section
/-
  The law's short, same; astrolaberef04's Same, Make; zint.Right.
-/
namespace Go.Proofs.YthgkdpfkaobgoaaDoor
open Go.RowKit
set_option maxHeartbeats 2000000 in
set_option maxRecDepth 100000 in
theorem lshort_any (A : Option Addr) (c k : Nat) (s : Bool) (xs : List Nat) (w : World) (h : Dg w A c xs) (hk : k ≤ 1000000) :
    Calls Tryd.prog 13 #[.agg #[.bool s, .slice A xs.length c], .int .i64 k] w fun e w' => e = .returned (.agg #[.bool s, .slice A (xs.take k).length c]) ∧ Below w.heap.size w w' := by
  have hc := h.1
  obtain ⟨m, hm⟩ : ∃ m : Int, min (xs.length : Int) (k : Int) = m := ⟨_, rfl⟩
  have m0 : 0 ≤ m := by omega
  have m1 : m ≤ (c : Int) := by omega
  have HL := Lib.hid (show m.toNat = (xs.take k).length by rw [List.length_take]; omega)
  clear h
  go_enter Tryd.func13, Tryd.ntmps13
  go_wp2
  go_region_held3 (fun w' => w'.cell? ⟨w.heap.size, 0, none⟩ = some (.bool s) ∧ w'.cell? ⟨w.heap.size, 1, none⟩ = some (.slice A xs.length c)) (first | go_keep) (first | fail)
  all_goals go_wp2
  rw [HL.out]
  refine bodyPost_ret (v := .agg #[.bool s, .slice A (xs.take k).length c]) (by simp [results, Tryd.results13, go_sem]) rfl ⟨rfl, ?_⟩
  exact below_drew (below2 _ _ _)
set_option maxHeartbeats 2000000 in
set_option maxRecDepth 100000 in
theorem Same_any (A B : Option Addr) (c d : Nat) (s : Bool) (xs : List Nat) (w : World) (h : Dg w A c xs) (h' : Dg w B d xs) (hl : xs.length ≤ 16777216) :
    Calls Tryd.prog 43 #[.agg #[.bool s, .slice A xs.length c], .agg #[.bool s, .slice B xs.length d]] w fun e w' => e = .returned (.bool true) ∧ Below w.heap.size w w' := by
  have hne : ((xs.length : Int) != (xs.length : Int)) = false := by simp
  have hns : (s != s) = false := by simp
  have H1 := Lib.hid (h.below (below2 w (.cells #[.bool s, .slice A xs.length c] 24) (.cells #[.bool s, .slice B xs.length d] 24)))
  have H2 := Lib.hid (h'.below (below2 w (.cells #[.bool s, .slice A xs.length c] 24) (.cells #[.bool s, .slice B xs.length d] 24)))
  clear h h'
  go_enter Tryd.func43, Tryd.ntmps43
  go_wp2
  go_loopw [5] (fun i wr => (∃ k : Nat, k ≤ xs.length ∧ i = .int .i64 k) ∧ ∃ m, wr = ((w.alloc (.cells #[.bool s, .slice A xs.length c] 24)).alloc (.cells #[.bool s, .slice B xs.length d] 24)).drewN m) (fun i _ => xs.length - (intOf i).toNat)
  case atStart => exact ⟨⟨0, Nat.zero_le _, rfl⟩, 0, rfl⟩
  case round =>
    obtain ⟨⟨k, hk, rfl⟩, m, rfl⟩ := hrel
    by_cases hlt : k < xs.length
    · obtain ⟨b, off, hA, hb, hcx⟩ := H1.out.2.2 (by omega)
      obtain ⟨b', off', hB, hb', hcy⟩ := H2.out.2.2 (by omega)
      have hx := hcx k hlt
      have hy := hcy k hlt
      generalize xs[k]?.getD 0 = x at *
      have t1 : ((x : Int) != (x : Int)) = false := by simp
      clear hcx hcy H1 H2
      subst hA hB
      go_wp2_with fail
      go_quiet (fail)
      go_wp2_with fail
      go_roundw
      case rel => exact ⟨⟨k + 1, hlt, by go_num⟩, _, rfl⟩
      case measure => simp [intOf]; omega
    · go_wp2
      go_ret
      exact ⟨rfl, below_drewN (below2 _ _ _) m⟩
end Go.Proofs.YthgkdpfkaobgoaaDoor
end

section
/-
  zint.Right and the reference's; the sign of a number while it is reckoned.
-/
namespace Go.Proofs.YthgkdpfkaobgoaaDoor
open Go.RowKit
/-- Is it right? -/
def rightB (s : Bool) (xs : List Nat) : Bool := if xs.length = 0 then !s else decide (xs[xs.length - 1]?.getD 0 ≠ 0)
set_option maxHeartbeats 1000000 in
set_option maxRecDepth 100000 in
theorem right_any (A : Option Addr) (c : Nat) (s : Bool) (xs : List Nat) (w : World) (h : Dg w A c xs) (q : Bool) (hq : rightB s xs = q) (hl : xs.length ≤ 9223372036854775807) :
    Calls Tryd.prog 31 #[.agg #[.bool s, .slice A xs.length c]] w fun e w' => e = .returned (.bool q) ∧ Below w.heap.size w w' := by
  by_cases h0 : xs.length = 0
  · have t0 : ((xs.length : Int) == 0) = true := by rw [h0]; rfl
    have hq2 : (!s) = q := by rw [← hq]; unfold rightB; rw [if_pos h0]
    clear h h0 hq
    go_enter Tryd.func31, Tryd.ntmps31
    go_wp2
    go_ret
    exact ⟨rfl, below1 _ _⟩
  · have t0 : ((xs.length : Int) == 0) = false := beq_eq_false_iff_ne.2 (by omega)
    obtain ⟨b, off, hA, hb, hc⟩ := h.2.2 (by omega)
    have hx := hc (xs.length - 1) (by omega)
    have hp : 0 < xs.length := by omega
    have hq' : decide (xs[xs.length - 1]?.getD 0 ≠ 0) = q := by rw [← hq]; unfold rightB; rw [if_neg h0]
    generalize xs[xs.length - 1]?.getD 0 = x at *
    have hxq : ((x : Int) != 0) = q := by
      rw [← hq', Bool.eq_iff_iff]; simp
    have HX := Lib.hid hxq
    clear h h0 hq hc hq' hxq
    subst hA
    go_enter Tryd.func31, Tryd.ntmps31
    go_wp2
    go_ret
    refine ⟨?_, below1 _ _⟩
    rw [← HX.out]
    rfl
set_option maxHeartbeats 1000000 in
set_option maxRecDepth 100000 in
theorem sign_any (A : Option Addr) (c m : Nat) (t : Bool) (w : World) (q : Int) (hq : Int.sign (sg t m) = q) :
    Calls Tryd.prog 57 #[.agg #[.slice A (digs m).length c, .bool t]] w fun e w' => e = .returned (.int .i64 q) ∧ Below w.heap.size w w' := by
  by_cases h0 : m = 0
  · have HQ := Lib.hid (show (0 : Int) = q by rw [← hq, h0]; unfold sg; cases t <;> rfl)
    have HZ := Lib.hid (fun W => zero_any A (digs m).length c W true (by rw [h0, digs_zero]; rfl))
    clear hq h0
    go_enter Tryd.func57, Tryd.ntmps57
    go_wp2_with fail
    refine (HZ.out _).mono ?_
    rintro e w1 ⟨rfl, hb⟩
    have K := Lib.hid ((below1 w _).trans (hb.mono (by simp)))
    clear hb
    go_wp2
    go_ret
    exact ⟨ret_i HQ.out, K.out⟩
  · have HZ := Lib.hid (fun W => zero_any A (digs m).length c W false (beq_eq_false_iff_ne.2 (by have : (digs m).length ≠ 0 := fun e => h0 (digs_nil.1 e); omega)))
    have HP := Lib.hid (show Int.sign (m : Int) = 1 from Int.sign_eq_one_of_pos (by omega))
    clear h0
    cases t
    all_goals
      go_enter Tryd.func57, Tryd.ntmps57
      go_wp2_with fail
      refine (HZ.out _).mono ?_
      rintro e w1 ⟨rfl, hb⟩
      obtain ⟨hc1, hf1⟩ := bcell hb
      have K := Lib.hid ((below1 w _).trans (hb.mono (by simp)))
      clear hb
      go_wp2
      go_ret
      refine ⟨ret_i ?_, K.out⟩
      rw [← hq]; unfold sg; simp [HP.out]
end Go.Proofs.YthgkdpfkaobgoaaDoor
end

section
/-
  zint.Bytes.
-/
namespace Go.Proofs.YthgkdpfkaobgoaaDoor
open Go.RowKit
/-- The two bytes ahead: how many digits, and the sign. -/
def headN (s : Bool) (n : Nat) : Nat := 2 * n + (if s then 1 else 0)
def zbytes (s : Bool) (xs : List Nat) : List UInt8 := UInt8.ofNat (headN s xs.length / 256) :: UInt8.ofNat (headN s xs.length) :: lay4 xs
theorem zbytes_len (s : Bool) (xs : List Nat) : (zbytes s xs).length = 2 + 4 * xs.length := by simp [zbytes, lay4_len]; omega
theorem two_new {w : World} {a b : Value} {T : TypeId} {j : Nat} {u : Value} (hj : [a, b][j]? = some u) : (w.alloc (.cells #[a, b] T)).cell? ((⟨w.heap.size, 0, none⟩ : Addr).add j) = some u := by
  rw [Addr.add_lit, Nat.zero_add, cell_of_row _ _ _ _ _ _ (heap_alloc_new w _)]
  simpa using hj
theorem head_cells {H : Int} {h : Nat} (e : (h : Int) = H) (hh : H ≤ 801) : Lib.byteCells [UInt8.ofNat (h / 256), UInt8.ofNat h] = [.int .u8 (H / 256), .int .u8 (H % 256)] := by
  subst e
  unfold Lib.byteCells
  simp
  omega
theorem own_string {w : World} {base : Nat} {v : Value} {n : Nat} {l : List UInt8} (hown : w.ownsRow base 5 1 v n (Lib.byteCells l)) (hn : n = l.length) (h0 : 0 < n) :
    (convert 81 9 v).run Tryd.prog w = .ok (.string ⟨l.toArray⟩) w := by
  subst hn
  rcases hown.2 with ⟨rfl, h1⟩ | ⟨g, cap, cur, rfl, _, _, _, _, _, _⟩
  · omega
  · refine run_convert_bytes_back w 81 9 5 ⟨g, 0, none⟩ cap l Tryd.underlying81 Tryd.underlying5 Tryd.underlying9 (fun j hj => ?_)
    have := hown.cells (g := g) rfl j (.int .u8 (l[j].toNat : Int)) (by unfold Lib.byteCells; simp [hj])
    exact this
set_option maxHeartbeats 2000000 in
set_option maxRecDepth 100000 in
theorem zbytes_no (A : Option Addr) (c : Nat) (s : Bool) (xs : List Nat) (w : World) (h : Dg w A c xs) (hl : xs.length ≤ 9223372036854775807) (hno : rightB s xs = false ∨ 400 < xs.length) :
    Calls Tryd.prog 37 #[.agg #[.bool s, .slice A xs.length c]] w fun e w' => e = .returned (.tuple #[.string ⟨#[]⟩, .int .i64 1]) ∧ Below w.heap.size w w' := by
  have RA := Lib.hid (fun W h q hq => right_any A c s xs W h q hq hl)
  cases hr : rightB s xs
  · have HR := Lib.hid hr
    clear hno hr
    go_enter Tryd.func37, Tryd.ntmps37
    go_wp2_with fail
    refine (RA.out _ (h.below (below1 _ _)) false HR.out).mono ?_
    rintro e w1 ⟨rfl, hb⟩
    have K1 := Lib.hid ((below1 w _).trans (hb.mono (by simp)))
    clear hb
    go_wp2
    go_ret2
    exact ⟨rfl, K1.out⟩
  · have HR := Lib.hid hr
    have h4 : 400 < xs.length := hno.resolve_left (by rw [hr]; simp)
    have d4 : decide ((400 : Int) < (xs.length : Int)) = true := by simp; omega
    clear hno hr h4
    go_enter Tryd.func37, Tryd.ntmps37
    go_wp2_with fail
    refine (RA.out _ (h.below (below1 _ _)) true HR.out).mono ?_
    rintro e w1 ⟨rfl, hb⟩
    have K1 := Lib.hid ((below1 w _).trans (hb.mono (by simp)))
    obtain ⟨hc, hf⟩ := bcell hb
    clear hb
    go_wp2
    go_ret2
    exact ⟨rfl, K1.out⟩
set_option maxHeartbeats 2000000 in
set_option maxRecDepth 100000 in
theorem zbytes_any (A : Option Addr) (c : Nat) (s : Bool) (xs : List Nat) (w : World) (h : Dg w A c xs) (hl : xs.length ≤ 400) (hr : rightB s xs = true) :
    Calls Tryd.prog 37 #[.agg #[.bool s, .slice A xs.length c]] w fun e w' => e = .returned (.tuple #[.string ⟨(zbytes s xs).toArray⟩, .int .i64 0]) ∧ Below w.heap.size w w' := by
  have RA := Lib.hid (fun W h => right_any A c s xs W h true hr (by omega))
  obtain ⟨i0, hi, hz0, hz1, hz2⟩ := info_parts elem8_info
  have d4 : decide ((400 : Int) < (xs.length : Int)) = false := by simp; omega
  clear hr
  have HD := Lib.hid h
  have hbase : 0 < xs.length → ∀ b o, A = some ⟨b, o, none⟩ → b < w.heap.size + 1 := fun h0 b o e => by
    obtain ⟨b1, o1, e1, hb1, _⟩ := h.2.2 h0
    rw [e] at e1; simp only [Option.some.injEq, Addr.mk.injEq] at e1; omega
  have HBASE := Lib.hid hbase
  clear hbase h
  obtain ⟨H, hH⟩ : ∃ H : Int, ((headN s xs.length : Nat) : Int) = H := ⟨_, rfl⟩
  have HH := Lib.hid hH
  have hH2 : H = 2 * (xs.length : Int) + (if s then 1 else 0) := by rw [← hH]; unfold headN; cases s <;> simp
  clear hH
  cases s
  · have hH3 : 2 * (xs.length : Int) = H := by simpa using hH2.symm
    have hHb : 0 ≤ H ∧ H ≤ 801 := by omega
    obtain ⟨hHb0, hHb1⟩ := hHb
    have HEQ := Lib.hid hH3
    clear hH2 hH3
    go_enter Tryd.func37, Tryd.ntmps37
    go_wp2_with fail
    refine (RA.out _ (HD.out.below (below1 _ _))).mono ?_
    rintro e w1 ⟨rfl, hb⟩
    have K1 := Lib.hid (show Below (w.heap.size + 1) (w.alloc (.cells #[.bool false, .slice A xs.length c] 24)) w1 by simpa using hb)
    obtain ⟨hc, hf⟩ := bcellB K1.out
    have hsz : w.heap.size + 1 ≤ w1.heap.size := by have := K1.out.size; simpa using this
    clear hb
    go_upto_region 6 with fail
    rw [HEQ.out]
    have hlen : xs.length ≤ 400 := hl
    go_wp2_with (refine wpList_make_own _ rfl (.const (.int .i64 0)) (.tmp 27) 81 rfl (w.heap.size + 1) 5 i0 (.int .u8 0) 1 Tryd.underlying81 hi hz0 hz1 .i64 .i64 _ (2 + 4 * xs.length) rfl rfl (by push_cast; omega) (by rw [hz2]; omega) (by unfold maxLen; omega) hsz ?_; intro w2 hown2 hgrow2; refine Hid.out ?_)
    refine Lib.hid ?_
    have HO2 := Lib.hid hown2
    have KG := Lib.hid (K1.out.grown hgrow2 hsz (fun k hk => by cases hk))
    obtain ⟨hc2, hf2⟩ := bcellB KG.out
    have hsz2 : w.heap.size + 1 ≤ w2.heap.size := by have := KG.out.size; simpa using this
    clear hown2 hgrow2 hc hf
    go_wp2_with (at_builtin; refine wpList_append_own _ rfl (.tmp 29) (.tmp 35) 81 rfl (w.heap.size + 1) 5 i0 (.int .u8 0) 1 1 Tryd.underlying81 hi hz0 hz1 hz2 rfl (by decide) _ _ _ rfl (HO2.out.alloc _) ⟨w2.heap.size, 0, none⟩ 2 2 [.int .u8 (H / 256), .int .u8 (H % 256)] rfl rfl (fun j u hj => two_new hj) (by intro u hu; simp at hu; rcases hu with rfl | rfl <;> rfl) (by unfold maxLen; omega) (by omega) (by simp; omega) ?_; intro v3 w3 hown3 hgrow3 _; refine Hid.out ?_)
    refine Lib.hid ?_
    have HO3 := Lib.hid (show w3.ownsRow (w.heap.size + 1) 5 1 v3 2 (Lib.byteCells [UInt8.ofNat (headN false xs.length / 256), UInt8.ofNat (headN false xs.length)]) by rw [head_cells HH.out hHb1]; simpa using hown3)
    have K3 := Lib.hid ((KG.out.alloc hsz2 _).grown hgrow3 (by simp; omega) (fun k hk => (HO2.out.lt k hk).1))
    obtain ⟨hc3, hf3⟩ := bcellB K3.out
    clear hown3 hgrow3 hc2 hf2
    go_wp2_with fail
    refine (lay_any (w.heap.size + 1) v3 2 _ A c xs _ HO3.out ((HD.out.below (below1 _ _)).below (show Below (w.alloc _).heap.size _ _ by simpa using K3.out)) HBASE.out (by have := K3.out.size; simpa using this) (by omega)).mono ?_
    rintro e w4 ⟨v4, rfl, hown4, hb4⟩
    have hcv := own_string hown4 (by simp [lay4_len]; omega) (by omega)
    have K4 := Lib.hid (K3.out.trans hb4)
    clear hown4 hb4 hc3 hf3
    go_wp2
    go_ret2
    exact ⟨rfl, (below1 w _).trans (K4.out.mono (by omega))⟩
  · have hH3 : 2 * (xs.length : Int) + 1 = H := by simpa using hH2.symm
    have hHb : 0 ≤ H ∧ H ≤ 801 := by omega
    obtain ⟨hHb0, hHb1⟩ := hHb
    have HEQ := Lib.hid hH3
    clear hH2 hH3
    go_enter Tryd.func37, Tryd.ntmps37
    go_wp2_with fail
    refine (RA.out _ (HD.out.below (below1 _ _))).mono ?_
    rintro e w1 ⟨rfl, hb⟩
    have K1 := Lib.hid (show Below (w.heap.size + 1) (w.alloc (.cells #[.bool true, .slice A xs.length c] 24)) w1 by simpa using hb)
    obtain ⟨hc, hf⟩ := bcellB K1.out
    have hsz : w.heap.size + 1 ≤ w1.heap.size := by have := K1.out.size; simpa using this
    clear hb
    go_upto_region 6 with fail
    rw [HEQ.out]
    have hlen : xs.length ≤ 400 := hl
    go_wp2_with (refine wpList_make_own _ rfl (.const (.int .i64 0)) (.tmp 27) 81 rfl (w.heap.size + 1) 5 i0 (.int .u8 0) 1 Tryd.underlying81 hi hz0 hz1 .i64 .i64 _ (2 + 4 * xs.length) rfl rfl (by push_cast; omega) (by rw [hz2]; omega) (by unfold maxLen; omega) hsz ?_; intro w2 hown2 hgrow2; refine Hid.out ?_)
    refine Lib.hid ?_
    have HO2 := Lib.hid hown2
    have KG := Lib.hid (K1.out.grown hgrow2 hsz (fun k hk => by cases hk))
    obtain ⟨hc2, hf2⟩ := bcellB KG.out
    have hsz2 : w.heap.size + 1 ≤ w2.heap.size := by have := KG.out.size; simpa using this
    clear hown2 hgrow2 hc hf
    go_wp2_with (at_builtin; refine wpList_append_own _ rfl (.tmp 29) (.tmp 35) 81 rfl (w.heap.size + 1) 5 i0 (.int .u8 0) 1 1 Tryd.underlying81 hi hz0 hz1 hz2 rfl (by decide) _ _ _ rfl (HO2.out.alloc _) ⟨w2.heap.size, 0, none⟩ 2 2 [.int .u8 (H / 256), .int .u8 (H % 256)] rfl rfl (fun j u hj => two_new hj) (by intro u hu; simp at hu; rcases hu with rfl | rfl <;> rfl) (by unfold maxLen; omega) (by omega) (by simp; omega) ?_; intro v3 w3 hown3 hgrow3 _; refine Hid.out ?_)
    refine Lib.hid ?_
    have HO3 := Lib.hid (show w3.ownsRow (w.heap.size + 1) 5 1 v3 2 (Lib.byteCells [UInt8.ofNat (headN true xs.length / 256), UInt8.ofNat (headN true xs.length)]) by rw [head_cells HH.out hHb1]; simpa using hown3)
    have K3 := Lib.hid ((KG.out.alloc hsz2 _).grown hgrow3 (by simp; omega) (fun k hk => (HO2.out.lt k hk).1))
    obtain ⟨hc3, hf3⟩ := bcellB K3.out
    clear hown3 hgrow3 hc2 hf2
    go_wp2_with fail
    refine (lay_any (w.heap.size + 1) v3 2 _ A c xs _ HO3.out ((HD.out.below (below1 _ _)).below (show Below (w.alloc _).heap.size _ _ by simpa using K3.out)) HBASE.out (by have := K3.out.size; simpa using this) (by omega)).mono ?_
    rintro e w4 ⟨v4, rfl, hown4, hb4⟩
    have hcv := own_string hown4 (by simp [lay4_len]; omega) (by omega)
    have K4 := Lib.hid (K3.out.trans hb4)
    clear hown4 hb4 hc3 hf3
    go_wp2
    go_ret2
    exact ⟨rfl, (below1 w _).trans (K4.out.mono (by omega))⟩
end Go.Proofs.YthgkdpfkaobgoaaDoor
end

section
/-
  strconv.FormatUint at base 10.
-/
namespace Go.Proofs.YthgkdpfkaobgoaaDoor
open Go.RowKit Go.Sort
def P10 (w : World) : Prop := Lib.TabIs Tryd.prog w "internal/strconv.uint64pow10" .u64 Lib.pow10Tab
set_option maxHeartbeats 4000000 in
set_option maxRecDepth 100000 in
theorem ifmt_any (u : Nat) (h1 : 1 ≤ u) (hu64 : u < 18446744073709551616) (w : World) (htab : P10 w) :
    Calls Tryd.prog 86 #[.int .u64 u, .int .i64 10] w fun e w' => e = .returned (.string ⟨(Lib.decDigits u).toArray⟩) ∧ Below w.heap.size w w' := by
  rcases Nat.lt_or_ge u 100 with hs | hs
  · have d0 : decide ((u : Int) < 100) = true := by simp; omega
    have hw := Lib.hid (IntWalk.wrap64_in (u : Int) (by omega))
    go_enter Tryd.func86, Tryd.ntmps86
    go_wp2_with fail
    refine (Tryd.internal_strconv_small u hs _).mono ?_
    rintro e w' ⟨rfl, rfl⟩
    go_wp2
    go_ret
    exact ⟨rfl, Below.refl _ _⟩
  · have d0 : decide ((u : Int) < 100) = false := by simp; omega
    have hnd20 : Lib.nDigits u ≤ 20 := by have := Lib.numDigits_eq u h1 hu64; split at this <;> omega
    have hal : Tryd.prog.arrayLen 116 = 24 := by simp [Program.arrayLen, Tryd.underlying116]
    have hsl1 : ∀ W, (Instr.sliceAt 116 (.pointer (some ⟨w.heap.size, 0, none⟩)) none (some (.int .i64 (Lib.nDigits u : Int))) none).run Tryd.prog W = .ok (.slice (some ⟨w.heap.size, 0, none⟩) (Lib.nDigits u) 24) W := fun W => by
      rw [run_sliceAt_array_h W 116 ⟨w.heap.size, 0, none⟩ (by simp [Program.arrayLen, Program.elem, Tryd.underlying116]) .i64 (Lib.nDigits u : Int) (by omega) (by rw [hal]; omega)]
      go_simp
    have hH0 := Lib.holds_zero0 w 116 (Lib.nDigits u) (by omega)
    have hfmt := Tryd.internal_strconv_formatBase10 w.heap.size 0 24 u (Array.replicate (Lib.nDigits u) 0) (w.alloc (.cells Lib.zeros24 116)) hH0 (by rw [Array.size_replicate]; exact Lib.lt_pow_nDigits u) hu64 (by rw [Array.size_replicate]; omega)
    rw [Array.size_replicate] at hfmt
    have HF := Lib.hid hfmt
    have HH0 := Lib.hid hH0
    clear hH0 hal hfmt
    have HND := Lib.hid (Tryd.internal_strconv_numDigits u h1 hu64 _ (Lib.tabIs_alloc htab (.cells Lib.zeros24 116)))
    clear htab
    go_enter Tryd.func86, Tryd.ntmps86
    go_wp2_with fail
    refine HND.out.mono ?_
    rintro e w' ⟨rfl, rfl⟩
    go_wp2_with fail
    refine HF.out.mono ?_
    rintro e w' ⟨rfl, k, v', dk, rfl, hF⟩
    have hcv : (convert 81 9 (.slice (some ⟨w.heap.size, 0, none⟩) (Lib.nDigits u) 24)).run Tryd.prog ((putRow (fun (b : UInt8) => Value.int .u8 (b.toNat : Int)) (w.alloc (.cells Lib.zeros24 116)) w.heap.size 0 dk).drewN k) = .ok (.string ⟨(Lib.decDigits u).toArray⟩) ((putRow (fun (b : UInt8) => Value.int .u8 (b.toNat : Int)) (w.alloc (.cells Lib.zeros24 116)) w.heap.size 0 dk).drewN k) := by
      have h := run_convert_bytes_back (P := Tryd.prog) ((putRow (fun (b : UInt8) => Value.int .u8 (b.toNat : Int)) (w.alloc (.cells Lib.zeros24 116)) w.heap.size 0 dk).drewN k) 81 9 5 ⟨w.heap.size, 0, none⟩ 24 (Lib.decDigits u) Tryd.underlying81 Tryd.underlying5 Tryd.underlying9 (fun j hj => by
        rw [Lib.row_is_numeral hF j hj, Lib.add_plain, World.cell?_drewN]
        exact cell?_putRow (fun (b : UInt8) => Value.int .u8 (b.toNat : Int)) _ w.heap.size 0 _ dk HH0.out (by rw [hF.size, Array.size_replicate]) j (by rw [hF.size]; rw [Lib.decDigits_length] at hj; exact hj))
      rw [Lib.decDigits_length] at h
      exact h
    go_wp2
    go_ret
    obtain ⟨os, eo⟩ := Lib.fin_at w (.cells Lib.zeros24 116) dk k 0
    exact ⟨rfl, by rw [eo]; exact Lib.below_grow _ _ (Nat.le_refl _) _ _⟩
set_option maxHeartbeats 1000000 in
set_option maxRecDepth 100000 in
theorem fmt_any (u : Nat) (h1 : 1 ≤ u) (hu64 : u < 18446744073709551616) (w : World) (htab : P10 w) :
    Calls Tryd.prog 70 #[.int .u64 u, .int .i64 10] w fun e w' => e = .returned (.string ⟨(Lib.decDigits u).toArray⟩) ∧ Below w.heap.size w w' := by
  have HC := Lib.hid (ifmt_any u h1 hu64 w htab)
  clear htab h1 hu64
  go_enter Tryd.func70, Tryd.ntmps70
  go_wp2_with fail
  refine HC.out.mono ?_
  rintro e w' ⟨rfl, hb⟩
  have HB := Lib.hid hb
  clear hb
  go_wp2
  go_ret
  exact ⟨rfl, HB.out⟩
end Go.Proofs.YthgkdpfkaobgoaaDoor
end

section
/-
  zint.Sub, Mul.
-/
namespace Go.Proofs.YthgkdpfkaobgoaaDoor
open Go.RowKit
theorem chain {W v w1 : World} (h0 : Below W.heap.size W v) (hb : Below v.heap.size v w1) : Below W.heap.size W w1 := h0.trans (hb.mono h0.size)
theorem bal1 {W v : World} (h : Below W.heap.size W v) (o : Obj) : Below W.heap.size W (v.alloc o) := h.alloc h.size _
theorem bal2 {W v : World} (h : Below W.heap.size W v) (o o' : Obj) : Below W.heap.size W ((v.alloc o).alloc o') := (h.alloc h.size _).alloc (by have := h.size; simp; omega) _
theorem Dg.set_at {w : World} {A : Option Addr} {c g i : Nat} {xs : List Nat} {v0 : Value} (h : Dg w A c xs) (h0 : w.cell? ⟨g, i, none⟩ = some v0) (hv : ∀ n : Int, v0 ≠ .int .u32 n) (v : Value) : Dg (w.setCell ⟨g, i, none⟩ v) A c xs :=
  ⟨h.1, h.2.1, fun h1 => by
    obtain ⟨b, off, e, hb, hc⟩ := h.2.2 h1
    refine ⟨b, off, e, by simpa using hb, fun j hj => ?_⟩
    by_cases he : (⟨g, i, none⟩ : Addr) = ⟨b, off + j, none⟩
    · have h2 := hc j hj
      rw [← he, h0] at h2
      exact absurd (Option.some.inj h2) (hv _)
    · rw [World.cell?_setCell_other _ _ _ _ (fun e => he e)]
      exact hc j hj⟩
theorem Dg.set2 {w : World} {A B : Option Addr} {c g n m : Nat} {b : Bool} {xs : List Nat} (h : Dg w A c xs) (h0 : w.cell? ⟨g, 0, none⟩ = some (.slice B n m)) (h1 : w.cell? ⟨g, 1, none⟩ = some (.bool b)) (v v' : Value) : Dg ((w.setCell ⟨g, 0, none⟩ v).setCell ⟨g, 1, none⟩ v') A c xs :=
  (h.set_at h0 (by intro n h; cases h) v).set_at (v0 := .bool b) (by rw [World.cell?_setCell_other _ _ _ _ (by simp)]; exact h1) (by intro n h; cases h) v'
theorem bset2 {W v : World} (h : Below W.heap.size W v) {g : Nat} (hg : W.heap.size ≤ g) (a b : Value) : Below W.heap.size W ((v.setCell ⟨g, 0, none⟩ a).setCell ⟨g, 1, none⟩ b) := (h.setCell (by simpa using hg) _).setCell (by simpa using hg) _
theorem bd0 (W : World) : Below W.heap.size W W.drew := below_drew (Below.refl _ _)
theorem bd1 (W : World) (o : Obj) : Below W.heap.size W (W.alloc o).drew := below_drew (bal1 (Below.refl _ _) _)
theorem bd2 (W : World) (o o' : Obj) : Below W.heap.size W ((W.alloc o).alloc o').drew := below_drew (bal2 (Below.refl _ _) _ _)
theorem carry4 {W w' : World} (hb : Below W.heap.size W w') {p1 p2 p3 p4 : Addr} {v1 v2 v3 v4 : Value} (h : W.cell? p1 = some v1 ∧ W.cell? p2 = some v2 ∧ W.cell? p3 = some v3 ∧ W.cell? p4 = some v4)
    (b1 : p1.block < W.heap.size) (b2 : p2.block < W.heap.size) (b3 : p3.block < W.heap.size) (b4 : p4.block < W.heap.size) : w'.cell? p1 = some v1 ∧ w'.cell? p2 = some v2 ∧ w'.cell? p3 = some v3 ∧ w'.cell? p4 = some v4 :=
  ⟨(hb.cell b1).trans h.1, (hb.cell b2).trans h.2.1, (hb.cell b3).trans h.2.2.1, (hb.cell b4).trans h.2.2.2⟩
theorem set4 {w : World} {p1 p2 p3 p4 q : Addr} {v1 v2 v3 v4 v : Value} (h : w.cell? p1 = some v1 ∧ w.cell? p2 = some v2 ∧ w.cell? p3 = some v3 ∧ w.cell? p4 = some v4)
    (b1 : p1.block ≠ q.block) (b2 : p2.block ≠ q.block) (b3 : p3.block ≠ q.block) (b4 : p4.block ≠ q.block) : (w.setCell q v).cell? p1 = some v1 ∧ (w.setCell q v).cell? p2 = some v2 ∧ (w.setCell q v).cell? p3 = some v3 ∧ (w.setCell q v).cell? p4 = some v4 :=
  ⟨(World.cell?_setCell_other _ _ _ _ (fun e => b1 (by rw [e]))).trans h.1, (World.cell?_setCell_other _ _ _ _ (fun e => b2 (by rw [e]))).trans h.2.1, (World.cell?_setCell_other _ _ _ _ (fun e => b3 (by rw [e]))).trans h.2.2.1, (World.cell?_setCell_other _ _ _ _ (fun e => b4 (by rw [e]))).trans h.2.2.2⟩
set_option maxHeartbeats 4000000 in
set_option maxRecDepth 100000 in
theorem zsub_any (A B : Option Addr) (c d : Nat) (s r : Bool) (xs ys : List Nat) (w : World) (h : Dg w A c xs) (h' : Dg w B d ys) (hl : xs.length ≤ 1000000) (hl' : ys.length ≤ 1000000) :
    Calls Tryd.prog 17 #[.agg #[.bool s, .slice A xs.length c], .agg #[.bool r, .slice B ys.length d]] w fun e w' => Zr (sg s (val xs) - sg r (val ys)) w e w' := by
  have l1 := digs_len_le h.2.1
  have l2 := digs_len_le h'.2.1
  have HS := Lib.hid (sg_take r (val ys))
  go_enter Tryd.func17, Tryd.ntmps17
  go_wp2_with fail
  refine (take_any B d r ys _ (h'.below (below3 _ _ _ _)) (by omega)).mono ?_
  rintro e w1 ⟨A1, c1, rfl, hd, hb⟩
  generalize (r && decide (0 < val ys)) = t at *
  have hz : w.heap.size + 2 < w1.heap.size := by have := hb.size; simp at this; omega
  have K1 := Lib.hid hb
  have G1 := Lib.hid hd
  have H1 := Lib.hid (h.below ((below3 w _ _ _).trans (hb.mono (by simp; omega))))
  obtain ⟨hc1, hf1⟩ := bcell hb
  clear hb hd h h'
  go_wp2
  obtain ⟨W, hW⟩ : ∃ W : World, W = w1.alloc (.cells #[.slice A1 (digs (val ys)).length c1, .bool (!t)] 59) := ⟨_, rfl⟩
  have hsz : W.heap.size = w1.heap.size + 1 := by rw [hW]; simp
  have F0 := Lib.hid (show W.cell? ⟨w.heap.size, 0, none⟩ = some (.bool s) ∧ W.cell? ⟨w.heap.size, 1, none⟩ = some (.slice A xs.length c) ∧ W.cell? ⟨w1.heap.size, 0, none⟩ = some (.slice A1 (digs (val ys)).length c1) ∧ W.cell? ⟨w1.heap.size, 1, none⟩ = some (.bool (!t)) by
    rw [hW]
    refine ⟨?_, ?_, cell_of_row _ _ _ _ _ _ (heap_alloc_new w1 _), cell_of_row _ _ _ _ _ _ (heap_alloc_new w1 _)⟩
    · rw [World.cell?_alloc_lt _ _ _ (by simp; omega), hc1 _ _ (by simp; omega)]; go_simp
    · rw [World.cell?_alloc_lt _ _ _ (by simp; omega), hc1 _ _ (by simp; omega)]; go_simp)
  have KW := Lib.hid (show Below w1.heap.size w1 W by rw [hW]; exact below1 _ _)
  rw [← hW]
  have HW := Lib.hid hW
  have HZ := Lib.hid hsz
  have S0 : w.heap.size < W.heap.size := by omega
  have S1 : w1.heap.size < W.heap.size := by omega
  clear hW hc1 hf1 hsz
  have N1 := Lib.hid (show w.heap.size ≠ w.heap.size + 1 + 1 by omega)
  have N2 := Lib.hid (show w1.heap.size ≠ w.heap.size + 1 + 1 by omega)
  have D0 := Lib.hid (below_drew (Below.refl W.heap.size W))
  go_region_held3 (fun w' => w'.cell? ⟨w.heap.size, 0, none⟩ = some (.bool s) ∧ w'.cell? ⟨w.heap.size, 1, none⟩ = some (.slice A xs.length c) ∧ w'.cell? ⟨w1.heap.size, 0, none⟩ = some (.slice A1 (digs (val ys)).length c1) ∧ w'.cell? ⟨w1.heap.size, 1, none⟩ = some (.bool (!t)))
    (first | exact F0.out | exact carry4 K2.out F0.out S0 S0 S1 S1 | exact carry4 K3.out F0.out S0 S0 S1 S1 | exact carry4 K4.out F0.out S0 S0 S1 S1 | exact set4 (set4 (carry4 K4.out F0.out S0 S0 S1 S1) N1.out N1.out N2.out N2.out) N1.out N1.out N2.out N2.out)
    (first
      | (go_at_call 45; refine (take_any A c s xs _ (H1.out.below (KW.out.trans (D0.out.mono KW.out.size))) (by omega)).mono ?_; rintro e w2 ⟨A2, c2, rfl, hd, hb⟩; (have K2 := Lib.hid (D0.out.trans (hb.mono D0.out.size))); (have G2 := Lib.hid hd); clear hb hd)
      | (go_at_call 44; refine (sum_any A2 A1 c2 c1 (val xs) (val ys) _ _ _ G2.out (G1.out.below (KW.out.trans (K2.out.mono KW.out.size))) (by omega) (by omega)).mono ?_; rintro e w3 ⟨A3, c3, m, q, rfl, hm, hlm, hd, hb⟩; (have K3 := Lib.hid (K2.out.trans (hb.mono K2.out.size))); (have G3 := Lib.hid hd); (have M := Lib.hid hm); clear hb hd hm)
      | (go_at_call 46; refine (give_any A3 c3 m q _ G3.out (by omega)).mono ?_; rintro e w4 ⟨A4, c4, rfl, hd, hb⟩; (have K4 := Lib.hid (K3.out.trans (hb.mono K3.out.size))); (have KA := Lib.hid (K1.out.trans ((KW.out.trans (K4.out.mono KW.out.size)).mono K1.out.size))); (obtain ⟨hc4, hf4⟩ := bcell KA.out); (have HO4 := Lib.hid (off_box (g := w.heap.size + 1 + 1) hd KA.out (by simp) noint2')); (have G4 := Lib.hid hd); clear hb hd))
  go_wp2
  refine bodyPost_ret (v := .agg #[.bool (q && decide (m ≠ 0)), .slice A4 (digs m).length c4]) (by simp [results, Tryd.results17, go_sem, hc4]) rfl ?_
  exact zr_give (by rw [M.out, sg_take, sg_not, HS.out]; omega) ((G4.out.set_off HO4.out _ _).set_off HO4.out _ _) ((((below3 w _ _ _).trans (KA.out.mono (by simp; omega))).setCell (by simp; omega) _).setCell (by simp; omega) _)
end Go.Proofs.YthgkdpfkaobgoaaDoor
end

section
/-
  zint.Mul.
-/
namespace Go.Proofs.YthgkdpfkaobgoaaDoor
open Go.RowKit
theorem heap_lt {w : World} {g : Nat} {o : Obj} (h : w.heap[g]? = some o) : g < w.heap.size := by
  rcases Nat.lt_or_ge g w.heap.size with h' | h'
  · exact h'
  · rw [Array.getElem?_eq_none h'] at h; cases h
/-- Digits do not lie in a block that held another thing, and still does. -/
theorem off_row {W w1 : World} {A : Option Addr} {c g : Nat} {xs : List Nat} {cs : Array Value} {t : TypeId} {fr : Nat × Nat} (hd : Dg w1 A c xs) (hb : Below W.heap.size W w1) (hg : W.heap[g]? = some (.cells cs t fr)) (hcs : ∀ (o : Nat) (n : Int), cs[o]? ≠ some (.int .u32 n)) : Off g A xs := by
  intro h0 o e
  obtain ⟨b, off, e', _, hc⟩ := hd.2.2 h0
  rw [e] at e'
  simp only [Option.some.injEq, Addr.mk.injEq, and_true] at e'
  obtain ⟨rfl, rfl⟩ := e'
  have h1 := hc 0 h0
  rw [hb.cell (p := ⟨g, o + 0, none⟩) (heap_lt hg), cell_of_row _ _ _ _ _ _ hg] at h1
  exact hcs _ _ h1
theorem row_cell {W w1 : World} {g : Nat} {cs : Array Value} {t : TypeId} {fr : Nat × Nat} (hg : W.heap[g]? = some (.cells cs t fr)) (hb : Below W.heap.size W w1) (o : Nat) : w1.cell? ⟨g, o, none⟩ = cs[o]? :=
  (hb.cell (p := ⟨g, o, none⟩) (heap_lt hg)).trans (cell_of_row _ _ _ _ _ _ hg)
theorem row_frozen {W w1 : World} {g : Nat} {cs : Array Value} {t : TypeId} (hg : W.heap[g]? = some (.cells cs t (0, 0))) (hb : Below W.heap.size W w1) (o : Nat) : w1.frozen? ⟨g, o, none⟩ = false :=
  (hb.frozen (p := ⟨g, o, none⟩) (heap_lt hg)).trans (frozen_of_row _ _ _ _ _ hg)
theorem sg_mulx (s r : Bool) (x y : Nat) : sg (s != r) (x * y) = sg s x * sg r y := by
  unfold sg; cases s <;> cases r <;> simp [Int.neg_mul, Int.mul_neg]
set_option maxHeartbeats 4000000 in
set_option maxRecDepth 100000 in
theorem zmul_any (A B : Option Addr) (c d : Nat) (s r : Bool) (xs ys : List Nat) (w : World) (h : Dg w A c xs) (h' : Dg w B d ys) (hl : xs.length ≤ 500000) (hl' : ys.length ≤ 500000) :
    Calls Tryd.prog 19 #[.agg #[.bool s, .slice A xs.length c], .agg #[.bool r, .slice B ys.length d]] w fun e w' => Zr (sg s (val xs) * sg r (val ys)) w e w' := by
  have l1 := digs_len_le h.2.1
  have l2 := digs_len_le h'.2.1
  obtain ⟨t1, ht1⟩ : ∃ t, (s && decide (0 < val xs)) = t := ⟨_, rfl⟩
  obtain ⟨t2, ht2⟩ : ∃ t, (r && decide (0 < val ys)) = t := ⟨_, rfl⟩
  have TA := Lib.hid (fun W h => take_any A c s xs W h (by omega))
  have TB := Lib.hid (fun W h => take_any B d r ys W h (by omega))
  have E1 := Lib.hid (sg_take s (val xs))
  have E2 := Lib.hid (sg_take r (val ys))
  rw [ht1] at TA E1
  rw [ht2] at TB E2
  clear ht1 ht2
  go_enter Tryd.func19, Tryd.ntmps19
  go_upto_region 1 with fail
  have HB0 := Lib.hid (below3 w (.cells #[.bool s, .slice A xs.length c] 24) (.cells #[.bool r, .slice B ys.length d] 24) (.cells #[.bool false, .slice none 0 0] 24))
  obtain ⟨W, hW⟩ : ∃ W : World, W = ((w.alloc (.cells #[.bool s, .slice A xs.length c] 24)).alloc (.cells #[.bool r, .slice B ys.length d] 24)).alloc (.cells #[.bool false, .slice none 0 0] 24) := ⟨_, rfl⟩
  have F0 : W.cell? ⟨w.heap.size, 0, none⟩ = some (.bool s) ∧ W.cell? ⟨w.heap.size, 1, none⟩ = some (.slice A xs.length c) ∧ W.cell? ⟨w.heap.size + 1, 0, none⟩ = some (.bool r) ∧ W.cell? ⟨w.heap.size + 1, 1, none⟩ = some (.slice B ys.length d) := by
    rw [hW]
    refine ⟨?_, ?_, ?_, ?_⟩ <;> go_simp
  rw [← hW] at HB0
  rw [← hW]
  have HW := Lib.hid hW
  have H1 := Lib.hid (h.below HB0.out)
  have H2 := Lib.hid (h'.below HB0.out)
  have hsz : W.heap.size = w.heap.size + 3 := by rw [hW]; simp
  have HR := Lib.hid (show W.heap[w.heap.size + 1 + 1]? = some (.cells #[.bool false, .slice none 0 0] 24 (0, 0)) by rw [hW]; have := heap_alloc_new ((w.alloc (.cells #[.bool s, .slice A xs.length c] 24)).alloc (.cells #[.bool r, .slice B ys.length d] 24)) (.cells #[.bool false, .slice none 0 0] 24); simpa using this)
  clear hW h h'
  have S0 : w.heap.size < W.heap.size := by omega
  have S1 : w.heap.size + 1 < W.heap.size := by omega
  have HZ := Lib.hid hsz
  clear hsz
  refine two_calls (W := W) rfl 7 8 9 10 5 6 (.agg #[.bool s, .slice A xs.length c]) (.agg #[.bool r, .slice B ys.length d])
    (fun u w' => ∃ A' c', u = .agg #[.slice A' (digs (val xs)).length c', .bool t1] ∧ Dg w' A' c' (digs (val xs)))
    (fun u w' => ∃ A' c', u = .agg #[.slice A' (digs (val ys)).length c', .bool t2] ∧ Dg w' A' c' (digs (val ys)))
    #[.slice none 0 0, .bool false] 59 (fun | .agg us => us | _ => #[])
    rfl (by kernel_rfl) (by kernel_rfl) (by decide) (by kernel_rfl) noint2 ?_ ?_ ?_ ?_ ?_ ?_ ?_ ?_ ?_ ?_ (bd0 W) ?_
  · rintro u w1 w2 ⟨A', c', rfl, hd⟩ hk; exact ⟨A', c', rfl, hd.kept hk⟩
  · rintro u w1 w2 ⟨A', c', rfl, hd⟩ hk; exact ⟨A', c', rfl, hd.kept hk⟩
  · intro a v K hF hb hK
    simp only [wpOp, List.getElem?_toArray, List.getElem?_cons_zero, Region.wanted, if_true]
    refine Or.inl ?_
    have e : a.eval (.tmp 2) = .pointer (some ⟨w.heap.size, 0, none⟩) := hF.2.2 2 (by decide)
    obtain ⟨hc, _⟩ := bcell hb
    simp only [Oper.wp, execOp]
    rw [e]
    go_simp
    exact hK
  · intro a v K hF hb hK
    simp only [wpOp, List.getElem?_toArray, List.getElem?_cons_succ, List.getElem?_cons_zero, Region.wanted, if_true]
    refine Or.inl ?_
    have e : a.eval (.tmp 3) = .pointer (some ⟨w.heap.size + 1, 0, none⟩) := hF.2.2 3 (by decide)
    obtain ⟨hc, _⟩ := bcell hb
    simp only [Oper.wp, execOp]
    rw [e]
    go_simp
    exact hK
  · intro a v K hF hb h1 hK
    simp only [wpOp, List.getElem?_toArray, List.getElem?_cons_succ, List.getElem?_cons_zero, Region.wanted, if_true]
    refine Or.inl ?_
    have e : a.eval (.tmp 7) = .agg #[.bool s, .slice A xs.length c] := h1
    simp only [Oper.wp, execOp]
    go_simp
    refine (TA.out v (H1.out.below hb)).mono ?_
    rintro e w1 ⟨A', c', rfl, hd, hbb⟩
    exact hK _ _ ⟨A', c', rfl, hd⟩ hbb
  · intro a v K hF hb h1 hK
    simp only [wpOp, List.getElem?_toArray, List.getElem?_cons_succ, List.getElem?_cons_zero, Region.wanted, if_true]
    refine Or.inl ?_
    have e : a.eval (.tmp 9) = .agg #[.bool r, .slice B ys.length d] := h1
    simp only [Oper.wp, execOp]
    go_simp
    refine (TB.out v (H2.out.below hb)).mono ?_
    rintro e w1 ⟨A', c', rfl, hd, hbb⟩
    exact hK _ _ ⟨A', c', rfl, hd⟩ hbb
  · intro a v K hF hK
    simp only [wpOp, List.getElem?_toArray, List.getElem?_cons_succ, List.getElem?_cons_zero, Region.wanted, if_true]
    refine Or.inl ?_
    simp only [Oper.wp, execOp]
    go_simp
    exact hK
  · intro a v K hF hK
    simp only [wpOp, List.getElem?_toArray, List.getElem?_cons_succ, List.getElem?_cons_zero, Region.wanted, if_true]
    refine Or.inl ?_
    simp only [Oper.wp, execOp]
    go_simp
    exact hK
  · intro a v K g u hF hx hc hR hg hK
    simp only [wpOp, List.getElem?_toArray, List.getElem?_cons_succ, List.getElem?_cons_zero, Region.wanted, if_true]
    refine Or.inl ?_
    obtain ⟨A', c', rfl, hd⟩ := hR
    have e : a.eval (.tmp 5) = .pointer (some ⟨g, 0, none⟩) := hx
    have e' : a.eval (.tmp 8) = _ := hc
    simp only [Oper.wp, execOp]
    rw [e, e']
    have f0 := cell_of_row v g 0 _ _ _ hg
    have f1 := cell_of_row v g 1 _ _ _ hg
    have z0 := frozen_of_row v g 0 _ _ hg
    have z1 := frozen_of_row v g 1 _ _ hg
    go_simp
    exact hK _ (heap_setCell_same _ _ 1 _ _ _ (heap_setCell_same _ _ 0 _ _ _ hg)) (((Only.refl g v).setCell 0 _).setCell 1 _)
  · intro a v K g u hF hx hc hR hg hK
    simp only [wpOp, List.getElem?_toArray, List.getElem?_cons_succ, List.getElem?_cons_zero, Region.wanted, if_true]
    refine Or.inl ?_
    obtain ⟨A', c', rfl, hd⟩ := hR
    have e : a.eval (.tmp 6) = .pointer (some ⟨g, 0, none⟩) := hx
    have e' : a.eval (.tmp 10) = _ := hc
    simp only [Oper.wp, execOp]
    rw [e, e']
    have f0 := cell_of_row v g 0 _ _ _ hg
    have f1 := cell_of_row v g 1 _ _ _ hg
    have z0 := frozen_of_row v g 0 _ _ hg
    have z1 := frozen_of_row v g 1 _ _ hg
    go_simp
    exact hK _ (heap_setCell_same _ _ 1 _ _ _ (heap_setCell_same _ _ 0 _ _ _ hg)) (((Only.refl g v).setCell 0 _).setCell 1 _)
  · intro a v g1 g2 u1 u2 hF hb h1 h2 hne
    obtain ⟨hl1, hc1, hx1⟩ := h1
    obtain ⟨hl2, hc2, hx2⟩ := h2
    obtain ⟨ec1, A1, c1, rfl, hd1⟩ := hc1 rfl
    obtain ⟨ec2, A2, c2, rfl, hd2⟩ := hc2 rfl
    obtain ⟨ex1, hg1, hs1, hh1⟩ := hx1 rfl
    obtain ⟨ex2, hg2, hs2, hh2⟩ := hx2 rfl
    rw [hF.eq (by kernel_rfl) (hl1 rfl) ec1 (hl2 rfl) ec2 ex1 ex2]
    simp only [if_true] at hh1 hh2
    have HF := Lib.hid (And.intro (cell_of_row v g1 0 _ _ _ hh1) (And.intro (cell_of_row v g1 1 _ _ _ hh1) (And.intro (cell_of_row v g2 0 _ _ _ hh2) (cell_of_row v g2 1 _ _ _ hh2))))
    have KB := Lib.hid hb
    have D1 := Lib.hid hd1
    have D2 := Lib.hid hd2
    clear hF hb hl1 hc1 hx1 hl2 hc2 hx2 ec1 ec2 ex1 ex2 hh1 hh2 hd1 hd2 hne
    simp only [Act.put, List.setIfInBounds_toArray, List.set_cons_zero, List.set_cons_succ]
    have n1 := Lib.hid (show g1 ≠ w.heap.size + 1 + 1 by have := HZ.out; omega)
    have n2 := Lib.hid (show g2 ≠ w.heap.size + 1 + 1 by have := HZ.out; omega)
    have KD := Lib.hid (below_drew (Below.refl v.heap.size v))
    clear TA TB
    go_wp2_with fail
    go_region_held3 (fun w' => w'.cell? ⟨g1, 0, none⟩ = some (.slice A1 (digs (val xs)).length c1) ∧ w'.cell? ⟨g1, 1, none⟩ = some (.bool t1) ∧ w'.cell? ⟨g2, 0, none⟩ = some (.slice A2 (digs (val ys)).length c2) ∧ w'.cell? ⟨g2, 1, none⟩ = some (.bool t2))
      (first | exact HF.out | exact carry4 K3.out HF.out hs1 hs1 hs2 hs2 | exact carry4 K4.out HF.out hs1 hs1 hs2 hs2 | exact set4 (set4 (carry4 K4.out HF.out hs1 hs1 hs2 hs2) n1.out n1.out n2.out n2.out) n1.out n1.out n2.out n2.out)
      (first
        | (go_at_call 49; refine (times_any A1 A2 c1 c2 (val xs) (val ys) _ (D1.out.below KD.out) (D2.out.below KD.out) (by omega) (by omega)).mono ?_; rintro e w3 ⟨A3, c3, rfl, hd, hb⟩; (have K3 := Lib.hid (KD.out.trans (hb.mono KD.out.size))); (have G3 := Lib.hid hd); clear hb hd)
        | (go_at_call 46; refine (give_any A3 c3 (val xs * val ys) (t1 != t2) _ G3.out (by have := digs_mul_len (val xs) (val ys); omega)).mono ?_; rintro e w4 ⟨A4, c4, rfl, hd, hb⟩; (have K4 := Lib.hid (K3.out.trans (hb.mono K3.out.size))); (have KA := Lib.hid (KB.out.trans (K4.out.mono KB.out.size))); (have q0 := row_cell HR.out KA.out 0); (have q1 := row_cell HR.out KA.out 1); (have q2 := row_frozen HR.out KA.out 0); (have q3 := row_frozen HR.out KA.out 1); (simp only [List.getElem?_toArray, List.getElem?_cons_zero, List.getElem?_cons_succ] at q0 q1); (have HO4 := Lib.hid (off_row (g := w.heap.size + 1 + 1) hd KA.out HR.out noint2')); (have G4 := Lib.hid hd); clear hb hd))
    go_wp2
    refine bodyPost_ret (v := .agg #[.bool ((t1 != t2) && decide (val xs * val ys ≠ 0)), .slice A4 (digs (val xs * val ys)).length c4]) (by simp [results, Tryd.results19, go_sem, q0, q1]) rfl ?_
    exact zr_give (by rw [sg_mulx, E1.out, E2.out]) ((G4.out.set_off HO4.out _ _).set_off HO4.out _ _) ((((HB0.out.trans (KA.out.mono HB0.out.size)).setCell (by simp; omega) _).setCell (by simp; omega) _))
end Go.Proofs.YthgkdpfkaobgoaaDoor
end

section
/-
  Rows of strings of the call's own: reversed, joined. zint.Text of a number of one part.
-/
namespace Go.Proofs.YthgkdpfkaobgoaaDoor
open Go.RowKit Go.Sort
theorem inter_nil : ∀ zs : List (List UInt8), List.intercalate [] zs = zs.flatten
  | [] => rfl
  | [z] => by simp [List.intercalate]
  | z :: z' :: zs => by
    have := inter_nil (z' :: zs)
    simp only [List.intercalate, List.intersperse_cons_cons, List.flatten_cons, List.nil_append] at this ⊢
    rw [this]
theorem rev_own (base : Nat) (v : Value) (n : Nat) (zs : List (List UInt8)) (w : World) (h : w.ownsRow base 9 1 v n (zs.map Proofs.encStr)) (hv : v ≠ .slice none 0 0) (hn : n ≤ 1000000) :
    Calls Tryd.prog 72 #[v] w fun e w' => e = .returned (.tuple #[]) ∧ w'.ownsRow base 9 1 v n (zs.reverse.map Proofs.encStr) ∧ Below base w w' := by
  obtain ⟨g, cap, rfl, hb, hg, hnc, hm, hl, hH⟩ := Lib.holds_of_ownsRow h hv
  subst hl
  refine (Tryd.slices_Reverse_string g 0 cap zs w hH (by omega)).mono ?_
  rintro e w' ⟨rfl, k, rfl⟩
  have h1 := Lib.ownsRow_putRow (q := k) h (ys := zs.reverse) (by simp) (Nat.le_refl _)
  have h2 := Lib.below_putRow (enc := Proofs.encStr) (q := k) (d := zs.reverse.toArray) (Below.refl base w) hb
  rw [List.take_of_length_le (by simp)] at h1
  exact ⟨rfl, h1, h2⟩
theorem join_own (base : Nat) (v : Value) (n : Nat) (zs : List (List UInt8)) (w : World) (h : w.ownsRow base 9 1 v n (zs.map Proofs.encStr)) (hv : v ≠ .slice none 0 0) (hn : n ≤ 1000000) (hlen : zs.flatten.length ≤ 1000000) :
    Calls Tryd.prog 73 #[v, .string ⟨#[]⟩] w fun e w' => e = .returned (.string ⟨zs.flatten.toArray⟩) ∧ Below w.heap.size w w' := by
  obtain ⟨g, cap, rfl, hb, hg, hnc, hm, hl, hH⟩ := Lib.holds_of_ownsRow h hv
  subst hl
  have ej : Lib.join ((zs.map fun l => (⟨l.toArray⟩ : ByteArray)).map (·.data.toList)) (⟨#[]⟩ : ByteArray).data.toList = zs.flatten := by
    rw [List.map_map]
    have e1 : ((fun x : ByteArray => x.data.toList) ∘ fun l : List UInt8 => (⟨l.toArray⟩ : ByteArray)) = id := by funext l; simp
    rw [e1, List.map_id]
    show List.intercalate [] zs = zs.flatten
    exact inter_nil zs
  have h1 := Tryd.strings_Join g 0 cap (zs.map fun l => (⟨l.toArray⟩ : ByteArray)) ⟨#[]⟩ w (fun j x hx => by
    rw [List.getElem?_map] at hx
    rcases hz : zs[j]? with _ | l
    · rw [hz] at hx; cases hx
    · rw [hz] at hx
      simp only [Option.map_some, Option.some.injEq] at hx
      subst hx
      have := h.cells (g := g) rfl j (Proofs.encStr l) (by rw [List.getElem?_map, hz]; rfl)
      rw [Addr.add_lit] at this
      exact this) hg (by simp; omega) (by simp; omega) (by rw [ej]; omega)
  rw [ej, List.length_map] at h1
  exact h1
end Go.Proofs.YthgkdpfkaobgoaaDoor
end
