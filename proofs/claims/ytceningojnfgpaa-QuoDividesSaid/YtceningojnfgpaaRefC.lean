/-
  The reference's own text (astrolaberef01): Cmp, Add, Sub.
-/
import Derived.Test.YtceningojnfgpaaRefB
import Derived.Test.YtceningojnfgpaaSub
namespace Go.Proofs.Ytceningojnfgpaa
open Go.RowKit
/-- A list with noughts behind. -/
def pad (xs : List Nat) (N : Nat) : List Nat := xs ++ List.replicate (N - xs.length) 0
theorem pad_len {xs : List Nat} {N : Nat} (h : xs.length ≤ N) : (pad xs N).length = N := by simp [pad]; omega
theorem pad_val (xs : List Nat) (N : Nat) : val (pad xs N) = val xs := by rw [pad, val_append, val_zeros]; simp
theorem pad_ok {xs : List Nat} (N : Nat) (h : ok32 xs) : ok32 (pad xs N) := by
  intro x hx
  rcases List.mem_append.1 hx with hx | hx
  · exact h x hx
  · rw [List.eq_of_mem_replicate hx]; omega
theorem pad_get (xs : List Nat) (N j : Nat) : (pad xs N)[j]?.getD 0 = xs[j]?.getD 0 := by
  rcases Nat.lt_or_ge j xs.length with h | h
  · rw [pad, List.getElem?_append_left h]
  · rw [pad, List.getElem?_append_right h, List.getElem?_eq_none h, List.getElem?_replicate]
    split <;> rfl
theorem val_take_step (xs : List Nat) (k : Nat) : val (xs.take (k + 1)) = val (xs.take k) + 4294967296 ^ k * (xs[k]?.getD 0) := by
  rcases Nat.lt_or_ge k xs.length with h | h
  · rw [take_one h, val_snoc, List.length_take, Nat.min_eq_left (by omega)]
  · rw [List.take_of_length_le (by omega), List.take_of_length_le h, List.getElem?_eq_none h]; simp
theorem val_take_mod {xs : List Nat} (h : ok32 xs) (k : Nat) : val (xs.take k) = val xs % 4294967296 ^ k := by
  have e : val xs = val (xs.take k) + 4294967296 ^ k * val (xs.drop k) := by
    rcases Nat.lt_or_ge k xs.length with hl | hl
    · conv => lhs; rw [← List.take_append_drop k xs, val_append]
      rw [List.length_take, Nat.min_eq_left (by omega)]
    · rw [List.take_of_length_le hl, List.drop_eq_nil_of_le hl]; simp [val]
  have hlt : val (xs.take k) < 4294967296 ^ k := by
    have h1 := val_lt (xs := xs.take k) (fun x hx => h x (List.mem_of_mem_take hx))
    rw [List.length_take] at h1
    exact Nat.lt_of_lt_of_le h1 (Nat.pow_le_pow_right (by omega) (Nat.min_le_left _ _))
  rw [e, Nat.add_mul_mod_self_left, Nat.mod_eq_of_lt hlt]
theorem pad_lt {xs ys : List Nat} {N k : Nat} (hx : ok32 xs) (hy : ok32 ys) (lx : xs.length ≤ N) (ly : ys.length ≤ N) (hk : k < N) (hj : ∀ j, k < j → j < N → xs[j]?.getD 0 = ys[j]?.getD 0) (h : xs[k]?.getD 0 < ys[k]?.getD 0) : val xs < val ys := by
  rw [← pad_val xs N, ← pad_val ys N]
  exact val_lt_at _ _ k (by rw [pad_len lx, pad_len ly]) (pad_ok N hx) (pad_ok N hy) (by rw [pad_len lx]; exact hk) (fun j a b => by rw [pad_len lx] at b; rw [pad_get, pad_get]; exact hj j a b) (by rw [pad_get, pad_get]; exact h)
theorem pad_eq {xs ys : List Nat} {N : Nat} (lx : xs.length ≤ N) (ly : ys.length ≤ N) (hj : ∀ j, j < N → xs[j]?.getD 0 = ys[j]?.getD 0) : val xs = val ys := by
  rw [← pad_val xs N, ← pad_val ys N]
  exact congrArg val (val_eq_of (by rw [pad_len lx, pad_len ly]) (fun j b => by rw [pad_len lx] at b; rw [pad_get, pad_get]; exact hj j b))
set_option maxHeartbeats 2000000 in
theorem rcmp_any (A B : Option Addr) (c d : Nat) (xs ys : List Nat) (w : World) (h : Dg w A c xs) (h' : Dg w B d ys) (hl : xs.length ≤ 16777216) (hl' : ys.length ≤ 16777216) :
    Calls Try.prog 52 #[.slice A xs.length c, .slice B ys.length d] w fun e w' => e = .returned (.int .i64 (cmpi (val xs) (val ys))) ∧ w = w' := by
  have hN : ∃ N : Nat, max (xs.length : Int) (ys.length : Int) = (N : Int) ∧ xs.length ≤ N ∧ ys.length ≤ N ∧ N ≤ 16777216 := ⟨max xs.length ys.length, by omega, by omega, by omega, by omega⟩
  obtain ⟨N, eN, n1, n2, n3⟩ := hN
  have EN := Lib.hid eN
  have RX := Lib.hid (fun (k : Nat) (hk : k ≤ 9223372036854775807) => rat_any A c xs k w h hk)
  have RY := Lib.hid (fun (k : Nat) (hk : k ≤ 9223372036854775807) => rat_any B d ys k w h' hk)
  have O1 := Lib.hid h.2.1
  have O2 := Lib.hid h'.2.1
  clear eN h h'
  go_enter Try.func52, Try.ntmps52
  go_wp2
  go_loop [5] (fun i => ∃ k : Nat, k ≤ N ∧ i = .int .i64 (↑k - 1) ∧ Hid (∀ j, k ≤ j → j < N → xs[j]?.getD 0 = ys[j]?.getD 0)) (fun i => (intOf i + 1).toNat)
  case atStart => exact ⟨N, Nat.le_refl _, congrArg (Value.int .i64) (by rw [EN.out]), fun j a b => by omega⟩
  case round =>
    obtain ⟨k, hk, rfl, hz⟩ := hrel
    rcases k with _ | k
    · rw [show (((0 : Nat) : Int) - 1) = -1 from rfl]
      have HF := Lib.hid (cmpi_eq (a := val xs) (b := val ys) (pad_eq n1 n2 (fun j hj => hz j (Nat.zero_le _) hj)))
      go_wp2
      go_ret
      exact ⟨ret_i HF.out.symm, rfl⟩
    · rw [show (((k + 1 : Nat) : Int) - 1) = (k : Int) from by omega]
      have hX := getD_lt O1.out k
      have hY := getD_lt O2.out k
      have rx := Lib.hid (RX.out k (by omega))
      have ry := Lib.hid (RY.out k (by omega))
      have HJ := Lib.hid (fun j (a : k < j) (b : j < N) => hz j (by omega) b)
      rcases Nat.lt_trichotomy (xs[k]?.getD 0) (ys[k]?.getD 0) with h | h | h
      · have HF := Lib.hid (cmpi_lt (pad_lt O1.out O2.out n1 n2 (by omega) HJ.out h))
        have d0 : decide (xs[k]?.getD 0 < ys[k]?.getD 0) = true := by simp [h]
        clear h
        go_wp2_with fail
        refine rx.out.mono ?_
        rintro e w' ⟨rfl, rfl⟩
        go_wp2_with fail
        refine ry.out.mono ?_
        rintro e w' ⟨rfl, rfl⟩
        go_wp2
        go_ret
        exact ⟨ret_i HF.out.symm, rfl⟩
      · have HX := Lib.hid h
        have d0 : decide (xs[k]?.getD 0 < ys[k]?.getD 0) = false := by simp; omega
        have d1 : decide (ys[k]?.getD 0 < xs[k]?.getD 0) = false := by simp; omega
        clear h
        go_wp2_with fail
        refine rx.out.mono ?_
        rintro e w' ⟨rfl, rfl⟩
        go_wp2_with fail
        refine ry.out.mono ?_
        rintro e w' ⟨rfl, rfl⟩
        go_wp2_with fail
        refine rx.out.mono ?_
        rintro e w' ⟨rfl, rfl⟩
        go_wp2_with fail
        refine ry.out.mono ?_
        rintro e w' ⟨rfl, rfl⟩
        go_wp2
        go_round
        case rel =>
          refine ⟨k, by omega, rfl, fun j a b => ?_⟩
          rcases Nat.eq_or_lt_of_le a with e | e
          · subst e; exact HX.out
          · exact hz j (by omega) b
        case measure => simp [intOf] <;> omega
      · have HF := Lib.hid (cmpi_gt (pad_lt O2.out O1.out n2 n1 (by omega) (fun j a b => (HJ.out j a b).symm) h))
        have d0 : decide (xs[k]?.getD 0 < ys[k]?.getD 0) = false := by simp; omega
        have d1 : decide (ys[k]?.getD 0 < xs[k]?.getD 0) = true := by simp [h]
        clear h
        go_wp2_with fail
        refine rx.out.mono ?_
        rintro e w' ⟨rfl, rfl⟩
        go_wp2_with fail
        refine ry.out.mono ?_
        rintro e w' ⟨rfl, rfl⟩
        go_wp2_with fail
        refine rx.out.mono ?_
        rintro e w' ⟨rfl, rfl⟩
        go_wp2_with fail
        refine ry.out.mono ?_
        rintro e w' ⟨rfl, rfl⟩
        go_wp2
        go_ret
        exact ⟨ret_i HF.out.symm, rfl⟩
theorem rsum_step {xs ys zs : List Nat} {k s d c t : Nat} (hz : zs.length = k) (h : val zs + 4294967296 ^ k * c = val (xs.take k) + val (ys.take k))
    (hs : s + 4294967296 * d = xs[k]?.getD 0 + ys[k]?.getD 0 + c) (ht : t = s) : val (zs ++ [t]) + 4294967296 ^ (k + 1) * d = val (xs.take (k + 1)) + val (ys.take (k + 1)) := by
  subst ht
  rw [val_take_step, val_take_step, val_snoc, hz, Nat.pow_succ]
  have : 4294967296 ^ k * t + 4294967296 ^ k * 4294967296 * d = 4294967296 ^ k * (xs[k]?.getD 0) + 4294967296 ^ k * (ys[k]?.getD 0) + 4294967296 ^ k * c := by
    rw [Nat.mul_assoc, ← Nat.mul_add, hs, Nat.mul_add, Nat.mul_add]
  omega
theorem sum_end {a b c p q z : Nat} (h : c + p * z = a + b) (ha : a < q) (hb : b < q) (hp : 2 * q ≤ p) : c = a + b := by
  rcases z with _ | z
  · omega
  · have : p ≤ p * (z + 1) := Nat.le_mul_of_pos_right _ (by omega)
    omega
theorem pow_twice (N : Nat) : 2 * 4294967296 ^ N ≤ 4294967296 ^ (N + 1) := by
  rw [Nat.pow_succ]
  have := Nat.mul_le_mul_left (4294967296 ^ N) (show 2 ≤ 4294967296 by omega)
  rw [Nat.mul_comm 2]
  exact this
theorem rsum_end {xs ys zs : List Nat} {N z : Nat} (o1 : ok32 xs) (o2 : ok32 ys) (n1 : xs.length ≤ N) (n2 : ys.length ≤ N) (h : val zs + 4294967296 ^ (N + 1) * z = val (xs.take (N + 1)) + val (ys.take (N + 1))) : val zs = val xs + val ys := by
  rw [List.take_of_length_le (by omega), List.take_of_length_le (by omega)] at h
  exact sum_end h (Nat.lt_of_lt_of_le (val_lt o1) (Nat.pow_le_pow_right (by omega) n1)) (Nat.lt_of_lt_of_le (val_lt o2) (Nat.pow_le_pow_right (by omega) n2)) (pow_twice N)
theorem ok_snoc {zs : List Nat} (h : ok32 zs) {x : Nat} (hx : x < 4294967296) : ok32 (zs ++ [x]) := by
  intro z hz
  rcases List.mem_append.1 hz with hz | hz
  · exact h z hz
  · simp at hz; omega
theorem own_snoc {w : World} {base : Nat} {e : TypeId} {v : Value} {k : Nat} {zs : List Nat} {x : Int} {t : Nat} (h : w.ownsRow base e 1 v (k + 1) (cells zs ++ [.int .u32 x])) (hx : x = (t : Int)) : w.ownsRow base e 1 v (k + 1) (cells (zs ++ [t])) := by
  subst hx
  simpa [cells] using h
theorem cell_new (w : World) (x : Value) (t : TypeId) : ∀ j u, [x][j]? = some u → (w.alloc (.cells #[x] t)).cell? ((⟨w.heap.size, 0, none⟩ : Addr).add j) = some u := by
  intro j u hj
  match j, hj with
  | 0, hj =>
    simp at hj; subst hj
    rw [Addr.add_lit, cell_of_row _ _ _ _ _ _ (heap_alloc_new w _)]
    rfl
set_option maxHeartbeats 4000000 in
theorem radd_any (A B : Option Addr) (c d : Nat) (xs ys : List Nat) (w : World) (h : Dg w A c xs) (h' : Dg w B d ys) (hl : xs.length ≤ 1048576) (hl' : ys.length ≤ 1048576) :
    Calls Try.prog 39 #[.slice A xs.length c, .slice B ys.length d] w fun e w' => ∃ A' c', e = .returned (.slice A' (digs (val xs + val ys)).length c') ∧ Dg w' A' c' (digs (val xs + val ys)) ∧ Below w.heap.size w w' := by
  have hN : ∃ N : Nat, max (xs.length : Int) (ys.length : Int) = (N : Int) ∧ xs.length ≤ N ∧ ys.length ≤ N ∧ N ≤ 1048576 := ⟨max xs.length ys.length, by omega, by omega, by omega, by omega⟩
  obtain ⟨N, eN, n1, n2, n3⟩ := hN
  obtain ⟨i0, hinf, hz0, hz1, hz2⟩ := info_parts elem_info
  have H := Lib.hid h
  have H' := Lib.hid h'
  have O1 := Lib.hid h.2.1
  have O2 := Lib.hid h'.2.1
  clear h h'
  go_enter Try.func39, Try.ntmps39
  go_wp2
  go_loopw [5, 6, 7] (fun v cy i wr => ∃ (k z : Nat) (zs : List Nat), k ≤ N + 1 ∧ i = .int .i64 k ∧ cy = .int .u64 z ∧ z ≤ 1 ∧ wr.ownsRow w.heap.size 37 1 v k (cells zs) ∧ Hid (zs.length = k) ∧ ok32 zs ∧
    Hid (val zs + 4294967296 ^ k * z = val (xs.take k) + val (ys.take k)) ∧ Below w.heap.size w wr) (fun _ _ i _ => N + 1 - (intOf i).toNat)
  case atStart => exact ⟨0, 0, [], Nat.zero_le _, rfl, rfl, by omega, World.ownsRow_nil _ _ _ _, by simp [Hid], by intro x hx; simp at hx, by simp [Hid, val], Below.refl _ _⟩
  case round =>
    obtain ⟨k, z, zs, hk, rfl, rfl, hz, hown, HL, hok, HE, hbel⟩ := hrel
    by_cases hlt : k < N + 1
    · have d0 : decide ((k : Int) < max (xs.length : Int) (ys.length : Int) + 1) = true := by rw [eN]; simp; omega
      have rx := Lib.hid (rat_any A c xs k wr (H.out.keep hbel.size (fun b o h => hbel.cell (p := ⟨b, o, none⟩) h)) (by omega))
      have ry := Lib.hid (rat_any B d ys k wr (H'.out.keep hbel.size (fun b o h => hbel.cell (p := ⟨b, o, none⟩) h)) (by omega))
      have hX := getD_lt O1.out k
      have hY := getD_lt O2.out k
      generalize ex : xs[k]?.getD 0 = x at *
      generalize ey : ys[k]?.getD 0 = y at *
      have HX := Lib.hid ex
      have HY := Lib.hid ey
      clear ex ey eN
      go_wp2_with fail
      refine rx.out.mono ?_
      rintro e w' ⟨rfl, rfl⟩
      go_wp2_with fail
      refine ry.out.mono ?_
      rintro e w' ⟨rfl, rfl⟩
      go_wp2_with (at_builtin; refine wpList_append_own _ rfl _ _ 22 rfl w.heap.size 37 i0 (.int .u32 0) 1 4 Try.underlying22 hinf hz0 hz1 hz2 rfl (by decide) _ _ _ rfl (hown.alloc _) ⟨wr.heap.size, 0, none⟩ 1 1 [.int .u32 (((x : Int) + y + z) % 4294967296)] rfl rfl (cell_new _ _ _) (fun u hu => by simp at hu; subst hu; rfl) (by unfold maxLen; omega) (by omega) (by have := hbel.size; simp; omega) ?_)
      intro v' w1 hown1 hgrow hnil
      have e1 : ((x : Int) + y + z) % 4294967296 = (lo (x + y + z) : Nat) := by unfold lo; omega
      have hown2 := Lib.hid (own_snoc hown1 e1)
      have hb1 := Lib.hid ((hbel.alloc hbel.size _).grown hgrow (by simp; have := hbel.size; omega) (fun g hg => (hown.lt g hg).1))
      clear hown1 hgrow hnil hown e1
      go_wp2
      go_roundw
      case rel =>
        have hp := lo_hi (x + y + z)
        have hq := lo_lt (x + y + z)
        have e2 : ((x : Int) + y + z) / 4294967296 = (hi (x + y + z) : Nat) := by unfold hi; omega
        exact ⟨k + 1, hi (x + y + z), zs ++ [lo (x + y + z)], hlt, by go_num, by rw [e2], by omega, hown2.out, by have := HL.out; simp [Hid]; omega, ok_snoc hok hq,
          rsum_step HL.out HE.out (by rw [HX.out, HY.out]; exact hp) rfl, hb1.out⟩
      case measure => simp [intOf]; omega
    · have hk' : k = N + 1 := by omega
      have d0 : decide ((k : Int) < max (xs.length : Int) (ys.length : Int) + 1) = false := by rw [eN]; simp; omega
      obtain ⟨A2, c2, hv, hd⟩ := dg_of_own hown hok
      have HV := Lib.hid (show val zs = val xs + val ys from by
        have h1 := HE.out
        rw [hk'] at h1
        exact rsum_end O1.out O2.out n1 n2 h1)
      have HD := Lib.hid (rtrim_any A2 c2 zs wr hd (by have := HL.out; omega))
      rw [HV.out] at HD
      subst hv
      clear hown hd eN hlt
      go_wp2_with fail
      refine HD.out.mono ?_
      rintro e w2 ⟨A3, c3, rfl, h3, hb3⟩
      have H3 := Lib.hid h3
      have HB3 := Lib.hid hb3
      clear h3 hb3
      go_wp2
      go_ret
      exact ⟨A3, c3, rfl, H3.out, hbel.trans (HB3.out.mono hbel.size)⟩
end Go.Proofs.Ytceningojnfgpaa
