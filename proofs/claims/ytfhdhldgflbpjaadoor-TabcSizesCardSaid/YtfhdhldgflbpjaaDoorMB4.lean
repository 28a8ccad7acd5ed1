import Derived.Test.YtfhdhldgflbpjaaDoorMB3
import Derived.Test.YtfhdhldgflbpjaaDoorMB1
import Derived.Test.YtfhdhldgflbpjaaDoorMB2
import Derived.Test.YtfhdhldgflbpjaaDoorMB0
import Derived.Lib.AppendStr
import Derived.Lib.ConvBytes
section
/-
  quo.root at every length; quo.Sqrt.
-/
namespace Go.Proofs.YtfhdhldgflbpjaaDoor
open Go.RowKit
theorem Dg.drop_ {w : World} {b off c : Nat} {xs : List Nat} (h : Dg w (some ⟨b, off, none⟩) c xs) (j : Nat) : Dg w (some ⟨b, off + j, none⟩) (c - j) (xs.drop j) := by
  refine ⟨by rw [List.length_drop]; have := h.1; omega, fun x hx => h.2.1 x (List.mem_of_mem_drop hx), fun h0 => ?_⟩
  rw [List.length_drop] at h0
  obtain ⟨b', off', e, hb, hc⟩ := h.2.2 (by omega)
  injection e with e
  injection e with e1 e2 _
  subst e1 e2
  refine ⟨b, off + j, rfl, hb, fun i hi => ?_⟩
  rw [List.length_drop] at hi
  rw [Nat.add_assoc, hc _ (by omega), List.getElem?_drop]
theorem rt_self (n : Nat) : rt n ≤ n := by
  rcases Nat.eq_zero_or_pos (rt n) with h | h
  · omega
  · exact Nat.le_trans (Nat.le_mul_of_pos_right _ h) (rt_spec n).1
theorem trimmed_drop {xs : List Nat} (hk : ok32 xs) (ex : digs (val xs) = xs) (j : Nat) : digs (val (xs.drop j)) = xs.drop j := by
  refine digs_val (fun x hx => hk x (List.mem_of_mem_drop hx)) fun x hx => ?_
  rw [List.getLast?_drop] at hx
  split at hx
  · cases hx
  · exact last_digs (n := val xs) (by rw [ex]; exact hx)
theorem above_le {xs : List Nat} (hk : ok32 xs) {k : Nat} (h : 2 * k ≤ xs.length) : val xs < 4294967296 ^ k * (rt (val (xs.drop (2 * k))) + 1) * (4294967296 ^ k * (rt (val (xs.drop (2 * k))) + 1)) := by
  have h1 := val_split xs h
  have h2 := val_take_lt hk (2 * k) h
  have h3 := (rt_spec (val (xs.drop (2 * k)))).2
  rw [Nat.mul_mul_mul_comm, ← Nat.pow_add, show k + k = 2 * k by omega]
  have h4 := Nat.mul_le_mul_left (4294967296 ^ (2 * k)) h3
  rw [Nat.mul_succ] at h4
  omega
section
variable {w0 w w' : World} {L : List (Option Addr × Nat × List Nat)} {A : Option Addr} {c n : Nat} {xs : List Nat} {x : Nat}
end
end Go.Proofs.YtfhdhldgflbpjaaDoor
end

section
/-
  dyad.Sqrt.
-/
namespace Go.Proofs.YtfhdhldgflbpjaaDoor
open Go.RowKit
set_option linter.unusedSimpArgs false
set_option linter.unusedVariables false
theorem and_i64_1 (v : Int) (h0 : -4611686018427387904 ≤ v) (h1 : v ≤ 4611686018427387904) : bits BinOp.and IntKind.i64 v 1 = v % 2 := by
  show IntKind.i64.wrap ((BitVec.ofInt 64 v &&& BitVec.ofInt 64 1).toNat : Int) = _
  have e1 : (BitVec.ofInt 64 1).toNat = 1 := by decide
  have e2 : (BitVec.ofInt 64 v).toNat = (v % 18446744073709551616).toNat := by rw [BitVec.toNat_ofInt]; rfl
  rw [BitVec.toNat_and, e1, e2, Nat.and_one_is_mod, IntWalk.i64_in _ ⟨by omega, by omega⟩]
  omega
theorem sqrt_kept {m x h : Int} {k p : Nat} {up more : Bool} (m0 : 0 < m) (p1 : 1 ≤ p) (hk : 2 * p ≤ blen m.natAbs + k) (hh : x - k = 2 * h) (hm : more = decide (m.natAbs * 2 ^ k - rt (m.natAbs * 2 ^ k) * rt (m.natAbs * 2 ^ k) ≠ 0)) :
    p ≤ blen (rt (m.natAbs * 2 ^ k)) ∧ RsOf (dv m x) p up (nm (kept (rt (m.natAbs * 2 ^ k)) p more up : Nat)) (nx (kept (rt (m.natAbs * 2 ^ k)) p more up : Nat) (h + (blen (rt (m.natAbs * 2 ^ k)) - p : Nat))) := by
  have ⟨a, b⟩ := rt_spec (m.natAbs * 2 ^ k)
  have hN : 2 ^ (2 * (p - 1)) ≤ m.natAbs * 2 ^ k := by
    have ⟨a, _, c⟩ := blen_bd m.natAbs (by omega)
    refine Nat.le_trans (Nat.pow_le_pow_right (by omega) (show 2 * (p - 1) ≤ blen m.natAbs - 1 + k by omega)) ?_
    rw [Nat.pow_add]; exact Nat.mul_le_mul_right _ a
  have hv : dv m x = dv ((m.natAbs * 2 ^ k : Nat) : Int) (h + h) := by
    have := dv_pow (m.natAbs : Int) k (h + h)
    rw [show h + h + (k : Int) = x by omega] at this
    rw [show ((m.natAbs : Nat) : Int) = m by omega] at this
    rw [← this]; congr 1
    push_cast
    rw [show ((m.natAbs : Nat) : Int) = m by omega]
  generalize m.natAbs * 2 ^ k = N at *
  generalize rt N = R at *
  have hR : 2 ^ (p - 1) ≤ R := by
    rcases Nat.lt_or_ge R (2 ^ (p - 1)) with h | h
    · exfalso
      have h1 : (R + 1) * (R + 1) ≤ 2 ^ (p - 1) * 2 ^ (p - 1) := Nat.mul_le_mul h h
      rw [← Nat.pow_add, show p - 1 + (p - 1) = 2 * (p - 1) by omega] at h1
      omega
    · exact h
  have hpb : p ≤ blen R := by
    have h1 := blen_uniq (n := 2 ^ (p - 1)) (k := p - 1) (Nat.le_refl _) (Nat.pow_lt_pow_right (by omega) (by omega))
    have := blen_mono hR
    omega
  refine ⟨hpb, ?_⟩
  have e1 : dv (R : Int) h * dv (R : Int) h = dv ((R * R : Nat) : Int) (h + h) := by rw [dv_mul]; congr 1
  have e2 : dv (R + 1 : Int) h * dv (R + 1 : Int) h = dv (((R + 1) * (R + 1) : Nat) : Int) (h + h) := by rw [dv_mul]; congr 1
  refine kept_rs (more := more) (up := up) (e := h) hpb p1 ?_ ?_ ?_ (nf_n _ _) (dv_n _ _)
  · rw [e1, hv, dv_le]; exact_mod_cast a
  · rw [e2, hv, dv_lt]; exact_mod_cast b
  · rw [hm, decide_eq_decide, e1, hv]
    constructor
    · intro h1 h2
      have h3 := dv_inj h2
      have : N = R * R := by exact_mod_cast h3
      omega
    · intro h1 h2
      apply h1
      have : N = R * R := by omega
      rw [this]
end Go.Proofs.YtfhdhldgflbpjaaDoor
end

section
/-
  Plain arithmetic: how great what is reckoned of numbers is.
-/
namespace Go.Proofs.YtfhdhldgflbpjaaDoor
set_option linter.unusedVariables false
/-- A number's exponent is L at least, its size H at most. -/
def Bd (L H M E : Int) : Prop := Nf M E ∧ (M = 0 ∨ (L ≤ E ∧ E + bl M ≤ H))
theorem bl_pos {M : Int} (h : M ≠ 0) : 0 < bl M := by
  have := (blen_bd M.natAbs (by omega)).2.2
  unfold bl; omega
theorem Bd.inR {L H M E : Int} (h : Bd L H M E) (hL : -65536 ≤ L) (hH : H ≤ 65536) : inR M E = true := by
  unfold Go.Proofs.YtfhdhldgflbpjaaDoor.inR
  rw [decide_eq_true_eq]
  rcases h.2 with h0 | ⟨a, b⟩
  · exact .inl h0
  · by_cases hm : M = 0
    · exact .inl hm
    · have := bl_pos hm
      right; omega
theorem Bd.mono {L H L' H' M E : Int} (h : Bd L H M E) (hL : L' ≤ L) (hH : H ≤ H') : Bd L' H' M E := by
  refine ⟨h.1, ?_⟩
  rcases h.2 with h0 | ⟨a, b⟩
  · exact .inl h0
  · exact .inr ⟨by omega, by omega⟩
/-- Between powers of 2. -/
theorem sz_bd {M E a b : Int} (h : M ≠ 0) (ha : 2 ^ a ≤ (dv M E).abs) (hb : (dv M E).abs < 2 ^ b) : a < E + bl M ∧ E + bl M ≤ b := by
  have ⟨h1, h2⟩ := sz_dv (e := E) h
  have x := zpow_lt.1 (rle_lt ha h2)
  have y := zpow_lt.1 (rle_lt h1 hb)
  omega
theorem Bd.of {m e L H : Int} (hL : L ≤ e) (hH : e + bl m ≤ H) {M E : Int} (h : IsD (dv m e) M E) : Bd L H M E := by
  obtain ⟨rfl, rfl⟩ := h.of
  refine ⟨nf_n m e, ?_⟩
  by_cases h0 : m = 0
  · left; rw [h0]; rfl
  · right
    have := bl_nm m e
    rw [if_neg h0] at this
    have h3 : nx m e = e + tz m.natAbs := by unfold nx; rw [if_neg h0]
    omega
theorem abs_le_size {L H M E : Int} (h : Bd L H M E) : (dv M E).abs ≤ 2 ^ H := by
  by_cases h0 : M = 0
  · rw [h0, dv_zero, Rat.abs_zero]; exact Rat.le_of_lt (zpow_pos _)
  · rcases h.2 with h1 | ⟨_, b⟩
    · exact absurd h1 h0
    · exact Rat.le_of_lt (rlt_le (sz_dv h0).2 (zpow_le.2 b))
theorem Bd.add {L H m x n y M E : Int} (h : Bd L H m x) (h' : Bd L H n y) (hs : IsD (dv m x + dv n y) M E) : Bd L (H + 1) M E := by
  by_cases hm : m = 0
  · rw [hm, dv_zero, Rat.zero_add] at hs
    obtain ⟨rfl, rfl⟩ := hs.uniq ⟨h'.1, rfl⟩
    exact h'.mono (by omega) (by omega)
  · by_cases hn : n = 0
    · rw [hn, dv_zero, Rat.add_zero] at hs
      obtain ⟨rfl, rfl⟩ := hs.uniq ⟨h.1, rfl⟩
      exact h.mono (by omega) (by omega)
    · have a := h.2.resolve_left hm
      have b := h'.2.resolve_left hn
      refine ⟨hs.1, ?_⟩
      by_cases hM : M = 0
      · exact .inl hM
      · right
        have hsum := sum_upto m x n y
        rw [← hsum] at hs
        obtain ⟨e1, e2⟩ := hs.of
        have hz : upto m x (min x y) + upto n y (min x y) ≠ 0 := by
          intro e; rw [e] at e1; exact hM (by rw [← e1]; rfl)
        refine ⟨?_, ?_⟩
        · rw [← e2]; unfold nx; rw [if_neg hz]; omega
        · have h2 := abs_le_size h
          have h3 := abs_le_size h'
          have h4 : (dv M E).abs < 2 ^ (H + 1) := by
            rw [hs.2, hsum]
            have s1 := (sz_dv (e := x) hm).2
            have s2 := (sz_dv (e := y) hn).2
            have s3 := zpow_le.2 a.2
            have s4 := zpow_le.2 b.2
            have s5 : (2 : Rat) ^ (H + 1) = 2 ^ H * 2 := by rw [zpow_add2, Rat.zpow_one]
            generalize dv m x = p at *
            generalize dv n y = q at *
            have t1 : (p + q).abs ≤ p.abs + q.abs := by
              rcases (Rat.le_total : 0 ≤ p ∨ p ≤ 0) with hp | hp <;> rcases (Rat.le_total : 0 ≤ q ∨ q ≤ 0) with hq | hq <;> rcases (Rat.le_total : 0 ≤ p + q ∨ p + q ≤ 0) with hr | hr <;>
                (first | rw [Rat.abs_of_nonneg hp] | rw [Rat.abs_of_nonpos hp]) <;> (first | rw [Rat.abs_of_nonneg hq] | rw [Rat.abs_of_nonpos hq]) <;> (first | rw [Rat.abs_of_nonneg hr] | rw [Rat.abs_of_nonpos hr]) <;> grind
            grind
          have h5 := zpow_lt.1 (rle_lt (sz_dv (e := E) hM).1 h4)
          omega
theorem bd_neg {L H m x : Int} (h : Bd L H m x) : Bd L H (-m) x := by
  refine ⟨by rcases h.1 with h1 | h1; exact .inl (by omega); exact .inr (by omega), ?_⟩
  rcases h.2 with h1 | h1
  · left; omega
  · right; unfold bl at *; rw [Int.natAbs_neg]; exact h1
theorem Bd.sub {L H m x n y M E : Int} (h : Bd L H m x) (h' : Bd L H n y) (hs : IsD (dv m x - dv n y) M E) : Bd L (H + 1) M E :=
  h.add (bd_neg h') (by rw [dv_neg, ← Rat.sub_eq_add_neg]; exact hs)
theorem bl_mul (m n : Int) : bl (m * n) ≤ bl m + bl n := by
  unfold bl
  rw [Int.natAbs_mul]
  by_cases hm : m.natAbs = 0
  · rw [hm, Nat.zero_mul, blen_zero]; omega
  · by_cases hn : n.natAbs = 0
    · rw [hn, Nat.mul_zero, blen_zero]; omega
    · refine blen_le ?_
      rw [Nat.pow_add]
      have a := (blen_bd _ hm).2.1
      have b := (blen_bd _ hn).2.1
      exact Nat.lt_of_le_of_lt (Nat.mul_le_mul_right _ (Nat.le_of_lt a)) (Nat.mul_lt_mul_of_pos_left b (Nat.pow_pos (by omega)))
theorem Bd.mul {L H L' H' m x n y M E : Int} (h : Bd L H m x) (h' : Bd L' H' n y) (hs : IsD (dv m x * dv n y) M E) : Bd (L + L') (H + H') M E := by
  rw [dv_mul] at hs
  by_cases hm : m = 0
  · obtain ⟨rfl, rfl⟩ := hs.of; refine ⟨nf_n _ _, .inl ?_⟩; rw [hm, Int.zero_mul]; rfl
  · by_cases hn : n = 0
    · obtain ⟨rfl, rfl⟩ := hs.of; refine ⟨nf_n _ _, .inl ?_⟩; rw [hn, Int.mul_zero]; rfl
    · have a := h.2.resolve_left hm
      have b := h'.2.resolve_left hn
      have := bl_mul m n
      exact Bd.of (by omega) (by omega) hs
theorem Bd.scale {L H m x n M E : Int} (h : Bd L H m x) (hs : IsD (dv m (x + n)) M E) : Bd (L + n) (H + n) M E := by
  by_cases hm : m = 0
  · obtain ⟨rfl, rfl⟩ := hs.of; refine ⟨nf_n _ _, .inl ?_⟩; rw [hm]; rfl
  · have a := h.2.resolve_left hm
    exact Bd.of (by omega) (by omega) hs
theorem rd_bd {L H M E : Int} {r : Rat} {p : Nat} {up : Bool} (h1 : 1 ≤ p) (h : RdOf r p up M E) (hr : r = 0 ∨ (2 ^ L ≤ r.abs ∧ r.abs < 2 ^ H)) : Bd (L - p) (H + 1) M E := by
  obtain ⟨n, ⟨_, h0⟩ | ⟨s, t, hs, ht, hv⟩⟩ := h
  · exact ⟨n, .inl h0⟩
  · rcases hr with h0 | ⟨hlo, hhi⟩
    · exact absurd h0 hs.ne
    · have x1 := zpow_lt.1 (rle_lt hlo hs.2)
      have x2 := zpow_lt.1 (rle_lt hs.1 hhi)
      have ⟨c1, c2⟩ := rn_abs hs ht
      have hbt : bl t ≤ p + 1 := by
        unfold bl; exact blen_le (Nat.lt_of_le_of_lt c1 (Nat.pow_lt_pow_right (by omega) (by omega)))
      exact Bd.of (m := t) (e := s) (by omega) (by omega) ⟨n, hv⟩
theorem Bd.round {L H m x M E : Int} {p : Nat} {up : Bool} (h1 : 1 ≤ p) (h : Bd L H m x) (hr : RdOf (dv m x) p up M E) : Bd (L - p) (H + 1) M E := by
  refine rd_bd h1 hr ?_
  by_cases hm : m = 0
  · left; rw [hm, dv_zero]
  · right
    have a := h.2.resolve_left hm
    have ⟨s1, s2⟩ := sz_dv (e := x) hm
    have := bl_pos hm
    exact ⟨Rat.le_trans (zpow_le.2 (by omega)) s1, rlt_le s2 (zpow_le.2 a.2)⟩
theorem rd_exists (m x : Int) (hn : Nf m x) (p : Nat) (up : Bool) (h1 : 1 ≤ p) : ∃ M E, RdOf (dv m x) p up M E := by
  by_cases hc : bl m ≤ p
  · exact ⟨m, x, rd_self hn hc⟩
  · have ⟨hs, hr⟩ := kept_rn (q := m.natAbs) (p := p) (more := false) (away := (up != decide (m < 0))) (r := dv (m.natAbs : Int) x) (e := x) (by unfold bl at hc; omega) h1 Rat.le_refl (dv_lt.2 (by omega)) (by simp)
    by_cases hneg : m < 0
    · have e : dv m x = -dv (m.natAbs : Int) x := by rw [← dv_neg]; congr 1; omega
      have h2 := hr.neg
      rw [show decide (m < 0) = true by simpa using hneg] at h2
      have e1 : (!(up != true)) = up := by cases up <;> rfl
      rw [e1] at h2
      refine ⟨_, _, nf_n _ _, .inr ⟨_, _, ?_, by rw [e]; exact h2, dv_n _ _⟩⟩
      rw [e]; unfold Sz at hs ⊢; rw [Rat.abs_neg]; exact hs
    · have e : dv m x = dv (m.natAbs : Int) x := by congr 1; omega
      rw [show decide (m < 0) = false by simpa using hneg] at hr
      have e1 : (up != false) = up := by cases up <;> rfl
      rw [e1] at hr
      exact ⟨_, _, nf_n _ _, .inr ⟨_, _, by rw [e]; exact hs, by rw [e]; exact hr, dv_n _ _⟩⟩
theorem isD_ex (m x : Int) : ∃ M E, IsD (dv m x) M E := ⟨_, _, isD_n m x⟩
theorem isD_add (m x n y : Int) : ∃ M E, IsD (dv m x + dv n y) M E := ⟨_, _, by rw [← sum_upto m x n y]; exact isD_n _ _⟩
theorem isD_sub (m x n y : Int) : ∃ M E, IsD (dv m x - dv n y) M E := by
  obtain ⟨M, E, h⟩ := isD_add m x (-n) y
  exact ⟨M, E, by rw [dv_neg, ← Rat.sub_eq_add_neg] at h; exact h⟩
theorem isD_mul (m x n y : Int) : ∃ M E, IsD (dv m x * dv n y) M E := ⟨_, _, by rw [dv_mul]; exact isD_n _ _⟩
/-- Rounded both ways: the same just if it has as few bits. -/
theorem rd_low {m x M E : Int} {p : Nat} {up : Bool} (h1 : 1 ≤ p) (hn : Nf m x) (h : RdOf (dv m x) p up M E) : decide (M = m ∧ E = x) = decide (bl m ≤ p) := by
  rw [decide_eq_decide]
  constructor
  · rintro ⟨rfl, rfl⟩; exact h.bits h1
  · intro hb; exact h.uniq (rd_self hn hb)
end Go.Proofs.YtfhdhldgflbpjaaDoor
end

section
/-
  Div by 0, Sqrt below 0, Cmp with 0; that there are quotients and roots.
-/
namespace Go.Proofs.YtfhdhldgflbpjaaDoor
open Go.RowKit
set_option linter.unusedSimpArgs false
set_option linter.unusedVariables false
theorem dv_scale (m e k : Int) : dv m (e + k) = dv m e * 2 ^ k := by
  unfold dv; rw [zpow_add2]; grind
theorem rabs_mul (a b : Rat) : (a * b).abs = a.abs * b.abs := by
  rcases (Rat.le_total : 0 ≤ a ∨ a ≤ 0) with ha | ha <;> rcases (Rat.le_total : 0 ≤ b ∨ b ≤ 0) with hb | hb
  · rw [Rat.abs_of_nonneg ha, Rat.abs_of_nonneg hb, Rat.abs_of_nonneg (Rat.mul_nonneg ha hb)]
  · rw [Rat.abs_of_nonneg ha, Rat.abs_of_nonpos hb, Rat.abs_of_nonpos (by have := Rat.mul_nonneg ha (show 0 ≤ -b by grind); grind)]; grind
  · rw [Rat.abs_of_nonpos ha, Rat.abs_of_nonneg hb, Rat.abs_of_nonpos (by have := Rat.mul_nonneg (show 0 ≤ -a by grind) hb; grind)]; grind
  · rw [Rat.abs_of_nonpos ha, Rat.abs_of_nonpos hb, Rat.abs_of_nonneg (by have := Rat.mul_nonneg (show 0 ≤ -a by grind) (show 0 ≤ -b by grind); grind)]; grind
/-- A number that is not 0 lies between powers of 2. -/
theorem Bd.size {L H m x : Int} (h : Bd L H m x) (m0 : m ≠ 0) : 2 ^ L ≤ (dv m x).abs ∧ (dv m x).abs < 2 ^ H := by
  have a := h.2.resolve_left m0
  have ⟨s1, s2⟩ := sz_dv (e := x) m0
  have := bl_pos m0
  exact ⟨Rat.le_trans (zpow_le.2 (by omega)) s1, rlt_le s2 (zpow_le.2 a.2)⟩
theorem quot_bd {a b r : Rat} {L H L' H' : Int} (hr : r * b = a) (h1 : 2 ^ L ≤ a.abs) (h2 : a.abs < 2 ^ H) (h3 : 2 ^ L' ≤ b.abs) (h4 : b.abs < 2 ^ H') : 2 ^ (L - H') ≤ r.abs ∧ r.abs < 2 ^ (H - L') := by
  rw [← hr, rabs_mul] at h1 h2
  have hb : 0 < b.abs := rlt_le (zpow_pos L') h3
  constructor
  · refine Rat.le_of_mul_le_mul_right (c := b.abs) ?_ hb
    refine Rat.le_trans ?_ h1
    have e : (2 : Rat) ^ L = 2 ^ (L - H') * 2 ^ H' := by rw [← zpow_add2]; congr 1; omega
    rw [e]
    exact Rat.mul_le_mul_of_nonneg_left (Rat.le_of_lt h4) (Rat.le_of_lt (zpow_pos _))
  · refine Rat.lt_of_mul_lt_mul_right (c := b.abs) ?_ (Rat.le_of_lt hb)
    refine rlt_le h2 ?_
    have e : (2 : Rat) ^ H = 2 ^ (H - L') * 2 ^ L' := by rw [← zpow_add2]; congr 1; omega
    rw [e]
    exact Rat.mul_le_mul_of_nonneg_left h3 (Rat.le_of_lt (zpow_pos _))
theorem Bd.div {L H L' H' m x n y M E : Int} {p : Nat} {up : Bool} (h1 : 1 ≤ p) (h : Bd L H m x) (h' : Bd L' H' n y) (n0 : n ≠ 0) (hr : RdOf (dv m x / dv n y) p up M E) : Bd (L - H' - p) (H - L' + 1) M E := by
  refine rd_bd h1 hr ?_
  have hn : dv n y ≠ 0 := fun e => n0 (dv_eq0.1 e)
  by_cases hm : m = 0
  · left; rw [hm, dv_zero, Rat.div_def, Rat.zero_mul]
  · right
    have a := h.size hm
    have b := h'.size n0
    exact quot_bd (Rat.div_mul_cancel hn) a.1 a.2 b.1 b.2
theorem div_exists {m n x y : Int} (hn : n ≠ 0) {p : Nat} (h1 : 1 ≤ p) (up : Bool) : ∃ M E, RdOf (dv m x / dv n y) p up M E := by
  by_cases h0 : m = 0
  · exact ⟨0, 0, .inl ⟨rfl, rfl⟩, .inl ⟨by rw [h0, dv_zero, Rat.div_def, Rat.zero_mul], rfl⟩⟩
  · exact ⟨_, _, (div_kept (k := p + blen n.natAbs) (more := decide (m.natAbs * 2 ^ (p + blen n.natAbs) % n.natAbs ≠ 0)) (up := up) h0 hn h1 (by omega) rfl).2⟩
theorem RsOf.self {m x : Int} {p : Nat} (h1 : 1 ≤ p) (hn : Nf m x) (h0 : 0 ≤ m) (hb : bl m ≤ p) : RsOf (dv m x * dv m x) p false m x := by
  refine ⟨hn, ?_⟩
  by_cases hm : m = 0
  · left; rw [hm, dv_zero]; exact ⟨Rat.zero_mul 0, rfl⟩
  · right
    have e : dv (m * 2 ^ (p - bl m)) (x - (p - bl m : Nat)) = dv m x := by
      rw [dv_pow]; congr 1; omega
    have ⟨a, b, _⟩ := blen_bd m.natAbs (by omega)
    have hbl : blen m.natAbs = bl m := rfl
    have hp := bl_pos hm
    rw [hbl] at a b
    have hma : (m.natAbs : Int) = m := by omega
    refine ⟨x - (p - bl m : Nat), m * 2 ^ (p - bl m), ?_, ?_, ?_, ?_, ?_⟩
    · have : 2 ^ (bl m - 1) * 2 ^ (p - bl m) ≤ m.natAbs * 2 ^ (p - bl m) := Nat.mul_le_mul_right _ a
      rw [← Nat.pow_add, show bl m - 1 + (p - bl m) = p - 1 by omega] at this
      rw [← hma]; exact_mod_cast this
    · have : m.natAbs * 2 ^ (p - bl m) < 2 ^ bl m * 2 ^ (p - bl m) := Nat.mul_lt_mul_of_pos_right b (Nat.pow_pos (by omega))
      rw [← Nat.pow_add, show bl m + (p - bl m) = p by omega] at this
      rw [← hma]; exact_mod_cast this
    · rw [e]; exact Rat.le_refl
    · rw [← e]
      have h2 : dv (m * 2 ^ (p - bl m)) (x - (p - bl m : Nat)) < dv (m * 2 ^ (p - bl m) + 1) (x - (p - bl m : Nat)) := dv_lt.2 (by omega)
      have h3 : 0 ≤ dv (m * 2 ^ (p - bl m)) (x - (p - bl m : Nat)) := by rw [e]; exact dv_nonneg.2 h0
      generalize dv (m * 2 ^ (p - bl m)) (x - (p - bl m : Nat)) = a at *
      generalize dv (m * 2 ^ (p - bl m) + 1) (x - (p - bl m : Nat)) = b at *
      have h4 : a * a ≤ a * b := Rat.mul_le_mul_of_nonneg_left (Rat.le_of_lt h2) h3
      have h5 : b * a < b * b := Rat.mul_lt_mul_of_pos_left h2 (by grind)
      grind
    · rw [← e]; simp
theorem sqrt_exists {m x : Int} (h0 : 0 ≤ m) {p : Nat} (h1 : 1 ≤ p) (up : Bool) : ∃ M E, RsOf (dv m x) p up M E := by
  by_cases hm : m = 0
  · exact ⟨0, 0, .inl ⟨rfl, rfl⟩, .inl ⟨by rw [hm, dv_zero], rfl⟩⟩
  · obtain ⟨k, hk1, hk2⟩ : ∃ k : Nat, 2 * p ≤ k ∧ (x - k) % 2 = 0 := by
      by_cases hx : (x - (2 * p : Nat)) % 2 = 0
      · exact ⟨2 * p, Nat.le_refl _, hx⟩
      · exact ⟨2 * p + 1, by omega, by omega⟩
    exact ⟨_, _, (sqrt_kept (k := k) (h := (x - k) / 2) (more := decide (m.natAbs * 2 ^ k - rt (m.natAbs * 2 ^ k) * rt (m.natAbs * 2 ^ k) ≠ 0)) (up := up) (by omega) h1 (by omega) (by omega) rfl).2⟩
theorem RsOf.nonneg {X : Rat} {p : Nat} {up : Bool} {M E : Int} (h : RsOf X p up M E) : 0 ≤ M := by
  rcases h.2 with ⟨_, h0⟩ | ⟨s, t, ht, _, _, _, hv⟩
  · omega
  · have hp : (0 : Int) < 2 ^ (p - 1) := Int.pow_pos (by omega)
    have : 0 ≤ dv M E := by rw [hv]; exact dv_nonneg.2 (by split <;> omega)
    exact dv_nonneg.1 this
theorem RsOf.le {X : Rat} {p : Nat} {M E : Int} (h : RsOf X p false M E) : dv M E * dv M E ≤ X := by
  rcases h.2 with ⟨h1, h0⟩ | ⟨s, t, ht, _, h3, _, hv⟩
  · rw [h0, dv_zero, h1]; grind
  · rw [hv]; simpa using h3
theorem RsOf.ge {X : Rat} {p : Nat} {M E : Int} (h : RsOf X p true M E) : X ≤ dv M E * dv M E := by
  rcases h.2 with ⟨h1, h0⟩ | ⟨s, t, ht, _, h3, h4, hv⟩
  · rw [h0, dv_zero, h1]; grind
  · rw [hv]
    by_cases he : dv t s * dv t s = X
    · simp [he]
    · simp [he]; exact Rat.le_of_lt h4
theorem rsq_pow (k : Int) : (2 : Rat) ^ k * 2 ^ k = 2 ^ (2 * k) := by rw [← zpow_add2]; congr 1; omega
theorem Bd.root {L H m x M E : Int} {p : Nat} {up : Bool} (h1 : 1 ≤ p) (h : Bd L H m x) (hr : RsOf (dv m x) p up M E) (hL : L ≤ 0) (hH : 0 ≤ H) : Bd (L - p) (H + 3) M E := by
  refine ⟨hr.1, ?_⟩
  rcases hr.2 with ⟨_, h0⟩ | ⟨s, t, ht1, ht2, h3, h4, hv⟩
  · exact .inl h0
  · by_cases hM : M = 0
    · exact .inl hM
    · have hp1 : (2 : Int) ^ p = 2 ^ (p - 1) * 2 := by rw [← Int.pow_succ]; congr 1; omega
      have hpp : (0 : Int) < 2 ^ (p - 1) := Int.pow_pos (by omega)
      have hm : m ≠ 0 := by
        rintro rfl
        rw [dv_zero] at h3
        have : 0 < dv t s := dv_pos.2 (by omega)
        have := Rat.mul_pos this this
        grind
      have hb := h.size hm
      have hx : 0 ≤ dv m x := by
        refine Rat.le_trans ?_ h3
        have : 0 ≤ dv t s := dv_nonneg.2 (by omega)
        exact Rat.mul_nonneg this this
      rw [Rat.abs_of_nonneg hx] at hb
      -- the root's least bit
      have c1 : (2 : Rat) ^ (s + (p - 1 : Nat)) ≤ dv t s := by
        rw [← dv_two]; exact dv_le.2 (by exact_mod_cast ht1)
      have c2 : dv (t + 1) s ≤ 2 ^ (s + (p : Nat)) := by
        rw [← dv_two]; exact dv_le.2 (by have : t < 2 ^ p := by exact_mod_cast ht2
                                         exact_mod_cast this)
      have d1 : (2 : Rat) ^ (2 * (s + (p - 1 : Nat))) < 2 ^ H := by
        rw [← rsq_pow]
        exact rle_lt (Rat.le_trans (rsq_le (Rat.le_of_lt (zpow_pos _)) c1) h3) hb.2
      have d2 : (2 : Rat) ^ L < 2 ^ (2 * (s + (p : Nat))) := by
        rw [← rsq_pow]
        refine rle_lt hb.1 (rlt_le h4 (rsq_le (dv_nonneg.2 (by omega)) c2))
      have e1 := zpow_lt.1 d1
      have e2 := zpow_lt.1 d2
      have hT : (t + (if up && decide (dv t s * dv t s ≠ dv m x) then 1 else 0)).natAbs ≤ 2 ^ p := by
        have : (2 : Int) ^ p = ((2 ^ p : Nat) : Int) := by push_cast; rfl
        split <;> omega
      have hbt : bl (t + (if up && decide (dv t s * dv t s ≠ dv m x) then 1 else 0)) ≤ p + 1 := by
        unfold bl; exact blen_le (Nat.lt_of_le_of_lt hT (Nat.pow_lt_pow_right (by omega) (by omega)))
      have := (Bd.of (m := t + (if up && decide (dv t s * dv t s ≠ dv m x) then 1 else 0)) (e := s) (L := L - p) (H := H + 3) (by omega) (by omega) (M := M) (E := E) ⟨hr.1, hv⟩)
      exact this.2

theorem dcmp0 {A : Option Addr} {c : Nat} {m x q : Int} {w : World} (h : Dg w A c (digs m.natAbs)) (hl : (digs m.natAbs).length ≤ 400000) (r1 : Rt m x) (hq : cmpd (dv m x) 0 = q) :
    Calls Tryd.prog 22 #[.agg #[.bool (decide (m < 0)), .slice A (digs m.natAbs).length c, .int .i64 x], .agg #[.bool false, .slice none 0 0, .int .i64 0]] w fun e w' => e = .returned (.int .i64 q) ∧ Below w.heap.size w w' := by
  have e : digs (0 : Int).natAbs = [] := digs_zero
  have := dcmp_any (n := 0) (y := 0) (B := none) (d := 0) h (by rw [e]; exact Dg.nil_ _ _) hl (by rw [e]; simp) r1 ⟨.inl ⟨rfl, rfl⟩, by omega, by omega⟩ (q := q) (by rw [dv_zero]; exact hq)
  rw [e] at this
  exact this
end Go.Proofs.YtfhdhldgflbpjaaDoor
end

section
/-
  cheb.below0, rightPiece.
-/
namespace Go.Proofs.YtfhdhldgflbpjaaDoor
open Go.RowKit
set_option linter.unusedSimpArgs false
set_option linter.unusedVariables false
/-- A slice of numbers: n of them in cells behind one another. -/
def NsW (w : World) (P : Option Addr) (n c : Nat) (S : Nat → Bool) (A : Nat → Option Addr) (C : Nat → Nat) (X : Nat → List Nat) (E : Nat → Int) : Prop :=
  n ≤ c ∧ (n ≠ 0 → ∃ b o, P = some ⟨b, o, none⟩ ∧ b < w.heap.size ∧ DyRowO w b o n S A C X E)
theorem DyRowO.below {w0 w w' : World} {b o n : Nat} {S : Nat → Bool} {A : Nat → Option Addr} {C : Nat → Nat} {X : Nat → List Nat} {E : Nat → Int} (h : DyRowO w b o n S A C X E) (hb : b < w.heap.size) (hB : Below w.heap.size w w') : DyRowO w' b o n S A C X E := fun i hi =>
  have ⟨a, e, d, g⟩ := h i hi
  ⟨(hB.cell (p := ⟨b, o + i * 3, none⟩) hb).trans a, (hB.cell (p := ⟨b, o + i * 3 + 1, none⟩) hb).trans e, (hB.cell (p := ⟨b, o + i * 3 + 2, none⟩) hb).trans d, g.below hB⟩
theorem NsW.below {w w' : World} {P : Option Addr} {n c : Nat} {S : Nat → Bool} {A : Nat → Option Addr} {C : Nat → Nat} {X : Nat → List Nat} {E : Nat → Int} (h : NsW w P n c S A C X E) (hB : Below w.heap.size w w') : NsW w' P n c S A C X E :=
  ⟨h.1, fun hn => have ⟨b, o, e, hb, hr⟩ := h.2 hn; ⟨b, o, e, Nat.lt_of_lt_of_le hb hB.size, DyRowO.below (w0 := w) hr hb hB⟩⟩
theorem short_s {P : Option Addr} {n c : Nat} {S : Nat → Bool} {A : Nat → Option Addr} {C : Nat → Nat} {X : Nat → List Nat} {E : Nat → Int} {R : Nat → Bool} {q : Bool} {w : World} (h : NsW w P n c S A C X E) (n0 : n ≠ 0) (hR : ∀ i, i < n → mayB (S i) (X i) (E i) = R i) (hX : ∀ i, i < n → (X i).length ≤ 10000) (hn : n ≤ 1000000) (hq : allB R n = q) :
    Calls Tryd.prog 34 #[.slice P n c] w fun e w' => e = .returned (.bool q) ∧ Below w.heap.size w w' := by
  obtain ⟨b, o, rfl, hb, hr⟩ := h.2 n0
  rw [← hq]
  exact shortN_any b o n c S A C X E R w hb hr hR hX hn h.1
/-- Two numbers just laid beside each other. -/
theorem short_2 {g : Nat} {A B : Option Addr} {c d : Nat} {s r : Bool} {xs ys : List Nat} {x y : Int} {q : Bool} {w : World} (hR : w.heap[g]? = some (.cells #[.bool s, .slice A xs.length c, .int .i64 x, .bool r, .slice B ys.length d, .int .i64 y] 26 (0, 0))) (h : Dg w A c xs) (h' : Dg w B d ys) (hl : xs.length ≤ 10000) (hl' : ys.length ≤ 10000) (hq : (mayB s xs x && mayB r ys y) = q) :
    Calls Tryd.prog 34 #[.slice (some ⟨g, 0, none⟩) 2 2] w fun e w' => e = .returned (.bool q) ∧ Below w.heap.size w w' := by
  have key := shortN_any g 0 2 2 (fun i => if i = 0 then s else r) (fun i => if i = 0 then A else B) (fun i => if i = 0 then c else d) (fun i => if i = 0 then xs else ys) (fun i => if i = 0 then x else y) (fun i => if i = 0 then mayB s xs x else mayB r ys y) w (heap_lt hR)
    (fun i hi => by
      rcases i with _ | _ | i
      · exact ⟨row_c (i := 0) hR rfl, row_c (i := 1) hR rfl, row_c (i := 2) hR rfl, h⟩
      · exact ⟨row_c (i := 3) hR rfl, row_c (i := 4) hR rfl, row_c (i := 5) hR rfl, h'⟩
      · omega)
    (fun i hi => by rcases i with _ | _ | i; rfl; rfl; omega) (fun i hi => by rcases i with _ | _ | i; exact hl; exact hl'; omega) (by omega) (by omega)
  have e : allB (fun i => if i = 0 then mayB s xs x else mayB r ys y) 2 = q := by rw [← hq]; simp [allB]
  rw [e] at key; exact key

set_option maxHeartbeats 4000000 in
set_option maxRecDepth 100000 in
theorem below0_n (A : Option Addr) (c : Nat) (m x : Int) (w : World) (h : Dg w A c (digs m.natAbs)) (hl : (digs m.natAbs).length ≤ 10000) (r1 : Rt m x) {q : Bool} (hq : decide (m < 0) = q):
    Calls Tryd.prog 35 #[.agg #[.bool (decide (m < 0)), .slice A (digs m.natAbs).length c, .int .i64 x]] w fun e w' => e = .returned (.bool q) ∧ Below w.heap.size w w' := by
  have lx := Lib.hid hl
  have HR := Lib.hid r1
  obtain ⟨j, hj⟩ : ∃ j, cmpd (dv m x) 0 = j := ⟨_, rfl⟩
  have HJ := Lib.hid hj
  have hd : decide (j < 0) = q := by rw [← hq, ← hj, decide_eq_decide, cmpd_lt', dv_neg0]
  have L0 := Lib.hid ((live_start w).add h)
  clear h hl r1 hj hq
  go_enter Tryd.func35, Tryd.ntmps35
  go_upto_region 1 with fail
  obtain ⟨v1, hW, hb, Rx_1⟩ := new1 w (.cells #[.bool (decide (m < 0)), .slice A (digs m.natAbs).length c, .int .i64 x] 26)
  rw [← hW]
  have L1 := ls L0 hb
  have Gx := gl0 L0.out
  clear hW hb
  obtain ⟨fx0, zx0, fx1, zx1, fx2, zx2, xx⟩ := ly3 Rx_1.out
  go_wp2_with fail
  refine (dcmp0 (L1.out.get (A := A) (c := c) (xs := digs m.natAbs) (by simp)) (Nat.le_trans lx.out (by omega)) HR.out HJ.out).mono ?_
  rintro e w2 ⟨rfl, hb⟩
  have L2 := ls L1 hb
  clear fx0 zx0 fx1 zx1 fx2 zx2 xx
  have Rx_2 := co Rx_1 hb
  clear hb 
  go_wp2
  go_ret
  exact ⟨rfl, L2.out.1⟩

set_option maxHeartbeats 4000000 in
set_option maxRecDepth 100000 in
theorem piece_0 (A B P : Option Addr) (c d n k : Nat) (s r : Bool) (xs ys : List Nat) (x y W D : Int) (S : Nat → Bool) (AA : Nat → Option Addr) (CC : Nat → Nat) (X : Nat → List Nat) (E : Nat → Int) (w : World) (h : Dg w A c xs) (h' : Dg w B d ys) (hl : xs.length ≤ 10000) (hl' : ys.length ≤ 10000) (hns : NsW w P n k S AA CC X E) (hw : (decide (-30 ≤ W) && decide (W ≤ 10)) = false):
    Calls Tryd.prog 21 #[.agg #[.bool s, .slice A xs.length c, .int .i64 x, .int .i64 W, .slice P n k, .bool r, .slice B ys.length d, .int .i64 y], .int .i64 D] w fun e w' => e = .returned (.bool (false)) ∧ Below w.heap.size w w' := by
  have lx := Lib.hid hl
  have ly := Lib.hid hl'
  have HNS := Lib.hid hns
  have HW := Lib.hid hw
  have L0 := Lib.hid (((live_start w).add h).add h')
  clear h h' hl hl' hns hw
  go_enter Tryd.func21, Tryd.ntmps21
  go_wp2_with fail
  obtain ⟨v1, hW, hb, Rp_1⟩ := new1 w (.cells #[.bool s, .slice A xs.length c, .int .i64 x, .int .i64 W, .slice P n k, .bool r, .slice B ys.length d, .int .i64 y] 46)
  rw [← hW]
  have L1 := ls L0 hb
  have Gp := gl0 L0.out
  clear hW hb
  refine (within_any W (-30) 10 _ HW.out).mono ?_
  rintro e w2 ⟨rfl, rfl⟩
  have fp0 := row_c (i := 0) Rp_1.out rfl
  have zp0 := frozen_of_row _ _ 0 _ _ Rp_1.out
  have fp1 := row_c (i := 1) Rp_1.out rfl
  have zp1 := frozen_of_row _ _ 1 _ _ Rp_1.out
  have fp2 := row_c (i := 2) Rp_1.out rfl
  have zp2 := frozen_of_row _ _ 2 _ _ Rp_1.out
  have fp3 := row_c (i := 3) Rp_1.out rfl
  have zp3 := frozen_of_row _ _ 3 _ _ Rp_1.out
  have fp4 := row_c (i := 4) Rp_1.out rfl
  have zp4 := frozen_of_row _ _ 4 _ _ Rp_1.out
  have fp5 := row_c (i := 5) Rp_1.out rfl
  have zp5 := frozen_of_row _ _ 5 _ _ Rp_1.out
  have fp6 := row_c (i := 6) Rp_1.out rfl
  have zp6 := frozen_of_row _ _ 6 _ _ Rp_1.out
  have fp7 := row_c (i := 7) Rp_1.out rfl
  have zp7 := frozen_of_row _ _ 7 _ _ Rp_1.out
  have xp := heap_lt Rp_1.out
  go_wp2
  go_ret
  exact ⟨rfl, L1.out.1⟩

set_option maxHeartbeats 4000000 in
set_option maxRecDepth 100000 in
theorem piece_1 (A B P : Option Addr) (c d n k : Nat) (s r : Bool) (xs ys : List Nat) (x y W D : Int) (S : Nat → Bool) (AA : Nat → Option Addr) (CC : Nat → Nat) (X : Nat → List Nat) (E : Nat → Int) (w : World) (h : Dg w A c xs) (h' : Dg w B d ys) (hl : xs.length ≤ 10000) (hl' : ys.length ≤ 10000) (hns : NsW w P n k S AA CC X E) (hw : (decide (-30 ≤ W) && decide (W ≤ 10)) = true) (d0 : 0 ≤ D) (d1 : D ≤ 1000) (hn : ((n : Nat) : Int) ≠ D + 1):
    Calls Tryd.prog 21 #[.agg #[.bool s, .slice A xs.length c, .int .i64 x, .int .i64 W, .slice P n k, .bool r, .slice B ys.length d, .int .i64 y], .int .i64 D] w fun e w' => e = .returned (.bool (false)) ∧ Below w.heap.size w w' := by
  have lx := Lib.hid hl
  have ly := Lib.hid hl'
  have HNS := Lib.hid hns
  have HW := Lib.hid hw
  have dn : (((n : Nat) : Int) == D + 1) = false := by exact beq_eq_false_iff_ne.2 hn
  have L0 := Lib.hid (((live_start w).add h).add h')
  clear h h' hl hl' hns hw hn
  go_enter Tryd.func21, Tryd.ntmps21
  go_wp2_with fail
  obtain ⟨v1, hW, hb, Rp_1⟩ := new1 w (.cells #[.bool s, .slice A xs.length c, .int .i64 x, .int .i64 W, .slice P n k, .bool r, .slice B ys.length d, .int .i64 y] 46)
  rw [← hW]
  have L1 := ls L0 hb
  have Gp := gl0 L0.out
  clear hW hb
  refine (within_any W (-30) 10 _ HW.out).mono ?_
  rintro e w2 ⟨rfl, rfl⟩
  have fp0 := row_c (i := 0) Rp_1.out rfl
  have zp0 := frozen_of_row _ _ 0 _ _ Rp_1.out
  have fp1 := row_c (i := 1) Rp_1.out rfl
  have zp1 := frozen_of_row _ _ 1 _ _ Rp_1.out
  have fp2 := row_c (i := 2) Rp_1.out rfl
  have zp2 := frozen_of_row _ _ 2 _ _ Rp_1.out
  have fp3 := row_c (i := 3) Rp_1.out rfl
  have zp3 := frozen_of_row _ _ 3 _ _ Rp_1.out
  have fp4 := row_c (i := 4) Rp_1.out rfl
  have zp4 := frozen_of_row _ _ 4 _ _ Rp_1.out
  have fp5 := row_c (i := 5) Rp_1.out rfl
  have zp5 := frozen_of_row _ _ 5 _ _ Rp_1.out
  have fp6 := row_c (i := 6) Rp_1.out rfl
  have zp6 := frozen_of_row _ _ 6 _ _ Rp_1.out
  have fp7 := row_c (i := 7) Rp_1.out rfl
  have zp7 := frozen_of_row _ _ 7 _ _ Rp_1.out
  have xp := heap_lt Rp_1.out
  go_wp2
  go_ret
  exact ⟨rfl, L1.out.1⟩

set_option maxHeartbeats 4000000 in
set_option maxRecDepth 100000 in
theorem piece_2 (A B P : Option Addr) (c d n k : Nat) (s r : Bool) (xs ys : List Nat) (x y W D : Int) (S : Nat → Bool) (AA : Nat → Option Addr) (CC : Nat → Nat) (X : Nat → List Nat) (E : Nat → Int) (w : World) (h : Dg w A c xs) (h' : Dg w B d ys) (hl : xs.length ≤ 10000) (hl' : ys.length ≤ 10000) (hns : NsW w P n k S AA CC X E) (hw : (decide (-30 ≤ W) && decide (W ≤ 10)) = true) (d0 : 0 ≤ D) (d1 : D ≤ 1000) (hn : ((n : Nat) : Int) = D + 1) (h2 : (mayB s xs x && mayB r ys y) = false):
    Calls Tryd.prog 21 #[.agg #[.bool s, .slice A xs.length c, .int .i64 x, .int .i64 W, .slice P n k, .bool r, .slice B ys.length d, .int .i64 y], .int .i64 D] w fun e w' => e = .returned (.bool (false)) ∧ Below w.heap.size w w' := by
  have lx := Lib.hid hl
  have ly := Lib.hid hl'
  have HNS := Lib.hid hns
  have HW := Lib.hid hw
  have dn : (((n : Nat) : Int) == D + 1) = true := by rw [hn]; simp
  have H2 := Lib.hid h2
  have N0 := Lib.hid (show n ≠ 0 ∧ n ≤ 1000000 by omega)
  have L0 := Lib.hid (((live_start w).add h).add h')
  clear h h' hl hl' hns hw hn h2
  go_enter Tryd.func21, Tryd.ntmps21
  go_wp2_with fail
  obtain ⟨v1, hW, hb, Rp_1⟩ := new1 w (.cells #[.bool s, .slice A xs.length c, .int .i64 x, .int .i64 W, .slice P n k, .bool r, .slice B ys.length d, .int .i64 y] 46)
  rw [← hW]
  have L1 := ls L0 hb
  have Gp := gl0 L0.out
  clear hW hb
  refine (within_any W (-30) 10 _ HW.out).mono ?_
  rintro e w2 ⟨rfl, rfl⟩
  have fp0 := row_c (i := 0) Rp_1.out rfl
  have zp0 := frozen_of_row _ _ 0 _ _ Rp_1.out
  have fp1 := row_c (i := 1) Rp_1.out rfl
  have zp1 := frozen_of_row _ _ 1 _ _ Rp_1.out
  have fp2 := row_c (i := 2) Rp_1.out rfl
  have zp2 := frozen_of_row _ _ 2 _ _ Rp_1.out
  have fp3 := row_c (i := 3) Rp_1.out rfl
  have zp3 := frozen_of_row _ _ 3 _ _ Rp_1.out
  have fp4 := row_c (i := 4) Rp_1.out rfl
  have zp4 := frozen_of_row _ _ 4 _ _ Rp_1.out
  have fp5 := row_c (i := 5) Rp_1.out rfl
  have zp5 := frozen_of_row _ _ 5 _ _ Rp_1.out
  have fp6 := row_c (i := 6) Rp_1.out rfl
  have zp6 := frozen_of_row _ _ 6 _ _ Rp_1.out
  have fp7 := row_c (i := 7) Rp_1.out rfl
  have zp7 := frozen_of_row _ _ 7 _ _ Rp_1.out
  have xp := heap_lt Rp_1.out
  go_wp2_with fail
  obtain ⟨w3, hW, hb, Rl_3⟩ := new1 v1 (.cells #[.bool s, .slice A xs.length c, .int .i64 x, .bool r, .slice B ys.length d, .int .i64 y] 26)
  rw [← hW]
  have L3 := ls L1 hb
  have Rp_3 := co Rp_1 hb
  have Gl := gl0 L1.out
  have Npl := nl0 Rp_1.out
  clear hW hb
  clear fp0 zp0 fp1 zp1 fp2 zp2 fp3 zp3 fp4 zp4 fp5 zp5 fp6 zp6 fp7 zp7 xp
  refine (short_2 Rl_3.out (L3.out.get (A := A) (c := c) (xs := xs) (by simp)) (L3.out.get (A := B) (c := d) (xs := ys) (by simp)) lx.out ly.out H2.out).mono ?_
  rintro e w4 ⟨rfl, hb⟩
  have L4 := ls L3 hb
  have Rp_4 := co Rp_3 hb
  have Rl_4 := co Rl_3 hb
  clear hb 
  have fp0 := row_c (i := 0) Rp_4.out rfl
  have zp0 := frozen_of_row _ _ 0 _ _ Rp_4.out
  have fp1 := row_c (i := 1) Rp_4.out rfl
  have zp1 := frozen_of_row _ _ 1 _ _ Rp_4.out
  have fp2 := row_c (i := 2) Rp_4.out rfl
  have zp2 := frozen_of_row _ _ 2 _ _ Rp_4.out
  have fp3 := row_c (i := 3) Rp_4.out rfl
  have zp3 := frozen_of_row _ _ 3 _ _ Rp_4.out
  have fp4 := row_c (i := 4) Rp_4.out rfl
  have zp4 := frozen_of_row _ _ 4 _ _ Rp_4.out
  have fp5 := row_c (i := 5) Rp_4.out rfl
  have zp5 := frozen_of_row _ _ 5 _ _ Rp_4.out
  have fp6 := row_c (i := 6) Rp_4.out rfl
  have zp6 := frozen_of_row _ _ 6 _ _ Rp_4.out
  have fp7 := row_c (i := 7) Rp_4.out rfl
  have zp7 := frozen_of_row _ _ 7 _ _ Rp_4.out
  have xp := heap_lt Rp_4.out
  go_wp2
  go_ret
  exact ⟨rfl, L4.out.1⟩

set_option maxHeartbeats 4000000 in
set_option maxRecDepth 100000 in
theorem piece_3 (A B P : Option Addr) (c d n k : Nat) (s r : Bool) (xs ys : List Nat) (x y W D : Int) (S : Nat → Bool) (AA : Nat → Option Addr) (CC : Nat → Nat) (X : Nat → List Nat) (E : Nat → Int) (w : World) (h : Dg w A c xs) (h' : Dg w B d ys) (hl : xs.length ≤ 10000) (hl' : ys.length ≤ 10000) (hns : NsW w P n k S AA CC X E) (hw : (decide (-30 ≤ W) && decide (W ≤ 10)) = true) (d0 : 0 ≤ D) (d1 : D ≤ 1000) (hn : ((n : Nat) : Int) = D + 1) (h2 : (mayB s xs x && mayB r ys y) = true) {R : Nat → Bool} (hR : ∀ i, i < n → mayB (S i) (X i) (E i) = R i) (hX : ∀ i, i < n → (X i).length ≤ 10000) (h3 : allB R n = false):
    Calls Tryd.prog 21 #[.agg #[.bool s, .slice A xs.length c, .int .i64 x, .int .i64 W, .slice P n k, .bool r, .slice B ys.length d, .int .i64 y], .int .i64 D] w fun e w' => e = .returned (.bool (false)) ∧ Below w.heap.size w w' := by
  have lx := Lib.hid hl
  have ly := Lib.hid hl'
  have HNS := Lib.hid hns
  have HW := Lib.hid hw
  have dn : (((n : Nat) : Int) == D + 1) = true := by rw [hn]; simp
  have H2 := Lib.hid h2
  have N0 := Lib.hid (show n ≠ 0 ∧ n ≤ 1000000 by omega)
  have HR := Lib.hid hR
  have HX := Lib.hid hX
  have H3 := Lib.hid h3
  have L0 := Lib.hid (((live_start w).add h).add h')
  clear h h' hl hl' hns hw hn h2 hR hX h3
  go_enter Tryd.func21, Tryd.ntmps21
  go_wp2_with fail
  obtain ⟨v1, hW, hb, Rp_1⟩ := new1 w (.cells #[.bool s, .slice A xs.length c, .int .i64 x, .int .i64 W, .slice P n k, .bool r, .slice B ys.length d, .int .i64 y] 46)
  rw [← hW]
  have L1 := ls L0 hb
  have Gp := gl0 L0.out
  clear hW hb
  refine (within_any W (-30) 10 _ HW.out).mono ?_
  rintro e w2 ⟨rfl, rfl⟩
  have fp0 := row_c (i := 0) Rp_1.out rfl
  have zp0 := frozen_of_row _ _ 0 _ _ Rp_1.out
  have fp1 := row_c (i := 1) Rp_1.out rfl
  have zp1 := frozen_of_row _ _ 1 _ _ Rp_1.out
  have fp2 := row_c (i := 2) Rp_1.out rfl
  have zp2 := frozen_of_row _ _ 2 _ _ Rp_1.out
  have fp3 := row_c (i := 3) Rp_1.out rfl
  have zp3 := frozen_of_row _ _ 3 _ _ Rp_1.out
  have fp4 := row_c (i := 4) Rp_1.out rfl
  have zp4 := frozen_of_row _ _ 4 _ _ Rp_1.out
  have fp5 := row_c (i := 5) Rp_1.out rfl
  have zp5 := frozen_of_row _ _ 5 _ _ Rp_1.out
  have fp6 := row_c (i := 6) Rp_1.out rfl
  have zp6 := frozen_of_row _ _ 6 _ _ Rp_1.out
  have fp7 := row_c (i := 7) Rp_1.out rfl
  have zp7 := frozen_of_row _ _ 7 _ _ Rp_1.out
  have xp := heap_lt Rp_1.out
  go_wp2_with fail
  obtain ⟨w3, hW, hb, Rl_3⟩ := new1 v1 (.cells #[.bool s, .slice A xs.length c, .int .i64 x, .bool r, .slice B ys.length d, .int .i64 y] 26)
  rw [← hW]
  have L3 := ls L1 hb
  have Rp_3 := co Rp_1 hb
  have Gl := gl0 L1.out
  have Npl := nl0 Rp_1.out
  clear hW hb
  clear fp0 zp0 fp1 zp1 fp2 zp2 fp3 zp3 fp4 zp4 fp5 zp5 fp6 zp6 fp7 zp7 xp
  refine (short_2 Rl_3.out (L3.out.get (A := A) (c := c) (xs := xs) (by simp)) (L3.out.get (A := B) (c := d) (xs := ys) (by simp)) lx.out ly.out H2.out).mono ?_
  rintro e w4 ⟨rfl, hb⟩
  have L4 := ls L3 hb
  have Rp_4 := co Rp_3 hb
  have Rl_4 := co Rl_3 hb
  clear hb 
  have fp0 := row_c (i := 0) Rp_4.out rfl
  have zp0 := frozen_of_row _ _ 0 _ _ Rp_4.out
  have fp1 := row_c (i := 1) Rp_4.out rfl
  have zp1 := frozen_of_row _ _ 1 _ _ Rp_4.out
  have fp2 := row_c (i := 2) Rp_4.out rfl
  have zp2 := frozen_of_row _ _ 2 _ _ Rp_4.out
  have fp3 := row_c (i := 3) Rp_4.out rfl
  have zp3 := frozen_of_row _ _ 3 _ _ Rp_4.out
  have fp4 := row_c (i := 4) Rp_4.out rfl
  have zp4 := frozen_of_row _ _ 4 _ _ Rp_4.out
  have fp5 := row_c (i := 5) Rp_4.out rfl
  have zp5 := frozen_of_row _ _ 5 _ _ Rp_4.out
  have fp6 := row_c (i := 6) Rp_4.out rfl
  have zp6 := frozen_of_row _ _ 6 _ _ Rp_4.out
  have fp7 := row_c (i := 7) Rp_4.out rfl
  have zp7 := frozen_of_row _ _ 7 _ _ Rp_4.out
  have xp := heap_lt Rp_4.out
  go_wp2_with fail
  refine (short_s (HNS.out.below L4.out.1) N0.out.1 HR.out HX.out N0.out.2 H3.out).mono ?_
  rintro e w5 ⟨rfl, hb⟩
  have L5 := ls L4 hb
  clear fp0 zp0 fp1 zp1 fp2 zp2 fp3 zp3 fp4 zp4 fp5 zp5 fp6 zp6 fp7 zp7 xp
  have Rp_5 := co Rp_4 hb
  have Rl_5 := co Rl_4 hb
  clear hb
  have fp0 := row_c (i := 0) Rp_5.out rfl
  have zp0 := frozen_of_row _ _ 0 _ _ Rp_5.out
  have fp1 := row_c (i := 1) Rp_5.out rfl
  have zp1 := frozen_of_row _ _ 1 _ _ Rp_5.out
  have fp2 := row_c (i := 2) Rp_5.out rfl
  have zp2 := frozen_of_row _ _ 2 _ _ Rp_5.out
  have fp3 := row_c (i := 3) Rp_5.out rfl
  have zp3 := frozen_of_row _ _ 3 _ _ Rp_5.out
  have fp4 := row_c (i := 4) Rp_5.out rfl
  have zp4 := frozen_of_row _ _ 4 _ _ Rp_5.out
  have fp5 := row_c (i := 5) Rp_5.out rfl
  have zp5 := frozen_of_row _ _ 5 _ _ Rp_5.out
  have fp6 := row_c (i := 6) Rp_5.out rfl
  have zp6 := frozen_of_row _ _ 6 _ _ Rp_5.out
  have fp7 := row_c (i := 7) Rp_5.out rfl
  have zp7 := frozen_of_row _ _ 7 _ _ Rp_5.out
  have xp := heap_lt Rp_5.out
  go_wp2
  go_ret
  exact ⟨rfl, L5.out.1⟩

set_option maxHeartbeats 4000000 in
set_option maxRecDepth 100000 in
theorem piece_4 (A B P : Option Addr) (c d n k : Nat) (s r : Bool) (xs ys : List Nat) (x y W D : Int) (S : Nat → Bool) (AA : Nat → Option Addr) (CC : Nat → Nat) (X : Nat → List Nat) (E : Nat → Int) (w : World) (h : Dg w A c xs) (h' : Dg w B d ys) (hl : xs.length ≤ 10000) (hl' : ys.length ≤ 10000) (hns : NsW w P n k S AA CC X E) (hw : (decide (-30 ≤ W) && decide (W ≤ 10)) = true) (d0 : 0 ≤ D) (d1 : D ≤ 1000) (hn : ((n : Nat) : Int) = D + 1) (h2 : (mayB s xs x && mayB r ys y) = true) {R : Nat → Bool} (hR : ∀ i, i < n → mayB (S i) (X i) (E i) = R i) (hX : ∀ i, i < n → (X i).length ≤ 10000) (h3 : allB R n = true) {m : Int} (hm : digs m.natAbs = ys) (hs : decide (m < 0) = r) (r2 : Rt m y):
    Calls Tryd.prog 21 #[.agg #[.bool s, .slice A xs.length c, .int .i64 x, .int .i64 W, .slice P n k, .bool r, .slice B ys.length d, .int .i64 y], .int .i64 D] w fun e w' => e = .returned (.bool (!r)) ∧ Below w.heap.size w w' := by
  have lx := Lib.hid hl
  have ly := Lib.hid hl'
  have HNS := Lib.hid hns
  have HW := Lib.hid hw
  have dn : (((n : Nat) : Int) == D + 1) = true := by rw [hn]; simp
  have H2 := Lib.hid h2
  have N0 := Lib.hid (show n ≠ 0 ∧ n ≤ 1000000 by omega)
  have HR := Lib.hid hR
  have HX := Lib.hid hX
  have H3 := Lib.hid h3
  have B0 := Lib.hid (fun (W1 : World) (hW : Dg W1 B d ys) => (by subst hm; have := below0_n B d m y W1 hW hl' r2 hs; rw [hs] at this; exact this : Calls Tryd.prog 35 #[.agg #[.bool r, .slice B ys.length d, .int .i64 y]] W1 fun e w' => e = .returned (.bool r) ∧ Below W1.heap.size W1 w'))
  have L0 := Lib.hid (((live_start w).add h).add h')
  clear h h' hl hl' hns hw hn h2 hR hX h3 hm hs r2
  go_enter Tryd.func21, Tryd.ntmps21
  go_wp2_with fail
  obtain ⟨v1, hW, hb, Rp_1⟩ := new1 w (.cells #[.bool s, .slice A xs.length c, .int .i64 x, .int .i64 W, .slice P n k, .bool r, .slice B ys.length d, .int .i64 y] 46)
  rw [← hW]
  have L1 := ls L0 hb
  have Gp := gl0 L0.out
  clear hW hb
  refine (within_any W (-30) 10 _ HW.out).mono ?_
  rintro e w2 ⟨rfl, rfl⟩
  have fp0 := row_c (i := 0) Rp_1.out rfl
  have zp0 := frozen_of_row _ _ 0 _ _ Rp_1.out
  have fp1 := row_c (i := 1) Rp_1.out rfl
  have zp1 := frozen_of_row _ _ 1 _ _ Rp_1.out
  have fp2 := row_c (i := 2) Rp_1.out rfl
  have zp2 := frozen_of_row _ _ 2 _ _ Rp_1.out
  have fp3 := row_c (i := 3) Rp_1.out rfl
  have zp3 := frozen_of_row _ _ 3 _ _ Rp_1.out
  have fp4 := row_c (i := 4) Rp_1.out rfl
  have zp4 := frozen_of_row _ _ 4 _ _ Rp_1.out
  have fp5 := row_c (i := 5) Rp_1.out rfl
  have zp5 := frozen_of_row _ _ 5 _ _ Rp_1.out
  have fp6 := row_c (i := 6) Rp_1.out rfl
  have zp6 := frozen_of_row _ _ 6 _ _ Rp_1.out
  have fp7 := row_c (i := 7) Rp_1.out rfl
  have zp7 := frozen_of_row _ _ 7 _ _ Rp_1.out
  have xp := heap_lt Rp_1.out
  go_wp2_with fail
  obtain ⟨w3, hW, hb, Rl_3⟩ := new1 v1 (.cells #[.bool s, .slice A xs.length c, .int .i64 x, .bool r, .slice B ys.length d, .int .i64 y] 26)
  rw [← hW]
  have L3 := ls L1 hb
  have Rp_3 := co Rp_1 hb
  have Gl := gl0 L1.out
  have Npl := nl0 Rp_1.out
  clear hW hb
  clear fp0 zp0 fp1 zp1 fp2 zp2 fp3 zp3 fp4 zp4 fp5 zp5 fp6 zp6 fp7 zp7 xp
  refine (short_2 Rl_3.out (L3.out.get (A := A) (c := c) (xs := xs) (by simp)) (L3.out.get (A := B) (c := d) (xs := ys) (by simp)) lx.out ly.out H2.out).mono ?_
  rintro e w4 ⟨rfl, hb⟩
  have L4 := ls L3 hb
  have Rp_4 := co Rp_3 hb
  have Rl_4 := co Rl_3 hb
  clear hb 
  have fp0 := row_c (i := 0) Rp_4.out rfl
  have zp0 := frozen_of_row _ _ 0 _ _ Rp_4.out
  have fp1 := row_c (i := 1) Rp_4.out rfl
  have zp1 := frozen_of_row _ _ 1 _ _ Rp_4.out
  have fp2 := row_c (i := 2) Rp_4.out rfl
  have zp2 := frozen_of_row _ _ 2 _ _ Rp_4.out
  have fp3 := row_c (i := 3) Rp_4.out rfl
  have zp3 := frozen_of_row _ _ 3 _ _ Rp_4.out
  have fp4 := row_c (i := 4) Rp_4.out rfl
  have zp4 := frozen_of_row _ _ 4 _ _ Rp_4.out
  have fp5 := row_c (i := 5) Rp_4.out rfl
  have zp5 := frozen_of_row _ _ 5 _ _ Rp_4.out
  have fp6 := row_c (i := 6) Rp_4.out rfl
  have zp6 := frozen_of_row _ _ 6 _ _ Rp_4.out
  have fp7 := row_c (i := 7) Rp_4.out rfl
  have zp7 := frozen_of_row _ _ 7 _ _ Rp_4.out
  have xp := heap_lt Rp_4.out
  go_wp2_with fail
  refine (short_s (HNS.out.below L4.out.1) N0.out.1 HR.out HX.out N0.out.2 H3.out).mono ?_
  rintro e w5 ⟨rfl, hb⟩
  have L5 := ls L4 hb
  clear fp0 zp0 fp1 zp1 fp2 zp2 fp3 zp3 fp4 zp4 fp5 zp5 fp6 zp6 fp7 zp7 xp
  have Rp_5 := co Rp_4 hb
  have Rl_5 := co Rl_4 hb
  clear hb
  have fp0 := row_c (i := 0) Rp_5.out rfl
  have zp0 := frozen_of_row _ _ 0 _ _ Rp_5.out
  have fp1 := row_c (i := 1) Rp_5.out rfl
  have zp1 := frozen_of_row _ _ 1 _ _ Rp_5.out
  have fp2 := row_c (i := 2) Rp_5.out rfl
  have zp2 := frozen_of_row _ _ 2 _ _ Rp_5.out
  have fp3 := row_c (i := 3) Rp_5.out rfl
  have zp3 := frozen_of_row _ _ 3 _ _ Rp_5.out
  have fp4 := row_c (i := 4) Rp_5.out rfl
  have zp4 := frozen_of_row _ _ 4 _ _ Rp_5.out
  have fp5 := row_c (i := 5) Rp_5.out rfl
  have zp5 := frozen_of_row _ _ 5 _ _ Rp_5.out
  have fp6 := row_c (i := 6) Rp_5.out rfl
  have zp6 := frozen_of_row _ _ 6 _ _ Rp_5.out
  have fp7 := row_c (i := 7) Rp_5.out rfl
  have zp7 := frozen_of_row _ _ 7 _ _ Rp_5.out
  have xp := heap_lt Rp_5.out
  go_wp2_with fail
  refine (B0.out _ (L5.out.get (A := B) (c := d) (xs := ys) (by simp))).mono ?_
  rintro e w6 ⟨rfl, hb⟩
  have L6 := ls L5 hb
  clear fp0 zp0 fp1 zp1 fp2 zp2 fp3 zp3 fp4 zp4 fp5 zp5 fp6 zp6 fp7 zp7 xp
  have Rp_6 := co Rp_5 hb
  have Rl_6 := co Rl_5 hb
  clear hb 
  have fp0 := row_c (i := 0) Rp_6.out rfl
  have zp0 := frozen_of_row _ _ 0 _ _ Rp_6.out
  have fp1 := row_c (i := 1) Rp_6.out rfl
  have zp1 := frozen_of_row _ _ 1 _ _ Rp_6.out
  have fp2 := row_c (i := 2) Rp_6.out rfl
  have zp2 := frozen_of_row _ _ 2 _ _ Rp_6.out
  have fp3 := row_c (i := 3) Rp_6.out rfl
  have zp3 := frozen_of_row _ _ 3 _ _ Rp_6.out
  have fp4 := row_c (i := 4) Rp_6.out rfl
  have zp4 := frozen_of_row _ _ 4 _ _ Rp_6.out
  have fp5 := row_c (i := 5) Rp_6.out rfl
  have zp5 := frozen_of_row _ _ 5 _ _ Rp_6.out
  have fp6 := row_c (i := 6) Rp_6.out rfl
  have zp6 := frozen_of_row _ _ 6 _ _ Rp_6.out
  have fp7 := row_c (i := 7) Rp_6.out rfl
  have zp7 := frozen_of_row _ _ 7 _ _ Rp_6.out
  have xp := heap_lt Rp_6.out
  go_wp2
  go_ret
  exact ⟨rfl, L6.out.1⟩
end Go.Proofs.YtfhdhldgflbpjaaDoor
end

section
/-
  Words of tables; rightPiece by them.
-/
namespace Go.Proofs.YtfhdhldgflbpjaaDoor
open Go.RowKit
set_option linter.unusedSimpArgs false
set_option linter.unusedVariables false
/-- A number as it comes in: sign, digits, exponent. -/
abbrev Nm := Bool × List Nat × Int
/-- A piece: where it begins, its width, its numbers, its error. -/
structure Pd where
  a : Nm
  w : Int
  cs : List Nm
  er : Nm
def nmB (v : Nm) : Bool := mayB v.1 v.2.1 v.2.2
def pieceB (p : Pd) (D : Int) : Bool := (decide (-30 ≤ p.w) && decide (p.w ≤ 10)) && (decide ((p.cs.length : Int) = D + 1) && ((nmB p.a && nmB p.er) && (p.cs.all nmB && !p.er.1)))
/-- A slice holds these numbers. -/
def NsL (w : World) (P : Option Addr) (k : Nat) (cs : List Nm) : Prop :=
  ∃ A C, NsW w P cs.length k (fun i => (cs[i]?.getD (false, [], 0)).1) A C (fun i => (cs[i]?.getD (false, [], 0)).2.1) (fun i => (cs[i]?.getD (false, [], 0)).2.2)
theorem NsL.below {w w' : World} {P : Option Addr} {k : Nat} {cs : List Nm} (h : NsL w P k cs) (hB : Below w.heap.size w w') : NsL w' P k cs := by
  obtain ⟨A, C, h⟩ := h; exact ⟨A, C, h.below hB⟩
theorem allB_take (f : Nm → Bool) (cs : List Nm) : ∀ k, k ≤ cs.length → allB (fun i => f (cs[i]?.getD (false, [], 0))) k = (cs.take k).all f
  | 0, _ => by simp [allB]
  | k + 1, h => by
    rw [allB, allB_take f cs k (by omega), List.take_add_one, List.all_append]
    rw [List.getElem?_eq_getElem (by omega)]
    simp
theorem allB_list (f : Nm → Bool) (cs : List Nm) : allB (fun i => f (cs[i]?.getD (false, [], 0))) cs.length = cs.all f := by
  rw [allB_take f cs _ (Nat.le_refl _), List.take_length]
theorem rpiece_any {A B P : Option Addr} {c d k : Nat} {p : Pd} {D : Int} {q : Bool} {w : World} (h : Dg w A c p.a.2.1) (h' : Dg w B d p.er.2.1) (hl : p.a.2.1.length ≤ 10000) (hl' : p.er.2.1.length ≤ 10000) (hns : NsL w P k p.cs) (hX : ∀ v, v ∈ p.cs → v.2.1.length ≤ 10000) (d0 : 0 ≤ D) (d1 : D ≤ 1000) (hq : pieceB p D = q) :
    Calls Tryd.prog 21 #[.agg #[.bool p.a.1, .slice A p.a.2.1.length c, .int .i64 p.a.2.2, .int .i64 p.w, .slice P p.cs.length k, .bool p.er.1, .slice B p.er.2.1.length d, .int .i64 p.er.2.2], .int .i64 D] w fun e w' => e = .returned (.bool q) ∧ Below w.heap.size w w' := by
  obtain ⟨⟨s, xs, x⟩, W, cs, ⟨r, ys, y⟩⟩ := p
  obtain ⟨AA, CC, hns⟩ := hns
  unfold pieceB nmB at hq
  dsimp only at *
  cases hw : (decide (-30 ≤ W) && decide (W ≤ 10))
  · obtain rfl : q = false := by rw [← hq, hw]; rfl
    exact piece_0 A B P c d _ k s r xs ys x y W D _ AA CC _ _ w h h' hl hl' hns hw
  · rw [hw, Bool.true_and] at hq
    by_cases hn : (cs.length : Int) = D + 1
    · rw [decide_eq_true hn, Bool.true_and] at hq
      cases h2 : (mayB s xs x && mayB r ys y)
      · obtain rfl : q = false := by rw [← hq, h2]; rfl
        exact piece_2 A B P c d _ k s r xs ys x y W D _ AA CC _ _ w h h' hl hl' hns hw d0 d1 hn h2
      · rw [h2, Bool.true_and, ← allB_list] at hq
        have hX' : ∀ i, i < cs.length → ((cs[i]?.getD (false, [], 0)).2.1).length ≤ 10000 := fun i hi => by
          rw [List.getElem?_eq_getElem hi]; exact hX _ (List.getElem_mem hi)
        cases h3 : allB (fun i => mayB (cs[i]?.getD (false, [], 0)).1 (cs[i]?.getD (false, [], 0)).2.1 (cs[i]?.getD (false, [], 0)).2.2) cs.length
        · obtain rfl : q = false := by rw [← hq, h3]; rfl
          exact piece_3 A B P c d _ k s r xs ys x y W D _ AA CC _ _ w h h' hl hl' hns hw d0 d1 hn h2 (fun i _ => rfl) hX' h3
        · obtain rfl : q = !r := by rw [← hq, h3]; rfl
          rw [Bool.and_eq_true] at h2
          have hr : dyR r ys y = true := by have := h2.2; unfold mayB at this; rw [Bool.and_eq_true] at this; exact this.1
          obtain ⟨m, rfl, rfl, r2⟩ := num_of h'.2.1 hr
          exact piece_4 A B P c d _ k s _ xs _ x y W D _ AA CC _ _ w h h' hl hl' hns hw d0 d1 hn (by rw [h2.1, h2.2]; rfl) (fun i _ => rfl) hX' h3 rfl rfl r2
    · obtain rfl : q = false := by rw [← hq, decide_eq_false hn]; rfl
      exact piece_1 A B P c d _ k s r xs ys x y W D _ AA CC _ _ w h h' hl hl' hns hw d0 d1 hn
end Go.Proofs.YtfhdhldgflbpjaaDoor
end

section
/-
  cheb.Right: one of the first conditions falls.
-/
namespace Go.Proofs.YtfhdhldgflbpjaaDoor
open Go.RowKit
set_option linter.unusedSimpArgs false
set_option linter.unusedVariables false
set_option maxHeartbeats 4000000 in
set_option maxRecDepth 100000 in
theorem right_0 (A P : Option Addr) (c n k : Nat) (s : Bool) (xs : List Nat) (F O x W Q D : Int) (w : World) (h : Dg w A c xs) (hl : xs.length ≤ 10000) (h0 : (decide (1 ≤ F) && decide (F ≤ 10)) = false):
    Calls Tryd.prog 13 #[.agg #[.int .i64 F, .int .i64 O, .bool s, .slice A xs.length c, .int .i64 x, .int .i64 W, .int .i64 Q, .int .i64 D, .slice P n k]] w fun e w' => e = .returned (.bool false) ∧ Below w.heap.size w w' := by
  have lx := Lib.hid hl
  have H0 := Lib.hid h0
  have L0 := Lib.hid ((live_start w).add h)
  clear h hl h0
  go_enter Tryd.func13, Tryd.ntmps13
  go_wp2_with fail
  obtain ⟨v1, hW, hb, Rt_1⟩ := new1 w (.cells #[.int .i64 F, .int .i64 O, .bool s, .slice A xs.length c, .int .i64 x, .int .i64 W, .int .i64 Q, .int .i64 D, .slice P n k] 29)
  rw [← hW]
  have L1 := ls L0 hb
  have Gt := gl0 L0.out
  clear hW hb
  refine (within_any F 1 10 _ H0.out).mono ?_
  rintro e w2 ⟨rfl, rfl⟩
  have ft0 := row_c (i := 0) Rt_1.out rfl
  have zt0 := frozen_of_row _ _ 0 _ _ Rt_1.out
  have ft1 := row_c (i := 1) Rt_1.out rfl
  have zt1 := frozen_of_row _ _ 1 _ _ Rt_1.out
  have ft2 := row_c (i := 2) Rt_1.out rfl
  have zt2 := frozen_of_row _ _ 2 _ _ Rt_1.out
  have ft3 := row_c (i := 3) Rt_1.out rfl
  have zt3 := frozen_of_row _ _ 3 _ _ Rt_1.out
  have ft4 := row_c (i := 4) Rt_1.out rfl
  have zt4 := frozen_of_row _ _ 4 _ _ Rt_1.out
  have ft5 := row_c (i := 5) Rt_1.out rfl
  have zt5 := frozen_of_row _ _ 5 _ _ Rt_1.out
  have ft6 := row_c (i := 6) Rt_1.out rfl
  have zt6 := frozen_of_row _ _ 6 _ _ Rt_1.out
  have ft7 := row_c (i := 7) Rt_1.out rfl
  have zt7 := frozen_of_row _ _ 7 _ _ Rt_1.out
  have ft8 := row_c (i := 8) Rt_1.out rfl
  have zt8 := frozen_of_row _ _ 8 _ _ Rt_1.out
  have xt := heap_lt Rt_1.out
  go_wp2
  go_ret
  exact ⟨rfl, L1.out.1⟩

set_option maxHeartbeats 4000000 in
set_option maxRecDepth 100000 in
theorem right_1 (A P : Option Addr) (c n k : Nat) (s : Bool) (xs : List Nat) (F O x W Q D : Int) (w : World) (h : Dg w A c xs) (hl : xs.length ≤ 10000) (h0 : (decide (1 ≤ F) && decide (F ≤ 10)) = true) (h1 : (decide (0 ≤ O) && decide (O ≤ 64)) = false):
    Calls Tryd.prog 13 #[.agg #[.int .i64 F, .int .i64 O, .bool s, .slice A xs.length c, .int .i64 x, .int .i64 W, .int .i64 Q, .int .i64 D, .slice P n k]] w fun e w' => e = .returned (.bool false) ∧ Below w.heap.size w w' := by
  have lx := Lib.hid hl
  have H0 := Lib.hid h0
  have H1 := Lib.hid h1
  have L0 := Lib.hid ((live_start w).add h)
  clear h hl h0 h1
  go_enter Tryd.func13, Tryd.ntmps13
  go_wp2_with fail
  obtain ⟨v1, hW, hb, Rt_1⟩ := new1 w (.cells #[.int .i64 F, .int .i64 O, .bool s, .slice A xs.length c, .int .i64 x, .int .i64 W, .int .i64 Q, .int .i64 D, .slice P n k] 29)
  rw [← hW]
  have L1 := ls L0 hb
  have Gt := gl0 L0.out
  clear hW hb
  refine (within_any F 1 10 _ H0.out).mono ?_
  rintro e w2 ⟨rfl, rfl⟩
  have ft0 := row_c (i := 0) Rt_1.out rfl
  have zt0 := frozen_of_row _ _ 0 _ _ Rt_1.out
  have ft1 := row_c (i := 1) Rt_1.out rfl
  have zt1 := frozen_of_row _ _ 1 _ _ Rt_1.out
  have ft2 := row_c (i := 2) Rt_1.out rfl
  have zt2 := frozen_of_row _ _ 2 _ _ Rt_1.out
  have ft3 := row_c (i := 3) Rt_1.out rfl
  have zt3 := frozen_of_row _ _ 3 _ _ Rt_1.out
  have ft4 := row_c (i := 4) Rt_1.out rfl
  have zt4 := frozen_of_row _ _ 4 _ _ Rt_1.out
  have ft5 := row_c (i := 5) Rt_1.out rfl
  have zt5 := frozen_of_row _ _ 5 _ _ Rt_1.out
  have ft6 := row_c (i := 6) Rt_1.out rfl
  have zt6 := frozen_of_row _ _ 6 _ _ Rt_1.out
  have ft7 := row_c (i := 7) Rt_1.out rfl
  have zt7 := frozen_of_row _ _ 7 _ _ Rt_1.out
  have ft8 := row_c (i := 8) Rt_1.out rfl
  have zt8 := frozen_of_row _ _ 8 _ _ Rt_1.out
  have xt := heap_lt Rt_1.out
  go_wp2_with fail
  refine (within_any O 0 64 _ H1.out).mono ?_
  rintro e w3 ⟨rfl, rfl⟩
  clear ft0 zt0 ft1 zt1 ft2 zt2 ft3 zt3 ft4 zt4 ft5 zt5 ft6 zt6 ft7 zt7 ft8 zt8 xt
  have ft0 := row_c (i := 0) Rt_1.out rfl
  have zt0 := frozen_of_row _ _ 0 _ _ Rt_1.out
  have ft1 := row_c (i := 1) Rt_1.out rfl
  have zt1 := frozen_of_row _ _ 1 _ _ Rt_1.out
  have ft2 := row_c (i := 2) Rt_1.out rfl
  have zt2 := frozen_of_row _ _ 2 _ _ Rt_1.out
  have ft3 := row_c (i := 3) Rt_1.out rfl
  have zt3 := frozen_of_row _ _ 3 _ _ Rt_1.out
  have ft4 := row_c (i := 4) Rt_1.out rfl
  have zt4 := frozen_of_row _ _ 4 _ _ Rt_1.out
  have ft5 := row_c (i := 5) Rt_1.out rfl
  have zt5 := frozen_of_row _ _ 5 _ _ Rt_1.out
  have ft6 := row_c (i := 6) Rt_1.out rfl
  have zt6 := frozen_of_row _ _ 6 _ _ Rt_1.out
  have ft7 := row_c (i := 7) Rt_1.out rfl
  have zt7 := frozen_of_row _ _ 7 _ _ Rt_1.out
  have ft8 := row_c (i := 8) Rt_1.out rfl
  have zt8 := frozen_of_row _ _ 8 _ _ Rt_1.out
  have xt := heap_lt Rt_1.out
  go_wp2
  go_ret
  exact ⟨rfl, L1.out.1⟩

set_option maxHeartbeats 4000000 in
set_option maxRecDepth 100000 in
theorem right_2 (A P : Option Addr) (c n k : Nat) (s : Bool) (xs : List Nat) (F O x W Q D : Int) (w : World) (h : Dg w A c xs) (hl : xs.length ≤ 10000) (h0 : (decide (1 ≤ F) && decide (F ≤ 10)) = true) (h1 : (decide (0 ≤ O) && decide (O ≤ 64)) = true) (h2 : plainB s xs x = false):
    Calls Tryd.prog 13 #[.agg #[.int .i64 F, .int .i64 O, .bool s, .slice A xs.length c, .int .i64 x, .int .i64 W, .int .i64 Q, .int .i64 D, .slice P n k]] w fun e w' => e = .returned (.bool false) ∧ Below w.heap.size w w' := by
  have lx := Lib.hid hl
  have H0 := Lib.hid h0
  have H1 := Lib.hid h1
  have H2 := Lib.hid h2
  have L0 := Lib.hid ((live_start w).add h)
  clear h hl h0 h1 h2
  go_enter Tryd.func13, Tryd.ntmps13
  go_wp2_with fail
  obtain ⟨v1, hW, hb, Rt_1⟩ := new1 w (.cells #[.int .i64 F, .int .i64 O, .bool s, .slice A xs.length c, .int .i64 x, .int .i64 W, .int .i64 Q, .int .i64 D, .slice P n k] 29)
  rw [← hW]
  have L1 := ls L0 hb
  have Gt := gl0 L0.out
  clear hW hb
  refine (within_any F 1 10 _ H0.out).mono ?_
  rintro e w2 ⟨rfl, rfl⟩
  have ft0 := row_c (i := 0) Rt_1.out rfl
  have zt0 := frozen_of_row _ _ 0 _ _ Rt_1.out
  have ft1 := row_c (i := 1) Rt_1.out rfl
  have zt1 := frozen_of_row _ _ 1 _ _ Rt_1.out
  have ft2 := row_c (i := 2) Rt_1.out rfl
  have zt2 := frozen_of_row _ _ 2 _ _ Rt_1.out
  have ft3 := row_c (i := 3) Rt_1.out rfl
  have zt3 := frozen_of_row _ _ 3 _ _ Rt_1.out
  have ft4 := row_c (i := 4) Rt_1.out rfl
  have zt4 := frozen_of_row _ _ 4 _ _ Rt_1.out
  have ft5 := row_c (i := 5) Rt_1.out rfl
  have zt5 := frozen_of_row _ _ 5 _ _ Rt_1.out
  have ft6 := row_c (i := 6) Rt_1.out rfl
  have zt6 := frozen_of_row _ _ 6 _ _ Rt_1.out
  have ft7 := row_c (i := 7) Rt_1.out rfl
  have zt7 := frozen_of_row _ _ 7 _ _ Rt_1.out
  have ft8 := row_c (i := 8) Rt_1.out rfl
  have zt8 := frozen_of_row _ _ 8 _ _ Rt_1.out
  have xt := heap_lt Rt_1.out
  go_wp2_with fail
  refine (within_any O 0 64 _ H1.out).mono ?_
  rintro e w3 ⟨rfl, rfl⟩
  clear ft0 zt0 ft1 zt1 ft2 zt2 ft3 zt3 ft4 zt4 ft5 zt5 ft6 zt6 ft7 zt7 ft8 zt8 xt
  have ft0 := row_c (i := 0) Rt_1.out rfl
  have zt0 := frozen_of_row _ _ 0 _ _ Rt_1.out
  have ft1 := row_c (i := 1) Rt_1.out rfl
  have zt1 := frozen_of_row _ _ 1 _ _ Rt_1.out
  have ft2 := row_c (i := 2) Rt_1.out rfl
  have zt2 := frozen_of_row _ _ 2 _ _ Rt_1.out
  have ft3 := row_c (i := 3) Rt_1.out rfl
  have zt3 := frozen_of_row _ _ 3 _ _ Rt_1.out
  have ft4 := row_c (i := 4) Rt_1.out rfl
  have zt4 := frozen_of_row _ _ 4 _ _ Rt_1.out
  have ft5 := row_c (i := 5) Rt_1.out rfl
  have zt5 := frozen_of_row _ _ 5 _ _ Rt_1.out
  have ft6 := row_c (i := 6) Rt_1.out rfl
  have zt6 := frozen_of_row _ _ 6 _ _ Rt_1.out
  have ft7 := row_c (i := 7) Rt_1.out rfl
  have zt7 := frozen_of_row _ _ 7 _ _ Rt_1.out
  have ft8 := row_c (i := 8) Rt_1.out rfl
  have zt8 := frozen_of_row _ _ 8 _ _ Rt_1.out
  have xt := heap_lt Rt_1.out
  go_wp2_with fail
  refine (plain_any (L1.out.get (A := A) (c := c) (xs := xs) (by simp)) lx.out H2.out).mono ?_
  rintro e w4 ⟨rfl, hb⟩
  have L4 := ls L1 hb
  clear ft0 zt0 ft1 zt1 ft2 zt2 ft3 zt3 ft4 zt4 ft5 zt5 ft6 zt6 ft7 zt7 ft8 zt8 xt
  have Rt_4 := co Rt_1 hb
  clear hb 
  have ft0 := row_c (i := 0) Rt_4.out rfl
  have zt0 := frozen_of_row _ _ 0 _ _ Rt_4.out
  have ft1 := row_c (i := 1) Rt_4.out rfl
  have zt1 := frozen_of_row _ _ 1 _ _ Rt_4.out
  have ft2 := row_c (i := 2) Rt_4.out rfl
  have zt2 := frozen_of_row _ _ 2 _ _ Rt_4.out
  have ft3 := row_c (i := 3) Rt_4.out rfl
  have zt3 := frozen_of_row _ _ 3 _ _ Rt_4.out
  have ft4 := row_c (i := 4) Rt_4.out rfl
  have zt4 := frozen_of_row _ _ 4 _ _ Rt_4.out
  have ft5 := row_c (i := 5) Rt_4.out rfl
  have zt5 := frozen_of_row _ _ 5 _ _ Rt_4.out
  have ft6 := row_c (i := 6) Rt_4.out rfl
  have zt6 := frozen_of_row _ _ 6 _ _ Rt_4.out
  have ft7 := row_c (i := 7) Rt_4.out rfl
  have zt7 := frozen_of_row _ _ 7 _ _ Rt_4.out
  have ft8 := row_c (i := 8) Rt_4.out rfl
  have zt8 := frozen_of_row _ _ 8 _ _ Rt_4.out
  have xt := heap_lt Rt_4.out
  go_wp2
  go_ret
  exact ⟨rfl, L4.out.1⟩

set_option maxHeartbeats 4000000 in
set_option maxRecDepth 100000 in
theorem right_3 (A P : Option Addr) (c n k : Nat) (s : Bool) (xs : List Nat) (F O x W Q D : Int) (w : World) (h : Dg w A c xs) (hl : xs.length ≤ 10000) (h0 : (decide (1 ≤ F) && decide (F ≤ 10)) = true) (h1 : (decide (0 ≤ O) && decide (O ≤ 64)) = true) (h2 : plainB s xs x = true) (h3 : (decide ((-30) ≤ W) && decide (W ≤ 10)) = false):
    Calls Tryd.prog 13 #[.agg #[.int .i64 F, .int .i64 O, .bool s, .slice A xs.length c, .int .i64 x, .int .i64 W, .int .i64 Q, .int .i64 D, .slice P n k]] w fun e w' => e = .returned (.bool false) ∧ Below w.heap.size w w' := by
  have lx := Lib.hid hl
  have H0 := Lib.hid h0
  have H1 := Lib.hid h1
  have H2 := Lib.hid h2
  have H3 := Lib.hid h3
  have L0 := Lib.hid ((live_start w).add h)
  clear h hl h0 h1 h2 h3
  go_enter Tryd.func13, Tryd.ntmps13
  go_wp2_with fail
  obtain ⟨v1, hW, hb, Rt_1⟩ := new1 w (.cells #[.int .i64 F, .int .i64 O, .bool s, .slice A xs.length c, .int .i64 x, .int .i64 W, .int .i64 Q, .int .i64 D, .slice P n k] 29)
  rw [← hW]
  have L1 := ls L0 hb
  have Gt := gl0 L0.out
  clear hW hb
  refine (within_any F 1 10 _ H0.out).mono ?_
  rintro e w2 ⟨rfl, rfl⟩
  have ft0 := row_c (i := 0) Rt_1.out rfl
  have zt0 := frozen_of_row _ _ 0 _ _ Rt_1.out
  have ft1 := row_c (i := 1) Rt_1.out rfl
  have zt1 := frozen_of_row _ _ 1 _ _ Rt_1.out
  have ft2 := row_c (i := 2) Rt_1.out rfl
  have zt2 := frozen_of_row _ _ 2 _ _ Rt_1.out
  have ft3 := row_c (i := 3) Rt_1.out rfl
  have zt3 := frozen_of_row _ _ 3 _ _ Rt_1.out
  have ft4 := row_c (i := 4) Rt_1.out rfl
  have zt4 := frozen_of_row _ _ 4 _ _ Rt_1.out
  have ft5 := row_c (i := 5) Rt_1.out rfl
  have zt5 := frozen_of_row _ _ 5 _ _ Rt_1.out
  have ft6 := row_c (i := 6) Rt_1.out rfl
  have zt6 := frozen_of_row _ _ 6 _ _ Rt_1.out
  have ft7 := row_c (i := 7) Rt_1.out rfl
  have zt7 := frozen_of_row _ _ 7 _ _ Rt_1.out
  have ft8 := row_c (i := 8) Rt_1.out rfl
  have zt8 := frozen_of_row _ _ 8 _ _ Rt_1.out
  have xt := heap_lt Rt_1.out
  go_wp2_with fail
  refine (within_any O 0 64 _ H1.out).mono ?_
  rintro e w3 ⟨rfl, rfl⟩
  clear ft0 zt0 ft1 zt1 ft2 zt2 ft3 zt3 ft4 zt4 ft5 zt5 ft6 zt6 ft7 zt7 ft8 zt8 xt
  have ft0 := row_c (i := 0) Rt_1.out rfl
  have zt0 := frozen_of_row _ _ 0 _ _ Rt_1.out
  have ft1 := row_c (i := 1) Rt_1.out rfl
  have zt1 := frozen_of_row _ _ 1 _ _ Rt_1.out
  have ft2 := row_c (i := 2) Rt_1.out rfl
  have zt2 := frozen_of_row _ _ 2 _ _ Rt_1.out
  have ft3 := row_c (i := 3) Rt_1.out rfl
  have zt3 := frozen_of_row _ _ 3 _ _ Rt_1.out
  have ft4 := row_c (i := 4) Rt_1.out rfl
  have zt4 := frozen_of_row _ _ 4 _ _ Rt_1.out
  have ft5 := row_c (i := 5) Rt_1.out rfl
  have zt5 := frozen_of_row _ _ 5 _ _ Rt_1.out
  have ft6 := row_c (i := 6) Rt_1.out rfl
  have zt6 := frozen_of_row _ _ 6 _ _ Rt_1.out
  have ft7 := row_c (i := 7) Rt_1.out rfl
  have zt7 := frozen_of_row _ _ 7 _ _ Rt_1.out
  have ft8 := row_c (i := 8) Rt_1.out rfl
  have zt8 := frozen_of_row _ _ 8 _ _ Rt_1.out
  have xt := heap_lt Rt_1.out
  go_wp2_with fail
  refine (plain_any (L1.out.get (A := A) (c := c) (xs := xs) (by simp)) lx.out H2.out).mono ?_
  rintro e w4 ⟨rfl, hb⟩
  have L4 := ls L1 hb
  clear ft0 zt0 ft1 zt1 ft2 zt2 ft3 zt3 ft4 zt4 ft5 zt5 ft6 zt6 ft7 zt7 ft8 zt8 xt
  have Rt_4 := co Rt_1 hb
  clear hb 
  have ft0 := row_c (i := 0) Rt_4.out rfl
  have zt0 := frozen_of_row _ _ 0 _ _ Rt_4.out
  have ft1 := row_c (i := 1) Rt_4.out rfl
  have zt1 := frozen_of_row _ _ 1 _ _ Rt_4.out
  have ft2 := row_c (i := 2) Rt_4.out rfl
  have zt2 := frozen_of_row _ _ 2 _ _ Rt_4.out
  have ft3 := row_c (i := 3) Rt_4.out rfl
  have zt3 := frozen_of_row _ _ 3 _ _ Rt_4.out
  have ft4 := row_c (i := 4) Rt_4.out rfl
  have zt4 := frozen_of_row _ _ 4 _ _ Rt_4.out
  have ft5 := row_c (i := 5) Rt_4.out rfl
  have zt5 := frozen_of_row _ _ 5 _ _ Rt_4.out
  have ft6 := row_c (i := 6) Rt_4.out rfl
  have zt6 := frozen_of_row _ _ 6 _ _ Rt_4.out
  have ft7 := row_c (i := 7) Rt_4.out rfl
  have zt7 := frozen_of_row _ _ 7 _ _ Rt_4.out
  have ft8 := row_c (i := 8) Rt_4.out rfl
  have zt8 := frozen_of_row _ _ 8 _ _ Rt_4.out
  have xt := heap_lt Rt_4.out
  go_wp2_with fail
  refine (within_any W (-30) 10 _ H3.out).mono ?_
  rintro e w5 ⟨rfl, rfl⟩
  clear ft0 zt0 ft1 zt1 ft2 zt2 ft3 zt3 ft4 zt4 ft5 zt5 ft6 zt6 ft7 zt7 ft8 zt8 xt
  have ft0 := row_c (i := 0) Rt_4.out rfl
  have zt0 := frozen_of_row _ _ 0 _ _ Rt_4.out
  have ft1 := row_c (i := 1) Rt_4.out rfl
  have zt1 := frozen_of_row _ _ 1 _ _ Rt_4.out
  have ft2 := row_c (i := 2) Rt_4.out rfl
  have zt2 := frozen_of_row _ _ 2 _ _ Rt_4.out
  have ft3 := row_c (i := 3) Rt_4.out rfl
  have zt3 := frozen_of_row _ _ 3 _ _ Rt_4.out
  have ft4 := row_c (i := 4) Rt_4.out rfl
  have zt4 := frozen_of_row _ _ 4 _ _ Rt_4.out
  have ft5 := row_c (i := 5) Rt_4.out rfl
  have zt5 := frozen_of_row _ _ 5 _ _ Rt_4.out
  have ft6 := row_c (i := 6) Rt_4.out rfl
  have zt6 := frozen_of_row _ _ 6 _ _ Rt_4.out
  have ft7 := row_c (i := 7) Rt_4.out rfl
  have zt7 := frozen_of_row _ _ 7 _ _ Rt_4.out
  have ft8 := row_c (i := 8) Rt_4.out rfl
  have zt8 := frozen_of_row _ _ 8 _ _ Rt_4.out
  have xt := heap_lt Rt_4.out
  go_wp2
  go_ret
  exact ⟨rfl, L4.out.1⟩

set_option maxHeartbeats 4000000 in
set_option maxRecDepth 100000 in
theorem right_4 (A P : Option Addr) (c n k : Nat) (s : Bool) (xs : List Nat) (F O x W Q D : Int) (w : World) (h : Dg w A c xs) (hl : xs.length ≤ 10000) (h0 : (decide (1 ≤ F) && decide (F ≤ 10)) = true) (h1 : (decide (0 ≤ O) && decide (O ≤ 64)) = true) (h2 : plainB s xs x = true) (h3 : (decide ((-30) ≤ W) && decide (W ≤ 10)) = true) (h4 : (decide (4 ≤ Q) && decide (Q ≤ 48)) = false):
    Calls Tryd.prog 13 #[.agg #[.int .i64 F, .int .i64 O, .bool s, .slice A xs.length c, .int .i64 x, .int .i64 W, .int .i64 Q, .int .i64 D, .slice P n k]] w fun e w' => e = .returned (.bool false) ∧ Below w.heap.size w w' := by
  have lx := Lib.hid hl
  have H0 := Lib.hid h0
  have H1 := Lib.hid h1
  have H2 := Lib.hid h2
  have H3 := Lib.hid h3
  have H4 := Lib.hid h4
  have L0 := Lib.hid ((live_start w).add h)
  clear h hl h0 h1 h2 h3 h4
  go_enter Tryd.func13, Tryd.ntmps13
  go_wp2_with fail
  obtain ⟨v1, hW, hb, Rt_1⟩ := new1 w (.cells #[.int .i64 F, .int .i64 O, .bool s, .slice A xs.length c, .int .i64 x, .int .i64 W, .int .i64 Q, .int .i64 D, .slice P n k] 29)
  rw [← hW]
  have L1 := ls L0 hb
  have Gt := gl0 L0.out
  clear hW hb
  refine (within_any F 1 10 _ H0.out).mono ?_
  rintro e w2 ⟨rfl, rfl⟩
  have ft0 := row_c (i := 0) Rt_1.out rfl
  have zt0 := frozen_of_row _ _ 0 _ _ Rt_1.out
  have ft1 := row_c (i := 1) Rt_1.out rfl
  have zt1 := frozen_of_row _ _ 1 _ _ Rt_1.out
  have ft2 := row_c (i := 2) Rt_1.out rfl
  have zt2 := frozen_of_row _ _ 2 _ _ Rt_1.out
  have ft3 := row_c (i := 3) Rt_1.out rfl
  have zt3 := frozen_of_row _ _ 3 _ _ Rt_1.out
  have ft4 := row_c (i := 4) Rt_1.out rfl
  have zt4 := frozen_of_row _ _ 4 _ _ Rt_1.out
  have ft5 := row_c (i := 5) Rt_1.out rfl
  have zt5 := frozen_of_row _ _ 5 _ _ Rt_1.out
  have ft6 := row_c (i := 6) Rt_1.out rfl
  have zt6 := frozen_of_row _ _ 6 _ _ Rt_1.out
  have ft7 := row_c (i := 7) Rt_1.out rfl
  have zt7 := frozen_of_row _ _ 7 _ _ Rt_1.out
  have ft8 := row_c (i := 8) Rt_1.out rfl
  have zt8 := frozen_of_row _ _ 8 _ _ Rt_1.out
  have xt := heap_lt Rt_1.out
  go_wp2_with fail
  refine (within_any O 0 64 _ H1.out).mono ?_
  rintro e w3 ⟨rfl, rfl⟩
  clear ft0 zt0 ft1 zt1 ft2 zt2 ft3 zt3 ft4 zt4 ft5 zt5 ft6 zt6 ft7 zt7 ft8 zt8 xt
  have ft0 := row_c (i := 0) Rt_1.out rfl
  have zt0 := frozen_of_row _ _ 0 _ _ Rt_1.out
  have ft1 := row_c (i := 1) Rt_1.out rfl
  have zt1 := frozen_of_row _ _ 1 _ _ Rt_1.out
  have ft2 := row_c (i := 2) Rt_1.out rfl
  have zt2 := frozen_of_row _ _ 2 _ _ Rt_1.out
  have ft3 := row_c (i := 3) Rt_1.out rfl
  have zt3 := frozen_of_row _ _ 3 _ _ Rt_1.out
  have ft4 := row_c (i := 4) Rt_1.out rfl
  have zt4 := frozen_of_row _ _ 4 _ _ Rt_1.out
  have ft5 := row_c (i := 5) Rt_1.out rfl
  have zt5 := frozen_of_row _ _ 5 _ _ Rt_1.out
  have ft6 := row_c (i := 6) Rt_1.out rfl
  have zt6 := frozen_of_row _ _ 6 _ _ Rt_1.out
  have ft7 := row_c (i := 7) Rt_1.out rfl
  have zt7 := frozen_of_row _ _ 7 _ _ Rt_1.out
  have ft8 := row_c (i := 8) Rt_1.out rfl
  have zt8 := frozen_of_row _ _ 8 _ _ Rt_1.out
  have xt := heap_lt Rt_1.out
  go_wp2_with fail
  refine (plain_any (L1.out.get (A := A) (c := c) (xs := xs) (by simp)) lx.out H2.out).mono ?_
  rintro e w4 ⟨rfl, hb⟩
  have L4 := ls L1 hb
  clear ft0 zt0 ft1 zt1 ft2 zt2 ft3 zt3 ft4 zt4 ft5 zt5 ft6 zt6 ft7 zt7 ft8 zt8 xt
  have Rt_4 := co Rt_1 hb
  clear hb 
  have ft0 := row_c (i := 0) Rt_4.out rfl
  have zt0 := frozen_of_row _ _ 0 _ _ Rt_4.out
  have ft1 := row_c (i := 1) Rt_4.out rfl
  have zt1 := frozen_of_row _ _ 1 _ _ Rt_4.out
  have ft2 := row_c (i := 2) Rt_4.out rfl
  have zt2 := frozen_of_row _ _ 2 _ _ Rt_4.out
  have ft3 := row_c (i := 3) Rt_4.out rfl
  have zt3 := frozen_of_row _ _ 3 _ _ Rt_4.out
  have ft4 := row_c (i := 4) Rt_4.out rfl
  have zt4 := frozen_of_row _ _ 4 _ _ Rt_4.out
  have ft5 := row_c (i := 5) Rt_4.out rfl
  have zt5 := frozen_of_row _ _ 5 _ _ Rt_4.out
  have ft6 := row_c (i := 6) Rt_4.out rfl
  have zt6 := frozen_of_row _ _ 6 _ _ Rt_4.out
  have ft7 := row_c (i := 7) Rt_4.out rfl
  have zt7 := frozen_of_row _ _ 7 _ _ Rt_4.out
  have ft8 := row_c (i := 8) Rt_4.out rfl
  have zt8 := frozen_of_row _ _ 8 _ _ Rt_4.out
  have xt := heap_lt Rt_4.out
  go_wp2_with fail
  refine (within_any W (-30) 10 _ H3.out).mono ?_
  rintro e w5 ⟨rfl, rfl⟩
  clear ft0 zt0 ft1 zt1 ft2 zt2 ft3 zt3 ft4 zt4 ft5 zt5 ft6 zt6 ft7 zt7 ft8 zt8 xt
  have ft0 := row_c (i := 0) Rt_4.out rfl
  have zt0 := frozen_of_row _ _ 0 _ _ Rt_4.out
  have ft1 := row_c (i := 1) Rt_4.out rfl
  have zt1 := frozen_of_row _ _ 1 _ _ Rt_4.out
  have ft2 := row_c (i := 2) Rt_4.out rfl
  have zt2 := frozen_of_row _ _ 2 _ _ Rt_4.out
  have ft3 := row_c (i := 3) Rt_4.out rfl
  have zt3 := frozen_of_row _ _ 3 _ _ Rt_4.out
  have ft4 := row_c (i := 4) Rt_4.out rfl
  have zt4 := frozen_of_row _ _ 4 _ _ Rt_4.out
  have ft5 := row_c (i := 5) Rt_4.out rfl
  have zt5 := frozen_of_row _ _ 5 _ _ Rt_4.out
  have ft6 := row_c (i := 6) Rt_4.out rfl
  have zt6 := frozen_of_row _ _ 6 _ _ Rt_4.out
  have ft7 := row_c (i := 7) Rt_4.out rfl
  have zt7 := frozen_of_row _ _ 7 _ _ Rt_4.out
  have ft8 := row_c (i := 8) Rt_4.out rfl
  have zt8 := frozen_of_row _ _ 8 _ _ Rt_4.out
  have xt := heap_lt Rt_4.out
  go_wp2_with fail
  refine (within_any Q 4 48 _ H4.out).mono ?_
  rintro e w6 ⟨rfl, rfl⟩
  clear ft0 zt0 ft1 zt1 ft2 zt2 ft3 zt3 ft4 zt4 ft5 zt5 ft6 zt6 ft7 zt7 ft8 zt8 xt
  have ft0 := row_c (i := 0) Rt_4.out rfl
  have zt0 := frozen_of_row _ _ 0 _ _ Rt_4.out
  have ft1 := row_c (i := 1) Rt_4.out rfl
  have zt1 := frozen_of_row _ _ 1 _ _ Rt_4.out
  have ft2 := row_c (i := 2) Rt_4.out rfl
  have zt2 := frozen_of_row _ _ 2 _ _ Rt_4.out
  have ft3 := row_c (i := 3) Rt_4.out rfl
  have zt3 := frozen_of_row _ _ 3 _ _ Rt_4.out
  have ft4 := row_c (i := 4) Rt_4.out rfl
  have zt4 := frozen_of_row _ _ 4 _ _ Rt_4.out
  have ft5 := row_c (i := 5) Rt_4.out rfl
  have zt5 := frozen_of_row _ _ 5 _ _ Rt_4.out
  have ft6 := row_c (i := 6) Rt_4.out rfl
  have zt6 := frozen_of_row _ _ 6 _ _ Rt_4.out
  have ft7 := row_c (i := 7) Rt_4.out rfl
  have zt7 := frozen_of_row _ _ 7 _ _ Rt_4.out
  have ft8 := row_c (i := 8) Rt_4.out rfl
  have zt8 := frozen_of_row _ _ 8 _ _ Rt_4.out
  have xt := heap_lt Rt_4.out
  go_wp2
  go_ret
  exact ⟨rfl, L4.out.1⟩

set_option maxHeartbeats 4000000 in
set_option maxRecDepth 100000 in
theorem right_5 (A P : Option Addr) (c n k : Nat) (s : Bool) (xs : List Nat) (F O x W Q D : Int) (w : World) (h : Dg w A c xs) (hl : xs.length ≤ 10000) (h0 : (decide (1 ≤ F) && decide (F ≤ 10)) = true) (h1 : (decide (0 ≤ O) && decide (O ≤ 64)) = true) (h2 : plainB s xs x = true) (h3 : (decide ((-30) ≤ W) && decide (W ≤ 10)) = true) (h4 : (decide (4 ≤ Q) && decide (Q ≤ 48)) = true) (h5 : (decide (1 ≤ D) && decide (D ≤ 16)) = false):
    Calls Tryd.prog 13 #[.agg #[.int .i64 F, .int .i64 O, .bool s, .slice A xs.length c, .int .i64 x, .int .i64 W, .int .i64 Q, .int .i64 D, .slice P n k]] w fun e w' => e = .returned (.bool false) ∧ Below w.heap.size w w' := by
  have lx := Lib.hid hl
  have H0 := Lib.hid h0
  have H1 := Lib.hid h1
  have H2 := Lib.hid h2
  have H3 := Lib.hid h3
  have H4 := Lib.hid h4
  have H5 := Lib.hid h5
  have L0 := Lib.hid ((live_start w).add h)
  clear h hl h0 h1 h2 h3 h4 h5
  go_enter Tryd.func13, Tryd.ntmps13
  go_wp2_with fail
  obtain ⟨v1, hW, hb, Rt_1⟩ := new1 w (.cells #[.int .i64 F, .int .i64 O, .bool s, .slice A xs.length c, .int .i64 x, .int .i64 W, .int .i64 Q, .int .i64 D, .slice P n k] 29)
  rw [← hW]
  have L1 := ls L0 hb
  have Gt := gl0 L0.out
  clear hW hb
  refine (within_any F 1 10 _ H0.out).mono ?_
  rintro e w2 ⟨rfl, rfl⟩
  have ft0 := row_c (i := 0) Rt_1.out rfl
  have zt0 := frozen_of_row _ _ 0 _ _ Rt_1.out
  have ft1 := row_c (i := 1) Rt_1.out rfl
  have zt1 := frozen_of_row _ _ 1 _ _ Rt_1.out
  have ft2 := row_c (i := 2) Rt_1.out rfl
  have zt2 := frozen_of_row _ _ 2 _ _ Rt_1.out
  have ft3 := row_c (i := 3) Rt_1.out rfl
  have zt3 := frozen_of_row _ _ 3 _ _ Rt_1.out
  have ft4 := row_c (i := 4) Rt_1.out rfl
  have zt4 := frozen_of_row _ _ 4 _ _ Rt_1.out
  have ft5 := row_c (i := 5) Rt_1.out rfl
  have zt5 := frozen_of_row _ _ 5 _ _ Rt_1.out
  have ft6 := row_c (i := 6) Rt_1.out rfl
  have zt6 := frozen_of_row _ _ 6 _ _ Rt_1.out
  have ft7 := row_c (i := 7) Rt_1.out rfl
  have zt7 := frozen_of_row _ _ 7 _ _ Rt_1.out
  have ft8 := row_c (i := 8) Rt_1.out rfl
  have zt8 := frozen_of_row _ _ 8 _ _ Rt_1.out
  have xt := heap_lt Rt_1.out
  go_wp2_with fail
  refine (within_any O 0 64 _ H1.out).mono ?_
  rintro e w3 ⟨rfl, rfl⟩
  clear ft0 zt0 ft1 zt1 ft2 zt2 ft3 zt3 ft4 zt4 ft5 zt5 ft6 zt6 ft7 zt7 ft8 zt8 xt
  have ft0 := row_c (i := 0) Rt_1.out rfl
  have zt0 := frozen_of_row _ _ 0 _ _ Rt_1.out
  have ft1 := row_c (i := 1) Rt_1.out rfl
  have zt1 := frozen_of_row _ _ 1 _ _ Rt_1.out
  have ft2 := row_c (i := 2) Rt_1.out rfl
  have zt2 := frozen_of_row _ _ 2 _ _ Rt_1.out
  have ft3 := row_c (i := 3) Rt_1.out rfl
  have zt3 := frozen_of_row _ _ 3 _ _ Rt_1.out
  have ft4 := row_c (i := 4) Rt_1.out rfl
  have zt4 := frozen_of_row _ _ 4 _ _ Rt_1.out
  have ft5 := row_c (i := 5) Rt_1.out rfl
  have zt5 := frozen_of_row _ _ 5 _ _ Rt_1.out
  have ft6 := row_c (i := 6) Rt_1.out rfl
  have zt6 := frozen_of_row _ _ 6 _ _ Rt_1.out
  have ft7 := row_c (i := 7) Rt_1.out rfl
  have zt7 := frozen_of_row _ _ 7 _ _ Rt_1.out
  have ft8 := row_c (i := 8) Rt_1.out rfl
  have zt8 := frozen_of_row _ _ 8 _ _ Rt_1.out
  have xt := heap_lt Rt_1.out
  go_wp2_with fail
  refine (plain_any (L1.out.get (A := A) (c := c) (xs := xs) (by simp)) lx.out H2.out).mono ?_
  rintro e w4 ⟨rfl, hb⟩
  have L4 := ls L1 hb
  clear ft0 zt0 ft1 zt1 ft2 zt2 ft3 zt3 ft4 zt4 ft5 zt5 ft6 zt6 ft7 zt7 ft8 zt8 xt
  have Rt_4 := co Rt_1 hb
  clear hb 
  have ft0 := row_c (i := 0) Rt_4.out rfl
  have zt0 := frozen_of_row _ _ 0 _ _ Rt_4.out
  have ft1 := row_c (i := 1) Rt_4.out rfl
  have zt1 := frozen_of_row _ _ 1 _ _ Rt_4.out
  have ft2 := row_c (i := 2) Rt_4.out rfl
  have zt2 := frozen_of_row _ _ 2 _ _ Rt_4.out
  have ft3 := row_c (i := 3) Rt_4.out rfl
  have zt3 := frozen_of_row _ _ 3 _ _ Rt_4.out
  have ft4 := row_c (i := 4) Rt_4.out rfl
  have zt4 := frozen_of_row _ _ 4 _ _ Rt_4.out
  have ft5 := row_c (i := 5) Rt_4.out rfl
  have zt5 := frozen_of_row _ _ 5 _ _ Rt_4.out
  have ft6 := row_c (i := 6) Rt_4.out rfl
  have zt6 := frozen_of_row _ _ 6 _ _ Rt_4.out
  have ft7 := row_c (i := 7) Rt_4.out rfl
  have zt7 := frozen_of_row _ _ 7 _ _ Rt_4.out
  have ft8 := row_c (i := 8) Rt_4.out rfl
  have zt8 := frozen_of_row _ _ 8 _ _ Rt_4.out
  have xt := heap_lt Rt_4.out
  go_wp2_with fail
  refine (within_any W (-30) 10 _ H3.out).mono ?_
  rintro e w5 ⟨rfl, rfl⟩
  clear ft0 zt0 ft1 zt1 ft2 zt2 ft3 zt3 ft4 zt4 ft5 zt5 ft6 zt6 ft7 zt7 ft8 zt8 xt
  have ft0 := row_c (i := 0) Rt_4.out rfl
  have zt0 := frozen_of_row _ _ 0 _ _ Rt_4.out
  have ft1 := row_c (i := 1) Rt_4.out rfl
  have zt1 := frozen_of_row _ _ 1 _ _ Rt_4.out
  have ft2 := row_c (i := 2) Rt_4.out rfl
  have zt2 := frozen_of_row _ _ 2 _ _ Rt_4.out
  have ft3 := row_c (i := 3) Rt_4.out rfl
  have zt3 := frozen_of_row _ _ 3 _ _ Rt_4.out
  have ft4 := row_c (i := 4) Rt_4.out rfl
  have zt4 := frozen_of_row _ _ 4 _ _ Rt_4.out
  have ft5 := row_c (i := 5) Rt_4.out rfl
  have zt5 := frozen_of_row _ _ 5 _ _ Rt_4.out
  have ft6 := row_c (i := 6) Rt_4.out rfl
  have zt6 := frozen_of_row _ _ 6 _ _ Rt_4.out
  have ft7 := row_c (i := 7) Rt_4.out rfl
  have zt7 := frozen_of_row _ _ 7 _ _ Rt_4.out
  have ft8 := row_c (i := 8) Rt_4.out rfl
  have zt8 := frozen_of_row _ _ 8 _ _ Rt_4.out
  have xt := heap_lt Rt_4.out
  go_wp2_with fail
  refine (within_any Q 4 48 _ H4.out).mono ?_
  rintro e w6 ⟨rfl, rfl⟩
  clear ft0 zt0 ft1 zt1 ft2 zt2 ft3 zt3 ft4 zt4 ft5 zt5 ft6 zt6 ft7 zt7 ft8 zt8 xt
  have ft0 := row_c (i := 0) Rt_4.out rfl
  have zt0 := frozen_of_row _ _ 0 _ _ Rt_4.out
  have ft1 := row_c (i := 1) Rt_4.out rfl
  have zt1 := frozen_of_row _ _ 1 _ _ Rt_4.out
  have ft2 := row_c (i := 2) Rt_4.out rfl
  have zt2 := frozen_of_row _ _ 2 _ _ Rt_4.out
  have ft3 := row_c (i := 3) Rt_4.out rfl
  have zt3 := frozen_of_row _ _ 3 _ _ Rt_4.out
  have ft4 := row_c (i := 4) Rt_4.out rfl
  have zt4 := frozen_of_row _ _ 4 _ _ Rt_4.out
  have ft5 := row_c (i := 5) Rt_4.out rfl
  have zt5 := frozen_of_row _ _ 5 _ _ Rt_4.out
  have ft6 := row_c (i := 6) Rt_4.out rfl
  have zt6 := frozen_of_row _ _ 6 _ _ Rt_4.out
  have ft7 := row_c (i := 7) Rt_4.out rfl
  have zt7 := frozen_of_row _ _ 7 _ _ Rt_4.out
  have ft8 := row_c (i := 8) Rt_4.out rfl
  have zt8 := frozen_of_row _ _ 8 _ _ Rt_4.out
  have xt := heap_lt Rt_4.out
  go_wp2_with fail
  refine (within_any D 1 16 _ H5.out).mono ?_
  rintro e w7 ⟨rfl, rfl⟩
  clear ft0 zt0 ft1 zt1 ft2 zt2 ft3 zt3 ft4 zt4 ft5 zt5 ft6 zt6 ft7 zt7 ft8 zt8 xt
  have ft0 := row_c (i := 0) Rt_4.out rfl
  have zt0 := frozen_of_row _ _ 0 _ _ Rt_4.out
  have ft1 := row_c (i := 1) Rt_4.out rfl
  have zt1 := frozen_of_row _ _ 1 _ _ Rt_4.out
  have ft2 := row_c (i := 2) Rt_4.out rfl
  have zt2 := frozen_of_row _ _ 2 _ _ Rt_4.out
  have ft3 := row_c (i := 3) Rt_4.out rfl
  have zt3 := frozen_of_row _ _ 3 _ _ Rt_4.out
  have ft4 := row_c (i := 4) Rt_4.out rfl
  have zt4 := frozen_of_row _ _ 4 _ _ Rt_4.out
  have ft5 := row_c (i := 5) Rt_4.out rfl
  have zt5 := frozen_of_row _ _ 5 _ _ Rt_4.out
  have ft6 := row_c (i := 6) Rt_4.out rfl
  have zt6 := frozen_of_row _ _ 6 _ _ Rt_4.out
  have ft7 := row_c (i := 7) Rt_4.out rfl
  have zt7 := frozen_of_row _ _ 7 _ _ Rt_4.out
  have ft8 := row_c (i := 8) Rt_4.out rfl
  have zt8 := frozen_of_row _ _ 8 _ _ Rt_4.out
  have xt := heap_lt Rt_4.out
  go_wp2
  go_ret
  exact ⟨rfl, L4.out.1⟩

set_option maxHeartbeats 4000000 in
set_option maxRecDepth 100000 in
theorem right_6 (A P : Option Addr) (c n k : Nat) (s : Bool) (xs : List Nat) (F O x W Q D : Int) (w : World) (h : Dg w A c xs) (hl : xs.length ≤ 10000) (h0 : (decide (1 ≤ F) && decide (F ≤ 10)) = true) (h1 : (decide (0 ≤ O) && decide (O ≤ 64)) = true) (h2 : plainB s xs x = true) (h3 : (decide ((-30) ≤ W) && decide (W ≤ 10)) = true) (h4 : (decide (4 ≤ Q) && decide (Q ≤ 48)) = true) (h5 : (decide (1 ≤ D) && decide (D ≤ 16)) = true) (h6 : (decide (1 ≤ ((n : Nat) : Int)) && decide (((n : Nat) : Int) ≤ 32)) = false):
    Calls Tryd.prog 13 #[.agg #[.int .i64 F, .int .i64 O, .bool s, .slice A xs.length c, .int .i64 x, .int .i64 W, .int .i64 Q, .int .i64 D, .slice P n k]] w fun e w' => e = .returned (.bool false) ∧ Below w.heap.size w w' := by
  have lx := Lib.hid hl
  have H0 := Lib.hid h0
  have H1 := Lib.hid h1
  have H2 := Lib.hid h2
  have H3 := Lib.hid h3
  have H4 := Lib.hid h4
  have H5 := Lib.hid h5
  have H6 := Lib.hid h6
  have L0 := Lib.hid ((live_start w).add h)
  clear h hl h0 h1 h2 h3 h4 h5 h6
  go_enter Tryd.func13, Tryd.ntmps13
  go_wp2_with fail
  obtain ⟨v1, hW, hb, Rt_1⟩ := new1 w (.cells #[.int .i64 F, .int .i64 O, .bool s, .slice A xs.length c, .int .i64 x, .int .i64 W, .int .i64 Q, .int .i64 D, .slice P n k] 29)
  rw [← hW]
  have L1 := ls L0 hb
  have Gt := gl0 L0.out
  clear hW hb
  refine (within_any F 1 10 _ H0.out).mono ?_
  rintro e w2 ⟨rfl, rfl⟩
  have ft0 := row_c (i := 0) Rt_1.out rfl
  have zt0 := frozen_of_row _ _ 0 _ _ Rt_1.out
  have ft1 := row_c (i := 1) Rt_1.out rfl
  have zt1 := frozen_of_row _ _ 1 _ _ Rt_1.out
  have ft2 := row_c (i := 2) Rt_1.out rfl
  have zt2 := frozen_of_row _ _ 2 _ _ Rt_1.out
  have ft3 := row_c (i := 3) Rt_1.out rfl
  have zt3 := frozen_of_row _ _ 3 _ _ Rt_1.out
  have ft4 := row_c (i := 4) Rt_1.out rfl
  have zt4 := frozen_of_row _ _ 4 _ _ Rt_1.out
  have ft5 := row_c (i := 5) Rt_1.out rfl
  have zt5 := frozen_of_row _ _ 5 _ _ Rt_1.out
  have ft6 := row_c (i := 6) Rt_1.out rfl
  have zt6 := frozen_of_row _ _ 6 _ _ Rt_1.out
  have ft7 := row_c (i := 7) Rt_1.out rfl
  have zt7 := frozen_of_row _ _ 7 _ _ Rt_1.out
  have ft8 := row_c (i := 8) Rt_1.out rfl
  have zt8 := frozen_of_row _ _ 8 _ _ Rt_1.out
  have xt := heap_lt Rt_1.out
  go_wp2_with fail
  refine (within_any O 0 64 _ H1.out).mono ?_
  rintro e w3 ⟨rfl, rfl⟩
  clear ft0 zt0 ft1 zt1 ft2 zt2 ft3 zt3 ft4 zt4 ft5 zt5 ft6 zt6 ft7 zt7 ft8 zt8 xt
  have ft0 := row_c (i := 0) Rt_1.out rfl
  have zt0 := frozen_of_row _ _ 0 _ _ Rt_1.out
  have ft1 := row_c (i := 1) Rt_1.out rfl
  have zt1 := frozen_of_row _ _ 1 _ _ Rt_1.out
  have ft2 := row_c (i := 2) Rt_1.out rfl
  have zt2 := frozen_of_row _ _ 2 _ _ Rt_1.out
  have ft3 := row_c (i := 3) Rt_1.out rfl
  have zt3 := frozen_of_row _ _ 3 _ _ Rt_1.out
  have ft4 := row_c (i := 4) Rt_1.out rfl
  have zt4 := frozen_of_row _ _ 4 _ _ Rt_1.out
  have ft5 := row_c (i := 5) Rt_1.out rfl
  have zt5 := frozen_of_row _ _ 5 _ _ Rt_1.out
  have ft6 := row_c (i := 6) Rt_1.out rfl
  have zt6 := frozen_of_row _ _ 6 _ _ Rt_1.out
  have ft7 := row_c (i := 7) Rt_1.out rfl
  have zt7 := frozen_of_row _ _ 7 _ _ Rt_1.out
  have ft8 := row_c (i := 8) Rt_1.out rfl
  have zt8 := frozen_of_row _ _ 8 _ _ Rt_1.out
  have xt := heap_lt Rt_1.out
  go_wp2_with fail
  refine (plain_any (L1.out.get (A := A) (c := c) (xs := xs) (by simp)) lx.out H2.out).mono ?_
  rintro e w4 ⟨rfl, hb⟩
  have L4 := ls L1 hb
  clear ft0 zt0 ft1 zt1 ft2 zt2 ft3 zt3 ft4 zt4 ft5 zt5 ft6 zt6 ft7 zt7 ft8 zt8 xt
  have Rt_4 := co Rt_1 hb
  clear hb 
  have ft0 := row_c (i := 0) Rt_4.out rfl
  have zt0 := frozen_of_row _ _ 0 _ _ Rt_4.out
  have ft1 := row_c (i := 1) Rt_4.out rfl
  have zt1 := frozen_of_row _ _ 1 _ _ Rt_4.out
  have ft2 := row_c (i := 2) Rt_4.out rfl
  have zt2 := frozen_of_row _ _ 2 _ _ Rt_4.out
  have ft3 := row_c (i := 3) Rt_4.out rfl
  have zt3 := frozen_of_row _ _ 3 _ _ Rt_4.out
  have ft4 := row_c (i := 4) Rt_4.out rfl
  have zt4 := frozen_of_row _ _ 4 _ _ Rt_4.out
  have ft5 := row_c (i := 5) Rt_4.out rfl
  have zt5 := frozen_of_row _ _ 5 _ _ Rt_4.out
  have ft6 := row_c (i := 6) Rt_4.out rfl
  have zt6 := frozen_of_row _ _ 6 _ _ Rt_4.out
  have ft7 := row_c (i := 7) Rt_4.out rfl
  have zt7 := frozen_of_row _ _ 7 _ _ Rt_4.out
  have ft8 := row_c (i := 8) Rt_4.out rfl
  have zt8 := frozen_of_row _ _ 8 _ _ Rt_4.out
  have xt := heap_lt Rt_4.out
  go_wp2_with fail
  refine (within_any W (-30) 10 _ H3.out).mono ?_
  rintro e w5 ⟨rfl, rfl⟩
  clear ft0 zt0 ft1 zt1 ft2 zt2 ft3 zt3 ft4 zt4 ft5 zt5 ft6 zt6 ft7 zt7 ft8 zt8 xt
  have ft0 := row_c (i := 0) Rt_4.out rfl
  have zt0 := frozen_of_row _ _ 0 _ _ Rt_4.out
  have ft1 := row_c (i := 1) Rt_4.out rfl
  have zt1 := frozen_of_row _ _ 1 _ _ Rt_4.out
  have ft2 := row_c (i := 2) Rt_4.out rfl
  have zt2 := frozen_of_row _ _ 2 _ _ Rt_4.out
  have ft3 := row_c (i := 3) Rt_4.out rfl
  have zt3 := frozen_of_row _ _ 3 _ _ Rt_4.out
  have ft4 := row_c (i := 4) Rt_4.out rfl
  have zt4 := frozen_of_row _ _ 4 _ _ Rt_4.out
  have ft5 := row_c (i := 5) Rt_4.out rfl
  have zt5 := frozen_of_row _ _ 5 _ _ Rt_4.out
  have ft6 := row_c (i := 6) Rt_4.out rfl
  have zt6 := frozen_of_row _ _ 6 _ _ Rt_4.out
  have ft7 := row_c (i := 7) Rt_4.out rfl
  have zt7 := frozen_of_row _ _ 7 _ _ Rt_4.out
  have ft8 := row_c (i := 8) Rt_4.out rfl
  have zt8 := frozen_of_row _ _ 8 _ _ Rt_4.out
  have xt := heap_lt Rt_4.out
  go_wp2_with fail
  refine (within_any Q 4 48 _ H4.out).mono ?_
  rintro e w6 ⟨rfl, rfl⟩
  clear ft0 zt0 ft1 zt1 ft2 zt2 ft3 zt3 ft4 zt4 ft5 zt5 ft6 zt6 ft7 zt7 ft8 zt8 xt
  have ft0 := row_c (i := 0) Rt_4.out rfl
  have zt0 := frozen_of_row _ _ 0 _ _ Rt_4.out
  have ft1 := row_c (i := 1) Rt_4.out rfl
  have zt1 := frozen_of_row _ _ 1 _ _ Rt_4.out
  have ft2 := row_c (i := 2) Rt_4.out rfl
  have zt2 := frozen_of_row _ _ 2 _ _ Rt_4.out
  have ft3 := row_c (i := 3) Rt_4.out rfl
  have zt3 := frozen_of_row _ _ 3 _ _ Rt_4.out
  have ft4 := row_c (i := 4) Rt_4.out rfl
  have zt4 := frozen_of_row _ _ 4 _ _ Rt_4.out
  have ft5 := row_c (i := 5) Rt_4.out rfl
  have zt5 := frozen_of_row _ _ 5 _ _ Rt_4.out
  have ft6 := row_c (i := 6) Rt_4.out rfl
  have zt6 := frozen_of_row _ _ 6 _ _ Rt_4.out
  have ft7 := row_c (i := 7) Rt_4.out rfl
  have zt7 := frozen_of_row _ _ 7 _ _ Rt_4.out
  have ft8 := row_c (i := 8) Rt_4.out rfl
  have zt8 := frozen_of_row _ _ 8 _ _ Rt_4.out
  have xt := heap_lt Rt_4.out
  go_wp2_with fail
  refine (within_any D 1 16 _ H5.out).mono ?_
  rintro e w7 ⟨rfl, rfl⟩
  clear ft0 zt0 ft1 zt1 ft2 zt2 ft3 zt3 ft4 zt4 ft5 zt5 ft6 zt6 ft7 zt7 ft8 zt8 xt
  have ft0 := row_c (i := 0) Rt_4.out rfl
  have zt0 := frozen_of_row _ _ 0 _ _ Rt_4.out
  have ft1 := row_c (i := 1) Rt_4.out rfl
  have zt1 := frozen_of_row _ _ 1 _ _ Rt_4.out
  have ft2 := row_c (i := 2) Rt_4.out rfl
  have zt2 := frozen_of_row _ _ 2 _ _ Rt_4.out
  have ft3 := row_c (i := 3) Rt_4.out rfl
  have zt3 := frozen_of_row _ _ 3 _ _ Rt_4.out
  have ft4 := row_c (i := 4) Rt_4.out rfl
  have zt4 := frozen_of_row _ _ 4 _ _ Rt_4.out
  have ft5 := row_c (i := 5) Rt_4.out rfl
  have zt5 := frozen_of_row _ _ 5 _ _ Rt_4.out
  have ft6 := row_c (i := 6) Rt_4.out rfl
  have zt6 := frozen_of_row _ _ 6 _ _ Rt_4.out
  have ft7 := row_c (i := 7) Rt_4.out rfl
  have zt7 := frozen_of_row _ _ 7 _ _ Rt_4.out
  have ft8 := row_c (i := 8) Rt_4.out rfl
  have zt8 := frozen_of_row _ _ 8 _ _ Rt_4.out
  have xt := heap_lt Rt_4.out
  go_wp2_with fail
  refine (within_any ((n : Nat) : Int) 1 32 _ H6.out).mono ?_
  rintro e w8 ⟨rfl, rfl⟩
  clear ft0 zt0 ft1 zt1 ft2 zt2 ft3 zt3 ft4 zt4 ft5 zt5 ft6 zt6 ft7 zt7 ft8 zt8 xt
  have ft0 := row_c (i := 0) Rt_4.out rfl
  have zt0 := frozen_of_row _ _ 0 _ _ Rt_4.out
  have ft1 := row_c (i := 1) Rt_4.out rfl
  have zt1 := frozen_of_row _ _ 1 _ _ Rt_4.out
  have ft2 := row_c (i := 2) Rt_4.out rfl
  have zt2 := frozen_of_row _ _ 2 _ _ Rt_4.out
  have ft3 := row_c (i := 3) Rt_4.out rfl
  have zt3 := frozen_of_row _ _ 3 _ _ Rt_4.out
  have ft4 := row_c (i := 4) Rt_4.out rfl
  have zt4 := frozen_of_row _ _ 4 _ _ Rt_4.out
  have ft5 := row_c (i := 5) Rt_4.out rfl
  have zt5 := frozen_of_row _ _ 5 _ _ Rt_4.out
  have ft6 := row_c (i := 6) Rt_4.out rfl
  have zt6 := frozen_of_row _ _ 6 _ _ Rt_4.out
  have ft7 := row_c (i := 7) Rt_4.out rfl
  have zt7 := frozen_of_row _ _ 7 _ _ Rt_4.out
  have ft8 := row_c (i := 8) Rt_4.out rfl
  have zt8 := frozen_of_row _ _ 8 _ _ Rt_4.out
  have xt := heap_lt Rt_4.out
  go_wp2
  go_ret
  exact ⟨rfl, L4.out.1⟩
end Go.Proofs.YtfhdhldgflbpjaaDoor
end

section
/-
  Plain words of cheb.Right; end by them.
-/
namespace Go.Proofs.YtfhdhldgflbpjaaDoor
open Go.RowKit
set_option linter.unusedSimpArgs false
set_option linter.unusedVariables false
/-- Where a stretch from m 2^x on ends, 2^W wide; 0, if that is not in range. -/
def endz (m x W : Int) : Int := upto m x (min x W) + upto 1 W (min x W)
def endq (m x W : Int) : Int × Int := ((tot (nm (endz m x W)) (nx (endz m x W) (min x W))).1, (tot (nm (endz m x W)) (nx (endz m x W) (min x W))).2.1)
theorem endz_is (m x W : Int) : IsD (dv m x + dv 1 W) (nm (endz m x W)) (nx (endz m x W) (min x W)) := by
  rw [← sum_upto m x 1 W]; exact isD_n _ _
theorem endq_rt (m x W : Int) : Rt (endq m x W).1 (endq m x W).2 ∧ (digs (endq m x W).1.natAbs).length ≤ 10000 := by
  have h := endz_is m x W
  have t := tot_len (M := nm (endz m x W)) (E := nx (endz m x W) (min x W)) (K := (endq m x W).1) (F := (endq m x W).2) (t := (tot (nm (endz m x W)) (nx (endz m x W) (min x W))).2.2) rfl h.1
  refine ⟨⟨t.2, ?_⟩, t.1⟩
  show -131072 ≤ (tot _ _).2.1 ∧ (tot _ _).2.1 ≤ 131072
  unfold tot
  by_cases hi : inR (nm (endz m x W)) (nx (endz m x W) (min x W)) = true
  · rw [if_pos hi]
    unfold inR at hi
    rw [decide_eq_true_eq] at hi
    rcases hi with h0 | h0
    · have := nf_zero h.1 h0
      dsimp only; omega
    · exact ⟨h0.1, h0.2.1⟩
  · rw [if_neg hi]; dsimp only; omega
theorem end_q {A : Option Addr} {c : Nat} {m v W K F : Int} {w : World} (h : Dg w A c (digs m.natAbs)) (hl : (digs m.natAbs).length ≤ 10000) (r1 : Rt m v) (hT : T32 w) (h0 : -30 ≤ W) (h1 : W ≤ 10) (hq : endq m v W = (K, F)) :
    Calls Tryd.prog 23 #[.agg #[.bool (decide (m < 0)), .slice A (digs m.natAbs).length c, .int .i64 v], .int .i64 W] w fun e w' => Yr K F w e w' := by
  have := end_n A c m v W 1 _ _ (endq m v W).1 (endq m v W).2 (tot (nm (endz m v W)) (nx (endz m v W) (min v W))).2.2 w h hl r1 hT h0 h1 rfl (endz_is m v W) rfl
  rw [hq] at this; exact this
/-- The number that digits with a sign say. -/
def nmv (v : Nm) : Int := sg v.1 (val v.2.1)
/-- The pieces follow one another from a place on: where the last one ends; nothing, if they do not. -/
def rightL (D : Int) : List Pd → Int × Int → Option (Int × Int)
  | [], q => some q
  | p :: ps, q => if pieceB p D && decide (nmv p.a = q.1 ∧ p.a.2.2 = q.2) then rightL D ps (endq q.1 q.2 p.w) else none
theorem rightL_snoc (D : Int) (p : Pd) : ∀ (ps : List Pd) (q : Int × Int), rightL D (ps ++ [p]) q = (rightL D ps q).bind fun r => if pieceB p D && decide (nmv p.a = r.1 ∧ p.a.2.2 = r.2) then some (endq r.1 r.2 p.w) else none
  | [], q => by simp [rightL]
  | a :: ps, q => by
    simp only [List.cons_append, rightL]
    split
    · exact rightL_snoc D p ps _
    · rfl
theorem rightL_app (D : Int) : ∀ (ps rs : List Pd) (q : Int × Int), rightL D ps q = none → rightL D (ps ++ rs) q = none
  | [], rs, q, h => by cases h
  | a :: ps, rs, q, h => by
    simp only [List.cons_append, rightL] at h ⊢
    split at h
    · rename_i hc
      rw [if_pos hc]; exact rightL_app D ps rs _ h
    · rename_i hc
      rw [if_neg hc]
/-- Is a table right? -/
def rightT (F O : Int) (a : Nm) (W Q D : Int) (ps : List Pd) : Bool :=
  (decide (1 ≤ F) && decide (F ≤ 10)) && ((decide (0 ≤ O) && decide (O ≤ 64)) && (plainB a.1 a.2.1 a.2.2 && ((decide (-30 ≤ W) && decide (W ≤ 10)) && ((decide (4 ≤ Q) && decide (Q ≤ 48)) && ((decide (1 ≤ D) && decide (D ≤ 16)) && ((decide (1 ≤ (ps.length : Int)) && decide ((ps.length : Int) ≤ 32)) && (rightL D ps (nmv a, a.2.2) == some (endq (nmv a) a.2.2 W))))))))
end Go.Proofs.YtfhdhldgflbpjaaDoor
end

section
/-
  cheb.Right: its loop.
-/
namespace Go.Proofs.YtfhdhldgflbpjaaDoor
open Go.RowKit
set_option linter.unusedSimpArgs false
set_option linter.unusedVariables false
/-- Pieces in cells behind one another. -/
def PsW (w : World) (b o : Nat) (ps : List Pd) : Prop := ∀ (i : Nat) (p : Pd), ps[i]? = some p → ∃ A c B d P k, w.cell? ⟨b, o + i * 8, none⟩ = some (.bool p.a.1) ∧ w.cell? ⟨b, o + i * 8 + 1, none⟩ = some (.slice A p.a.2.1.length c) ∧ w.cell? ⟨b, o + i * 8 + 2, none⟩ = some (.int .i64 p.a.2.2) ∧ w.cell? ⟨b, o + i * 8 + 3, none⟩ = some (.int .i64 p.w) ∧ w.cell? ⟨b, o + i * 8 + 4, none⟩ = some (.slice P p.cs.length k) ∧ w.cell? ⟨b, o + i * 8 + 5, none⟩ = some (.bool p.er.1) ∧ w.cell? ⟨b, o + i * 8 + 6, none⟩ = some (.slice B p.er.2.1.length d) ∧ w.cell? ⟨b, o + i * 8 + 7, none⟩ = some (.int .i64 p.er.2.2) ∧ Dg w A c p.a.2.1 ∧ Dg w B d p.er.2.1 ∧ NsL w P k p.cs
def SmP (ps : List Pd) : Prop := ∀ p, p ∈ ps → p.a.2.1.length ≤ 10000 ∧ p.er.2.1.length ≤ 10000 ∧ ∀ v, v ∈ p.cs → v.2.1.length ≤ 10000
theorem sg_dzM (m : Int) : sg (decide (m < 0)) m.natAbs = m := by
  unfold sg; split <;> rename_i h <;> simp at h <;> omega
theorem take_snocP {ps : List Pd} {j : Nat} {p : Pd} (h : ps[j]? = some p) : ps.take (j + 1) = ps.take j ++ [p] := by
  rw [List.take_add_one, h]; rfl
theorem right_none {D : Int} {ps : List Pd} {j : Nat} {p : Pd} {q r : Int × Int} (h : ps[j]? = some p) (hr : rightL D (ps.take j) q = some r) (hc : (pieceB p D && decide (nmv p.a = r.1 ∧ p.a.2.2 = r.2)) = false) : rightL D ps q = none := by
  have e : rightL D (ps.take (j + 1)) q = none := by
    rw [take_snocP h, rightL_snoc, hr, Option.bind_some, hc]; rfl
  have := rightL_app D (ps.take (j + 1)) (ps.drop (j + 1)) q e
  rwa [List.take_append_drop] at this
theorem right_some {D : Int} {ps : List Pd} {j : Nat} {p : Pd} {q r : Int × Int} (h : ps[j]? = some p) (hr : rightL D (ps.take j) q = some r) (hc : (pieceB p D && decide (nmv p.a = r.1 ∧ p.a.2.2 = r.2)) = true) : rightL D (ps.take (j + 1)) q = some (endq r.1 r.2 p.w) := by
  rw [take_snocP h, rightL_snoc, hr, Option.bind_some, hc]; rfl

set_option maxHeartbeats 4000000 in
set_option maxRecDepth 100000 in
theorem right_go (A : Option Addr) (c b o k : Nat) (m x F O W Q D : Int) (ps : List Pd) (w : World) (h : Dg w A c (digs m.natAbs)) (hl : (digs m.natAbs).length ≤ 10000) (r1 : Rt m x) (hT : T32 w) (hb : b < w.heap.size) (hps : PsW w b o ps) (hsm : SmP ps) (h0 : (decide (1 ≤ F) && decide (F ≤ 10)) = true) (h1 : (decide (0 ≤ O) && decide (O ≤ 64)) = true) (h2 : plainB (decide (m < 0)) (digs m.natAbs) x = true) (h3 : (decide ((-30) ≤ W) && decide (W ≤ 10)) = true) (h4 : (decide (4 ≤ Q) && decide (Q ≤ 48)) = true) (h5 : (decide (1 ≤ D) && decide (D ≤ 16)) = true) (h6 : (decide (1 ≤ ((ps.length : Nat) : Int)) && decide (((ps.length : Nat) : Int) ≤ 32)) = true) {q : Bool} (hq : (rightL D ps (m, x) == some (endq m x W)) = q):
    Calls Tryd.prog 13 #[.agg #[.int .i64 F, .int .i64 O, .bool (decide (m < 0)), .slice A (digs m.natAbs).length c, .int .i64 x, .int .i64 W, .int .i64 Q, .int .i64 D, .slice (some ⟨b, o, none⟩) ps.length k]] w fun e w' => e = .returned (.bool q) ∧ Below w.heap.size w w' := by
  have lx := Lib.hid hl
  have HR1 := Lib.hid r1
  have HBB := Lib.hid hb
  have HPS := Lib.hid hps
  have HSM := Lib.hid hsm
  have HQ := Lib.hid hq
  have HW := Lib.hid (show -30 ≤ W ∧ W ≤ 10 by simpa using h3)
  have HLEN := Lib.hid (show ps.length ≤ 32 by simp at h6; omega)
  have HD := Lib.hid (show 0 ≤ D ∧ D ≤ 1000 by simp at h5; omega)
  have H0 := Lib.hid h0
  have H1 := Lib.hid h1
  have H2 := Lib.hid h2
  have H3 := Lib.hid h3
  have H4 := Lib.hid h4
  have H5 := Lib.hid h5
  have H6 := Lib.hid h6
  have HT := Lib.hid hT
  clear hT
  have L0 := Lib.hid ((live_start w).add h)
  clear h hl r1 hb hps hsm hq h0 h1 h2 h3 h4 h5 h6
  go_enter Tryd.func13, Tryd.ntmps13
  go_wp2_with fail
  obtain ⟨v1, hW, hb, Rt_1⟩ := new1 w (.cells #[.int .i64 F, .int .i64 O, .bool (decide (m < 0)), .slice A (digs m.natAbs).length c, .int .i64 x, .int .i64 W, .int .i64 Q, .int .i64 D, .slice (some ⟨b, o, none⟩) ps.length k] 29)
  rw [← hW]
  have L1 := ls L0 hb
  have Gt := gl0 L0.out
  clear hW hb
  refine (within_any F 1 10 _ H0.out).mono ?_
  rintro e w2 ⟨rfl, rfl⟩
  have ft0 := row_c (i := 0) Rt_1.out rfl
  have zt0 := frozen_of_row _ _ 0 _ _ Rt_1.out
  have ft1 := row_c (i := 1) Rt_1.out rfl
  have zt1 := frozen_of_row _ _ 1 _ _ Rt_1.out
  have ft2 := row_c (i := 2) Rt_1.out rfl
  have zt2 := frozen_of_row _ _ 2 _ _ Rt_1.out
  have ft3 := row_c (i := 3) Rt_1.out rfl
  have zt3 := frozen_of_row _ _ 3 _ _ Rt_1.out
  have ft4 := row_c (i := 4) Rt_1.out rfl
  have zt4 := frozen_of_row _ _ 4 _ _ Rt_1.out
  have ft5 := row_c (i := 5) Rt_1.out rfl
  have zt5 := frozen_of_row _ _ 5 _ _ Rt_1.out
  have ft6 := row_c (i := 6) Rt_1.out rfl
  have zt6 := frozen_of_row _ _ 6 _ _ Rt_1.out
  have ft7 := row_c (i := 7) Rt_1.out rfl
  have zt7 := frozen_of_row _ _ 7 _ _ Rt_1.out
  have ft8 := row_c (i := 8) Rt_1.out rfl
  have zt8 := frozen_of_row _ _ 8 _ _ Rt_1.out
  have xt := heap_lt Rt_1.out
  go_wp2_with fail
  refine (within_any O 0 64 _ H1.out).mono ?_
  rintro e w3 ⟨rfl, rfl⟩
  clear ft0 zt0 ft1 zt1 ft2 zt2 ft3 zt3 ft4 zt4 ft5 zt5 ft6 zt6 ft7 zt7 ft8 zt8 xt
  have ft0 := row_c (i := 0) Rt_1.out rfl
  have zt0 := frozen_of_row _ _ 0 _ _ Rt_1.out
  have ft1 := row_c (i := 1) Rt_1.out rfl
  have zt1 := frozen_of_row _ _ 1 _ _ Rt_1.out
  have ft2 := row_c (i := 2) Rt_1.out rfl
  have zt2 := frozen_of_row _ _ 2 _ _ Rt_1.out
  have ft3 := row_c (i := 3) Rt_1.out rfl
  have zt3 := frozen_of_row _ _ 3 _ _ Rt_1.out
  have ft4 := row_c (i := 4) Rt_1.out rfl
  have zt4 := frozen_of_row _ _ 4 _ _ Rt_1.out
  have ft5 := row_c (i := 5) Rt_1.out rfl
  have zt5 := frozen_of_row _ _ 5 _ _ Rt_1.out
  have ft6 := row_c (i := 6) Rt_1.out rfl
  have zt6 := frozen_of_row _ _ 6 _ _ Rt_1.out
  have ft7 := row_c (i := 7) Rt_1.out rfl
  have zt7 := frozen_of_row _ _ 7 _ _ Rt_1.out
  have ft8 := row_c (i := 8) Rt_1.out rfl
  have zt8 := frozen_of_row _ _ 8 _ _ Rt_1.out
  have xt := heap_lt Rt_1.out
  go_wp2_with fail
  refine (plain_any (L1.out.get (A := A) (c := c) (xs := digs m.natAbs) (by simp)) lx.out H2.out).mono ?_
  rintro e w4 ⟨rfl, hb⟩
  have L4 := ls L1 hb
  clear ft0 zt0 ft1 zt1 ft2 zt2 ft3 zt3 ft4 zt4 ft5 zt5 ft6 zt6 ft7 zt7 ft8 zt8 xt
  have Rt_4 := co Rt_1 hb
  clear hb 
  have ft0 := row_c (i := 0) Rt_4.out rfl
  have zt0 := frozen_of_row _ _ 0 _ _ Rt_4.out
  have ft1 := row_c (i := 1) Rt_4.out rfl
  have zt1 := frozen_of_row _ _ 1 _ _ Rt_4.out
  have ft2 := row_c (i := 2) Rt_4.out rfl
  have zt2 := frozen_of_row _ _ 2 _ _ Rt_4.out
  have ft3 := row_c (i := 3) Rt_4.out rfl
  have zt3 := frozen_of_row _ _ 3 _ _ Rt_4.out
  have ft4 := row_c (i := 4) Rt_4.out rfl
  have zt4 := frozen_of_row _ _ 4 _ _ Rt_4.out
  have ft5 := row_c (i := 5) Rt_4.out rfl
  have zt5 := frozen_of_row _ _ 5 _ _ Rt_4.out
  have ft6 := row_c (i := 6) Rt_4.out rfl
  have zt6 := frozen_of_row _ _ 6 _ _ Rt_4.out
  have ft7 := row_c (i := 7) Rt_4.out rfl
  have zt7 := frozen_of_row _ _ 7 _ _ Rt_4.out
  have ft8 := row_c (i := 8) Rt_4.out rfl
  have zt8 := frozen_of_row _ _ 8 _ _ Rt_4.out
  have xt := heap_lt Rt_4.out
  go_wp2_with fail
  refine (within_any W (-30) 10 _ H3.out).mono ?_
  rintro e w5 ⟨rfl, rfl⟩
  clear ft0 zt0 ft1 zt1 ft2 zt2 ft3 zt3 ft4 zt4 ft5 zt5 ft6 zt6 ft7 zt7 ft8 zt8 xt
  have ft0 := row_c (i := 0) Rt_4.out rfl
  have zt0 := frozen_of_row _ _ 0 _ _ Rt_4.out
  have ft1 := row_c (i := 1) Rt_4.out rfl
  have zt1 := frozen_of_row _ _ 1 _ _ Rt_4.out
  have ft2 := row_c (i := 2) Rt_4.out rfl
  have zt2 := frozen_of_row _ _ 2 _ _ Rt_4.out
  have ft3 := row_c (i := 3) Rt_4.out rfl
  have zt3 := frozen_of_row _ _ 3 _ _ Rt_4.out
  have ft4 := row_c (i := 4) Rt_4.out rfl
  have zt4 := frozen_of_row _ _ 4 _ _ Rt_4.out
  have ft5 := row_c (i := 5) Rt_4.out rfl
  have zt5 := frozen_of_row _ _ 5 _ _ Rt_4.out
  have ft6 := row_c (i := 6) Rt_4.out rfl
  have zt6 := frozen_of_row _ _ 6 _ _ Rt_4.out
  have ft7 := row_c (i := 7) Rt_4.out rfl
  have zt7 := frozen_of_row _ _ 7 _ _ Rt_4.out
  have ft8 := row_c (i := 8) Rt_4.out rfl
  have zt8 := frozen_of_row _ _ 8 _ _ Rt_4.out
  have xt := heap_lt Rt_4.out
  go_wp2_with fail
  refine (within_any Q 4 48 _ H4.out).mono ?_
  rintro e w6 ⟨rfl, rfl⟩
  clear ft0 zt0 ft1 zt1 ft2 zt2 ft3 zt3 ft4 zt4 ft5 zt5 ft6 zt6 ft7 zt7 ft8 zt8 xt
  have ft0 := row_c (i := 0) Rt_4.out rfl
  have zt0 := frozen_of_row _ _ 0 _ _ Rt_4.out
  have ft1 := row_c (i := 1) Rt_4.out rfl
  have zt1 := frozen_of_row _ _ 1 _ _ Rt_4.out
  have ft2 := row_c (i := 2) Rt_4.out rfl
  have zt2 := frozen_of_row _ _ 2 _ _ Rt_4.out
  have ft3 := row_c (i := 3) Rt_4.out rfl
  have zt3 := frozen_of_row _ _ 3 _ _ Rt_4.out
  have ft4 := row_c (i := 4) Rt_4.out rfl
  have zt4 := frozen_of_row _ _ 4 _ _ Rt_4.out
  have ft5 := row_c (i := 5) Rt_4.out rfl
  have zt5 := frozen_of_row _ _ 5 _ _ Rt_4.out
  have ft6 := row_c (i := 6) Rt_4.out rfl
  have zt6 := frozen_of_row _ _ 6 _ _ Rt_4.out
  have ft7 := row_c (i := 7) Rt_4.out rfl
  have zt7 := frozen_of_row _ _ 7 _ _ Rt_4.out
  have ft8 := row_c (i := 8) Rt_4.out rfl
  have zt8 := frozen_of_row _ _ 8 _ _ Rt_4.out
  have xt := heap_lt Rt_4.out
  go_wp2_with fail
  refine (within_any D 1 16 _ H5.out).mono ?_
  rintro e w7 ⟨rfl, rfl⟩
  clear ft0 zt0 ft1 zt1 ft2 zt2 ft3 zt3 ft4 zt4 ft5 zt5 ft6 zt6 ft7 zt7 ft8 zt8 xt
  have ft0 := row_c (i := 0) Rt_4.out rfl
  have zt0 := frozen_of_row _ _ 0 _ _ Rt_4.out
  have ft1 := row_c (i := 1) Rt_4.out rfl
  have zt1 := frozen_of_row _ _ 1 _ _ Rt_4.out
  have ft2 := row_c (i := 2) Rt_4.out rfl
  have zt2 := frozen_of_row _ _ 2 _ _ Rt_4.out
  have ft3 := row_c (i := 3) Rt_4.out rfl
  have zt3 := frozen_of_row _ _ 3 _ _ Rt_4.out
  have ft4 := row_c (i := 4) Rt_4.out rfl
  have zt4 := frozen_of_row _ _ 4 _ _ Rt_4.out
  have ft5 := row_c (i := 5) Rt_4.out rfl
  have zt5 := frozen_of_row _ _ 5 _ _ Rt_4.out
  have ft6 := row_c (i := 6) Rt_4.out rfl
  have zt6 := frozen_of_row _ _ 6 _ _ Rt_4.out
  have ft7 := row_c (i := 7) Rt_4.out rfl
  have zt7 := frozen_of_row _ _ 7 _ _ Rt_4.out
  have ft8 := row_c (i := 8) Rt_4.out rfl
  have zt8 := frozen_of_row _ _ 8 _ _ Rt_4.out
  have xt := heap_lt Rt_4.out
  go_wp2_with fail
  refine (within_any ((ps.length : Nat) : Int) 1 32 _ H6.out).mono ?_
  rintro e w8 ⟨rfl, rfl⟩
  clear ft0 zt0 ft1 zt1 ft2 zt2 ft3 zt3 ft4 zt4 ft5 zt5 ft6 zt6 ft7 zt7 ft8 zt8 xt
  have ft0 := row_c (i := 0) Rt_4.out rfl
  have zt0 := frozen_of_row _ _ 0 _ _ Rt_4.out
  have ft1 := row_c (i := 1) Rt_4.out rfl
  have zt1 := frozen_of_row _ _ 1 _ _ Rt_4.out
  have ft2 := row_c (i := 2) Rt_4.out rfl
  have zt2 := frozen_of_row _ _ 2 _ _ Rt_4.out
  have ft3 := row_c (i := 3) Rt_4.out rfl
  have zt3 := frozen_of_row _ _ 3 _ _ Rt_4.out
  have ft4 := row_c (i := 4) Rt_4.out rfl
  have zt4 := frozen_of_row _ _ 4 _ _ Rt_4.out
  have ft5 := row_c (i := 5) Rt_4.out rfl
  have zt5 := frozen_of_row _ _ 5 _ _ Rt_4.out
  have ft6 := row_c (i := 6) Rt_4.out rfl
  have zt6 := frozen_of_row _ _ 6 _ _ Rt_4.out
  have ft7 := row_c (i := 7) Rt_4.out rfl
  have zt7 := frozen_of_row _ _ 7 _ _ Rt_4.out
  have ft8 := row_c (i := 8) Rt_4.out rfl
  have zt8 := frozen_of_row _ _ 8 _ _ Rt_4.out
  have xt := heap_lt Rt_4.out
  go_wp2
  obtain ⟨w9, hW, hb, Rnx_9⟩ := new1 w4 (.cells #[.bool (decide (m < 0)), .slice A (digs m.natAbs).length c, .int .i64 x] 26)
  rw [← hW]
  have L9 := ls L4 hb
  have Rt_9 := co Rt_4 hb
  have Gnx := gl0 L4.out
  have Ntnx := nl0 Rt_4.out
  clear hW hb
  clear ft0 zt0 ft1 zt1 ft2 zt2 ft3 zt3 ft4 zt4 ft5 zt5 ft6 zt6 ft7 zt7 ft8 zt8 xt
  go_loopw [52] (fun i wr => ∃ (j : Nat) (K E : Int) (A1 : Option Addr) (c1 : Nat), j ≤ ps.length ∧ i = .int .i64 j ∧ Hid (rightL D (ps.take j) (m, x) = some (K, E)) ∧ Hid (Rt K E ∧ (digs K.natAbs).length ≤ 10000) ∧ Hid (Below w.heap.size w wr) ∧ Hid (wr.heap[w.heap.size]? = some (.cells #[.int .i64 F, .int .i64 O, .bool (decide (m < 0)), .slice A (digs m.natAbs).length c, .int .i64 x, .int .i64 W, .int .i64 Q, .int .i64 D, .slice (some ⟨b, o, none⟩) ps.length k] 29 (0, 0))) ∧ Hid (wr.heap[w4.heap.size]? = some (.cells #[.bool (decide (K < 0)), .slice A1 (digs K.natAbs).length c1, .int .i64 E] 26 (0, 0))) ∧ Hid (Dg wr A1 c1 (digs K.natAbs))) (fun i _ => ps.length - (intOf i).toNat)
  case atStart => exact ⟨0, m, x, A, c, Nat.zero_le _, rfl, Lib.hid rfl, Lib.hid ⟨HR1.out, lx.out⟩, Lib.hid L9.out.1, Rt_9, Rnx_9, Lib.hid (L9.out.get (A := A) (c := c) (xs := digs m.natAbs) (by simp))⟩
  case round =>
    obtain ⟨j, K, E, A1, c1, hj, rfl, HL, HK, HB, HRT, HRN, HD1⟩ := hrel
    have L0r := Lib.hid (((L0.out.step HB.out)).add HD1.out)
    by_cases hlt : j < ps.length
    · obtain ⟨p, hp⟩ : ∃ p, ps[j]? = some p := ⟨_, List.getElem?_eq_getElem hlt⟩
      obtain ⟨A2, c2, B2, d2, P2, k2, e0, e1, e2, e3, e4, e5, e6, e7, hda, hde, hns⟩ := HPS.out j p hp
      have HP := Lib.hid hp
      have SM := Lib.hid (HSM.out p (List.mem_of_getElem? hp))
      have HLT := Lib.hid hlt
      have g0 := (HB.out.cell (p := ⟨b, o + j * 8, none⟩) HBB.out).trans e0
      have g1 := (HB.out.cell (p := ⟨b, o + j * 8 + 1, none⟩) HBB.out).trans e1
      have g2 := (HB.out.cell (p := ⟨b, o + j * 8 + 2, none⟩) HBB.out).trans e2
      have g3 := (HB.out.cell (p := ⟨b, o + j * 8 + 3, none⟩) HBB.out).trans e3
      have g4 := (HB.out.cell (p := ⟨b, o + j * 8 + 4, none⟩) HBB.out).trans e4
      have g5 := (HB.out.cell (p := ⟨b, o + j * 8 + 5, none⟩) HBB.out).trans e5
      have g6 := (HB.out.cell (p := ⟨b, o + j * 8 + 6, none⟩) HBB.out).trans e6
      have g7 := (HB.out.cell (p := ⟨b, o + j * 8 + 7, none⟩) HBB.out).trans e7
      have LR := Lib.hid ((L0r.out.add (hda.below HB.out)).add (hde.below HB.out))
      have HNS := Lib.hid hns
      have GTn : w.heap.size < wr.heap.size := heap_lt HRT.out
      clear e0 e1 e2 e3 e4 e5 e6 e7 hda hde hns hp
      obtain ⟨pb, hpb⟩ : ∃ r, pieceB p D = r := ⟨_, rfl⟩
      have HPB := Lib.hid hpb
      clear hpb
      have ft0 := row_c (i := 0) HRT.out rfl
      have zt0 := frozen_of_row _ _ 0 _ _ HRT.out
      have ft1 := row_c (i := 1) HRT.out rfl
      have zt1 := frozen_of_row _ _ 1 _ _ HRT.out
      have ft2 := row_c (i := 2) HRT.out rfl
      have zt2 := frozen_of_row _ _ 2 _ _ HRT.out
      have ft3 := row_c (i := 3) HRT.out rfl
      have zt3 := frozen_of_row _ _ 3 _ _ HRT.out
      have ft4 := row_c (i := 4) HRT.out rfl
      have zt4 := frozen_of_row _ _ 4 _ _ HRT.out
      have ft5 := row_c (i := 5) HRT.out rfl
      have zt5 := frozen_of_row _ _ 5 _ _ HRT.out
      have ft6 := row_c (i := 6) HRT.out rfl
      have zt6 := frozen_of_row _ _ 6 _ _ HRT.out
      have ft7 := row_c (i := 7) HRT.out rfl
      have zt7 := frozen_of_row _ _ 7 _ _ HRT.out
      have ft8 := row_c (i := 8) HRT.out rfl
      have zt8 := frozen_of_row _ _ 8 _ _ HRT.out
      have xt := heap_lt HRT.out
      obtain ⟨fnx0, znx0, fnx1, znx1, fnx2, znx2, xnx⟩ := ly3 HRN.out
      go_wp2_with fail
      obtain ⟨w10, hW, hb, Rp_10⟩ := new1 wr (.cells #[.bool p.a.1, .slice A2 p.a.2.1.length c2, .int .i64 p.a.2.2, .int .i64 p.w, .slice P2 p.cs.length k2, .bool p.er.1, .slice B2 p.er.2.1.length d2, .int .i64 p.er.2.2] 46)
      rw [← hW]
      have L10 := ls LR hb
      have Rt_10 := co HRT hb
      have Rnx_10 := co HRN hb
      have Gp := gl0 LR.out
      have Ntp := nl0 HRT.out
      have Nnxp := nl0 HRN.out
      clear hW hb
      clear ft0 zt0 ft1 zt1 ft2 zt2 ft3 zt3 ft4 zt4 ft5 zt5 ft6 zt6 ft7 zt7 ft8 zt8 xt fnx0 znx0 fnx1 znx1 fnx2 znx2 xnx
      clear g0 g1 g2 g3 g4 g5 g6 g7
      have ft0 := row_c (i := 0) Rt_10.out rfl
      have zt0 := frozen_of_row _ _ 0 _ _ Rt_10.out
      have ft1 := row_c (i := 1) Rt_10.out rfl
      have zt1 := frozen_of_row _ _ 1 _ _ Rt_10.out
      have ft2 := row_c (i := 2) Rt_10.out rfl
      have zt2 := frozen_of_row _ _ 2 _ _ Rt_10.out
      have ft3 := row_c (i := 3) Rt_10.out rfl
      have zt3 := frozen_of_row _ _ 3 _ _ Rt_10.out
      have ft4 := row_c (i := 4) Rt_10.out rfl
      have zt4 := frozen_of_row _ _ 4 _ _ Rt_10.out
      have ft5 := row_c (i := 5) Rt_10.out rfl
      have zt5 := frozen_of_row _ _ 5 _ _ Rt_10.out
      have ft6 := row_c (i := 6) Rt_10.out rfl
      have zt6 := frozen_of_row _ _ 6 _ _ Rt_10.out
      have ft7 := row_c (i := 7) Rt_10.out rfl
      have zt7 := frozen_of_row _ _ 7 _ _ Rt_10.out
      have ft8 := row_c (i := 8) Rt_10.out rfl
      have zt8 := frozen_of_row _ _ 8 _ _ Rt_10.out
      have xt := heap_lt Rt_10.out
      have fp0 := row_c (i := 0) Rp_10.out rfl
      have zp0 := frozen_of_row _ _ 0 _ _ Rp_10.out
      have fp1 := row_c (i := 1) Rp_10.out rfl
      have zp1 := frozen_of_row _ _ 1 _ _ Rp_10.out
      have fp2 := row_c (i := 2) Rp_10.out rfl
      have zp2 := frozen_of_row _ _ 2 _ _ Rp_10.out
      have fp3 := row_c (i := 3) Rp_10.out rfl
      have zp3 := frozen_of_row _ _ 3 _ _ Rp_10.out
      have fp4 := row_c (i := 4) Rp_10.out rfl
      have zp4 := frozen_of_row _ _ 4 _ _ Rp_10.out
      have fp5 := row_c (i := 5) Rp_10.out rfl
      have zp5 := frozen_of_row _ _ 5 _ _ Rp_10.out
      have fp6 := row_c (i := 6) Rp_10.out rfl
      have zp6 := frozen_of_row _ _ 6 _ _ Rp_10.out
      have fp7 := row_c (i := 7) Rp_10.out rfl
      have zp7 := frozen_of_row _ _ 7 _ _ Rp_10.out
      have xp := heap_lt Rp_10.out
      go_wp2_with fail
      refine (rpiece_any (p := p) (q := pb) (L10.out.get (A := A2) (c := c2) (xs := p.a.2.1) (by simp)) (L10.out.get (A := B2) (c := d2) (xs := p.er.2.1) (by simp)) SM.out.1 SM.out.2.1 (HNS.out.below L10.out.1) SM.out.2.2 HD.out.1 HD.out.2 HPB.out).mono ?_
      rintro e w11 ⟨rfl, hb⟩
      have L11 := ls L10 hb
      clear ft0 zt0 ft1 zt1 ft2 zt2 ft3 zt3 ft4 zt4 ft5 zt5 ft6 zt6 ft7 zt7 ft8 zt8 xt fp0 zp0 fp1 zp1 fp2 zp2 fp3 zp3 fp4 zp4 fp5 zp5 fp6 zp6 fp7 zp7 xp
      have Rt_11 := co Rt_10 hb
      have Rnx_11 := co Rnx_10 hb
      have Rp_11 := co Rp_10 hb
      clear hb 
      cases pb
      · have HQF := Lib.hid (show q = false by rw [← HQ.out, right_none HP.out HL.out (by rw [HPB.out]; rfl)]; rfl)
        go_wp2
        try rw [Exit.noGoto_ret]
        go_ret
        exact ⟨by rw [HQF.out]; rfl, L11.out.1⟩
      · have hnb : nmB p.a = true := by have := HPB.out; unfold pieceB at this; simp only [Bool.and_eq_true] at this; exact this.2.2.1.1
        have hwb : -30 ≤ p.w ∧ p.w ≤ 10 := by have := HPB.out; unfold pieceB at this; simp only [Bool.and_eq_true, decide_eq_true_eq] at this; exact this.1
        unfold nmB mayB at hnb
        rw [Bool.and_eq_true] at hnb
        obtain ⟨m2, hm2, hs2, rr2⟩ := num_of ((L11.out.get (A := A2) (c := c2) (xs := p.a.2.1) (by simp))).2.1 hnb.1
        have hnv : nmv p.a = m2 := by unfold nmv; rw [← hm2, ← hs2, val_digs]; exact sg_dzM m2
        obtain ⟨j0, hj0⟩ : ∃ j, cmpd (dv m2 p.a.2.2) (dv K E) = j := ⟨_, rfl⟩
        have HC := Lib.hid (fun (V : World) (ha : Dg V A2 c2 p.a.2.1) (hb : Dg V A1 c1 (digs K.natAbs)) => (by rw [← hm2] at ha; have := dcmp_any ha hb (by rw [hm2]; have := SM.out.1; omega) (by have := HK.out.2; omega) rr2 HK.out.1 hj0; rw [hm2, hs2] at this; exact this : Calls Tryd.prog 22 #[.agg #[.bool p.a.1, .slice A2 p.a.2.1.length c2, .int .i64 p.a.2.2], .agg #[.bool (decide (K < 0)), .slice A1 (digs K.natAbs).length c1, .int .i64 E]] V fun e w' => e = .returned (.int .i64 j0) ∧ Below V.heap.size V w'))
        obtain ⟨⟨K2, F2⟩, hkf⟩ : ∃ t, endq m2 p.a.2.2 p.w = t := ⟨_, rfl⟩
        have HE := Lib.hid (fun (V : World) (ha : Dg V A2 c2 p.a.2.1) (hT : T32 V) => (by rw [← hm2] at ha; have := end_q ha (by rw [hm2]; exact SM.out.1) rr2 hT hwb.1 hwb.2 hkf; rw [hm2, hs2] at this; exact this : Calls Tryd.prog 23 #[.agg #[.bool p.a.1, .slice A2 p.a.2.1.length c2, .int .i64 p.a.2.2], .int .i64 p.w] V fun e w' => Yr K2 F2 V e w'))
        have RK2 := Lib.hid (endq_rt m2 p.a.2.2 p.w)
        rw [hkf] at RK2
        by_cases hsm : m2 = K ∧ p.a.2.2 = E
        · have hz : (j0 != 0) = false := by rw [← hj0, hsm.1, hsm.2, cmpd_eq rfl]; rfl
          have HRS := Lib.hid (right_some (r := (K, E)) HP.out HL.out (by rw [HPB.out, hnv, decide_eq_true hsm]; rfl))
          rw [← hsm.1, ← hsm.2, hkf] at HRS
          clear hnb hm2 hs2 rr2 hnv hj0 hkf hwb hsm
          have fp0 := row_c (i := 0) Rp_11.out rfl
          have zp0 := frozen_of_row _ _ 0 _ _ Rp_11.out
          have fp1 := row_c (i := 1) Rp_11.out rfl
          have zp1 := frozen_of_row _ _ 1 _ _ Rp_11.out
          have fp2 := row_c (i := 2) Rp_11.out rfl
          have zp2 := frozen_of_row _ _ 2 _ _ Rp_11.out
          have fp3 := row_c (i := 3) Rp_11.out rfl
          have zp3 := frozen_of_row _ _ 3 _ _ Rp_11.out
          have fp4 := row_c (i := 4) Rp_11.out rfl
          have zp4 := frozen_of_row _ _ 4 _ _ Rp_11.out
          have fp5 := row_c (i := 5) Rp_11.out rfl
          have zp5 := frozen_of_row _ _ 5 _ _ Rp_11.out
          have fp6 := row_c (i := 6) Rp_11.out rfl
          have zp6 := frozen_of_row _ _ 6 _ _ Rp_11.out
          have fp7 := row_c (i := 7) Rp_11.out rfl
          have zp7 := frozen_of_row _ _ 7 _ _ Rp_11.out
          have xp := heap_lt Rp_11.out
          obtain ⟨fnx0, znx0, fnx1, znx1, fnx2, znx2, xnx⟩ := ly3 Rnx_11.out
          go_wp2_with fail
          refine (HC.out _ (L11.out.get (A := A2) (c := c2) (xs := p.a.2.1) (by simp)) (L11.out.get (A := A1) (c := c1) (xs := digs K.natAbs) (by simp))).mono ?_
          rintro e w12 ⟨rfl, hb⟩
          have L12 := ls L11 hb
          clear fp0 zp0 fp1 zp1 fp2 zp2 fp3 zp3 fp4 zp4 fp5 zp5 fp6 zp6 fp7 zp7 xp fnx0 znx0 fnx1 znx1 fnx2 znx2 xnx
          have Rt_12 := co Rt_11 hb
          have Rnx_12 := co Rnx_11 hb
          have Rp_12 := co Rp_11 hb
          clear hb 
          have fp0 := row_c (i := 0) Rp_12.out rfl
          have zp0 := frozen_of_row _ _ 0 _ _ Rp_12.out
          have fp1 := row_c (i := 1) Rp_12.out rfl
          have zp1 := frozen_of_row _ _ 1 _ _ Rp_12.out
          have fp2 := row_c (i := 2) Rp_12.out rfl
          have zp2 := frozen_of_row _ _ 2 _ _ Rp_12.out
          have fp3 := row_c (i := 3) Rp_12.out rfl
          have zp3 := frozen_of_row _ _ 3 _ _ Rp_12.out
          have fp4 := row_c (i := 4) Rp_12.out rfl
          have zp4 := frozen_of_row _ _ 4 _ _ Rp_12.out
          have fp5 := row_c (i := 5) Rp_12.out rfl
          have zp5 := frozen_of_row _ _ 5 _ _ Rp_12.out
          have fp6 := row_c (i := 6) Rp_12.out rfl
          have zp6 := frozen_of_row _ _ 6 _ _ Rp_12.out
          have fp7 := row_c (i := 7) Rp_12.out rfl
          have zp7 := frozen_of_row _ _ 7 _ _ Rp_12.out
          have xp := heap_lt Rp_12.out
          go_wp2_with fail
          refine (HE.out _ (L12.out.get (A := A2) (c := c2) (xs := p.a.2.1) (by simp)) (t32_live HT.out L12.out)).mono ?_
          rintro e w13 ⟨A13, c13, rfl, hd, hb⟩
          have L13 := la L12 hb hd
          clear fp0 zp0 fp1 zp1 fp2 zp2 fp3 zp3 fp4 zp4 fp5 zp5 fp6 zp6 fp7 zp7 xp
          have Rt_13 := co Rt_12 hb
          have Rnx_13 := co Rnx_12 hb
          have Rp_13 := co Rp_12 hb
          clear hb hd
          obtain ⟨fnx0, znx0, fnx1, znx1, fnx2, znx2, xnx⟩ := ly3 Rnx_13.out
          go_wp2
          obtain ⟨w14, hW⟩ : ∃ W : World, W = (((w13.setCell ⟨w4.heap.size, 0, none⟩ (.bool (decide (K2 < 0)))).setCell ⟨w4.heap.size, 1, none⟩ (.slice A13 (digs K2.natAbs).length c13)).setCell ⟨w4.heap.size, 2, none⟩ (.int .i64 F2)) := ⟨_, rfl⟩
          rw [← hW]
          have hO : Only (w4.heap.size) w13 w14 := by rw [hW]; exact ((((Only.refl (w4.heap.size) w13).setCell 0 _).setCell 1 _).setCell 2 _)
          have L14 := Lib.hid (live_only L13.out hO Rnx_13.out noint_dy Gnx)
          have Rt_14 := Lib.hid ((hO.block _ (by omega)).trans Rt_13.out)
          have Rp_14 := Lib.hid ((hO.block _ (by omega)).trans Rp_13.out)
          have Rnx_14 := Lib.hid (show w14.heap[w4.heap.size]? = some (.cells #[.bool (decide (K2 < 0)), .slice A13 (digs K2.natAbs).length c13, .int .i64 F2] 26 (0, 0)) by rw [hW]; exact (heap_setCell_same _ _ 2 _ _ _ (heap_setCell_same _ _ 1 _ _ _ (heap_setCell_same _ _ 0 _ _ _ Rnx_13.out))))
          clear hW hO
          clear fnx0 znx0 fnx1 znx1 fnx2 znx2 xnx
          go_roundw
          case rel =>
            have hlen := HLEN.out
            have hlt := HLT.out
            have hw : wrap64 ((j : Int) + 1) = (j : Int) + 1 := IntWalk.wrap64_in _ ⟨by omega, by omega⟩
            exact ⟨j + 1, K2, F2, A13, c13, HLT.out, by rw [hw]; exact congrArg _ (by omega), HRS, RK2, Lib.hid L14.out.1, Rt_14, Rnx_14, Lib.hid (L14.out.get (A := A13) (c := c13) (xs := digs K2.natAbs) (by simp))⟩
          case measure =>
            have hlen := HLEN.out
            have hlt := HLT.out
            have hw : wrap64 ((j : Int) + 1) = (j : Int) + 1 := IntWalk.wrap64_in _ ⟨by omega, by omega⟩
            rw [hw]
            simp [intOf]; omega
        · have hz : (j0 != 0) = true := bne_iff_ne.2 (fun e => hsm (by rw [← hj0, cmpd_zero] at e; exact nf_inj rr2.1 HK.out.1.1 e))
          have HQF := Lib.hid (show q = false by rw [← HQ.out, right_none (r := (K, E)) HP.out HL.out (by rw [HPB.out, hnv, decide_eq_false hsm]; rfl)]; rfl)
          clear hnb hm2 hs2 rr2 hnv hj0 hkf hwb hsm
          have fp0 := row_c (i := 0) Rp_11.out rfl
          have zp0 := frozen_of_row _ _ 0 _ _ Rp_11.out
          have fp1 := row_c (i := 1) Rp_11.out rfl
          have zp1 := frozen_of_row _ _ 1 _ _ Rp_11.out
          have fp2 := row_c (i := 2) Rp_11.out rfl
          have zp2 := frozen_of_row _ _ 2 _ _ Rp_11.out
          have fp3 := row_c (i := 3) Rp_11.out rfl
          have zp3 := frozen_of_row _ _ 3 _ _ Rp_11.out
          have fp4 := row_c (i := 4) Rp_11.out rfl
          have zp4 := frozen_of_row _ _ 4 _ _ Rp_11.out
          have fp5 := row_c (i := 5) Rp_11.out rfl
          have zp5 := frozen_of_row _ _ 5 _ _ Rp_11.out
          have fp6 := row_c (i := 6) Rp_11.out rfl
          have zp6 := frozen_of_row _ _ 6 _ _ Rp_11.out
          have fp7 := row_c (i := 7) Rp_11.out rfl
          have zp7 := frozen_of_row _ _ 7 _ _ Rp_11.out
          have xp := heap_lt Rp_11.out
          obtain ⟨fnx0, znx0, fnx1, znx1, fnx2, znx2, xnx⟩ := ly3 Rnx_11.out
          go_wp2_with fail
          refine (HC.out _ (L11.out.get (A := A2) (c := c2) (xs := p.a.2.1) (by simp)) (L11.out.get (A := A1) (c := c1) (xs := digs K.natAbs) (by simp))).mono ?_
          rintro e w12 ⟨rfl, hb⟩
          have L12 := ls L11 hb
          clear fp0 zp0 fp1 zp1 fp2 zp2 fp3 zp3 fp4 zp4 fp5 zp5 fp6 zp6 fp7 zp7 xp fnx0 znx0 fnx1 znx1 fnx2 znx2 xnx
          have Rt_12 := co Rt_11 hb
          have Rnx_12 := co Rnx_11 hb
          have Rp_12 := co Rp_11 hb
          clear hb 
          go_wp2
          try rw [Exit.noGoto_ret]
          go_ret
          exact ⟨by rw [HQF.out]; rfl, L12.out.1⟩
    · obtain rfl : j = ps.length := by omega
      have GTn : w.heap.size < wr.heap.size := heap_lt HRT.out
      have hl2 := HL.out
      rw [List.take_length] at hl2
      obtain ⟨⟨Z1, Z2⟩, hzz⟩ : ∃ t, endq m x W = t := ⟨_, rfl⟩
      have RZ := endq_rt m x W
      rw [hzz] at RZ
      dsimp only at RZ
      obtain ⟨j1, hj1⟩ : ∃ j, cmpd (dv K E) (dv Z1 Z2) = j := ⟨_, rfl⟩
      have hqz : (j1 == 0) = q := by
        rw [← HQ.out, hl2, hzz, Bool.eq_iff_iff]
        simp only [beq_iff_eq, Option.some.injEq, Prod.mk.injEq]
        rw [← hj1, cmpd_zero]
        exact ⟨fun e => nf_inj HK.out.1.1 RZ.1.1 e, fun e => by rw [e.1, e.2]⟩
      have HZ := Lib.hid hzz
      have HRZ := Lib.hid RZ
      have HJ := Lib.hid hj1
      have LK := Lib.hid (show (digs K.natAbs).length ≤ 400000 by have := HK.out.2; omega)
      have LZ := Lib.hid (show (digs Z1.natAbs).length ≤ 400000 by omega)
      have RKK := Lib.hid HK.out.1
      clear hl2 hzz RZ hj1
      have ft0 := row_c (i := 0) HRT.out rfl
      have zt0 := frozen_of_row _ _ 0 _ _ HRT.out
      have ft1 := row_c (i := 1) HRT.out rfl
      have zt1 := frozen_of_row _ _ 1 _ _ HRT.out
      have ft2 := row_c (i := 2) HRT.out rfl
      have zt2 := frozen_of_row _ _ 2 _ _ HRT.out
      have ft3 := row_c (i := 3) HRT.out rfl
      have zt3 := frozen_of_row _ _ 3 _ _ HRT.out
      have ft4 := row_c (i := 4) HRT.out rfl
      have zt4 := frozen_of_row _ _ 4 _ _ HRT.out
      have ft5 := row_c (i := 5) HRT.out rfl
      have zt5 := frozen_of_row _ _ 5 _ _ HRT.out
      have ft6 := row_c (i := 6) HRT.out rfl
      have zt6 := frozen_of_row _ _ 6 _ _ HRT.out
      have ft7 := row_c (i := 7) HRT.out rfl
      have zt7 := frozen_of_row _ _ 7 _ _ HRT.out
      have ft8 := row_c (i := 8) HRT.out rfl
      have zt8 := frozen_of_row _ _ 8 _ _ HRT.out
      have xt := heap_lt HRT.out
      obtain ⟨fnx0, znx0, fnx1, znx1, fnx2, znx2, xnx⟩ := ly3 HRN.out
      go_wp2_with fail
      clear ft0 zt0 ft1 zt1 ft2 zt2 ft3 zt3 ft4 zt4 ft5 zt5 ft6 zt6 ft7 zt7 ft8 zt8 xt fnx0 znx0 fnx1 znx1 fnx2 znx2 xnx
      obtain ⟨fnx0, znx0, fnx1, znx1, fnx2, znx2, xnx⟩ := ly3 HRN.out
      have ft0 := row_c (i := 0) HRT.out rfl
      have zt0 := frozen_of_row _ _ 0 _ _ HRT.out
      have ft1 := row_c (i := 1) HRT.out rfl
      have zt1 := frozen_of_row _ _ 1 _ _ HRT.out
      have ft2 := row_c (i := 2) HRT.out rfl
      have zt2 := frozen_of_row _ _ 2 _ _ HRT.out
      have ft3 := row_c (i := 3) HRT.out rfl
      have zt3 := frozen_of_row _ _ 3 _ _ HRT.out
      have ft4 := row_c (i := 4) HRT.out rfl
      have zt4 := frozen_of_row _ _ 4 _ _ HRT.out
      have ft5 := row_c (i := 5) HRT.out rfl
      have zt5 := frozen_of_row _ _ 5 _ _ HRT.out
      have ft6 := row_c (i := 6) HRT.out rfl
      have zt6 := frozen_of_row _ _ 6 _ _ HRT.out
      have ft7 := row_c (i := 7) HRT.out rfl
      have zt7 := frozen_of_row _ _ 7 _ _ HRT.out
      have ft8 := row_c (i := 8) HRT.out rfl
      have zt8 := frozen_of_row _ _ 8 _ _ HRT.out
      have xt := heap_lt HRT.out
      have KD := Lib.hid (bd0 wr)
      have LD := ls L0r KD.out
      go_region_held3 (fun w' => ∀ b o, b < wr.heap.size → w'.cell? ⟨b, o, none⟩ = wr.cell? ⟨b, o, none⟩)
        (first | with_reducible exact (bcell KD.out).1 | with_reducible exact (bcell K14.out).1 | with_reducible exact (bcell K15.out).1)
        (first
          | (go_at_call 23; (with_reducible refine (end_q (K := Z1) (F := Z2) (LD.out.get (A := A) (c := c) (xs := digs m.natAbs) (by simp)) lx.out HR1.out (t32_live HT.out LD.out) HW.out.1 HW.out.2 HZ.out).mono ?_); rintro e w14 ⟨A14, c14, rfl, hd, hb⟩; (have K14 := bt KD hb); (have L14 := la LD hb hd); clear hb hd)
          | (go_at_call 22; (with_reducible refine (dcmp_any (L14.out.get (A := A1) (c := c1) (xs := digs K.natAbs) (by simp)) (L14.out.get (A := A14) (c := c14) (xs := digs Z1.natAbs) (by simp)) LK.out LZ.out RKK.out HRZ.out.1 HJ.out).mono ?_); rintro e w15 ⟨rfl, hb⟩; (have K15 := bt K14 hb); (have L15 := Lib.hid (L14.out.step hb)); clear hb ))
      rename_i hHeld
      clear hHeld
      clear fnx0 znx0 fnx1 znx1 fnx2 znx2 xnx ft0 zt0 ft1 zt1 ft2 zt2 ft3 zt3 ft4 zt4 ft5 zt5 ft6 zt6 ft7 zt7 ft8 zt8 xt
      have Rt_15 := co HRT K15.out
      have Rnx_15 := co HRN K15.out
      clear KD LD
      go_wp2
      go_ret
      exact ⟨rfl, L15.out.1⟩
end Go.Proofs.YtfhdhldgflbpjaaDoor
end

section
/-
  cheb.Right, whole.
-/
namespace Go.Proofs.YtfhdhldgflbpjaaDoor
open Go.RowKit
set_option linter.unusedSimpArgs false
set_option linter.unusedVariables false
/-- A slice holds these pieces. -/
def PsL (w : World) (P : Option Addr) (ps : List Pd) : Prop := ps.length ≠ 0 → ∃ b o, P = some ⟨b, o, none⟩ ∧ b < w.heap.size ∧ PsW w b o ps
theorem cright_any {A P : Option Addr} {c k : Nat} {F O W Q D : Int} {a : Nm} {ps : List Pd} {q : Bool} {w : World} (h : Dg w A c a.2.1) (hl : a.2.1.length ≤ 10000) (hT : T32 w) (hps : PsL w P ps) (hsm : SmP ps) (hq : rightT F O a W Q D ps = q) :
    Calls Tryd.prog 13 #[.agg #[.int .i64 F, .int .i64 O, .bool a.1, .slice A a.2.1.length c, .int .i64 a.2.2, .int .i64 W, .int .i64 Q, .int .i64 D, .slice P ps.length k]] w fun e w' => e = .returned (.bool q) ∧ Below w.heap.size w w' := by
  obtain ⟨s, xs, x⟩ := a
  unfold rightT at hq
  dsimp only at *
  cases h0 : (decide (1 ≤ F) && decide (F ≤ 10))
  · obtain rfl : q = false := by rw [← hq, h0]; rfl
    exact right_0 A P c _ k s xs F O x W Q D w h hl h0
  · rw [h0, Bool.true_and] at hq
    cases h1 : (decide (0 ≤ O) && decide (O ≤ 64))
    · obtain rfl : q = false := by rw [← hq, h1]; rfl
      exact right_1 A P c _ k s xs F O x W Q D w h hl h0 h1
    · rw [h1, Bool.true_and] at hq
      cases h2 : plainB s xs x
      · obtain rfl : q = false := by rw [← hq, h2]; rfl
        exact right_2 A P c _ k s xs F O x W Q D w h hl h0 h1 h2
      · rw [h2, Bool.true_and] at hq
        cases h3 : (decide ((-30) ≤ W) && decide (W ≤ 10))
        · obtain rfl : q = false := by rw [← hq, h3]; rfl
          exact right_3 A P c _ k s xs F O x W Q D w h hl h0 h1 h2 h3
        · rw [h3, Bool.true_and] at hq
          cases h4 : (decide (4 ≤ Q) && decide (Q ≤ 48))
          · obtain rfl : q = false := by rw [← hq, h4]; rfl
            exact right_4 A P c _ k s xs F O x W Q D w h hl h0 h1 h2 h3 h4
          · rw [h4, Bool.true_and] at hq
            cases h5 : (decide (1 ≤ D) && decide (D ≤ 16))
            · obtain rfl : q = false := by rw [← hq, h5]; rfl
              exact right_5 A P c _ k s xs F O x W Q D w h hl h0 h1 h2 h3 h4 h5
            · rw [h5, Bool.true_and] at hq
              cases h6 : (decide (1 ≤ (ps.length : Int)) && decide ((ps.length : Int) ≤ 32))
              · obtain rfl : q = false := by rw [← hq, h6]; rfl
                exact right_6 A P c _ k s xs F O x W Q D w h hl h0 h1 h2 h3 h4 h5 h6
              · rw [h6, Bool.true_and] at hq
                have hr : dyR s xs x = true := by unfold plainB at h2; rw [Bool.and_eq_true] at h2; exact h2.1
                obtain ⟨m, rfl, rfl, r1⟩ := num_of h.2.1 hr
                obtain ⟨b, o, rfl, hb, hp⟩ := hps (by simp at h6; omega)
                have hv : nmv (decide (m < 0), digs m.natAbs, x) = m := by unfold nmv; rw [val_digs]; exact sg_dzM m
                rw [hv] at hq
                exact right_go A c b o k m x F O W Q D ps w h hl r1 hT hb hp hsm h0 h1 h2 h3 h4 h5 h6 hq
end Go.Proofs.YtfhdhldgflbpjaaDoor
end

section
/-
  What is written, in a box; dyad.Bytes out of range; small numbers.
-/
namespace Go.Proofs.YtfhdhldgflbpjaaDoor
open Go.RowKit
set_option linter.unusedSimpArgs false
set_option linter.unusedVariables false
set_option maxHeartbeats 4000000 in
set_option maxRecDepth 100000 in
theorem dbytes_no (A : Option Addr) (c : Nat) (m x : Int) (w : World) (h : Dg w A c (digs m.natAbs)) (hl : (digs m.natAbs).length ≤ 400) (r1 : Rt m x) (hq : inR m x = false):
    Calls Tryd.prog 24 #[.agg #[.bool (decide (m < 0)), .slice A (digs m.natAbs).length c, .int .i64 x]] w fun e w' => e = .returned (.tuple #[.string ⟨#[]⟩, .int .i64 4]) ∧ Below w.heap.size w w' := by
  have HR1 := Lib.hid r1
  have lx := Lib.hid hl
  have HQ := Lib.hid hq
  have x0 := r1.2.1
  have x1 := r1.2.2
  obtain ⟨t1, ht1⟩ : ∃ t : ByteArray, t.data.toList = zb m := ⟨⟨(zb m).toArray⟩, rfl⟩
  obtain ⟨t2, ht2⟩ : ∃ t : ByteArray, t.data.toList = zb x := ⟨⟨(zb x).toArray⟩, rfl⟩
  have ZM := Lib.hid (fun W A c hW => zby_yes (A := A) (c := c) hl ht1 W hW)
  have lx2 : (digs x.natAbs).length ≤ 2 := digs_small (by omega)
  have ZX := Lib.hid (fun W A c hW => zby_yes (A := A) (c := c) (Nat.le_trans lx2 (by omega)) ht2 W hW)
  have FX := Lib.hid (fun W => zfrom_any x W (by omega) (by omega))
  have L0 := Lib.hid ((live_start w).add h)
  clear h hl r1 hq ht1 ht2 lx2 x0 x1
  go_enter Tryd.func24, Tryd.ntmps24
  go_wp2_with fail
  obtain ⟨v1, hW, hb, Rx_1, Rsl_1⟩ := new2 w (.cells #[.bool (decide (m < 0)), .slice A (digs m.natAbs).length c, .int .i64 x] 26) (.cells #[.bool (decide (m < 0)), .slice A (digs m.natAbs).length c, .int .i64 x] 26)
  rw [← hW]
  have L1 := ls L0 hb
  have Gx := gl0 L0.out
  have Gsl := gl1 L0.out
  have Nxsl : w.heap.size < w.heap.size + 1 := by omega
  clear hW hb
  refine (begin_1 Rsl_1.out (L1.out.get (A := A) (c := c) (xs := digs m.natAbs) (by simp)) (dyR_num HR1.out) (Nat.le_trans lx.out (by omega)) (k := 0) rfl).mono ?_
  rintro e w2 ⟨rfl, hb⟩
  have L2 := ls L1 hb
  have Rx_2 := co Rx_1 hb
  have Rsl_2 := co Rsl_1 hb
  clear hb 
  obtain ⟨fx0, zx0, fx1, zx1, fx2, zx2, xx⟩ := ly3 Rx_2.out
  go_wp2_with fail
  obtain ⟨w3, hW, hb, Rk_3⟩ := new1 w2 (.cells #[.int .i64 0] 80)
  rw [← hW]
  have L3 := ls L2 hb
  have Rx_3 := co Rx_2 hb
  have Rsl_3 := co Rsl_2 hb
  have Gk := gl0 L2.out
  have Nxk := nl0 Rx_2.out
  have Nslk := nl0 Rsl_2.out
  clear hW hb
  clear fx0 zx0 fx1 zx1 fx2 zx2 xx
  refine (inRange_any A c (decide (m < 0)) m x _ (L3.out.get (A := A) (c := c) (xs := digs m.natAbs) (by simp)) false HQ.out (Nat.le_trans lx.out (by omega))).mono ?_
  rintro e w4 ⟨rfl, hb⟩
  have L4 := ls L3 hb
  have Rx_4 := co Rx_3 hb
  have Rsl_4 := co Rsl_3 hb
  have Rk_4 := co Rk_3 hb
  clear hb 
  go_wp2_with fail
  refine (tell_yes _ 4 _ (row_c Rk_4.out (i := 0) rfl) (frozen_of_row _ _ 0 _ _ Rk_4.out)).mono ?_
  rintro e w5 ⟨rfl, rfl⟩
  obtain ⟨w6, hW⟩ : ∃ W : World, W = (w4.setCell ⟨w2.heap.size, 0, none⟩ (.int .i64 4)) := ⟨_, rfl⟩
  rw [← hW]
  have hO : Only (w2.heap.size) w4 w6 := by rw [hW]; exact ((Only.refl (w2.heap.size) w4).setCell 0 _)
  have L6 := Lib.hid (live_only L4.out hO Rk_4.out noint_re Gk)
  have Rx_6 := Lib.hid ((hO.block _ (by omega)).trans Rx_4.out)
  have Rsl_6 := Lib.hid ((hO.block _ (by omega)).trans Rsl_4.out)
  have Rk_6 := Lib.hid (show w6.heap[w2.heap.size]? = some (.cells #[.int .i64 4] 80 (0, 0)) by rw [hW]; exact (heap_setCell_same _ _ 0 _ _ _ Rk_4.out))
  clear hW hO
  obtain ⟨fx0, zx0, fx1, zx1, fx2, zx2, xx⟩ := ly3 Rx_6.out
  go_wp2_with fail
  refine (ZM.out _ _ _ (L6.out.get (A := A) (c := c) (xs := digs m.natAbs) (by simp))).mono ?_
  rintro e w7 ⟨rfl, hb⟩
  have L7 := ls L6 hb
  clear fx0 zx0 fx1 zx1 fx2 zx2 xx
  have Rx_7 := co Rx_6 hb
  have Rsl_7 := co Rsl_6 hb
  have Rk_7 := co Rk_6 hb
  clear hb 
  go_wp2_with fail
  refine (tell_no _ 4 0 false _ (row_c Rk_7.out (i := 0) rfl) (.inl rfl)).mono ?_
  rintro e w8 ⟨rfl, rfl⟩
  obtain ⟨fx0, zx0, fx1, zx1, fx2, zx2, xx⟩ := ly3 Rx_7.out
  go_wp2_with fail
  refine (FX.out _).mono ?_
  rintro e w9 ⟨A9, c9, rfl, hd, hb⟩
  have L9 := la L7 hb hd
  clear fx0 zx0 fx1 zx1 fx2 zx2 xx
  have Rx_9 := co Rx_7 hb
  have Rsl_9 := co Rsl_7 hb
  have Rk_9 := co Rk_7 hb
  clear hb hd
  go_wp2_with fail
  refine (ZX.out _ _ _ (L9.out.get (A := A9) (c := c9) (xs := digs x.natAbs) (by simp))).mono ?_
  rintro e w10 ⟨rfl, hb⟩
  have L10 := ls L9 hb
  have Rx_10 := co Rx_9 hb
  have Rsl_10 := co Rsl_9 hb
  have Rk_10 := co Rk_9 hb
  clear hb 
  go_wp2_with fail
  refine (tell_no _ 4 0 false _ (row_c Rk_10.out (i := 0) rfl) (.inl rfl)).mono ?_
  rintro e w11 ⟨rfl, rfl⟩
  go_wp2_with fail
  refine (fails_any _ 4 true _ (row_c Rk_10.out (i := 0) rfl) rfl).mono ?_
  rintro e w12 ⟨rfl, rfl⟩
  obtain ⟨fk0, zk0, xk⟩ := ly1 Rk_10.out
  go_wp2_with fail
  go_region
  go_wp2
  go_ret2
  exact ⟨rfl, below_drew L10.out.1⟩

/-- What a call leaves that may turn box g and rows of bytes from base on, and nothing else. -/
def Gq (base g : Nat) (w w' : World) : Prop :=
  (w'.os = w.os ∧ w'.tape = w.tape ∧ w'.output = w.output ∧ w.heap.size ≤ w'.heap.size) ∧ ∀ k, k < w.heap.size → k ≠ g → (k < base ∨ ∀ cs fr, w.heap[k]? ≠ some (.cells cs 5 fr)) → w'.heap[k]? = w.heap[k]?
theorem Gq.refl (base g : Nat) (w : World) : Gq base g w w := ⟨⟨rfl, rfl, rfl, Nat.le_refl _⟩, fun _ _ _ _ => rfl⟩
theorem Gq.trans {base g : Nat} {a b c : World} (h : Gq base g a b) (k : Gq base g b c) : Gq base g a c := by
  refine ⟨⟨k.1.1.trans h.1.1, k.1.2.1.trans h.1.2.1, k.1.2.2.1.trans h.1.2.2.1, Nat.le_trans h.1.2.2.2 k.1.2.2.2⟩, fun i hi hg hb => ?_⟩
  have e := h.2 i hi hg hb
  exact (k.2 i (Nat.lt_of_lt_of_le hi h.1.2.2.2) hg (hb.imp id (fun f cs fr x => f cs fr (e ▸ x)))).trans e
theorem Gq.below {base g : Nat} {a b : World} (h : Below a.heap.size a b) : Gq base g a b := ⟨⟨h.os, h.tape, h.output, h.size⟩, fun i hi _ _ => h.block i hi⟩
theorem Gq.only {base g : Nat} {a b : World} (h : Only g a b) : Gq base g a b := ⟨⟨h.os, h.tape, h.output, Nat.le_of_eq h.size.symm⟩, fun i _ hg _ => h.block i hg⟩
theorem own_at {w : World} {base n : Nat} {v : Value} {xs : List Value} (h : w.ownsRow base 5 1 v n xs) {k : Nat} (hk : v.ownBlock = some k) : base ≤ k ∧ ∃ cs fr, w.heap[k]? = some (.cells cs 5 fr) := by
  rcases h.2 with ⟨rfl, _⟩ | ⟨g, cap, cur, rfl, hb, hg, _⟩
  · cases hk
  · obtain rfl : g = k := by simpa [Value.ownBlock] using hk
    exact ⟨hb, cur, _, hg⟩
theorem Gq.grown {base g n : Nat} {a b : World} {v : Value} {xs : List Value} (h : a.grownBy b v.ownBlock) (ho : a.ownsRow base 5 1 v n xs) : Gq base g a b :=
  ⟨⟨h.os, h.tape, h.output, h.size⟩, fun i hi _ hb => h.block i hi (fun e => by
    obtain ⟨h1, cs, fr, h2⟩ := own_at ho e.symm
    rcases hb with hb | hb
    · omega
    · exact hb cs fr h2)⟩
theorem Gq.row {base g : Nat} {a b : World} (h : Gq base g a b) {k : Nat} {cs : Array Value} {T : TypeId} {fr : Nat × Nat} (hr : a.heap[k]? = some (.cells cs T fr)) (hk : k ≠ g) (hT : T ≠ 5) : b.heap[k]? = some (.cells cs T fr) :=
  (h.2 k (heap_lt hr) hk (.inr (fun cs' fr' e => by rw [hr] at e; exact hT (by injection e with e; injection e)))).trans hr
theorem Gq.base {base g N : Nat} {W a b : World} (h : Gq base g a b) (hB : Below N W a) (hN : N ≤ a.heap.size) (hg : N ≤ g) (hb : N ≤ base) : Below N W b :=
  ⟨h.1.1.trans hB.os, h.1.2.1.trans hB.tape, h.1.2.2.1.trans hB.output, Nat.le_trans hB.size h.1.2.2.2, fun i hi => (h.2 i (by omega) (by omega) (.inl (by omega))).trans (hB.block i hi)⟩
theorem str_size (l : List UInt8) : (⟨l.toArray⟩ : ByteArray).size = l.length := rfl
theorem str_bytes (l : List UInt8) : Lib.strCells ⟨l.toArray⟩ = Lib.byteCells l := by unfold Lib.strCells Lib.byteCells; simp
theorem byte_cell1 (X : Int) : Lib.byteCells [UInt8.ofNat (X % 256).toNat] = [.int .u8 (X % 256)] := by
  have h0 : 0 ≤ X % 256 := Int.emod_nonneg _ (by decide)
  have h1 : X % 256 < 256 := Int.emod_lt_of_pos _ (by decide)
  unfold Lib.byteCells
  simp
  omega
def by8 (n : Int) : UInt8 := UInt8.ofNat (n % 256).toNat
theorem one_new {w : World} {a : Value} {T : TypeId} {j : Nat} {u : Value} (hj : [a][j]? = some u) : (w.alloc (.cells #[a] T)).cell? ((⟨w.heap.size, 0, none⟩ : Addr).add j) = some u := by
  rw [Addr.add_lit, Nat.zero_add, cell_of_row _ _ _ _ _ _ (heap_alloc_new w _)]
  simpa using hj
/-- What has been written, and the first error, in a box. -/
def PB (w : World) (base g : Nat) (v : Value) (L : List UInt8) (E : Int) : Prop :=
  w.heap[g]? = some (.cells #[v, .int .i64 E] 48 (0, 0)) ∧ w.ownsRow base 5 1 v L.length (Lib.byteCells L) ∧ base ≤ g
theorem own_keep {w w' : World} {base n : Nat} {v : Value} {xs : List Value} (h : w.ownsRow base 5 1 v n xs) (hk : ∀ k, v.ownBlock = some k → w'.heap[k]? = w.heap[k]?) : w'.ownsRow base 5 1 v n xs := by
  refine ⟨h.1, ?_⟩
  rcases h.2 with h1 | ⟨g, cap, cur, rfl, hb, hg, hr⟩
  · exact .inl h1
  · exact .inr ⟨g, cap, cur, rfl, hb, (hk g rfl).trans hg, hr⟩
theorem PB.below {w w' : World} {base g : Nat} {v : Value} {L : List UInt8} {E : Int} (h : PB w base g v L E) (hb : Below w.heap.size w w') : PB w' base g v L E :=
  ⟨cells_of h.1 hb, own_keep h.2.1 (fun k hk => by obtain ⟨_, cs, fr, e⟩ := own_at h.2.1 hk; exact hb.block k (heap_lt e)), h.2.2⟩
theorem PB.ne {w : World} {base g : Nat} {v : Value} {L : List UInt8} {E : Int} (h : PB w base g v L E) : v.ownBlock ≠ some g := fun e => by
  obtain ⟨_, cs, fr, e2⟩ := own_at h.2.1 e
  rw [h.1] at e2
  injection e2 with e2; injection e2 with e3 e4 e5
  exact absurd e4 (by decide)
theorem wpList_append_sq {w : World} {ops : Array Oper} {rest : List Oper} {o : Oper} {a : Act} {Q : Exit → Act → World → Prop} (hgd : o.guard = none) (s x : Operand)
    (ho : o.op = .call { callee := .builtin .append, args := #[s, x], argTypes := #[40, 9] }) (base : Nat) (v : Value) (n : Nat) (zs ys : List UInt8)
    (hs : a.eval s = v) (hown : w.ownsRow base 5 1 v n (Lib.byteCells zs)) (t : ByteArray) (ht : t.data.toList = ys) (hx : a.eval x = .string t) (hb : n + ys.length ≤ 400000000) (hbase : base ≤ w.heap.size)
    (h : ∀ v' w', w'.ownsRow base 5 1 v' (n + ys.length) (Lib.byteCells (zs ++ ys)) → w.grownBy w' v.ownBlock → wpList Tryd.prog ops Q rest (a.put o.dst v') w') : wpList Tryd.prog ops Q (o :: rest) a w := by
  obtain ⟨i0, hi, hz0, hz1, hz2⟩ := info_parts elem8_info
  obtain rfl : t = ⟨ys.toArray⟩ := by apply ByteArray.ext; apply Array.toList_inj.1; rw [ht]
  refine Lib.wpList_append_own_string _ hgd s x _ _ ho base _ i0 Tryd.underlying40 Tryd.underlying9 hi hz0 hz1 hz2 v n _ hs hown ⟨ys.toArray⟩ hx (by rw [str_size]; unfold maxLen; omega) (by rw [str_size]; omega) hbase fun v' w' h1 h2 _ => ?_
  rw [str_size, str_bytes, ← byteCells_add] at h1
  exact h v' w' h1 h2
theorem own_form {w : World} {base n : Nat} {v : Value} {xs : List Value} (h : w.ownsRow base 5 1 v n xs) : ∃ A m c, v = .slice A m c := by
  rcases h.2 with ⟨rfl, _⟩ | ⟨g, cap, cur, rfl, _⟩
  · exact ⟨_, _, _, rfl⟩
  · exact ⟨_, _, _, rfl⟩
theorem PB.put {w w1 w2 : World} {base g : Nat} {v v1 : Value} {L L1 : List UInt8} {E : Int} (h : PB w base g v L E) (hown : w1.ownsRow base 5 1 v1 L1.length (Lib.byteCells L1)) (hg : w.grownBy w1 v.ownBlock) (e : w1.setCell ⟨g, 0, none⟩ v1 = w2) : PB w2 base g v1 L1 E ∧ Gq base g w w2 := by
  subst e
  have hr : w1.heap[g]? = some (.cells #[v, .int .i64 E] 48 (0, 0)) := (hg.block g (heap_lt h.1) (fun e => h.ne e.symm)).trans h.1
  refine ⟨⟨heap_setCell_same _ _ 0 _ _ _ hr, own_keep hown (fun k hk => ?_), h.2.2⟩, (Gq.grown hg h.2.1).trans (Gq.only ((Only.refl g w1).setCell 0 _))⟩
  refine ((Only.refl g w1).setCell 0 v1).block k (fun e => ?_)
  subst e
  obtain ⟨_, cs, fr, e2⟩ := own_at hown hk
  rw [hr] at e2
  injection e2 with e2; injection e2 with e3 e4 e5
  exact absurd e4 (by decide)
set_option maxHeartbeats 4000000 in
set_option maxRecDepth 100000 in
theorem psmall_any (base g b o c : Nat) (v : Value) (L : List UInt8) (E : Int) (ns : List Int) (w : World) (hp : PB w base g v L E) (cs : Array Value) (T : TypeId) (hrow : w.heap[b]? = some (.cells cs T (0, 0))) (hT : T ≠ 5) (hbg : b ≠ g) (hcs : ∀ i x, ns[i]? = some x → w.cell? ⟨b, o + i, none⟩ = some (.int .i64 x)) (hbase : base ≤ w.heap.size) (hl : L.length + ns.length ≤ 100000000) :
    Calls Tryd.prog 14 #[.pointer (some ⟨g, 0, none⟩), .slice (some ⟨b, o, none⟩) ns.length c] w fun e w' => ∃ v', e = .returned (.tuple #[]) ∧ PB w' base g v' (L ++ ns.map by8) E ∧ Gq base g w w' := by
  obtain ⟨i0, hi, hz0, hz1, hz2⟩ := info_parts elem8_info
  have HP := Lib.hid hp
  have HR := Lib.hid hrow
  have HC := Lib.hid hcs
  have HTT := Lib.hid (And.intro hT hbg)
  have hlen : ns.length ≤ 100000000 := by omega
  clear hp hrow hcs hT hbg
  go_enter Tryd.func14, Tryd.ntmps14
  go_wp2
  go_loopw [8] (fun i wr => ∃ (k : Nat) (v1 : Value), k ≤ ns.length ∧ i = .int .i64 k ∧ Hid (PB wr base g v1 (L ++ (ns.take k).map by8) E) ∧ Hid (Gq base g w wr)) (fun i _ => ns.length - (intOf i).toNat)
  case atStart => exact ⟨0, v, Nat.zero_le _, rfl, Lib.hid (by simpa using HP.out), Lib.hid (Gq.refl _ _ _)⟩
  case round =>
    obtain ⟨k, v1, hk, rfl, HP1, HG⟩ := hrel
    by_cases hlt : k < ns.length
    · obtain ⟨x, hx⟩ : ∃ x, ns[k]? = some x := ⟨_, List.getElem?_eq_getElem hlt⟩
      have HX := Lib.hid hx
      have hcell : wr.cell? ⟨b, o + k, none⟩ = some (.int .i64 x) := by
        rw [World.cell?_of_block (a := ⟨b, o + k, none⟩) ((HG.out.row HR.out HTT.out.2 HTT.out.1).trans HR.out.symm)]
        exact HC.out k x hx
      have f0 := row_c (i := 0) HP1.out.1 rfl
      have z0 := frozen_of_row _ _ 0 _ _ HP1.out.1
      have xg := heap_lt HP1.out.1
      have bz : base ≤ wr.heap.size := Nat.le_trans hbase HG.out.1.2.2.2
      have ln : (L ++ (ns.take k).map by8).length = L.length + k := by simp; omega
      have HLN := Lib.hid ln
      obtain ⟨M, hM⟩ : ∃ M, L ++ (ns.take k).map by8 = M := ⟨_, rfl⟩
      have HM := Lib.hid hM
      rw [hM] at HP1 HLN
      clear hx ln hM
      go_wp2_with (at_builtin; refine wpList_append_own _ rfl _ _ 40 rfl base 5 i0 (.int .u8 0) 1 1 Tryd.underlying40 hi hz0 hz1 hz2 rfl (by decide) _ _ _ rfl (HP1.out.2.1.alloc _) ⟨wr.heap.size, 0, none⟩ 1 1 [.int .u8 (x % 256)] rfl rfl (fun j u hj => one_new hj) (by intro u hu; simp at hu; subst hu; rfl) (by rw [HLN.out]; unfold maxLen; omega) (by rw [HLN.out]; omega) (by simp; omega) ?_)
      intro v2 w1 hown1 hgrow hnil
      clear hnil
      have HA := Lib.hid (HP1.out.below (below1 wr (.cells #[.int .u8 (x % 256)] 5)))
      have NO := Lib.hid (show w1.ownsRow base 5 1 v2 (M ++ [by8 x]).length (Lib.byteCells (M ++ [by8 x])) by
        rw [byteCells_add]; unfold by8; rw [byte_cell1, List.length_append]; exact hown1)
      have HGR := Lib.hid hgrow
      have r1 : w1.heap[g]? = some (.cells #[v1, .int .i64 E] 48 (0, 0)) := (hgrow.block g (heap_lt HA.out.1) (fun e => HA.out.ne e.symm)).trans HA.out.1
      have z1 := frozen_of_row _ _ 0 _ _ r1
      have f1 := row_c (i := 0) r1 rfl
      have x1 := heap_lt r1
      clear hown1 hgrow f0 z0 xg hcell r1
      obtain ⟨A2, n2, c2, rfl⟩ := own_form NO.out
      go_wp2_with fail
      obtain ⟨w2, hw2⟩ : ∃ W, W = w1.setCell ⟨g, 0, none⟩ (.slice A2 n2 c2) := ⟨_, rfl⟩
      rw [← hw2]
      have PP := Lib.hid (HA.out.put NO.out HGR.out hw2.symm)
      have HX2 := Lib.hid (show M ++ [by8 x] = L ++ (ns.take (k + 1)).map by8 by rw [← HM.out, List.take_add_one, HX.out]; simp)
      clear hw2 f1 z1 x1
      go_roundw
      case rel =>
        refine ⟨k + 1, .slice A2 n2 c2, hlt, by go_num, Lib.hid ?_, Lib.hid ((HG.out.trans (Gq.below (below1 _ _))).trans PP.out.2)⟩
        rw [← HX2.out]; exact PP.out.1
      case measure => simp [intOf]; omega
    · obtain rfl : k = ns.length := by omega
      go_wp2
      go_end0
      exact ⟨v1, rfl, by have := HP1.out; rwa [List.take_length] at this, HG.out⟩
end Go.Proofs.YtfhdhldgflbpjaaDoor
end

section
/-
  Numbers, written one behind another.
-/
namespace Go.Proofs.YtfhdhldgflbpjaaDoor
open Go.RowKit
set_option linter.unusedSimpArgs false
set_option linter.unusedVariables false
/-- Is a right number in range? Its bytes; its error. -/
def dyIn (v : Nm) : Bool := inR (nmv v) v.2.2
def nbB (v : Nm) : List UInt8 := zb (nmv v) ++ zb v.2.2
def bytT (v : Nm) : List UInt8 := if dyIn v then nbB v else []
def errT (v : Nm) : Int := if dyIn v then 0 else 4
def stp (s : List UInt8 × Int) (v : Nm) : List UInt8 × Int := (s.1 ++ bytT v, if s.2 = 0 then errT v else s.2)
theorem dbytes_any {v : Nm} (hk : ok32 v.2.1) (hl : v.2.1.length ≤ 400) (hr : dyR v.1 v.2.1 v.2.2 = true) : ∃ t : ByteArray, t.data.toList = bytT v ∧ ∀ (A : Option Addr) (c : Nat) (w : World), Dg w A c v.2.1 →
    Calls Tryd.prog 24 #[.agg #[.bool v.1, .slice A v.2.1.length c, .int .i64 v.2.2]] w fun e w' => e = .returned (.tuple #[.string t, .int .i64 (errT v)]) ∧ Below w.heap.size w w' := by
  obtain ⟨s, xs, x⟩ := v
  dsimp only at *
  obtain ⟨m, rfl, rfl, r1⟩ := num_of hk hr
  have hv : nmv (decide (m < 0), digs m.natAbs, x) = m := by unfold nmv; rw [val_digs]; exact sg_dzM m
  unfold bytT errT dyIn nbB
  rw [hv]
  dsimp only
  cases hi : inR m x
  · exact ⟨⟨#[]⟩, rfl, fun A c w h => dbytes_no A c m x w h hl r1 hi⟩
  · exact ⟨⟨(zb m ++ zb x).toArray⟩, rfl, fun A c w h => dbytes_yes A c m x _ w h hl r1 hi rfl⟩
/-- A slice holds these numbers, cell by cell. -/
def RowQ (w : World) (P : Option Addr) (cs : List Nm) : Prop := ∀ (i : Nat) (v : Nm), cs[i]? = some v → ∃ b o A c, P = some ⟨b, o, none⟩ ∧ w.cell? ⟨b, o + i * 3, none⟩ = some (.bool v.1) ∧ w.cell? ⟨b, o + i * 3 + 1, none⟩ = some (.slice A v.2.1.length c) ∧ w.cell? ⟨b, o + i * 3 + 2, none⟩ = some (.int .i64 v.2.2) ∧ Dg w A c v.2.1
theorem PB.err {w w2 : World} {base g : Nat} {v : Value} {L : List UInt8} {E E2 : Int} (h : PB w base g v L E) (e : w.setCell ⟨g, 1, none⟩ (.int .i64 E2) = w2) : PB w2 base g v L E2 ∧ Gq base g w w2 := by
  subst e
  refine ⟨⟨heap_setCell_same _ _ 1 _ _ _ h.1, own_keep h.2.1 (fun k hk => ?_), h.2.2⟩, Gq.only ((Only.refl g w).setCell 1 _)⟩
  exact ((Only.refl g w).setCell 1 (.int .i64 E2)).block k (fun e => by subst e; exact h.ne hk)
theorem stp_len (cs : List Nm) (h : ∀ v, v ∈ cs → ok32 v.2.1 ∧ v.2.1.length ≤ 400 ∧ -131072 ≤ v.2.2 ∧ v.2.2 ≤ 131072) : ∀ s : List UInt8 × Int, (cs.foldl stp s).1.length ≤ s.1.length + 2000 * cs.length := by
  induction cs with
  | nil => intro s; simp
  | cons v cs ih =>
    intro s
    have h1 := ih (fun u hu => h u (List.mem_cons_of_mem _ hu)) (stp s v)
    have h2 : (stp s v).1.length ≤ s.1.length + 2000 := by
      obtain ⟨hk, hl, e0, e1⟩ := h v (List.mem_cons_self ..)
      unfold stp bytT nbB
      dsimp only
      split
      · rw [List.length_append, List.length_append]
        have l1 := zbytes_len (decide (nmv v < 0)) (digs (nmv v).natAbs)
        have l2 := zbytes_len (decide (v.2.2 < 0)) (digs v.2.2.natAbs)
        have l3 : (digs v.2.2.natAbs).length ≤ 2 := digs_small (by omega)
        have l4 : (digs (nmv v).natAbs).length ≤ 400 := by
          have : (nmv v).natAbs = val v.2.1 := by unfold nmv sg; split <;> omega
          rw [this]; exact Nat.le_trans (digs_len_le hk) hl
        unfold zb; omega
      · simp
    rw [List.foldl_cons, List.length_cons]
    omega
set_option maxHeartbeats 4000000 in
set_option maxRecDepth 100000 in
theorem pnumbers_any (g c : Nat) (P : Option Addr) (v : Value) (L : List UInt8) (E : Int) (cs : List Nm) (W0 w : World) (hp : PB w W0.heap.size g v L E) (hB : Below W0.heap.size W0 w) (hcs : ∀ w', Gq W0.heap.size g w w' → RowQ w' P cs) (hR : ∀ v, v ∈ cs → dyR v.1 v.2.1 v.2.2 = true ∧ ok32 v.2.1 ∧ v.2.1.length ≤ 400 ∧ -131072 ≤ v.2.2 ∧ v.2.2 ≤ 131072) (hl : L.length + 2000 * cs.length ≤ 100000000) :
    Calls Tryd.prog 15 #[.pointer (some ⟨g, 0, none⟩), .slice P cs.length c] w fun e w' => ∃ v', e = .returned (.tuple #[]) ∧ PB w' W0.heap.size g v' (cs.foldl stp (L, E)).1 (cs.foldl stp (L, E)).2 ∧ Gq W0.heap.size g w w' := by
  have HP := Lib.hid hp
  have HC := Lib.hid hcs
  have HRR := Lib.hid hR
  have HL := Lib.hid hl
  have hlen : cs.length ≤ 100000000 := by omega
  clear hp hcs hR hl hB
  go_enter Tryd.func15, Tryd.ntmps15
  go_wp2
  go_loopw [10] (fun i wr => ∃ (k : Nat) (v1 : Value) (L1 : List UInt8) (E1 : Int), k ≤ cs.length ∧ i = .int .i64 k ∧ Hid ((cs.take k).foldl stp (L, E) = (L1, E1)) ∧ Hid (PB wr W0.heap.size g v1 L1 E1) ∧ Hid (Gq W0.heap.size g w wr)) (fun i _ => cs.length - (intOf i).toNat)
  case atStart => exact ⟨0, v, L, E, Nat.zero_le _, rfl, Lib.hid rfl, HP, Lib.hid (Gq.refl _ _ _)⟩
  case round =>
    obtain ⟨k, v1, L1, E1, hk, rfl, HF, HP1, HG⟩ := hrel
    by_cases hlt : k < cs.length
    · obtain ⟨x, hx⟩ : ∃ x, cs[k]? = some x := ⟨_, List.getElem?_eq_getElem hlt⟩
      obtain ⟨b, o, A, d, rfl, c0, c1, c2, hd⟩ := HC.out wr HG.out k x hx
      have HX := Lib.hid (show (cs.take (k + 1)).foldl stp (L, E) = stp (L1, E1) x by rw [List.take_add_one, hx, List.foldl_append, HF.out]; rfl)
      have RX := Lib.hid (HRR.out x (List.mem_of_getElem? hx))
      have HDG := Lib.hid hd
      have LL := Lib.hid (show L1.length ≤ 100000000 - 2000 by
        have := stp_len (cs.take k) (fun u hu => (HRR.out u (List.mem_of_mem_take hu)).2) (L, E)
        rw [HF.out, List.length_take] at this
        have := HL.out
        dsimp only at *
        omega)
      obtain ⟨t, ht, hT⟩ := dbytes_any RX.out.2.1 RX.out.2.2.1 RX.out.1
      have HT := Lib.hid hT
      have HTL := Lib.hid ht
      have LT := Lib.hid (show (bytT x).length ≤ 2000 by
        have := stp_len [x] (fun u hu => by rw [List.mem_singleton] at hu; subst hu; exact RX.out.2) ([], 0)
        simpa [stp] using this)
      have xb := cell_lt c0
      clear hx hd hT ht
      obtain ⟨s, xs, y⟩ := x
      obtain ⟨E2, hE2⟩ : ∃ z, errT (s, xs, y) = z := ⟨_, rfl⟩
      have HE2 := Lib.hid hE2
      rw [hE2] at HT
      clear hE2
      dsimp only at *
      go_wp2_with fail
      clear c0 c1 c2
      obtain ⟨wa, hW⟩ : ∃ W : World, W = wr.alloc (.cells #[.bool s, .slice A xs.length d, .int .i64 y] 26) := ⟨_, rfl⟩
      rw [← hW]
      have hb : Below wr.heap.size wr wa := by rw [hW]; exact below1 _ _
      have PA := Lib.hid (HP1.out.below hb)
      have GA := Lib.hid (HG.out.trans (Gq.below hb))
      have DA := Lib.hid (HDG.out.below hb)
      clear hW hb
      refine (HT.out A d wa DA.out).mono ?_
      rintro e w2 ⟨rfl, hb⟩
      have P2 := Lib.hid (PA.out.below hb)
      have G2 := Lib.hid (GA.out.trans (Gq.below hb))
      clear hb
      have f0 := row_c (i := 0) P2.out.1 rfl
      have z0 := frozen_of_row _ _ 0 _ _ P2.out.1
      have f1 := row_c (i := 1) P2.out.1 rfl
      have z1 := frozen_of_row _ _ 1 _ _ P2.out.1
      have xg := heap_lt P2.out.1
      have bz : W0.heap.size ≤ w2.heap.size := Nat.le_trans P2.out.2.2 (Nat.le_of_lt xg)
      by_cases he : E1 = 0
      · subst he
        go_upto_region 6 with fail
        obtain ⟨w3, hw3⟩ : ∃ W, W = w2.setCell ⟨g, 1, none⟩ (.int .i64 E2) := ⟨_, rfl⟩
        rw [← hw3]
        have P3 := Lib.hid (P2.out.err hw3.symm).1
        have G3 := Lib.hid (G2.out.trans (P2.out.err hw3.symm).2)
        clear hw3 f0 z0 f1 z1 xg bz
        have HXS := Lib.hid (show stp (L1, 0) (s, xs, y) = (L1 ++ bytT (s, xs, y), E2) by unfold stp; dsimp only; rw [if_pos rfl, HE2.out])
        have f0 := row_c (i := 0) P3.out.1 rfl
        have z0 := frozen_of_row _ _ 0 _ _ P3.out.1
        have xg := heap_lt P3.out.1
        have bz : W0.heap.size ≤ w3.heap.size := Nat.le_trans P3.out.2.2 (Nat.le_of_lt xg)
        go_wp2_with (at_builtin; refine wpList_append_sq rfl _ _ rfl W0.heap.size _ _ L1 (bytT (s, xs, y)) rfl P3.out.2.1 t HTL.out rfl (by have := LL.out; have := LT.out; omega) bz ?_)
        intro v4 w4 hown1 hgrow
        obtain ⟨A4, n4, c4, rfl⟩ := own_form hown1
        have NO := Lib.hid (show w4.ownsRow W0.heap.size 5 1 (.slice A4 n4 c4) (L1 ++ bytT (s, xs, y)).length (Lib.byteCells (L1 ++ bytT (s, xs, y))) by rw [List.length_append]; exact hown1)
        have HGR := Lib.hid hgrow
        have r4 : w4.heap[g]? = some (.cells #[v1, .int .i64 (E2)] 48 (0, 0)) := (hgrow.block g (heap_lt P3.out.1) (fun e => P3.out.ne e.symm)).trans P3.out.1
        have z4 := frozen_of_row _ _ 0 _ _ r4
        have f4 := row_c (i := 0) r4 rfl
        have x4 := heap_lt r4
        clear hown1 hgrow r4 f0 z0 xg
        go_wp2_with fail
        obtain ⟨w5, hw5⟩ : ∃ W, W = w4.setCell ⟨g, 0, none⟩ (.slice A4 n4 c4) := ⟨_, rfl⟩
        rw [← hw5]
        have PP := Lib.hid (P3.out.put NO.out HGR.out hw5.symm)
        clear hw5 f4 z4 x4
        go_roundw
        case rel => exact ⟨k + 1, .slice A4 n4 c4, L1 ++ bytT (s, xs, y), E2, hlt, by go_num, Lib.hid (by rw [HX.out]; exact HXS.out), Lib.hid PP.out.1, Lib.hid (G3.out.trans PP.out.2)⟩
        case measure => simp [intOf]; omega
      · have hz : (E1 == 0) = false := beq_eq_false_iff_ne.2 he
        have HEE := Lib.hid he
        go_upto_region 6 with fail
        obtain ⟨w3, hw3⟩ : ∃ W, W = w2 := ⟨_, rfl⟩
        clear f0 z0 f1 z1 xg bz hz he
        rw [← hw3] at P2 G2
        rw [← hw3]
        have P3 := P2
        have G3 := G2
        clear hw3
        have HXS := Lib.hid (show stp (L1, E1) (s, xs, y) = (L1 ++ bytT (s, xs, y), E1) by unfold stp; dsimp only; rw [if_neg HEE.out])
        have f0 := row_c (i := 0) P3.out.1 rfl
        have z0 := frozen_of_row _ _ 0 _ _ P3.out.1
        have xg := heap_lt P3.out.1
        have bz : W0.heap.size ≤ w3.heap.size := Nat.le_trans P3.out.2.2 (Nat.le_of_lt xg)
        go_wp2_with (at_builtin; refine wpList_append_sq rfl _ _ rfl W0.heap.size _ _ L1 (bytT (s, xs, y)) rfl P3.out.2.1 t HTL.out rfl (by have := LL.out; have := LT.out; omega) bz ?_)
        intro v4 w4 hown1 hgrow
        obtain ⟨A4, n4, c4, rfl⟩ := own_form hown1
        have NO := Lib.hid (show w4.ownsRow W0.heap.size 5 1 (.slice A4 n4 c4) (L1 ++ bytT (s, xs, y)).length (Lib.byteCells (L1 ++ bytT (s, xs, y))) by rw [List.length_append]; exact hown1)
        have HGR := Lib.hid hgrow
        have r4 : w4.heap[g]? = some (.cells #[v1, .int .i64 (E1)] 48 (0, 0)) := (hgrow.block g (heap_lt P3.out.1) (fun e => P3.out.ne e.symm)).trans P3.out.1
        have z4 := frozen_of_row _ _ 0 _ _ r4
        have f4 := row_c (i := 0) r4 rfl
        have x4 := heap_lt r4
        clear hown1 hgrow r4 f0 z0 xg
        go_wp2_with fail
        obtain ⟨w5, hw5⟩ : ∃ W, W = w4.setCell ⟨g, 0, none⟩ (.slice A4 n4 c4) := ⟨_, rfl⟩
        rw [← hw5]
        have PP := Lib.hid (P3.out.put NO.out HGR.out hw5.symm)
        clear hw5 f4 z4 x4
        go_roundw
        case rel => exact ⟨k + 1, .slice A4 n4 c4, L1 ++ bytT (s, xs, y), E1, hlt, by go_num, Lib.hid (by rw [HX.out]; exact HXS.out), Lib.hid PP.out.1, Lib.hid (G3.out.trans PP.out.2)⟩
        case measure => simp [intOf]; omega
    · obtain rfl : k = cs.length := by omega
      go_wp2
      go_end0
      have e := HF.out
      rw [List.take_length] at e
      exact ⟨v1, rfl, by rw [e]; exact HP1.out, HG.out⟩
end Go.Proofs.YtfhdhldgflbpjaaDoor
end

section
/-
  Encode.
-/
namespace Go.Proofs.YtfhdhldgflbpjaaDoor
open Go.RowKit
set_option linter.unusedSimpArgs false
set_option linter.unusedVariables false
theorem NsL.rowq {w : World} {P : Option Addr} {k : Nat} {cs : List Nm} (h : NsL w P k cs) : RowQ w P cs := by
  intro i v hv
  obtain ⟨A, C, hc, h⟩ := h
  have hi : i < cs.length := by
    rcases Nat.lt_or_ge i cs.length with h1 | h1
    · exact h1
    · rw [List.getElem?_eq_none_iff.2 h1] at hv; cases hv
  obtain ⟨b, o, rfl, hb, hr⟩ := h (by omega)
  have := hr i hi
  simp only [hv, Option.getD_some] at this
  exact ⟨b, o, A i, C i, rfl, this⟩
theorem rowq_one {w : World} {b : Nat} {s : Bool} {A : Option Addr} {c : Nat} {xs : List Nat} {x : Int} (h : w.heap[b]? = some (.cells #[.bool s, .slice A xs.length c, .int .i64 x] 26 (0, 0))) (hd : Dg w A c xs) : RowQ w (some ⟨b, 0, none⟩) [(s, xs, x)] := by
  intro i v hv
  rcases i with _ | i
  · simp at hv; subst hv
    exact ⟨b, 0, A, c, rfl, row_c (i := 0) h rfl, row_c (i := 1) h rfl, row_c (i := 2) h rfl, hd⟩
  · simp at hv
/-- What stands ahead. -/
def headB (F O W Q D n : Int) : List UInt8 := [84, F, O, Q, D, W + 128, n].map by8
def stpP (s : List UInt8 × Int) (p : Pd) : List UInt8 × Int := p.cs.foldl stp (stp (s.1 ++ [by8 (p.w + 128)], s.2) p.er)
def encS (F O : Int) (a : Nm) (W Q D : Int) (ps : List Pd) : List UInt8 × Int := ps.foldl stpP (stp (headB F O W Q D ps.length, 0) a)
/-- What is told of what was written: its bytes, the error. -/
def outB (s : List UInt8 × Int) : List UInt8 := if s.2 = 0 then s.1 else []
def outE (s : List UInt8 × Int) : Int := if s.2 = 0 then 0 else 1
/-- Is a table written? -/
def encB (F O : Int) (a : Nm) (W Q D : Int) (ps : List Pd) : Bool := rightT F O a W Q D ps && (encS F O a W Q D ps).2 == 0
theorem stp_ge (s : List UInt8 × Int) (v : Nm) : s.1.length ≤ (stp s v).1.length := by unfold stp; simp
theorem stps_ge (cs : List Nm) : ∀ s : List UInt8 × Int, s.1.length ≤ (cs.foldl stp s).1.length := by
  induction cs with
  | nil => intro s; simp
  | cons v cs ih => intro s; rw [List.foldl_cons]; exact Nat.le_trans (stp_ge s v) (ih _)
theorem stpPs_ge (ps : List Pd) : ∀ s : List UInt8 × Int, s.1.length ≤ (ps.foldl stpP s).1.length := by
  induction ps with
  | nil => intro s; simp
  | cons p ps ih =>
    intro s; rw [List.foldl_cons]
    refine Nat.le_trans ?_ (ih _)
    unfold stpP
    refine Nat.le_trans ?_ (stps_ge p.cs _)
    refine Nat.le_trans ?_ (stp_ge _ p.er)
    simp
theorem encS_pos (F O : Int) (a : Nm) (W Q D : Int) (ps : List Pd) : 0 < (encS F O a W Q D ps).1.length := by
  unfold encS
  refine Nat.lt_of_lt_of_le ?_ (stpPs_ge ps _)
  refine Nat.lt_of_lt_of_le ?_ (stp_ge _ a)
  unfold headB; simp
theorem own_conv {w : World} {base : Nat} {x : Value} {n : Nat} {l : List UInt8} (h : w.ownsRow base 5 1 x n (Lib.byteCells l)) (h0 : 0 < l.length) :
    (convert 40 9 x).run Tryd.prog w = .ok (.string ⟨l.toArray⟩) w := by
  have hl : l.length = n := by have := h.1; simpa [Lib.byteCells] using this
  obtain ⟨g, cap, hv, _, _⟩ := World.ownsRow.form h (by omega)
  subst hv
  rw [← hl]
  refine run_convert_bytes_back w 40 9 5 ⟨g, 0, none⟩ cap l Tryd.underlying40 Tryd.underlying5 Tryd.underlying9 (fun j hj => ?_)
  refine h.cells (g := g) rfl j _ ?_
  unfold Lib.byteCells
  rw [List.getElem?_map, List.getElem?_eq_getElem hj]
  rfl
theorem digs_bl (n : Nat) : (digs n).length ≤ blen n / 32 + 1 := Nat.le_trans (digs_len_mono _ _ (Nat.le_of_lt (blen_lt n))) (pow_digs_len _)
theorem rightL_all {D : Int} : ∀ {ps : List Pd} {q r : Int × Int}, rightL D ps q = some r → ∀ p, p ∈ ps → pieceB p D = true
  | [], _, _, _ => fun p hp => by simp at hp
  | a :: ps, q, r, h => fun p hp => by
    simp only [rightL] at h
    split at h
    · rename_i hc
      rw [Bool.and_eq_true] at hc
      rcases List.mem_cons.1 hp with rfl | hp
      · exact hc.1
      · exact rightL_all h p hp
    · cases h
theorem PsL.below {w w' : World} {P : Option Addr} {ps : List Pd} (h : PsL w P ps) (hB : Below w.heap.size w w') : PsL w' P ps := by
  intro h0
  obtain ⟨b, o, e, hb, hr⟩ := h h0
  refine ⟨b, o, e, Nat.lt_of_lt_of_le hb hB.size, fun i p hp => ?_⟩
  obtain ⟨A, c, B, d, P2, k, e0, e1, e2, e3, e4, e5, e6, e7, hd, he, hn⟩ := hr i p hp
  have ce : ∀ j, w'.cell? ⟨b, j, none⟩ = w.cell? ⟨b, j, none⟩ := fun j => hB.cell (p := ⟨b, j, none⟩) hb
  exact ⟨A, c, B, d, P2, k, (ce _).trans e0, (ce _).trans e1, (ce _).trans e2, (ce _).trans e3, (ce _).trans e4, (ce _).trans e5, (ce _).trans e6, (ce _).trans e7, hd.below hB, he.below hB, hn.below hB⟩
theorem rightN {v : Nm} (hk : ok32 v.2.1) (h : nmB v = true) : dyR v.1 v.2.1 v.2.2 = true ∧ ok32 v.2.1 ∧ v.2.1.length ≤ 400 ∧ -131072 ≤ v.2.2 ∧ v.2.2 ≤ 131072 := by
  obtain ⟨s, xs, x⟩ := v
  unfold nmB mayB at h
  rw [Bool.and_eq_true, decide_eq_true_eq] at h
  dsimp only at *
  refine ⟨h.1, hk, ?_, ?_⟩
  · have h1 := h.2
    obtain ⟨m, rfl, rfl, r1⟩ := num_of hk h.1
    have := digs_bl m.natAbs
    rw [val_digs] at h1
    omega
  · obtain ⟨m, rfl, rfl, r1⟩ := num_of hk h.1
    exact r1.2
theorem rightA {s : Bool} {xs : List Nat} {x : Int} (hk : ok32 xs) (h : plainB s xs x = true) : dyR s xs x = true ∧ ok32 xs ∧ xs.length ≤ 400 ∧ -131072 ≤ x ∧ x ≤ 131072 := by
  unfold plainB at h
  rw [Bool.and_eq_true] at h
  refine ⟨h.1, hk, ?_, ?_⟩
  · have h2 := h.2
    obtain ⟨m, rfl, rfl, r1⟩ := num_of hk h.1
    have h3 := digs_bl m.natAbs
    rw [val_digs] at h2
    rw [Bool.or_eq_true, decide_eq_true_eq, Bool.and_eq_true, decide_eq_true_eq, decide_eq_true_eq] at h2
    omega
  · obtain ⟨m, rfl, rfl, r1⟩ := num_of hk h.1
    exact r1.2
theorem psmall_new {base g c : Nat} {v : Value} {L : List UInt8} {E : Int} (ns : List Int) {n : Nat} (hn : n = ns.length) {w w4 : World} {cs : Array Value} (hcs : cs = (ns.map (Value.int .i64)).toArray) (hW : w.alloc (.cells cs 3) = w4) (hp : PB w base g v L E) (hl : L.length + ns.length ≤ 100000000) :
    Calls Tryd.prog 14 #[.pointer (some ⟨g, 0, none⟩), .slice (some ⟨w.heap.size, 0, none⟩) n c] w4 fun e w' => ∃ v', e = .returned (.tuple #[]) ∧ PB w' base g v' (L ++ ns.map by8) E ∧ Gq base g w w' := by
  subst hn
  have hb : Below w.heap.size w w4 := by rw [← hW]; exact below1 _ _
  have hr : w4.heap[w.heap.size]? = some (.cells cs 3 (0, 0)) := by rw [← hW]; exact heap_alloc_new _ _
  have hg := heap_lt hp.1
  refine (psmall_any base g w.heap.size 0 c v L E ns w4 (hp.below hb) cs _ hr (by decide) (by omega) (fun i x hx => ?_) (Nat.le_trans hp.2.2 (by have := hb.size; omega)) hl).mono ?_
  · refine row_c hr ?_
    rw [hcs, Nat.zero_add]
    simp [hx]
  · rintro e w' ⟨v', rfl, h1, h2⟩
    exact ⟨v', rfl, h1, (Gq.below hb).trans h2⟩
theorem pnum_one {g c' : Nat} {v : Value} {L : List UInt8} {E : Int} {A : Option Addr} {c : Nat} {s : Bool} {xs : List Nat} {x : Int} {W0 w w4 : World} (hp : PB w W0.heap.size g v L E) (hB : Below W0.heap.size W0 w) (hW : w.alloc (.cells #[.bool s, .slice A xs.length c, .int .i64 x] 26) = w4) (hd : Dg W0 A c xs) (hR : dyR s xs x = true ∧ ok32 xs ∧ xs.length ≤ 400 ∧ -131072 ≤ x ∧ x ≤ 131072) (hl : L.length + 2000 ≤ 100000000) :
    Calls Tryd.prog 15 #[.pointer (some ⟨g, 0, none⟩), .slice (some ⟨w.heap.size, 0, none⟩) 1 c'] w4 fun e w' => ∃ v', e = .returned (.tuple #[]) ∧ PB w' W0.heap.size g v' (stp (L, E) (s, xs, x)).1 (stp (L, E) (s, xs, x)).2 ∧ Gq W0.heap.size g w w' := by
  have hb : Below w.heap.size w w4 := by rw [← hW]; exact below1 _ _
  have hr : w4.heap[w.heap.size]? = some (.cells #[.bool s, .slice A xs.length c, .int .i64 x] 26 (0, 0)) := by rw [← hW]; exact heap_alloc_new _ _
  have hg := heap_lt hp.1
  have hB4 : Below W0.heap.size W0 w4 := hB.trans (hb.mono hB.size)
  refine (pnumbers_any g c' (some ⟨w.heap.size, 0, none⟩) v L E [(s, xs, x)] W0 w4 (hp.below hb) hB4 (fun w' hw => rowq_one (hw.row hr (by omega) (by decide)) (hd.below (hw.base hB4 (by have := hb.size; have := hB.size; omega) hp.2.2 (Nat.le_refl _)))) (fun u hu => by rw [List.mem_singleton] at hu; subst hu; exact hR) (by simpa using hl)).mono ?_
  rintro e w' ⟨v', rfl, h1, h2⟩
  exact ⟨v', rfl, h1, (Gq.below hb).trans h2⟩
theorem pnum_ns {g k : Nat} {v : Value} {L : List UInt8} {E : Int} {P : Option Addr} {cs : List Nm} {W0 w : World} (hp : PB w W0.heap.size g v L E) (hB : Below W0.heap.size W0 w) (hd : NsL W0 P k cs) (hR : ∀ v, v ∈ cs → dyR v.1 v.2.1 v.2.2 = true ∧ ok32 v.2.1 ∧ v.2.1.length ≤ 400 ∧ -131072 ≤ v.2.2 ∧ v.2.2 ≤ 131072) (hl : L.length + 2000 * cs.length ≤ 100000000) :
    Calls Tryd.prog 15 #[.pointer (some ⟨g, 0, none⟩), .slice P cs.length k] w fun e w' => ∃ v', e = .returned (.tuple #[]) ∧ PB w' W0.heap.size g v' (cs.foldl stp (L, E)).1 (cs.foldl stp (L, E)).2 ∧ Gq W0.heap.size g w w' :=
  pnumbers_any g k P v L E cs W0 w hp hB (fun w' hw => (hd.below (hw.base hB hB.size hp.2.2 (Nat.le_refl _))).rowq) hR hl
theorem NsL.ok {w : World} {P : Option Addr} {k : Nat} {cs : List Nm} (h : NsL w P k cs) : ∀ v, v ∈ cs → ok32 v.2.1 := fun v hv => by
  obtain ⟨i, hi⟩ := List.mem_iff_getElem?.1 hv
  obtain ⟨b, o, A, c, _, _, _, _, hd⟩ := h.rowq i v hi
  exact hd.2.1
theorem stpP_len {D : Int} (hD : D ≤ 16) {p : Pd} (hp : pieceB p D = true) (hk : ok32 p.er.2.1) (hn : ∀ v, v ∈ p.cs → ok32 v.2.1) (s : List UInt8 × Int) : (stpP s p).1.length ≤ s.1.length + 40000 := by
  unfold pieceB at hp
  simp only [Bool.and_eq_true, decide_eq_true_eq, List.all_eq_true] at hp
  obtain ⟨_, hl, ⟨_, he⟩, hc, _⟩ := hp
  have h1 := stp_len p.cs (fun v hv => (rightN (hn v hv) (hc v hv)).2) (stp (s.1 ++ [by8 (p.w + 128)], s.2) p.er)
  have h2 := stp_len [p.er] (fun v hv => by rw [List.mem_singleton] at hv; subst hv; exact (rightN hk he).2) (s.1 ++ [by8 (p.w + 128)], s.2)
  simp only [List.foldl_cons, List.foldl_nil, List.length_append, List.length_singleton] at h2
  have h3 : 2000 * p.cs.length ≤ 2000 * 17 := by omega
  unfold stpP
  omega

set_option maxHeartbeats 4000000 in
set_option maxRecDepth 100000 in
theorem encode_go (A P : Option Addr) (c k : Nat) (F O W Q D : Int) (s : Bool) (xs : List Nat) (x : Int) (ps : List Pd) (w : World) (h : Dg w A c xs) (hl : xs.length ≤ 10000) (hT : T32 w) (hps : PsL w P ps) (hsm : SmP ps) (hq : rightT F O (s, xs, x) W Q D ps = true) :
    Calls Tryd.prog 7 #[.agg #[.int .i64 F, .int .i64 O, .bool s, .slice A xs.length c, .int .i64 x, .int .i64 W, .int .i64 Q, .int .i64 D, .slice P ps.length k]] w fun e w' => (∃ t : ByteArray, e = .returned (.tuple #[.string t, .int .i64 (outE (encS F O (s, xs, x) W Q D ps))]) ∧ t.data.toList = outB (encS F O (s, xs, x) W Q D ps)) ∧ Below w.heap.size w w' := by
  have HR := Lib.hid (fun (W1 : World) (hB : Below w.heap.size w W1) => cright_any (A := A) (c := c) (k := k) (a := (s, xs, x)) (h.below hB) hl (t32_below hT hB) (PsL.below hps hB) hsm hq)
  have HQ := Lib.hid hq
  have HPS := Lib.hid hps
  have HH := Lib.hid h
  have hq2 := hq
  unfold rightT at hq2
  simp only [Bool.and_eq_true, decide_eq_true_eq] at hq2
  obtain ⟨_, _, hpl, ⟨hw0, hw1⟩, _, ⟨hd0, hd1⟩, ⟨hn0, hn1⟩, hrl⟩ := hq2
  have hpp : ∀ p, p ∈ ps → pieceB p D = true := rightL_all (by have := hrl; rw [beq_iff_eq] at this; exact this)
  have RA := Lib.hid (rightA h.2.1 hpl)
  have wW : wrap64 (W + 128) = W + 128 := IntWalk.wrap64_in _ ⟨by omega, by omega⟩
  have hlen : ps.length ≤ 32 := by omega
  have HD := Lib.hid (And.intro hd0 hd1)
  have HPP := Lib.hid hpp
  have HPL := Lib.hid hpl
  clear h hl hT hps hsm hq hpl hw0 hw1 hd0 hd1 hn0 hn1 hrl hpp
  go_enter Tryd.func7, Tryd.ntmps7
  go_wp2_with fail

  obtain ⟨v1, hW⟩ : ∃ V : World, V = w.alloc (.cells #[.int .i64 F, .int .i64 O, .bool s, .slice A xs.length c, .int .i64 x, .int .i64 W, .int .i64 Q, .int .i64 D, .slice P ps.length k] 29) := ⟨_, rfl⟩
  rw [← hW]
  have hb : Below w.heap.size w v1 := by rw [hW]; exact below1 _ _
  have B1 := Lib.hid hb
  have R1 := Lib.hid (show v1.heap[w.heap.size]? = some (.cells #[.int .i64 F, .int .i64 O, .bool s, .slice A xs.length c, .int .i64 x, .int .i64 W, .int .i64 Q, .int .i64 D, .slice P ps.length k] 29 (0, 0)) by rw [hW]; exact heap_alloc_new _ _)
  clear hW hb
  refine (HR.out v1 B1.out).mono ?_
  rintro e w2 ⟨rfl, hb⟩
  have R2 := co R1 hb
  have B2 := Lib.hid (B1.out.trans (hb.mono B1.out.size))
  clear hb
  have ft0 := row_c (i := 0) R2.out rfl
  have ft1 := row_c (i := 1) R2.out rfl
  have ft2 := row_c (i := 2) R2.out rfl
  have ft3 := row_c (i := 3) R2.out rfl
  have ft4 := row_c (i := 4) R2.out rfl
  have ft5 := row_c (i := 5) R2.out rfl
  have ft6 := row_c (i := 6) R2.out rfl
  have ft7 := row_c (i := 7) R2.out rfl
  have ft8 := row_c (i := 8) R2.out rfl
  have xft := heap_lt R2.out
  go_upto_region 4 with fail
  clear ft0 ft1 ft2 ft3 ft4 ft5 ft6 ft7 ft8 xft
  obtain ⟨w3, hW⟩ : ∃ V : World, V = w2.alloc (.cells #[.slice none 0 0, .int .i64 0] 48) := ⟨_, rfl⟩
  rw [← hW]
  have hb : Below w2.heap.size w2 w3 := by rw [hW]; exact below1 _ _
  obtain ⟨g, hg⟩ : ∃ g, g = w2.heap.size := ⟨_, rfl⟩
  have HGE := Lib.hid (show w.heap.size < g by rw [hg]; exact heap_lt R2.out)
  rw [← hg]
  have P3 := Lib.hid (show PB w3 w.heap.size g (.slice none 0 0) [] 0 from ⟨by rw [hW, hg]; exact heap_alloc_new _ _, World.ownsRow_nil _ _ _ _, Nat.le_of_lt HGE.out⟩)
  have R3 := co R2 hb
  have B3 := Lib.hid (B2.out.trans (hb.mono B2.out.size))
  clear hb hW hg
  have ft0 := row_c (i := 0) R3.out rfl
  have ft1 := row_c (i := 1) R3.out rfl
  have ft2 := row_c (i := 2) R3.out rfl
  have ft3 := row_c (i := 3) R3.out rfl
  have ft4 := row_c (i := 4) R3.out rfl
  have ft5 := row_c (i := 5) R3.out rfl
  have ft6 := row_c (i := 6) R3.out rfl
  have ft7 := row_c (i := 7) R3.out rfl
  have ft8 := row_c (i := 8) R3.out rfl
  have xft := heap_lt R3.out
  go_wp2_with fail
  clear ft0 ft1 ft2 ft3 ft4 ft5 ft6 ft7 ft8 xft
  obtain ⟨w4, hW⟩ : ∃ V : World, w3.alloc (.cells #[.int .i64 84, .int .i64 F, .int .i64 O, .int .i64 Q, .int .i64 D, .int .i64 (W + 128), .int .i64 ps.length] 3) = V := ⟨_, rfl⟩
  rw [hW]
  refine (psmall_new [84, F, O, Q, D, W + 128, ps.length] rfl rfl hW P3.out (by simp)).mono ?_
  rintro e w5 ⟨v5, rfl, hp, hg⟩
  have P5 := Lib.hid (show PB w5 w.heap.size g v5 (headB F O W Q D ps.length) 0 from hp)
  have B5 := Lib.hid (hg.base B3.out B3.out.size P3.out.2.2 (Nat.le_refl _))
  have R5 := Lib.hid (hg.row R3.out (Nat.ne_of_lt HGE.out) (by decide))
  clear hp hg hW
  have ft0 := row_c (i := 0) R5.out rfl
  have ft1 := row_c (i := 1) R5.out rfl
  have ft2 := row_c (i := 2) R5.out rfl
  have ft3 := row_c (i := 3) R5.out rfl
  have ft4 := row_c (i := 4) R5.out rfl
  have ft5 := row_c (i := 5) R5.out rfl
  have ft6 := row_c (i := 6) R5.out rfl
  have ft7 := row_c (i := 7) R5.out rfl
  have ft8 := row_c (i := 8) R5.out rfl
  have xft := heap_lt R5.out
  go_wp2_with fail
  clear ft0 ft1 ft2 ft3 ft4 ft5 ft6 ft7 ft8 xft
  obtain ⟨w6, hW⟩ : ∃ V : World, w5.alloc (.cells #[.bool s, .slice A xs.length c, .int .i64 x] 26) = V := ⟨_, rfl⟩
  rw [hW]
  refine (pnum_one P5.out B5.out hW HH.out RA.out (by unfold headB; simp)).mono ?_
  rintro e w7 ⟨v7, rfl, hp, hg⟩
  obtain ⟨L7, E7, hs⟩ : ∃ L E, stp (headB F O W Q D ps.length, 0) (s, xs, x) = (L, E) := ⟨_, _, rfl⟩
  rw [hs] at hp
  have HS := Lib.hid hs
  have LS := Lib.hid (show L7.length ≤ 3000 by
    have := stp_len [(s, xs, x)] (fun u hu => by rw [List.mem_singleton] at hu; subst hu; exact RA.out.2) (headB F O W Q D ps.length, 0)
    simp only [List.foldl_cons, List.foldl_nil, hs, List.length_singleton] at this
    unfold headB at this; simp at this; omega)
  have P7 := Lib.hid hp
  have B7 := Lib.hid (hg.base B5.out B5.out.size P5.out.2.2 (Nat.le_refl _))
  have R7 := Lib.hid (hg.row R5.out (Nat.ne_of_lt HGE.out) (by decide))
  clear hp hg hW hs
  have ft0 := row_c (i := 0) R7.out rfl
  have ft1 := row_c (i := 1) R7.out rfl
  have ft2 := row_c (i := 2) R7.out rfl
  have ft3 := row_c (i := 3) R7.out rfl
  have ft4 := row_c (i := 4) R7.out rfl
  have ft5 := row_c (i := 5) R7.out rfl
  have ft6 := row_c (i := 6) R7.out rfl
  have ft7 := row_c (i := 7) R7.out rfl
  have ft8 := row_c (i := 8) R7.out rfl
  have xft := heap_lt R7.out
  go_wp2
  clear ft0 ft1 ft2 ft3 ft4 ft5 ft6 ft7 ft8 xft
  go_loopw [33] (fun i wr => ∃ (j : Nat) (v1 : Value) (L1 : List UInt8) (E1 : Int), j ≤ ps.length ∧ i = .int .i64 j ∧ Hid ((ps.take j).foldl stpP (L7, E7) = (L1, E1) ∧ L1.length ≤ 3000 + 40000 * j) ∧ Hid (PB wr w.heap.size g v1 L1 E1) ∧ Hid (Below w.heap.size w wr) ∧ Hid (wr.heap[w.heap.size]? = some (.cells #[.int .i64 F, .int .i64 O, .bool s, .slice A xs.length c, .int .i64 x, .int .i64 W, .int .i64 Q, .int .i64 D, .slice P ps.length k] 29 (0, 0)))) (fun i _ => ps.length - (intOf i).toNat)
  case atStart => exact ⟨0, v7, L7, E7, Nat.zero_le _, rfl, Lib.hid ⟨rfl, LS.out⟩, P7, B7, R7⟩
  case round =>
    obtain ⟨j, v1, L1, E1, hj, rfl, HF, HP1, HB, HRT⟩ := hrel
    by_cases hlt : j < ps.length
    · obtain ⟨p, hp⟩ : ∃ p, ps[j]? = some p := ⟨_, List.getElem?_eq_getElem hlt⟩
      obtain ⟨b, o, rfl, hbb, hps⟩ := HPS.out (by omega)
      obtain ⟨A2, c2, B2, d2, P2, k2, e0, e1, e2, e3, e4, e5, e6, e7, hda, hde, hns⟩ := hps j p hp
      have HX := Lib.hid (show (ps.take (j + 1)).foldl stpP (L7, E7) = stpP (L1, E1) p by rw [List.take_add_one, hp, List.foldl_append, HF.out.1]; rfl)
      have hpB := HPP.out p (List.mem_of_getElem? hp)
      have XL := Lib.hid (show (stpP (L1, E1) p).1.length ≤ 3000 + 40000 * (j + 1) by
        have := stpP_len HD.out.2 hpB hde.2.1 hns.ok (L1, E1)
        have := HF.out.2
        dsimp only at *
        omega)
      have hpB2 := hpB
      unfold pieceB at hpB2
      simp only [Bool.and_eq_true, decide_eq_true_eq, List.all_eq_true] at hpB2
      obtain ⟨⟨pw0, pw1⟩, hcl, ⟨_, her⟩, hcs, _⟩ := hpB2
      have HER := Lib.hid (rightN hde.2.1 her)
      have HCS := Lib.hid (fun v hv => rightN (hns.ok v hv) (hcs v hv))
      have HCL := Lib.hid hcl
      have wp : wrap64 (p.w + 128) = p.w + 128 := IntWalk.wrap64_in _ ⟨by omega, by omega⟩
      have HNS := Lib.hid hns
      have HDE := Lib.hid hde
      have g0 := (HB.out.cell (p := ⟨b, o + j * 8, none⟩) hbb).trans e0
      have g1 := (HB.out.cell (p := ⟨b, o + j * 8 + 1, none⟩) hbb).trans e1
      have g2 := (HB.out.cell (p := ⟨b, o + j * 8 + 2, none⟩) hbb).trans e2
      have g3 := (HB.out.cell (p := ⟨b, o + j * 8 + 3, none⟩) hbb).trans e3
      have g4 := (HB.out.cell (p := ⟨b, o + j * 8 + 4, none⟩) hbb).trans e4
      have g5 := (HB.out.cell (p := ⟨b, o + j * 8 + 5, none⟩) hbb).trans e5
      have g6 := (HB.out.cell (p := ⟨b, o + j * 8 + 6, none⟩) hbb).trans e6
      have g7 := (HB.out.cell (p := ⟨b, o + j * 8 + 7, none⟩) hbb).trans e7
      have HLT := Lib.hid hlt
      clear e0 e1 e2 e3 e4 e5 e6 e7 hda hde hns hp hps hpB hcl her hcs pw0 pw1
      go_wp2_with fail
      clear g0 g1 g2 g3 g4 g5 g6 g7
      obtain ⟨wa, hW⟩ : ∃ V : World, wr.alloc (.cells #[.bool p.a.1, .slice A2 p.a.2.1.length c2, .int .i64 p.a.2.2, .int .i64 p.w, .slice P2 p.cs.length k2, .bool p.er.1, .slice B2 p.er.2.1.length d2, .int .i64 p.er.2.2] 46) = V := ⟨_, rfl⟩
      rw [hW]
      have hz : wr.heap.size + 1 = wa.heap.size := by rw [← hW]; simp
      have hb : Below wr.heap.size wr wa := by rw [← hW]; exact below1 _ _
      have hpr : wa.heap[wr.heap.size]? = some (.cells #[.bool p.a.1, .slice A2 p.a.2.1.length c2, .int .i64 p.a.2.2, .int .i64 p.w, .slice P2 p.cs.length k2, .bool p.er.1, .slice B2 p.er.2.1.length d2, .int .i64 p.er.2.2] 46 (0, 0)) := by rw [← hW]; exact heap_alloc_new _ _
      obtain ⟨pb, hpb⟩ : ∃ n, wr.heap.size = n := ⟨_, rfl⟩
      have PA := Lib.hid (HP1.out.below hb)
      have BA := Lib.hid (HB.out.trans (hb.mono HB.out.size))
      have RA2 := co HRT hb
      have NE := Lib.hid (show pb ≠ g from fun e => by have := heap_lt HP1.out.1; omega)
      rw [hz]
      rw [hpb] at hpr ⊢
      have QA := Lib.hid hpr
      clear hW hz hb hpr hpb
      obtain ⟨wb, hW⟩ : ∃ V : World, wa.alloc (.cells #[.int .i64 (p.w + 128)] 3) = V := ⟨_, rfl⟩
      rw [hW]
      refine (psmall_new [p.w + 128] rfl rfl hW PA.out (by have := HF.out.2; simp; omega)).mono ?_
      rintro e w8 ⟨v8, rfl, hp, hg⟩
      have P8 := Lib.hid (show PB w8 w.heap.size g v8 (L1 ++ [by8 (p.w + 128)]) E1 from hp)
      have B8 := Lib.hid (hg.base BA.out BA.out.size PA.out.2.2 (Nat.le_refl _))
      have R8 := Lib.hid (hg.row RA2.out (Nat.ne_of_lt HGE.out) (by decide))
      have Q8 := Lib.hid (hg.row QA.out NE.out (by decide))
      clear hp hg hW
      have fp0 := row_c (i := 0) Q8.out rfl
      have fp1 := row_c (i := 1) Q8.out rfl
      have fp2 := row_c (i := 2) Q8.out rfl
      have fp3 := row_c (i := 3) Q8.out rfl
      have fp4 := row_c (i := 4) Q8.out rfl
      have fp5 := row_c (i := 5) Q8.out rfl
      have fp6 := row_c (i := 6) Q8.out rfl
      have fp7 := row_c (i := 7) Q8.out rfl
      have xfp := heap_lt Q8.out
      go_wp2_with fail
      clear fp0 fp1 fp2 fp3 fp4 fp5 fp6 fp7 xfp
      obtain ⟨wc, hW⟩ : ∃ V : World, w8.alloc (.cells #[.bool p.er.1, .slice B2 p.er.2.1.length d2, .int .i64 p.er.2.2] 26) = V := ⟨_, rfl⟩
      rw [hW]
      refine (pnum_one P8.out B8.out hW HDE.out HER.out (by have := HF.out.2; simp; omega)).mono ?_
      rintro e w9 ⟨v9, rfl, hp, hg⟩
      obtain ⟨L9, E9, hs⟩ : ∃ L E, stp (L1 ++ [by8 (p.w + 128)], E1) p.er = (L, E) := ⟨_, _, rfl⟩
      rw [show (p.er.1, p.er.2.1, p.er.2.2) = p.er from rfl, hs] at hp
      have HS9 := Lib.hid hs
      have LS9 := Lib.hid (show L9.length ≤ 3000 + 40000 * j + 2001 by
        have := stp_len [p.er] (fun u hu => by rw [List.mem_singleton] at hu; subst hu; exact HER.out.2) (L1 ++ [by8 (p.w + 128)], E1)
        simp only [List.foldl_cons, List.foldl_nil, hs, List.length_singleton, List.length_append] at this
        have := HF.out.2; omega)
      have P9 := Lib.hid hp
      have B9 := Lib.hid (hg.base B8.out B8.out.size P8.out.2.2 (Nat.le_refl _))
      have R9 := Lib.hid (hg.row R8.out (Nat.ne_of_lt HGE.out) (by decide))
      have Q9 := Lib.hid (hg.row Q8.out NE.out (by decide))
      clear hp hg hW hs
      have fp0 := row_c (i := 0) Q9.out rfl
      have fp1 := row_c (i := 1) Q9.out rfl
      have fp2 := row_c (i := 2) Q9.out rfl
      have fp3 := row_c (i := 3) Q9.out rfl
      have fp4 := row_c (i := 4) Q9.out rfl
      have fp5 := row_c (i := 5) Q9.out rfl
      have fp6 := row_c (i := 6) Q9.out rfl
      have fp7 := row_c (i := 7) Q9.out rfl
      have xfp := heap_lt Q9.out
      go_wp2_with fail
      clear fp0 fp1 fp2 fp3 fp4 fp5 fp6 fp7 xfp
      refine (pnum_ns P9.out B9.out HNS.out HCS.out (by have := LS9.out; have := HCL.out; have := HD.out; omega)).mono ?_
      rintro e w10 ⟨v10, rfl, hp, hg⟩
      have hst : stpP (L1, E1) p = p.cs.foldl stp (L9, E9) := by unfold stpP; rw [HS9.out]
      rw [← hst] at hp
      have P10 := Lib.hid hp
      have B10 := Lib.hid (hg.base B9.out B9.out.size P9.out.2.2 (Nat.le_refl _))
      have R10 := Lib.hid (hg.row R9.out (Nat.ne_of_lt HGE.out) (by decide))
      clear hp hg hst
      go_wp2
      go_roundw
      case rel => exact ⟨j + 1, v10, (stpP (L1, E1) p).1, (stpP (L1, E1) p).2, HLT.out, by go_num, Lib.hid ⟨HX.out, XL.out⟩, P10, B10, R10⟩
      case measure => have := HLT.out; simp [intOf]; omega
    · obtain rfl : j = ps.length := by omega
      have hf := HF.out.1
      rw [List.take_length] at hf
      have HE := Lib.hid (show encS F O (s, xs, x) W Q D ps = (L1, E1) by unfold encS; rw [HS.out]; exact hf)
      have L0 := Lib.hid (show 0 < L1.length by
        have h1 := encS_pos F O (s, xs, x) W Q D ps
        rw [HE.out] at h1; exact h1)
      clear hf
      have f0 := row_c (i := 0) HP1.out.1 rfl
      have f1 := row_c (i := 1) HP1.out.1 rfl
      by_cases h0 : E1 = 0
      · subst h0
        have c0 := own_conv HP1.out.2.1 L0.out
        go_wp2
        go_ret2
        exact ⟨⟨⟨L1.toArray⟩, by rw [HE.out]; rfl, by rw [HE.out]; rfl⟩, HB.out⟩
      · have hz : (E1 != 0) = true := bne_iff_ne.2 h0
        have HZ := Lib.hid h0
        go_wp2
        go_ret2
        exact ⟨⟨⟨#[]⟩, by rw [HE.out]; unfold outE; dsimp only; rw [if_neg HZ.out]; rfl, by rw [HE.out]; unfold outB; dsimp only; rw [if_neg HZ.out]⟩, HB.out⟩
end Go.Proofs.YtfhdhldgflbpjaaDoor
end

section
/-
  Encode whole; Size.
-/
namespace Go.Proofs.YtfhdhldgflbpjaaDoor
open Go.RowKit
set_option linter.unusedSimpArgs false
set_option linter.unusedVariables false
def encO (F O : Int) (a : Nm) (W Q D : Int) (ps : List Pd) : List UInt8 × Int := if rightT F O a W Q D ps then encS F O a W Q D ps else ([], 1)
set_option maxHeartbeats 4000000 in
set_option maxRecDepth 100000 in
theorem encode_no (A P : Option Addr) (c k : Nat) (F O W Q D : Int) (s : Bool) (xs : List Nat) (x : Int) (ps : List Pd) (w : World) (h : Dg w A c xs) (hl : xs.length ≤ 10000) (hT : T32 w) (hps : PsL w P ps) (hsm : SmP ps) (hq : rightT F O (s, xs, x) W Q D ps = false) :
    Calls Tryd.prog 7 #[.agg #[.int .i64 F, .int .i64 O, .bool s, .slice A xs.length c, .int .i64 x, .int .i64 W, .int .i64 Q, .int .i64 D, .slice P ps.length k]] w fun e w' => e = .returned (.tuple #[.string ⟨#[]⟩, .int .i64 1]) ∧ Below w.heap.size w w' := by
  have HR := Lib.hid (fun (W1 : World) (hB : Below w.heap.size w W1) => cright_any (A := A) (c := c) (k := k) (a := (s, xs, x)) (h.below hB) hl (t32_below hT hB) (PsL.below hps hB) hsm hq)
  clear h hl hT hps hsm hq
  go_enter Tryd.func7, Tryd.ntmps7
  go_wp2_with fail
  obtain ⟨v1, hW⟩ : ∃ V : World, V = w.alloc (.cells #[.int .i64 F, .int .i64 O, .bool s, .slice A xs.length c, .int .i64 x, .int .i64 W, .int .i64 Q, .int .i64 D, .slice P ps.length k] 29) := ⟨_, rfl⟩
  rw [← hW]
  have hb : Below w.heap.size w v1 := by rw [hW]; exact below1 _ _
  have B1 := Lib.hid hb
  clear hW hb
  refine (HR.out v1 B1.out).mono ?_
  rintro e w2 ⟨rfl, hb⟩
  have B2 := Lib.hid (B1.out.trans (hb.mono B1.out.size))
  clear hb
  go_wp2
  go_ret2
  exact ⟨rfl, B2.out⟩
theorem encode_any {A P : Option Addr} {c k : Nat} {F O W Q D : Int} {a : Nm} {ps : List Pd} {w : World} (h : Dg w A c a.2.1) (hl : a.2.1.length ≤ 10000) (hT : T32 w) (hps : PsL w P ps) (hsm : SmP ps) :
    Calls Tryd.prog 7 #[.agg #[.int .i64 F, .int .i64 O, .bool a.1, .slice A a.2.1.length c, .int .i64 a.2.2, .int .i64 W, .int .i64 Q, .int .i64 D, .slice P ps.length k]] w fun e w' => (∃ t : ByteArray, e = .returned (.tuple #[.string t, .int .i64 (outE (encO F O a W Q D ps))]) ∧ t.data.toList = outB (encO F O a W Q D ps)) ∧ Below w.heap.size w w' := by
  obtain ⟨s, xs, x⟩ := a
  unfold encO
  cases hq : rightT F O (s, xs, x) W Q D ps
  · refine (encode_no A P c k F O W Q D s xs x ps w h hl hT hps hsm hq).mono ?_
    rintro e w' ⟨rfl, hb⟩
    exact ⟨⟨⟨#[]⟩, rfl, rfl⟩, hb⟩
  · exact encode_go A P c k F O W Q D s xs x ps w h hl hT hps hsm hq
set_option maxHeartbeats 4000000 in
set_option maxRecDepth 100000 in
theorem size_any {A P : Option Addr} {c k : Nat} {F O W Q D : Int} {a : Nm} {ps : List Pd} {w : World} (h : Dg w A c a.2.1) (hl : a.2.1.length ≤ 10000) (hT : T32 w) (hps : PsL w P ps) (hsm : SmP ps) :
    Calls Tryd.prog 10 #[.agg #[.int .i64 F, .int .i64 O, .bool a.1, .slice A a.2.1.length c, .int .i64 a.2.2, .int .i64 W, .int .i64 Q, .int .i64 D, .slice P ps.length k]] w fun e w' => e = .returned (.int .i64 ((outB (encO F O a W Q D ps)).length : Nat)) ∧ Below w.heap.size w w' := by
  have HR := Lib.hid (fun (W1 : World) (hB : Below w.heap.size w W1) => encode_any (A := A) (c := c) (k := k) (F := F) (O := O) (W := W) (Q := Q) (D := D) (h.below hB) hl (t32_below hT hB) (PsL.below hps hB) hsm)
  obtain ⟨E, hE⟩ : ∃ E, outE (encO F O a W Q D ps) = E := ⟨_, rfl⟩
  obtain ⟨L, hL⟩ : ∃ L, outB (encO F O a W Q D ps) = L := ⟨_, rfl⟩
  rw [hE, hL] at HR
  rw [hL]
  clear h hl hT hps hsm hE hL
  obtain ⟨s, xs, x⟩ := a
  go_enter Tryd.func10, Tryd.ntmps10
  go_wp2_with fail
  obtain ⟨v1, hW⟩ : ∃ V : World, V = w.alloc (.cells #[.int .i64 F, .int .i64 O, .bool s, .slice A xs.length c, .int .i64 x, .int .i64 W, .int .i64 Q, .int .i64 D, .slice P ps.length k] 29) := ⟨_, rfl⟩
  rw [← hW]
  have hb : Below w.heap.size w v1 := by rw [hW]; exact below1 _ _
  have B1 := Lib.hid hb
  clear hW hb
  refine (HR.out v1 B1.out).mono ?_
  rintro e w2 ⟨⟨t, rfl, ht⟩, hb⟩
  have B2 := Lib.hid (B1.out.trans (hb.mono B1.out.size))
  have HTS := Lib.hid (show (t.size : Int) = (L.length : Nat) by rw [← ht]; simp)
  clear hb ht
  go_wp2
  go_ret
  exact ⟨by rw [← HTS.out]; rfl, B2.out⟩
end Go.Proofs.YtfhdhldgflbpjaaDoor
end
