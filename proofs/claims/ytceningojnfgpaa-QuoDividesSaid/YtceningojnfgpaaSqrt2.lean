/-
  quo.root at every length; quo.Sqrt.
-/
import Derived.Test.YtceningojnfgpaaSqrt
namespace Go.Proofs.Ytceningojnfgpaa
open Go.RowKit
theorem Dg.drop_ {w : World} {b off c : Nat} {xs : List Nat} (h : Dg w (some ⟨b, off, none⟩) c xs) (j : Nat) : Dg w (some ⟨b, off + j, none⟩) (c - j) (xs.drop j) := by
  refine ⟨by rw [List.length_drop]; have := h.1; omega, fun x hx => h.2.1 x (List.mem_of_mem_drop hx), fun h0 => ?_⟩
  rw [List.length_drop] at h0
  obtain ⟨b', off', e, hb, hc⟩ := h.2.2 (by omega)
  injection e with e
  injection e with e1 e2 _
  subst e1 e2
  refine ⟨b, off + j, rfl, hb, fun i hi => ?_⟩
  rw [List.length_drop] at hi
  rw [Nat.add_assoc, hc _ (by omega), List.getElem?_drop]
theorem rt_self (n : Nat) : rt n ≤ n := by
  rcases Nat.eq_zero_or_pos (rt n) with h | h
  · omega
  · exact Nat.le_trans (Nat.le_mul_of_pos_right _ h) (rt_spec n).1
theorem trimmed_drop {xs : List Nat} (hk : ok32 xs) (ex : digs (val xs) = xs) (j : Nat) : digs (val (xs.drop j)) = xs.drop j := by
  refine digs_val (fun x hx => hk x (List.mem_of_mem_drop hx)) fun x hx => ?_
  rw [List.getLast?_drop] at hx
  split at hx
  · cases hx
  · exact last_digs (n := val xs) (by rw [ex]; exact hx)
theorem above_le {xs : List Nat} (hk : ok32 xs) {k : Nat} (h : 2 * k ≤ xs.length) : val xs < 4294967296 ^ k * (rt (val (xs.drop (2 * k))) + 1) * (4294967296 ^ k * (rt (val (xs.drop (2 * k))) + 1)) := by
  have h1 := val_split xs h
  have h2 := val_take_lt hk (2 * k) h
  have h3 := (rt_spec (val (xs.drop (2 * k)))).2
  rw [Nat.mul_mul_mul_comm, ← Nat.pow_add, show k + k = 2 * k by omega]
  have h4 := Nat.mul_le_mul_left (4294967296 ^ (2 * k)) h3
  rw [Nat.mul_succ] at h4
  omega
theorem root_all : ∀ (N : Nat) (A : Option Addr) (c : Nat) (xs : List Nat) (w : World), xs.length ≤ N → Dg w A c xs → xs.length ≤ 500000 → digs (val xs) = xs →
    Calls Try.prog 38 #[.slice A xs.length c] w fun e w' => ∃ A' c', e = .returned (.slice A' (digs (rt (val xs))).length c') ∧ Dg w' A' c' (digs (rt (val xs))) ∧ Below w.heap.size w w' := by
  intro N
  induction N using Nat.strongRecOn with
  | ind N IH =>
    intro A c xs w hN h hl ex
    refine root_of A c xs w h hl ex fun h0 => ?_
    rcases Nat.lt_or_ge xs.length 4 with h4 | h4
    · exact above_small A c xs w h h4
    · obtain ⟨b, off, rfl, _, _⟩ := h.2.2 h0
      have hj : (xs.drop (2 * (xs.length / 4))).length = xs.length - 2 * (xs.length / 4) := List.length_drop
      have HR := IH (xs.length - 2 * (xs.length / 4)) (by omega) (some ⟨b, off + 2 * (xs.length / 4), none⟩) (c - 2 * (xs.length / 4)) (xs.drop (2 * (xs.length / 4))) w (by omega) (h.drop_ _) (by omega) (trimmed_drop h.2.1 ex _)
      rw [hj] at HR
      have hr : (digs (rt (val (xs.drop (2 * (xs.length / 4)))))).length ≤ 500000 - xs.length / 4 := by
        have h1 := digs_len_mono _ _ (rt_self (val (xs.drop (2 * (xs.length / 4)))))
        rw [trimmed_drop h.2.1 ex] at h1
        omega
      exact above_big b off c (xs.length / 4) (2 * (xs.length / 4)) _ xs w hl rfl (by omega) rfl h.1 HR hr (above_le h.2.1 (by omega))
set_option maxHeartbeats 2000000 in
theorem sqrt_any (A : Option Addr) (c : Nat) (xs : List Nat) (w : World) (h : Dg w A c xs) (hl : xs.length ≤ 500000) :
    Calls Try.prog 17 #[.slice A xs.length c] w fun e w' => ∃ A' c' B' d', e = .returned (.tuple #[.slice A' (digs (rt (val xs))).length c', .slice B' (digs (val xs - rt (val xs) * rt (val xs))).length d']) ∧ Dg w' A' c' (digs (rt (val xs))) ∧ Dg w' B' d' (digs (val xs - rt (val xs) * rt (val xs))) ∧ Below w.heap.size w w' := by
  have L0 := Lib.hid ((live_start w).add h)
  have l1 := digs_len_le h.2.1
  have l2 := digs_len_mono _ _ (rt_self (val xs))
  have l3 := digs_mul_len (rt (val xs)) (rt (val xs))
  have HS := Lib.hid (rt_spec (val xs)).1
  clear h
  go_enter Try.func17, Try.ntmps17
  go_wp2_with fail
  refine Calls.mono (trim_l (xs := xs) (x := val xs) L0.out (by simp) rfl rfl (by omega)) ?_
  rintro e w1 ⟨A1, c1, rfl, h1⟩
  have L1 := Lib.hid h1
  clear h1
  have HR := root_all (digs (val xs)).length A1 c1 (digs (val xs)) w1 (Nat.le_refl _) (L1.out.get (by simp)) (by omega) (by rw [val_digs])
  rw [val_digs] at HR
  have HRR := Lib.hid HR
  clear HR
  go_wp2_with fail
  refine HRR.out.mono ?_
  rintro e w2 ⟨A2, c2, rfl, g1, g2⟩
  have L2 := Lib.hid ((L1.out.step g2).add g1)
  clear g1 g2
  go_wp2_with fail
  refine Calls.mono (mul_l (xs := digs (rt (val xs))) (ys := digs (rt (val xs))) (x := rt (val xs)) (y := rt (val xs)) L2.out (by simp) (by simp) rfl rfl (val_digs _) (val_digs _) (by omega) (by omega)) ?_
  rintro e w3 ⟨A3, c3, rfl, h1⟩
  have L3 := Lib.hid h1
  clear h1
  go_wp2_with fail
  refine Calls.mono (sub_l (xs := xs) (ys := digs (rt (val xs) * rt (val xs))) (x := val xs) (y := rt (val xs) * rt (val xs)) L3.out (by simp) (by simp) rfl rfl rfl (val_digs _) (by omega) (by omega) HS.out) ?_
  rintro e w4 ⟨A4, c4, rfl, h1⟩
  have L4 := Lib.hid h1
  clear h1
  go_wp2
  go_ret2
  exact ⟨A2, c2, A4, c4, rfl, L4.out.get (by simp), L4.out.get (by simp), L4.out.1⟩
section
variable {w0 w w' : World} {L : List (Option Addr × Nat × List Nat)} {A : Option Addr} {c n : Nat} {xs : List Nat} {x : Nat}
theorem sqrt_l (hL : Live w0 w L) (h1 : (A, c, xs) ∈ L) (hn : n = xs.length) (hx : val xs = x) (b1 : xs.length ≤ 500000) :
    Calls Try.prog 17 #[.slice A n c] w fun e w' => ∃ A' c' B' d', e = .returned (.tuple #[.slice A' (digs (rt x)).length c', .slice B' (digs (x - rt x * rt x)).length d']) ∧ Live w0 w' ((B', d', digs (x - rt x * rt x)) :: (A', c', digs (rt x)) :: L) := by
  subst hn hx
  exact (sqrt_any A c xs w (hL.get h1) b1).mono fun e w' ⟨A', c', B', d', he, hd, hd', hb⟩ => ⟨A', c', B', d', he, ((hL.step hb).add hd).add hd'⟩
end
end Go.Proofs.Ytceningojnfgpaa
