/-
  nat.Cmp.
-/
import Derived.Test.YtceningojnfgpaaFrom
namespace Go.Proofs.Ytceningojnfgpaa
open Go.RowKit
/-- How two numbers stand. -/
def cmpi (a b : Nat) : Int := if a < b then -1 else if a = b then 0 else 1
theorem cmpi_lt {a b : Nat} (h : a < b) : cmpi a b = -1 := by unfold cmpi; rw [if_pos h]
theorem cmpi_eq {a b : Nat} (h : a = b) : cmpi a b = 0 := by unfold cmpi; rw [if_neg (by omega), if_pos h]
theorem cmpi_gt {a b : Nat} (h : b < a) : cmpi a b = 1 := by unfold cmpi; rw [if_neg (by omega), if_neg (by omega)]
theorem digs_len_mono (a : Nat) : ∀ b, a ≤ b → (digs a).length ≤ (digs b).length := by
  induction a using Nat.strongRecOn with
  | ind a ih =>
    intro b h
    by_cases h0 : a = 0
    · subst h0; rw [digs_zero]; simp
    · rw [digs_pos h0, digs_pos (by omega : b ≠ 0)]
      have := ih (a / 4294967296) (by omega) (b / 4294967296) (by omega)
      simp; omega
theorem lt_of_len {a b : Nat} (h : (digs a).length < (digs b).length) : a < b := by
  rcases Nat.lt_or_ge a b with h1 | h1
  · exact h1
  · have := digs_len_mono b a h1; omega
/-- Two lists of one length: the topmost digit in which they part decides. -/
theorem val_lt_at : ∀ (xs ys : List Nat) (k : Nat), xs.length = ys.length → ok32 xs → ok32 ys → k < xs.length → (∀ j, k < j → j < xs.length → xs[j]?.getD 0 = ys[j]?.getD 0) → xs[k]?.getD 0 < ys[k]?.getD 0 → val xs < val ys := by
  intro xs
  induction xs with
  | nil => intro ys k _ _ _ h; simp at h
  | cons x r ih =>
    intro ys k hl hx hy hk hj hlt
    rcases ys with _ | ⟨y, s⟩
    · simp at hl
    · have h1 : x < 4294967296 := hx x (by simp)
      have h2 : y < 4294967296 := hy y (by simp)
      have hx' : ok32 r := fun z hz => hx z (by simp [hz])
      have hy' : ok32 s := fun z hz => hy z (by simp [hz])
      simp at hl
      simp only [val]
      rcases k with _ | k
      · have e : r = s := by
          apply List.ext_getElem hl
          intro j a b
          have := hj (j + 1) (by omega) (by simp; omega)
          simpa [List.getElem?_eq_getElem a, List.getElem?_eq_getElem b] using this
        subst e
        simp at hlt
        omega
      · have := ih s k hl hx' hy' (by simpa using hk) (fun j a b => by simpa using hj (j + 1) (by omega) (by simp; omega)) (by simpa using hlt)
        omega
theorem val_eq_of {xs ys : List Nat} (hl : xs.length = ys.length) (h : ∀ j, j < xs.length → xs[j]?.getD 0 = ys[j]?.getD 0) : xs = ys := by
  apply List.ext_getElem hl
  intro j a b
  simpa [List.getElem?_eq_getElem a, List.getElem?_eq_getElem b] using h j a
theorem quiet_sign {b : Bool} {w : World} {a n : Nat} :
    Calls Try.prog 45 #[.bool b] (w.drewN (a + n)) fun e w'' => e = .returned (.int .i64 (if b then 1 else -1)) ∧ ∃ m, w'' = w.drewN (a + m) := by
  cases b
  · exact (sign_no _).mono fun _ _ ⟨he, hm⟩ => ⟨he, n, hm.symm⟩
  · exact (sign_yes _).mono fun _ _ ⟨he, hm⟩ => ⟨he, n, hm.symm⟩
theorem quiet_sign0 {b : Bool} {w : World} {n : Nat} :
    Calls Try.prog 45 #[.bool b] (w.drewN n) fun e w'' => e = .returned (.int .i64 (if b then 1 else -1)) ∧ ∃ m, w'' = w.drewN m := by
  cases b
  · exact (sign_no _).mono fun _ _ ⟨he, hm⟩ => ⟨he, n, hm.symm⟩
  · exact (sign_yes _).mono fun _ _ ⟨he, hm⟩ => ⟨he, n, hm.symm⟩
set_option maxHeartbeats 1000000 in
theorem cmp_any (A B : Option Addr) (c d : Nat) (xs ys : List Nat) (w : World) (h : Dg w A c xs) (h' : Dg w B d ys) (hl : xs.length ≤ 16777216) (hl' : ys.length ≤ 16777216) :
    Calls Try.prog 23 #[.slice A xs.length c, .slice B ys.length d] w fun e w' => e = .returned (.int .i64 (cmpi (val xs) (val ys))) ∧ ∃ n, w' = w.drewN n := by
  have l1 := digs_len_le h.2.1
  have l2 := digs_len_le h'.2.1
  have H := Lib.hid h
  have H' := Lib.hid h'
  clear h h'
  go_enter Try.func23, Try.ntmps23
  go_wp2_with fail
  refine (short_any A c xs _ H.out hl).mono ?_
  rintro e w' ⟨A1, c1, rfl, h1, rfl⟩
  have H1 := Lib.hid h1
  clear h1
  go_wp2_with fail
  refine (short_any B d ys _ H'.out hl').mono ?_
  rintro e w' ⟨B1, d1, rfl, h2, rfl⟩
  have H2 := Lib.hid h2
  clear h2
  have V1 := Lib.hid (val_digs (val xs))
  have V2 := Lib.hid (val_digs (val ys))
  have O1 := Lib.hid (ok_digs (val xs))
  have O2 := Lib.hid (ok_digs (val ys))
  have L1 := Lib.hid (@lt_of_len (val xs) (val ys))
  have L2 := Lib.hid (@lt_of_len (val ys) (val xs))
  generalize digs (val xs) = X at *
  generalize digs (val ys) = Y at *
  by_cases hlt : X.length < Y.length
  · have HF := Lib.hid (cmpi_lt (L1.out hlt))
    have hne : ((X.length : Int) != (Y.length : Int)) = true := by simp; omega
    have hd : decide (Y.length < X.length) = false := by simp; omega
    clear hlt
    go_wp2_with fail
    refine (sign_no _).mono ?_
    rintro e w' ⟨rfl, rfl⟩
    go_wp2
    go_ret
    exact ⟨ret_i HF.out.symm, 0, rfl⟩
  by_cases hgt : Y.length < X.length
  · have HF := Lib.hid (cmpi_gt (L2.out hgt))
    have hne : ((X.length : Int) != (Y.length : Int)) = true := by simp; omega
    have hd : decide (Y.length < X.length) = true := by simp; omega
    clear hlt
    go_wp2_with fail
    refine (sign_yes _).mono ?_
    rintro e w' ⟨rfl, rfl⟩
    go_wp2
    go_ret
    exact ⟨ret_i HF.out.symm, 0, rfl⟩
  have hle : X.length = Y.length := by omega
  have HL := Lib.hid hle
  rw [← hle]
  have hne : ((X.length : Int) != (X.length : Int)) = false := by simp
  clear hlt hgt hle
  go_wp2
  go_loopw [5] (fun i wr => (∃ k : Nat, k ≤ X.length ∧ i = .int .i64 (↑k - 1) ∧ Hid (∀ j, k ≤ j → j < X.length → X[j]?.getD 0 = Y[j]?.getD 0)) ∧ ∃ m, wr = w.drewN m) (fun i _ => (intOf i + 1).toNat)
  case atStart => exact ⟨⟨X.length, Nat.le_refl _, rfl, fun j a b => by omega⟩, 0, rfl⟩
  case round =>
    obtain ⟨⟨k, hk, rfl, hz⟩, m, rfl⟩ := hrel
    rcases k with _ | k
    · rw [show (((0 : Nat) : Int) - 1) = -1 from rfl]
      have e := val_eq_of HL.out (fun j hj => hz j (Nat.zero_le _) hj)
      have HF := Lib.hid (cmpi_eq (a := val xs) (b := val ys) (by rw [← V1.out, ← V2.out, e]))
      clear e
      go_wp2
      go_ret
      exact ⟨ret_i HF.out.symm, _, rfl⟩
    · rw [show (((k + 1 : Nat) : Int) - 1) = (k : Int) from by omega]
      obtain ⟨b, off, hA, hb, hcx⟩ := H1.out.2.2 (by omega)
      obtain ⟨b', off', hB, hb', hcy⟩ := H2.out.2.2 (by have := HL.out; omega)
      have hx := hcx k (by omega)
      have hy := hcy k (by have := HL.out; omega)
      clear hcx hcy
      subst hA hB
      have hq := HL.out
      rcases Nat.lt_trichotomy (X[k]?.getD 0) (Y[k]?.getD 0) with h | h | h
      · have HF := Lib.hid (cmpi_lt (a := val xs) (b := val ys) (by rw [← V1.out, ← V2.out]; exact val_lt_at X Y k HL.out O1.out O2.out (by omega) (fun j a b => hz j (by omega) b) h))
        have t1 : ((X[k]?.getD 0 : Nat) != ((Y[k]?.getD 0 : Nat) : Int)) = true := by simp; omega
        have t2 : decide (Y[k]?.getD 0 < X[k]?.getD 0) = false := by simp; omega
        clear h hq
        go_wp2_with fail
        go_quiet (fail)
        go_wp2_with fail
        go_quiet ((go_at_call 45; exact quiet_sign))
        go_wp2
        go_ret
        exact ⟨ret_i HF.out.symm, _, by first | rfl | (simp only [World.drewN_drewN]; rfl)⟩
      · have HX := Lib.hid h
        have t1 : ((X[k]?.getD 0 : Nat) != ((Y[k]?.getD 0 : Nat) : Int)) = false := by simp; omega
        clear h hq
        go_wp2_with fail
        go_quiet (fail)
        go_wp2_with fail
        go_roundw
        case rel =>
          refine ⟨⟨k, by omega, rfl, fun j a b => ?_⟩, _, rfl⟩
          rcases Nat.eq_or_lt_of_le a with e | e
          · subst e; exact HX.out
          · exact hz j (by omega) b
        case measure => simp [intOf] <;> omega
      · have HF := Lib.hid (cmpi_gt (a := val xs) (b := val ys) (by rw [← V1.out, ← V2.out]; exact val_lt_at Y X k HL.out.symm O2.out O1.out (by omega) (fun j a b => (hz j (by omega) (by omega)).symm) h))
        have t1 : ((X[k]?.getD 0 : Nat) != ((Y[k]?.getD 0 : Nat) : Int)) = true := by simp; omega
        have t2 : decide (Y[k]?.getD 0 < X[k]?.getD 0) = true := by simp; omega
        clear h hq
        go_wp2_with fail
        go_quiet (fail)
        go_wp2_with fail
        go_quiet ((go_at_call 45; exact quiet_sign))
        go_wp2
        go_ret
        exact ⟨ret_i HF.out.symm, _, by first | rfl | (simp only [World.drewN_drewN]; rfl)⟩
end Go.Proofs.Ytceningojnfgpaa
