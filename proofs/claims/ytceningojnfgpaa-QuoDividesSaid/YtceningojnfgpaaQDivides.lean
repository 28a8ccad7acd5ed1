/-
  astrolabelaw03.QuoDivides: any two numbers have the quotient and the rest that the chapter says, or none; and the greatest common divisor.
-/
import Derived.Test.YtceningojnfgpaaExam
import Derived.Test.YtceningojnfgpaaQref3
import Derived.Test.YtceningojnfgpaaQGcds
import Derived.Test.YtceningojnfgpaaHeld
namespace Go.Proofs.Ytceningojnfgpaa
open Go.RowKit
theorem Live.drew_ {w0 w : World} {L : List (Option Addr × Nat × List Nat)} (h : Live w0 w L) : Live w0 w.drew L := h.step (below_drew (Below.refl w.heap.size w))
set_option maxHeartbeats 8000000 in
set_option maxRecDepth 100000 in
theorem qdivides_any (A : Option Addr) (ca : Nat) (xs : List Nat) (B : Option Addr) (cb : Nat) (ys : List Nat)  (w : World) (hX : Dg w A ca xs) (hY : Dg w B cb ys)  :
    Calls Try.prog 3 #[.slice A xs.length ca, .slice B ys.length cb] w fun e w' => e = .returned (.bool true) ∧ Below w.heap.size w w' := by
  have L0 := Lib.hid (((live_start w).add (hX.take 40)).add (hY.take 40))
  have mX := hX.1
  have nX : (0 : Int) ≤ min (xs.length : Int) 40 := by omega
  have kX : min (xs.length : Int) 40 ≤ (ca : Int) := by omega
  have HnX := Lib.hid (show (min (xs.length : Int) 40).toNat = (xs.take 40).length from by rw [List.length_take]; omega)
  have lX : (xs.take 40).length ≤ 40 := by rw [List.length_take]; omega
  have dX := digs_len_le (hX.take 40).2.1
  have oX := Lib.hid (hX.take 40).2.1
  have mY := hY.1
  have nY : (0 : Int) ≤ min (ys.length : Int) 40 := by omega
  have kY : min (ys.length : Int) 40 ≤ (cb : Int) := by omega
  have HnY := Lib.hid (show (min (ys.length : Int) 40).toNat = (ys.take 40).length from by rw [List.length_take]; omega)
  have lY : (ys.take 40).length ≤ 40 := by rw [List.length_take]; omega
  have dY := digs_len_le (hY.take 40).2.1
  have oY := Lib.hid (hY.take 40).2.1
  clear hX mX hY mY
  generalize xs.take 40 = X at *
  generalize ys.take 40 = Y at *
  by_cases h0 : val Y = 0
  · have H0 := Lib.hid h0
    clear h0
    have nX8 : (0 : Int) ≤ min (X.length : Int) 8 := by omega
    have kX8 : min (X.length : Int) 8 ≤ (ca : Int) := by have := HnX.out; omega
    have nY8 : (0 : Int) ≤ min (Y.length : Int) 8 := by omega
    have kY8 : min (Y.length : Int) 8 ≤ (cb : Int) := by have := HnY.out; omega
    have lX8 : (X.take 8).length ≤ 8 := by rw [List.length_take]; omega
    have lY8 : (Y.take 8).length ≤ 8 := by rw [List.length_take]; omega
    go_enter Try.func3, Try.ntmps3
    go_wp2_with fail
    refine (examples_any w).mono ?_
    rintro e w1 ⟨rfl, hb1⟩
    have L1 := Lib.hid (L0.out.step hb1)
    clear hb1
    go_wp2_with fail
    refine Calls.mono (divmod_l_no (xs := X) (ys := Y) L1.out (by simp) (by simp) HnX.out HnY.out H0.out (by omega) (by omega)) ?_
    rintro e w2 ⟨rfl, h1⟩
    have L2 := Lib.hid h1
    clear h1
    go_wp2_with fail
    refine Calls.mono (rdivmod_l_no (xs := X) (ys := Y) L2.out (by simp) (by simp) HnX.out HnY.out H0.out (by omega)) ?_
    rintro e w3 ⟨rfl, h1⟩
    have L3 := Lib.hid h1
    clear h1
    have Lnn := Lib.hid L3.out.none_
    go_wp2_with fail
    refine Calls.mono (digits_l (xs := []) (ys := []) Lnn.out (by simp) (by simp) rfl rfl (by first | omega | simp) (rfl)) ?_
    rintro e w4 ⟨rfl, h1⟩
    have L4 := Lib.hid h1
    clear h1
    go_wp2_with fail
    refine Calls.mono (digits_l (xs := []) (ys := []) L4.out (by simp) (by simp) rfl rfl (by first | omega | simp) (rfl)) ?_
    rintro e w5 ⟨rfl, h1⟩
    have L5 := Lib.hid h1
    clear h1
    have L8 := Lib.hid ((L5.out.add ((L5.out.get (A := A) (c := ca) (xs := X) (by simp)).take 8)).add ((L5.out.get (A := B) (c := cb) (xs := Y) (by simp)).take 8))
    have lg8 := digs_gcd_len (val (X.take 8)) (val (Y.take 8))
    have lx8 := digs_len_le (show ok32 (X.take 8) from fun x hx => oX.out x (List.mem_of_mem_take hx))
    have ly8 := digs_len_le (show ok32 (Y.take 8) from fun x hx => oY.out x (List.mem_of_mem_take hx))
    have H8X := Lib.hid (show (min (X.length : Int) 8).toNat = (X.take 8).length by rw [List.length_take]; omega)
    have H8Y := Lib.hid (show (min (Y.length : Int) 8).toNat = (Y.take 8).length by rw [List.length_take]; omega)
    go_wp2_with fail
    rw [HnX.out, HnY.out]
    have LD := Lib.hid L8.out.drew_
    refine wp_region_any (by kernel_rfl) ?_
    try (change wpAny _ _ _ _ _ _ _ (World.drew _))
    refine wpAny_take (i := 0) (v := ?_) rfl (by kernel_rfl) (by kernel_rfl) (by kernel_rfl) (fun _ _ _ h => h) (Or.inl ⟨by rfl, ?_⟩) ?_
    rotate_left
    · (intro w; go_simp <;> with_reducible rfl)
    refine wpAny_take (i := 1) (v := ?_) rfl (by kernel_rfl) (by kernel_rfl) (by kernel_rfl) (fun _ _ _ h => h) (Or.inl ⟨by rfl, ?_⟩) ?_
    rotate_left
    · (intro w; go_simp <;> with_reducible rfl)
    refine wpAny_take (i := 2) (v := ?_) rfl (by kernel_rfl) (by kernel_rfl) (by kernel_rfl) (fun _ _ _ h => h) (Or.inl ⟨by rfl, ?_⟩) ?_
    rotate_left
    · (intro w; go_simp <;> with_reducible rfl)
    refine wpAny_take (i := 3) (v := ?_) rfl (by kernel_rfl) (by kernel_rfl) (by kernel_rfl) (fun _ _ _ h => h) (Or.inl ⟨by rfl, ?_⟩) ?_
    rotate_left
    · (intro w; go_simp <;> with_reducible rfl)
    refine wpAny_take (i := 4) (v := ?_) rfl (by kernel_rfl) (by kernel_rfl) (by kernel_rfl) (fun _ _ _ h => h) (Or.inl ⟨by rfl, ?_⟩) ?_
    rotate_left
    · (intro w; go_simp <;> with_reducible rfl)
    refine wpAny_take (i := 5) (v := ?_) rfl (by kernel_rfl) (by kernel_rfl) (by kernel_rfl) (fun _ _ _ h => h) (Or.inl ⟨by rfl, ?_⟩) ?_
    rotate_left
    · (intro w; go_simp <;> with_reducible rfl)
    refine wpAny_take (i := 6) (v := ?_) rfl (by kernel_rfl) (by kernel_rfl) (by kernel_rfl) (fun _ _ _ h => h) (Or.inl ⟨by rfl, ?_⟩) ?_
    rotate_left
    · (intro w; go_simp <;> with_reducible rfl)
    refine wpAny_take (i := 7) (v := ?_) rfl (by kernel_rfl) (by kernel_rfl) (by kernel_rfl) (fun _ _ _ h => h) (Or.inl ⟨by rfl, ?_⟩) ?_
    rotate_left
    · (intro w; go_simp <;> with_reducible rfl)
    refine wpAny_take (i := 8) (v := ?_) rfl (by kernel_rfl) (by kernel_rfl) (by kernel_rfl) (fun _ _ _ h => h) (Or.inl ⟨by rfl, ?_⟩) ?_
    rotate_left
    · (intro w; go_simp <;> with_reducible rfl)
    refine wpAny_take (i := 9) (v := ?_) rfl (by kernel_rfl) (by kernel_rfl) (by kernel_rfl) (fun _ _ _ h => h) (Or.inl ⟨by rfl, ?_⟩) ?_
    rotate_left
    · (intro w; go_simp <;> with_reducible rfl)
    refine wpAny_take (i := 11) (v := ?_) rfl (by kernel_rfl) (by kernel_rfl) (by kernel_rfl) (fun _ _ _ h => h) (Or.inl ⟨by rfl, ?_⟩) ?_
    rotate_left
    · (intro w; go_simp <;> with_reducible rfl)
    refine wpAny_take (i := 12) (v := ?_) rfl (by kernel_rfl) (by kernel_rfl) (by kernel_rfl) (fun _ _ _ h => h) (Or.inl ⟨by rfl, ?_⟩) ?_
    rotate_left
    · (intro w; go_simp <;> with_reducible rfl)
    refine wpAny_take (i := 13) (v := ?_) rfl (by kernel_rfl) (by kernel_rfl) (by kernel_rfl) (fun _ _ _ h => h) (Or.inl ⟨by rfl, ?_⟩) ?_
    rotate_left
    · (intro w; go_simp <;> with_reducible rfl)
    refine wpAny_take (i := 14) (v := ?_) rfl (by kernel_rfl) (by kernel_rfl) (by kernel_rfl) (fun _ _ _ h => h) (Or.inl ⟨by rfl, ?_⟩) ?_
    rotate_left
    · (intro w; go_simp <;> with_reducible rfl)
    refine wpAny_take (i := 15) (v := ?_) rfl (by kernel_rfl) (by kernel_rfl) (by kernel_rfl) (fun _ _ _ h => h) (Or.inl ⟨by rfl, ?_⟩) ?_
    rotate_left
    · (intro w; go_simp <;> with_reducible rfl)
    refine wpAny_take (i := 16) (v := ?_) rfl (by kernel_rfl) (by kernel_rfl) (by kernel_rfl) (fun _ _ _ h => h) (Or.inl ⟨by rfl, ?_⟩) ?_
    rotate_left
    · (intro w; go_simp <;> with_reducible rfl)
    refine wpAny_take (i := 17) (v := ?_) rfl (by kernel_rfl) (by kernel_rfl) (by kernel_rfl) (fun _ _ _ h => h) (Or.inl ⟨by rfl, ?_⟩) ?_
    rotate_left
    · (intro w; go_simp <;> with_reducible rfl)
    refine wpAny_take (i := 18) (v := ?_) rfl (by kernel_rfl) (by kernel_rfl) (by kernel_rfl) (fun _ _ _ h => h) (Or.inl ⟨by rfl, ?_⟩) ?_
    rotate_left
    · (intro w; go_simp <;> with_reducible rfl)
    refine wpAny_take (i := 19) (v := ?_) rfl (by kernel_rfl) (by kernel_rfl) (by kernel_rfl) (fun _ _ _ h => h) (Or.inl ⟨by rfl, ?_⟩) ?_
    rotate_left
    · (intro w; go_simp <;> with_reducible rfl)
    refine wpAny_take (i := 20) (v := ?_) rfl (by kernel_rfl) (by kernel_rfl) (by kernel_rfl) (fun _ _ _ h => h) (Or.inl ⟨by rfl, ?_⟩) ?_
    rotate_left
    · (intro w; go_simp <;> with_reducible rfl)
    refine wpAny_ready (rs := [10]) (by kernel_rfl) (by simp) ?_
    refine AllReady.cons rfl (fun K hK => ?_) ?_
    · go_simp
      go_wp2_with (go_at_call 15; refine Calls.mono (gcd_l (xs := X.take 8) (ys := Y.take 8) (x := val (X.take 8)) (y := val (Y.take 8)) (A := A) (c := ca) (B := B) (d := cb) (n := (min (X.length : Int) 8).toNat) (m := (min (Y.length : Int) 8).toNat) LD.out (by simp) (by simp) H8X.out H8Y.out rfl rfl (by omega) (by omega)) ?_; rintro e wg10 ⟨Ag10, cg10, rfl, h1⟩; (have G1 := Lib.hid h1); clear h1)
      try (refine hK _ _ ?_; clear hK K)
      refine wpAny_ready (rs := [21]) (by kernel_rfl) (by simp) ?_
      refine AllReady.cons rfl (fun K hK => ?_) ?_
      · go_simp
        go_wp2_with (go_at_call 16; refine Calls.mono (rgcd_l (xs := X.take 8) (ys := Y.take 8) (x := val (X.take 8)) (y := val (Y.take 8)) (A := A) (c := ca) (B := B) (d := cb) (n := (min (X.length : Int) 8).toNat) (m := (min (Y.length : Int) 8).toNat) G1.out (by simp) (by simp) H8X.out H8Y.out rfl rfl (by omega) (by omega)) ?_; rintro e wg21 ⟨Ag21, cg21, rfl, h1⟩; (have R2 := Lib.hid h1); clear h1)
        try (refine hK _ _ ?_; clear hK K)
        refine wpAny_ready (rs := [22]) (by kernel_rfl) (by simp) ?_
        refine AllReady.cons rfl (fun K hK => ?_) ?_
        · go_simp
          go_wp2_with (go_at_call 14; refine Calls.mono (digits_l (xs := digs (Nat.gcd (val (X.take 8)) (val (Y.take 8)))) (ys := digs (Nat.gcd (val (X.take 8)) (val (Y.take 8)))) R2.out (by simp) (by simp) rfl rfl (by omega) rfl) ?_; rintro e wd ⟨rfl, h1⟩; (have F := Lib.hid h1); clear h1)
          try (refine hK _ _ ?_; clear hK K)
          refine wpAny_take (i := 23) (v := ?_) rfl (by kernel_rfl) (by kernel_rfl) (by kernel_rfl) (fun _ _ _ h => h) (Or.inl ⟨by rfl, ?_⟩) ?_
          rotate_left
          · (intro w; go_simp <;> with_reducible rfl)
          refine wpAny_done (by kernel_rfl) ?_ _
          go_wp2
          go_ret
          exact ⟨rfl, F.out.1⟩
        exact AllReady.nil
      exact AllReady.nil
    exact AllReady.nil
  · have H0 := Lib.hid h0
    clear h0
    have nX8 : (0 : Int) ≤ min (X.length : Int) 8 := by omega
    have kX8 : min (X.length : Int) 8 ≤ (ca : Int) := by have := HnX.out; omega
    have nY8 : (0 : Int) ≤ min (Y.length : Int) 8 := by omega
    have kY8 : min (Y.length : Int) 8 ≤ (cb : Int) := by have := HnY.out; omega
    have lX8 : (X.take 8).length ≤ 8 := by rw [List.length_take]; omega
    have lY8 : (Y.take 8).length ≤ 8 := by rw [List.length_take]; omega
    go_enter Try.func3, Try.ntmps3
    go_wp2_with fail
    refine (examples_any w).mono ?_
    rintro e w1 ⟨rfl, hb1⟩
    have L1 := Lib.hid (L0.out.step hb1)
    clear hb1
    go_wp2_with fail
    refine Calls.mono (divmod_l (xs := X) (ys := Y) (x := val X) (y := val Y) L1.out (by simp) (by simp) HnX.out HnY.out rfl rfl (by omega) (by omega) H0.out) ?_
    rintro e w2 ⟨A2, c2, B2, d2, rfl, h1⟩
    have L2 := Lib.hid h1
    clear h1
    have lt2_0 := digs_len_mono _ _ (Nat.div_le_self (val X) (val Y))
    have lt2_1 := digs_len_mono _ _ (Nat.mod_le (val X) (val Y))
    go_wp2_with fail
    refine Calls.mono (rdivmod_l (xs := X) (ys := Y) (x := val X) (y := val Y) L2.out (by simp) (by simp) HnX.out HnY.out rfl rfl (by omega) (by omega) H0.out) ?_
    rintro e w3 ⟨A3, c3, B3, d3, rfl, h1⟩
    have L3 := Lib.hid h1
    clear h1
    go_wp2_with fail
    refine Calls.mono (digits_l (xs := digs (val X / val Y)) (ys := digs (val X / val Y)) L3.out (by simp) (by simp) rfl rfl (by first | omega | simp) (rfl)) ?_
    rintro e w4 ⟨rfl, h1⟩
    have L4 := Lib.hid h1
    clear h1
    go_wp2_with fail
    refine Calls.mono (digits_l (xs := digs (val X % val Y)) (ys := digs (val X % val Y)) L4.out (by simp) (by simp) rfl rfl (by first | omega | simp) (rfl)) ?_
    rintro e w5 ⟨rfl, h1⟩
    have L5 := Lib.hid h1
    clear h1
    have L8 := Lib.hid ((L5.out.add ((L5.out.get (A := A) (c := ca) (xs := X) (by simp)).take 8)).add ((L5.out.get (A := B) (c := cb) (xs := Y) (by simp)).take 8))
    have lg8 := digs_gcd_len (val (X.take 8)) (val (Y.take 8))
    have lx8 := digs_len_le (show ok32 (X.take 8) from fun x hx => oX.out x (List.mem_of_mem_take hx))
    have ly8 := digs_len_le (show ok32 (Y.take 8) from fun x hx => oY.out x (List.mem_of_mem_take hx))
    have H8X := Lib.hid (show (min (X.length : Int) 8).toNat = (X.take 8).length by rw [List.length_take]; omega)
    have H8Y := Lib.hid (show (min (Y.length : Int) 8).toNat = (Y.take 8).length by rw [List.length_take]; omega)
    go_wp2_with fail
    rw [HnX.out, HnY.out]
    have LD := Lib.hid L8.out.drew_
    refine wp_region_any (by kernel_rfl) ?_
    try (change wpAny _ _ _ _ _ _ _ (World.drew _))
    refine wpAny_take (i := 0) (v := ?_) rfl (by kernel_rfl) (by kernel_rfl) (by kernel_rfl) (fun _ _ _ h => h) (Or.inl ⟨by rfl, ?_⟩) ?_
    rotate_left
    · (intro w; go_simp <;> with_reducible rfl)
    refine wpAny_take (i := 1) (v := ?_) rfl (by kernel_rfl) (by kernel_rfl) (by kernel_rfl) (fun _ _ _ h => h) (Or.inl ⟨by rfl, ?_⟩) ?_
    rotate_left
    · (intro w; go_simp <;> with_reducible rfl)
    refine wpAny_take (i := 2) (v := ?_) rfl (by kernel_rfl) (by kernel_rfl) (by kernel_rfl) (fun _ _ _ h => h) (Or.inl ⟨by rfl, ?_⟩) ?_
    rotate_left
    · (intro w; go_simp <;> with_reducible rfl)
    refine wpAny_take (i := 3) (v := ?_) rfl (by kernel_rfl) (by kernel_rfl) (by kernel_rfl) (fun _ _ _ h => h) (Or.inl ⟨by rfl, ?_⟩) ?_
    rotate_left
    · (intro w; go_simp <;> with_reducible rfl)
    refine wpAny_take (i := 4) (v := ?_) rfl (by kernel_rfl) (by kernel_rfl) (by kernel_rfl) (fun _ _ _ h => h) (Or.inl ⟨by rfl, ?_⟩) ?_
    rotate_left
    · (intro w; go_simp <;> with_reducible rfl)
    refine wpAny_take (i := 5) (v := ?_) rfl (by kernel_rfl) (by kernel_rfl) (by kernel_rfl) (fun _ _ _ h => h) (Or.inl ⟨by rfl, ?_⟩) ?_
    rotate_left
    · (intro w; go_simp <;> with_reducible rfl)
    refine wpAny_take (i := 6) (v := ?_) rfl (by kernel_rfl) (by kernel_rfl) (by kernel_rfl) (fun _ _ _ h => h) (Or.inl ⟨by rfl, ?_⟩) ?_
    rotate_left
    · (intro w; go_simp <;> with_reducible rfl)
    refine wpAny_take (i := 7) (v := ?_) rfl (by kernel_rfl) (by kernel_rfl) (by kernel_rfl) (fun _ _ _ h => h) (Or.inl ⟨by rfl, ?_⟩) ?_
    rotate_left
    · (intro w; go_simp <;> with_reducible rfl)
    refine wpAny_take (i := 8) (v := ?_) rfl (by kernel_rfl) (by kernel_rfl) (by kernel_rfl) (fun _ _ _ h => h) (Or.inl ⟨by rfl, ?_⟩) ?_
    rotate_left
    · (intro w; go_simp <;> with_reducible rfl)
    refine wpAny_take (i := 9) (v := ?_) rfl (by kernel_rfl) (by kernel_rfl) (by kernel_rfl) (fun _ _ _ h => h) (Or.inl ⟨by rfl, ?_⟩) ?_
    rotate_left
    · (intro w; go_simp <;> with_reducible rfl)
    refine wpAny_take (i := 11) (v := ?_) rfl (by kernel_rfl) (by kernel_rfl) (by kernel_rfl) (fun _ _ _ h => h) (Or.inl ⟨by rfl, ?_⟩) ?_
    rotate_left
    · (intro w; go_simp <;> with_reducible rfl)
    refine wpAny_take (i := 12) (v := ?_) rfl (by kernel_rfl) (by kernel_rfl) (by kernel_rfl) (fun _ _ _ h => h) (Or.inl ⟨by rfl, ?_⟩) ?_
    rotate_left
    · (intro w; go_simp <;> with_reducible rfl)
    refine wpAny_take (i := 13) (v := ?_) rfl (by kernel_rfl) (by kernel_rfl) (by kernel_rfl) (fun _ _ _ h => h) (Or.inl ⟨by rfl, ?_⟩) ?_
    rotate_left
    · (intro w; go_simp <;> with_reducible rfl)
    refine wpAny_take (i := 14) (v := ?_) rfl (by kernel_rfl) (by kernel_rfl) (by kernel_rfl) (fun _ _ _ h => h) (Or.inl ⟨by rfl, ?_⟩) ?_
    rotate_left
    · (intro w; go_simp <;> with_reducible rfl)
    refine wpAny_take (i := 15) (v := ?_) rfl (by kernel_rfl) (by kernel_rfl) (by kernel_rfl) (fun _ _ _ h => h) (Or.inl ⟨by rfl, ?_⟩) ?_
    rotate_left
    · (intro w; go_simp <;> with_reducible rfl)
    refine wpAny_take (i := 16) (v := ?_) rfl (by kernel_rfl) (by kernel_rfl) (by kernel_rfl) (fun _ _ _ h => h) (Or.inl ⟨by rfl, ?_⟩) ?_
    rotate_left
    · (intro w; go_simp <;> with_reducible rfl)
    refine wpAny_take (i := 17) (v := ?_) rfl (by kernel_rfl) (by kernel_rfl) (by kernel_rfl) (fun _ _ _ h => h) (Or.inl ⟨by rfl, ?_⟩) ?_
    rotate_left
    · (intro w; go_simp <;> with_reducible rfl)
    refine wpAny_take (i := 18) (v := ?_) rfl (by kernel_rfl) (by kernel_rfl) (by kernel_rfl) (fun _ _ _ h => h) (Or.inl ⟨by rfl, ?_⟩) ?_
    rotate_left
    · (intro w; go_simp <;> with_reducible rfl)
    refine wpAny_take (i := 19) (v := ?_) rfl (by kernel_rfl) (by kernel_rfl) (by kernel_rfl) (fun _ _ _ h => h) (Or.inl ⟨by rfl, ?_⟩) ?_
    rotate_left
    · (intro w; go_simp <;> with_reducible rfl)
    refine wpAny_take (i := 20) (v := ?_) rfl (by kernel_rfl) (by kernel_rfl) (by kernel_rfl) (fun _ _ _ h => h) (Or.inl ⟨by rfl, ?_⟩) ?_
    rotate_left
    · (intro w; go_simp <;> with_reducible rfl)
    refine wpAny_ready (rs := [10]) (by kernel_rfl) (by simp) ?_
    refine AllReady.cons rfl (fun K hK => ?_) ?_
    · go_simp
      go_wp2_with (go_at_call 15; refine Calls.mono (gcd_l (xs := X.take 8) (ys := Y.take 8) (x := val (X.take 8)) (y := val (Y.take 8)) (A := A) (c := ca) (B := B) (d := cb) (n := (min (X.length : Int) 8).toNat) (m := (min (Y.length : Int) 8).toNat) LD.out (by simp) (by simp) H8X.out H8Y.out rfl rfl (by omega) (by omega)) ?_; rintro e wg10 ⟨Ag10, cg10, rfl, h1⟩; (have G1 := Lib.hid h1); clear h1)
      try (refine hK _ _ ?_; clear hK K)
      refine wpAny_ready (rs := [21]) (by kernel_rfl) (by simp) ?_
      refine AllReady.cons rfl (fun K hK => ?_) ?_
      · go_simp
        go_wp2_with (go_at_call 16; refine Calls.mono (rgcd_l (xs := X.take 8) (ys := Y.take 8) (x := val (X.take 8)) (y := val (Y.take 8)) (A := A) (c := ca) (B := B) (d := cb) (n := (min (X.length : Int) 8).toNat) (m := (min (Y.length : Int) 8).toNat) G1.out (by simp) (by simp) H8X.out H8Y.out rfl rfl (by omega) (by omega)) ?_; rintro e wg21 ⟨Ag21, cg21, rfl, h1⟩; (have R2 := Lib.hid h1); clear h1)
        try (refine hK _ _ ?_; clear hK K)
        refine wpAny_ready (rs := [22]) (by kernel_rfl) (by simp) ?_
        refine AllReady.cons rfl (fun K hK => ?_) ?_
        · go_simp
          go_wp2_with (go_at_call 14; refine Calls.mono (digits_l (xs := digs (Nat.gcd (val (X.take 8)) (val (Y.take 8)))) (ys := digs (Nat.gcd (val (X.take 8)) (val (Y.take 8)))) R2.out (by simp) (by simp) rfl rfl (by omega) rfl) ?_; rintro e wd ⟨rfl, h1⟩; (have F := Lib.hid h1); clear h1)
          try (refine hK _ _ ?_; clear hK K)
          refine wpAny_take (i := 23) (v := ?_) rfl (by kernel_rfl) (by kernel_rfl) (by kernel_rfl) (fun _ _ _ h => h) (Or.inl ⟨by rfl, ?_⟩) ?_
          rotate_left
          · (intro w; go_simp <;> with_reducible rfl)
          refine wpAny_done (by kernel_rfl) ?_ _
          go_wp2
          go_ret
          exact ⟨rfl, F.out.1⟩
        exact AllReady.nil
      exact AllReady.nil
    exact AllReady.nil
end Go.Proofs.Ytceningojnfgpaa
