/-
  astrolabelaw01.NatMoves: any number's bits, and what it is moved up or down by any way, are as the chapter says, or there is none.
-/
import Derived.Test.YtjnbdbgggcfbjaaExam
import Derived.Test.YtjnbdbgggcfbjaaLive3
namespace Go.Proofs.Ytjnbdbgggcfbjaa
open Go.RowKit
set_option maxHeartbeats 8000000 in
set_option maxRecDepth 100000 in
theorem moves_any (A : Option Addr) (ca : Nat) (xs : List Nat) (n i : Int) (s : Nat) (w : World) (hX : Dg w A ca xs) (hn : -9223372036854775808 ≤ n) (hn' : n ≤ 9223372036854775807) (hi : -9223372036854775808 ≤ i) (hi' : i ≤ 9223372036854775807) (hs : s < 18446744073709551616) :
    Calls Try.prog 4 #[.slice A xs.length ca, .int .i64 n, .int .i64 i, .int .u64 s] w fun e w' => e = .returned (.bool true) ∧ Below w.heap.size w w' := by
  have L0 := Lib.hid ((live_start w).add (hX.take 60))
  have mX := hX.1
  have nX : (0 : Int) ≤ min (xs.length : Int) 60 := by omega
  have kX : min (xs.length : Int) 60 ≤ (ca : Int) := by omega
  have HnX := Lib.hid (show (min (xs.length : Int) 60).toNat = (xs.take 60).length from by rw [List.length_take]; omega)
  have lX : (xs.take 60).length ≤ 60 := by rw [List.length_take]; omega
  have dX := digs_len_le (hX.take 60).2.1
  have oX := Lib.hid (hX.take 60).2.1
  clear hX mX
  generalize xs.take 60 = X at *
  have HS := Lib.hid hs
  clear hs
  obtain ⟨sq, hq⟩ : ∃ q : Int, (small? (val X) : Int) = q := ⟨_, rfl⟩
  obtain ⟨sp, hb⟩ : ∃ q, decide (val X < 18446744073709551616) = q := ⟨_, rfl⟩
  obtain ⟨bl, hl⟩ : ∃ q : Int, (blen (val X) : Int) = q := ⟨_, rfl⟩
  obtain ⟨bb, hbb⟩ : ∃ q, bitAt (val X) i = q := ⟨_, rfl⟩
  have HQ := Lib.hid hq
  have HB := Lib.hid hb
  have HL := Lib.hid hl
  have HI := Lib.hid hbb
  clear hq hb hl hbb
  by_cases h0 : n < 0
  · have d0 : n ≤ -1 := by omega
    clear h0
    go_enter Try.func4, Try.ntmps4
    go_wp2_with fail
    refine (examples_any w).mono ?_
    rintro e w1 ⟨rfl, hb1⟩
    have L1 := Lib.hid (L0.out.step hb1)
    clear hb1
    go_wp2_with fail
    refine Calls.mono (shl_l_no (xs := X) L1.out (by simp) HnX.out (i := n) (by omega)) ?_
    rintro e w2 ⟨rfl, h1⟩
    have L2 := Lib.hid h1
    clear h1
    go_wp2_with fail
    refine Calls.mono (rshl_l_no (xs := X) L2.out (by simp) HnX.out (i := n) (by omega)) ?_
    rintro e w3 ⟨rfl, h1⟩
    have L3 := Lib.hid h1
    clear h1
    have Lnn := Lib.hid L3.out.none_
    go_wp2_with fail
    refine Calls.mono (digits_l (xs := []) (ys := []) Lnn.out (by simp) (by simp) rfl rfl (by first | omega | simp) (rfl)) ?_
    rintro e w4 ⟨rfl, h1⟩
    have L4 := Lib.hid h1
    clear h1
    go_wp2_with fail
    refine Calls.mono (shr_l_neg (xs := X) (x := val X) L4.out (by simp) HnX.out rfl (by omega) (i := n) (by omega)) ?_
    rintro e w5 ⟨A5, c5, rfl, h1⟩
    have L5 := Lib.hid h1
    clear h1
    go_wp2_with fail
    refine Calls.mono (rshr_l_neg (xs := X) (x := val X) L5.out (by simp) HnX.out rfl (by omega) (i := n) (by omega)) ?_
    rintro e w6 ⟨A6, c6, rfl, h1⟩
    have L6 := Lib.hid h1
    clear h1
    go_wp2_with fail
    refine Calls.mono (digits_l (xs := digs (val X)) (ys := digs (val X)) L6.out (by simp) (by simp) rfl rfl (by first | omega | simp) (rfl)) ?_
    rintro e w7 ⟨rfl, h1⟩
    have L7 := Lib.hid h1
    clear h1
    go_wp2_with fail
    refine Calls.mono (trim_l (xs := X) (x := val X) L7.out (by simp) HnX.out rfl (by omega)) ?_
    rintro e w8 ⟨A8, c8, rfl, h1⟩
    have L8 := Lib.hid h1
    clear h1
    go_wp2_with fail
    refine Calls.mono (rtrim_l (xs := X) (x := val X) L8.out (by simp) HnX.out rfl (by omega)) ?_
    rintro e w9 ⟨A9, c9, rfl, h1⟩
    have L9 := Lib.hid h1
    clear h1
    go_wp2_with fail
    refine Calls.mono (digits_l (xs := digs (val X)) (ys := digs (val X)) L9.out (by simp) (by simp) rfl rfl (by first | omega | simp) (rfl)) ?_
    rintro e w10 ⟨rfl, h1⟩
    have L10 := Lib.hid h1
    clear h1
    go_wp2_with fail
    refine Calls.mono (from_l   L10.out     (i := (s : Int)) (k := s) rfl HS.out) ?_
    rintro e w11 ⟨A11, c11, rfl, h1⟩
    have L11 := Lib.hid h1
    clear h1
    go_wp2_with fail
    refine Calls.mono (rfrom_l   L11.out     (i := (s : Int)) (k := s) rfl HS.out) ?_
    rintro e w12 ⟨A12, c12, rfl, h1⟩
    have L12 := Lib.hid h1
    clear h1
    have ds := digs_small HS.out
    go_wp2_with fail
    refine Calls.mono (digits_l (xs := digs (s)) (ys := digs (s)) L12.out (by simp) (by simp) rfl rfl (by first | omega | simp) (rfl)) ?_
    rintro e w13 ⟨rfl, h1⟩
    have L13 := Lib.hid h1
    clear h1
    go_wp2_with fail
    refine Calls.mono (small_g (xs := X) (x := val X) L13.out (by simp) HnX.out rfl (by omega) (q := sq) (p := sp) HQ.out HB.out) ?_
    rintro e w14 ⟨rfl, h1⟩
    have L14 := Lib.hid h1
    clear h1
    go_wp2_with fail
    refine Calls.mono (rsmall_g (xs := X) (x := val X) L14.out (by simp) HnX.out rfl (by omega) (q := sq) (p := sp) HQ.out HB.out) ?_
    rintro e w15 ⟨rfl, h1⟩
    have L15 := Lib.hid h1
    clear h1
    go_wp2_with fail
    refine Calls.mono (bits_l (xs := X) (x := val X) L15.out (by simp) HnX.out rfl (by omega) (q := bl) HL.out) ?_
    rintro e w16 ⟨rfl, h1⟩
    have L16 := Lib.hid h1
    clear h1
    go_wp2_with fail
    refine Calls.mono (rbits_l (xs := X) (x := val X) L16.out (by simp) HnX.out rfl (by omega) (q := bl) HL.out) ?_
    rintro e w17 ⟨rfl, h1⟩
    have L17 := Lib.hid h1
    clear h1
    go_wp2_with fail
    refine Calls.mono (bit_l (xs := X) (x := val X) L17.out (by simp) HnX.out rfl (by omega) (i := i) (q := bb) hi hi' HI.out) ?_
    rintro e w18 ⟨rfl, h1⟩
    have L18 := Lib.hid h1
    clear h1
    go_wp2_with fail
    refine Calls.mono (rbit_l (xs := X) (x := val X) L18.out (by simp) HnX.out rfl (by omega) (i := i) (q := bb) hi hi' HI.out) ?_
    rintro e w19 ⟨rfl, h1⟩
    have L19 := Lib.hid h1
    clear h1
    go_wp2
    go_ret
    exact ⟨rfl, L19.out.1⟩
  obtain ⟨N, rfl⟩ := Int.eq_ofNat_of_zero_le (show 0 ≤ n by omega)
  by_cases h1 : N ≤ 100000
  · clear h0
    go_enter Try.func4, Try.ntmps4
    go_wp2_with fail
    refine (examples_any w).mono ?_
    rintro e w1 ⟨rfl, hb1⟩
    have L1 := Lib.hid (L0.out.step hb1)
    clear hb1
    go_wp2_with fail
    refine Calls.mono (shl_l (xs := X) (x := val X) L1.out (by simp) HnX.out rfl (by omega) (i := (N : Int)) (k := N) rfl (by omega)) ?_
    rintro e w2 ⟨A2, c2, rfl, h1⟩
    have L2 := Lib.hid h1
    clear h1
    have len2 := digs_shl_len (val X) N
    go_wp2_with fail
    refine Calls.mono (rshl_l (xs := X) (x := val X) L2.out (by simp) HnX.out rfl (by omega) (i := (N : Int)) (k := N) rfl (by omega)) ?_
    rintro e w3 ⟨A3, c3, rfl, h1⟩
    have L3 := Lib.hid h1
    clear h1
    have len3 := digs_shl_len (val X) N
    have lN : N / 32 ≤ 3125 := by omega
    go_wp2_with fail
    refine Calls.mono (digits_l (xs := digs ((val X) * 2 ^ N)) (ys := digs ((val X) * 2 ^ N)) L3.out (by simp) (by simp) rfl rfl (by first | omega | simp) (rfl)) ?_
    rintro e w4 ⟨rfl, h1⟩
    have L4 := Lib.hid h1
    clear h1
    go_wp2_with fail
    refine Calls.mono (shr_l (xs := X) (x := val X) L4.out (by simp) HnX.out rfl (by omega) (i := (N : Int)) (k := N) rfl (by omega)) ?_
    rintro e w5 ⟨A5, c5, rfl, h1⟩
    have L5 := Lib.hid h1
    clear h1
    have len5 := digs_shr_len (val X) N
    go_wp2_with fail
    refine Calls.mono (rshr_l (xs := X) (x := val X) L5.out (by simp) HnX.out rfl (by omega) (i := (N : Int)) (k := N) rfl (by omega)) ?_
    rintro e w6 ⟨A6, c6, rfl, h1⟩
    have L6 := Lib.hid h1
    clear h1
    go_wp2_with fail
    refine Calls.mono (digits_l (xs := digs ((val X) / 2 ^ N)) (ys := digs ((val X) / 2 ^ N)) L6.out (by simp) (by simp) rfl rfl (by first | omega | simp) (rfl)) ?_
    rintro e w7 ⟨rfl, h1⟩
    have L7 := Lib.hid h1
    clear h1
    go_wp2_with fail
    refine Calls.mono (trim_l (xs := X) (x := val X) L7.out (by simp) HnX.out rfl (by omega)) ?_
    rintro e w8 ⟨A8, c8, rfl, h1⟩
    have L8 := Lib.hid h1
    clear h1
    go_wp2_with fail
    refine Calls.mono (rtrim_l (xs := X) (x := val X) L8.out (by simp) HnX.out rfl (by omega)) ?_
    rintro e w9 ⟨A9, c9, rfl, h1⟩
    have L9 := Lib.hid h1
    clear h1
    go_wp2_with fail
    refine Calls.mono (digits_l (xs := digs (val X)) (ys := digs (val X)) L9.out (by simp) (by simp) rfl rfl (by first | omega | simp) (rfl)) ?_
    rintro e w10 ⟨rfl, h1⟩
    have L10 := Lib.hid h1
    clear h1
    go_wp2_with fail
    refine Calls.mono (from_l   L10.out     (i := (s : Int)) (k := s) rfl HS.out) ?_
    rintro e w11 ⟨A11, c11, rfl, h1⟩
    have L11 := Lib.hid h1
    clear h1
    go_wp2_with fail
    refine Calls.mono (rfrom_l   L11.out     (i := (s : Int)) (k := s) rfl HS.out) ?_
    rintro e w12 ⟨A12, c12, rfl, h1⟩
    have L12 := Lib.hid h1
    clear h1
    have ds := digs_small HS.out
    go_wp2_with fail
    refine Calls.mono (digits_l (xs := digs (s)) (ys := digs (s)) L12.out (by simp) (by simp) rfl rfl (by first | omega | simp) (rfl)) ?_
    rintro e w13 ⟨rfl, h1⟩
    have L13 := Lib.hid h1
    clear h1
    go_wp2_with fail
    refine Calls.mono (small_g (xs := X) (x := val X) L13.out (by simp) HnX.out rfl (by omega) (q := sq) (p := sp) HQ.out HB.out) ?_
    rintro e w14 ⟨rfl, h1⟩
    have L14 := Lib.hid h1
    clear h1
    go_wp2_with fail
    refine Calls.mono (rsmall_g (xs := X) (x := val X) L14.out (by simp) HnX.out rfl (by omega) (q := sq) (p := sp) HQ.out HB.out) ?_
    rintro e w15 ⟨rfl, h1⟩
    have L15 := Lib.hid h1
    clear h1
    go_wp2_with fail
    refine Calls.mono (bits_l (xs := X) (x := val X) L15.out (by simp) HnX.out rfl (by omega) (q := bl) HL.out) ?_
    rintro e w16 ⟨rfl, h1⟩
    have L16 := Lib.hid h1
    clear h1
    go_wp2_with fail
    refine Calls.mono (rbits_l (xs := X) (x := val X) L16.out (by simp) HnX.out rfl (by omega) (q := bl) HL.out) ?_
    rintro e w17 ⟨rfl, h1⟩
    have L17 := Lib.hid h1
    clear h1
    go_wp2_with fail
    refine Calls.mono (bit_l (xs := X) (x := val X) L17.out (by simp) HnX.out rfl (by omega) (i := i) (q := bb) hi hi' HI.out) ?_
    rintro e w18 ⟨rfl, h1⟩
    have L18 := Lib.hid h1
    clear h1
    go_wp2_with fail
    refine Calls.mono (rbit_l (xs := X) (x := val X) L18.out (by simp) HnX.out rfl (by omega) (i := i) (q := bb) hi hi' HI.out) ?_
    rintro e w19 ⟨rfl, h1⟩
    have L19 := Lib.hid h1
    clear h1
    go_wp2
    go_ret
    exact ⟨rfl, L19.out.1⟩
  · have d1 : 100000 < (N : Int) := by omega
    clear h0 h1
    go_enter Try.func4, Try.ntmps4
    go_wp2_with fail
    refine (examples_any w).mono ?_
    rintro e w1 ⟨rfl, hb1⟩
    have L1 := Lib.hid (L0.out.step hb1)
    clear hb1
    go_wp2_with fail
    refine Calls.mono (shl_l_no (xs := X) L1.out (by simp) HnX.out (i := (N : Int)) (by omega)) ?_
    rintro e w2 ⟨rfl, h1⟩
    have L2 := Lib.hid h1
    clear h1
    go_wp2_with fail
    refine Calls.mono (rshl_l_no (xs := X) L2.out (by simp) HnX.out (i := (N : Int)) (by omega)) ?_
    rintro e w3 ⟨rfl, h1⟩
    have L3 := Lib.hid h1
    clear h1
    have Lnn := Lib.hid L3.out.none_
    go_wp2_with fail
    refine Calls.mono (digits_l (xs := []) (ys := []) Lnn.out (by simp) (by simp) rfl rfl (by first | omega | simp) (rfl)) ?_
    rintro e w4 ⟨rfl, h1⟩
    have L4 := Lib.hid h1
    clear h1
    go_wp2_with fail
    refine Calls.mono (shr_l (xs := X) (x := val X) L4.out (by simp) HnX.out rfl (by omega) (i := (N : Int)) (k := N) rfl (by omega)) ?_
    rintro e w5 ⟨A5, c5, rfl, h1⟩
    have L5 := Lib.hid h1
    clear h1
    have len5 := digs_shr_len (val X) N
    go_wp2_with fail
    refine Calls.mono (rshr_l (xs := X) (x := val X) L5.out (by simp) HnX.out rfl (by omega) (i := (N : Int)) (k := N) rfl (by omega)) ?_
    rintro e w6 ⟨A6, c6, rfl, h1⟩
    have L6 := Lib.hid h1
    clear h1
    go_wp2_with fail
    refine Calls.mono (digits_l (xs := digs ((val X) / 2 ^ N)) (ys := digs ((val X) / 2 ^ N)) L6.out (by simp) (by simp) rfl rfl (by first | omega | simp) (rfl)) ?_
    rintro e w7 ⟨rfl, h1⟩
    have L7 := Lib.hid h1
    clear h1
    go_wp2_with fail
    refine Calls.mono (trim_l (xs := X) (x := val X) L7.out (by simp) HnX.out rfl (by omega)) ?_
    rintro e w8 ⟨A8, c8, rfl, h1⟩
    have L8 := Lib.hid h1
    clear h1
    go_wp2_with fail
    refine Calls.mono (rtrim_l (xs := X) (x := val X) L8.out (by simp) HnX.out rfl (by omega)) ?_
    rintro e w9 ⟨A9, c9, rfl, h1⟩
    have L9 := Lib.hid h1
    clear h1
    go_wp2_with fail
    refine Calls.mono (digits_l (xs := digs (val X)) (ys := digs (val X)) L9.out (by simp) (by simp) rfl rfl (by first | omega | simp) (rfl)) ?_
    rintro e w10 ⟨rfl, h1⟩
    have L10 := Lib.hid h1
    clear h1
    go_wp2_with fail
    refine Calls.mono (from_l   L10.out     (i := (s : Int)) (k := s) rfl HS.out) ?_
    rintro e w11 ⟨A11, c11, rfl, h1⟩
    have L11 := Lib.hid h1
    clear h1
    go_wp2_with fail
    refine Calls.mono (rfrom_l   L11.out     (i := (s : Int)) (k := s) rfl HS.out) ?_
    rintro e w12 ⟨A12, c12, rfl, h1⟩
    have L12 := Lib.hid h1
    clear h1
    have ds := digs_small HS.out
    go_wp2_with fail
    refine Calls.mono (digits_l (xs := digs (s)) (ys := digs (s)) L12.out (by simp) (by simp) rfl rfl (by first | omega | simp) (rfl)) ?_
    rintro e w13 ⟨rfl, h1⟩
    have L13 := Lib.hid h1
    clear h1
    go_wp2_with fail
    refine Calls.mono (small_g (xs := X) (x := val X) L13.out (by simp) HnX.out rfl (by omega) (q := sq) (p := sp) HQ.out HB.out) ?_
    rintro e w14 ⟨rfl, h1⟩
    have L14 := Lib.hid h1
    clear h1
    go_wp2_with fail
    refine Calls.mono (rsmall_g (xs := X) (x := val X) L14.out (by simp) HnX.out rfl (by omega) (q := sq) (p := sp) HQ.out HB.out) ?_
    rintro e w15 ⟨rfl, h1⟩
    have L15 := Lib.hid h1
    clear h1
    go_wp2_with fail
    refine Calls.mono (bits_l (xs := X) (x := val X) L15.out (by simp) HnX.out rfl (by omega) (q := bl) HL.out) ?_
    rintro e w16 ⟨rfl, h1⟩
    have L16 := Lib.hid h1
    clear h1
    go_wp2_with fail
    refine Calls.mono (rbits_l (xs := X) (x := val X) L16.out (by simp) HnX.out rfl (by omega) (q := bl) HL.out) ?_
    rintro e w17 ⟨rfl, h1⟩
    have L17 := Lib.hid h1
    clear h1
    go_wp2_with fail
    refine Calls.mono (bit_l (xs := X) (x := val X) L17.out (by simp) HnX.out rfl (by omega) (i := i) (q := bb) hi hi' HI.out) ?_
    rintro e w18 ⟨rfl, h1⟩
    have L18 := Lib.hid h1
    clear h1
    go_wp2_with fail
    refine Calls.mono (rbit_l (xs := X) (x := val X) L18.out (by simp) HnX.out rfl (by omega) (i := i) (q := bb) hi hi' HI.out) ?_
    rintro e w19 ⟨rfl, h1⟩
    have L19 := Lib.hid h1
    clear h1
    go_wp2
    go_ret
    exact ⟨rfl, L19.out.1⟩
end Go.Proofs.Ytjnbdbgggcfbjaa
