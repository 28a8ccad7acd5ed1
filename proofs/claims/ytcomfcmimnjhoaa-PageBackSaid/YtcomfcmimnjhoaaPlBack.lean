/-
  astrolabelaw18.PageBack: what is sealed is opened as it was; what is opened is sealed as it stood.
-/
import Derived.Test.YtcomfcmimnjhoaaPlSeals
namespace Go.Proofs.Ytcomfcmimnjhoaa
open Go.RowKit
theorem seal_b0 (b : List UInt8) (w : World) (h : openE b = 0) :
    Calls Try.prog 8 #[.int .i64 (openK b : Nat), .string ⟨(openS b).toArray⟩] w fun e w' => e = .returned (.tuple #[.string ⟨b.toArray⟩, .int .i64 0]) ∧ Below w.heap.size w w' := by
  obtain ⟨h1, h9, hl, hs⟩ := seal_open h
  have := seal_yes _ _ w h1 h9 hl
  rw [hs] at this
  exact this
theorem open_b0 (b : List UInt8) (w : World) (h : openE b = 0) :
    Calls Try.prog 10 #[.string ⟨b.toArray⟩] w fun e w' => e = .returned (.tuple #[.int .i64 (openK b : Nat), .string ⟨(openS b).toArray⟩, .int .i64 0]) ∧ Below w.heap.size w w' := by
  have := open_any b w
  rw [h] at this
  exact this
theorem open_b1 (b : List UInt8) (w : World) (h : openE b ≠ 0) :
    Calls Try.prog 10 #[.string ⟨b.toArray⟩] w fun e w' => e = .returned (.tuple #[.int .i64 0, .string ⟨#[]⟩, .int .i64 (openE b : Nat)]) ∧ Below w.heap.size w w' := by
  have := open_any b w
  have ek : openK b = 0 := by unfold openK; rw [if_neg h]
  have es : openS b = [] := by unfold openS; rw [if_neg h]
  rw [ek, es] at this
  exact this
theorem seal_b1 (w : World) : Calls Try.prog 8 #[.int .i64 0, .string ⟨#[]⟩] w fun e w' => e = .returned (.tuple #[.string ⟨#[]⟩, .int .i64 1]) ∧ w = w' :=
  seal_no 0 [] w rfl (by simp)
theorem open_s (k : Nat) (t : List UInt8) (w : World) (h1 : 1 ≤ k) (h9 : k ≤ 9) (ht : t.length ≤ 120) :
    Calls Try.prog 10 #[.string ⟨(sealL k t).toArray⟩] w fun e w' => e = .returned (.tuple #[.int .i64 k, .string ⟨t.toArray⟩, .int .i64 0]) ∧ Below w.heap.size w w' := by
  have := open_any (sealL k t) w
  obtain ⟨a1, a2, a3⟩ := open_seal h1 h9 ht
  rw [a1, a2, a3] at this
  exact this
set_option maxHeartbeats 2000000 in
set_option maxRecDepth 100000 in
theorem back_y1 (k : Nat) (t b : List UInt8) (w : World) (h1 : 1 ≤ k) (h9 : k ≤ 9) (hl : t.length ≤ 120) (hz : openE b = 0) :
    Calls Try.prog 4 #[.int .i64 k, .string ⟨t.toArray⟩, .string ⟨b.toArray⟩] w fun e w' => e = .returned (.bool true) ∧ Below w.heap.size w w' := by
  have HZ := Lib.hid hz
  clear hz
  have st := Lib.hid (str_size t)
  have SY := Lib.hid (fun W => seal_yes k t W h1 h9 hl)
  have OS := Lib.hid (fun W => open_s k t W h1 h9 hl)
  have sl := seal_len (k := k) hl
  obtain ⟨s, hs⟩ : ∃ s, sealL k t = s := ⟨_, rfl⟩
  rw [hs] at SY OS sl
  clear hs
  have dl : ((s.length : Int) == 128) = true := by simp; omega
  have dl2 : ((s.length : Int) != 128) = false := by simp; omega
  have l0 : s.length ≤ 128 := by omega
  clear sl
  have y1 : decide (1 ≤ k) = true := by simp; omega
  have y2 : decide (k ≤ 9) = true := by simp; omega
  have y3 : decide (t.length ≤ 120) = true := by simp; omega
  have y6 : decide ((t.length : Int) ≤ 120) = true := by simp; omega
  have y4 : decide ((1 : Int) ≤ (k : Int)) = true := by simp; omega
  have y5 : decide ((k : Int) ≤ 9) = true := by simp; omega
  go_enter Try.func4, Try.ntmps4
  go_wp2_with fail
  refine (examples_any _).mono ?_
  rintro e w1 ⟨rfl, hb⟩
  have K1 := Lib.hid (hb)
  clear hb
  go_wp2_with fail
  refine (SY.out _).mono ?_
  rintro e w2 ⟨rfl, hb⟩
  have K2 := Lib.hid (K1.out.trans (hb.mono K1.out.size))
  clear hb
  go_wp2_with fail
  refine (OS.out _).mono ?_
  rintro e w3 ⟨rfl, hb⟩
  have K3 := Lib.hid (K2.out.trans (hb.mono K2.out.size))
  clear hb
  go_wp2_with fail
  refine (open_b0 b _ HZ.out).mono ?_
  rintro e w4 ⟨rfl, hb⟩
  have K4 := Lib.hid (K3.out.trans (hb.mono K3.out.size))
  clear hb
  go_wp2_with fail
  refine (seal_b0 b _ HZ.out).mono ?_
  rintro e w5 ⟨rfl, hb⟩
  have K5 := Lib.hid (K4.out.trans (hb.mono K4.out.size))
  clear hb
  go_wp2
  go_ret
  exact ⟨rfl, K5.out⟩
set_option maxHeartbeats 2000000 in
set_option maxRecDepth 100000 in
theorem back_n01 (k : Int) (t b : List UInt8) (w : World) (c1 : ¬ 1 ≤ k) (hl : t.length ≤ 9223372036854775807) (hz : openE b = 0) :
    Calls Try.prog 4 #[.int .i64 k, .string ⟨t.toArray⟩, .string ⟨b.toArray⟩] w fun e w' => e = .returned (.bool true) ∧ Below w.heap.size w w' := by
  have HZ := Lib.hid hz
  clear hz
  have st := Lib.hid (str_size t)
  have y1 : decide (1 ≤ k) = false := decide_eq_false c1
  have SN := Lib.hid (fun W => seal_no k t W (by unfold sealOk; rw [y1]; simp) hl)
  clear c1
  go_enter Try.func4, Try.ntmps4
  go_wp2_with fail
  refine (examples_any _).mono ?_
  rintro e w1 ⟨rfl, hb⟩
  have K1 := Lib.hid (hb)
  clear hb
  go_wp2_with fail
  refine (SN.out _).mono ?_
  rintro e w2 ⟨rfl, rfl⟩
  have K2 := K1
  have K3 := K2
  go_wp2_with fail
  refine (open_b0 b _ HZ.out).mono ?_
  rintro e w4 ⟨rfl, hb⟩
  have K4 := Lib.hid (K3.out.trans (hb.mono K3.out.size))
  clear hb
  go_wp2_with fail
  refine (seal_b0 b _ HZ.out).mono ?_
  rintro e w5 ⟨rfl, hb⟩
  have K5 := Lib.hid (K4.out.trans (hb.mono K4.out.size))
  clear hb
  go_wp2
  go_ret
  exact ⟨rfl, K5.out⟩
set_option maxHeartbeats 2000000 in
set_option maxRecDepth 100000 in
theorem back_n11 (k : Int) (t b : List UInt8) (w : World) (c1 : 1 ≤ k) (c2 : ¬ k ≤ 9) (hl : t.length ≤ 9223372036854775807) (hz : openE b = 0) :
    Calls Try.prog 4 #[.int .i64 k, .string ⟨t.toArray⟩, .string ⟨b.toArray⟩] w fun e w' => e = .returned (.bool true) ∧ Below w.heap.size w w' := by
  have HZ := Lib.hid hz
  clear hz
  have st := Lib.hid (str_size t)
  have y1 : decide (1 ≤ k) = true := decide_eq_true c1
  have y2 : decide (k ≤ 9) = false := decide_eq_false c2
  have SN := Lib.hid (fun W => seal_no k t W (by unfold sealOk; rw [y2]; simp) hl)
  clear c1 c2
  go_enter Try.func4, Try.ntmps4
  go_wp2_with fail
  refine (examples_any _).mono ?_
  rintro e w1 ⟨rfl, hb⟩
  have K1 := Lib.hid (hb)
  clear hb
  go_wp2_with fail
  refine (SN.out _).mono ?_
  rintro e w2 ⟨rfl, rfl⟩
  have K2 := K1
  have K3 := K2
  go_wp2_with fail
  refine (open_b0 b _ HZ.out).mono ?_
  rintro e w4 ⟨rfl, hb⟩
  have K4 := Lib.hid (K3.out.trans (hb.mono K3.out.size))
  clear hb
  go_wp2_with fail
  refine (seal_b0 b _ HZ.out).mono ?_
  rintro e w5 ⟨rfl, hb⟩
  have K5 := Lib.hid (K4.out.trans (hb.mono K4.out.size))
  clear hb
  go_wp2
  go_ret
  exact ⟨rfl, K5.out⟩
set_option maxHeartbeats 2000000 in
set_option maxRecDepth 100000 in
theorem back_n21 (k : Int) (t b : List UInt8) (w : World) (c1 : 1 ≤ k) (c2 : k ≤ 9) (c3 : ¬ t.length ≤ 120) (hl : t.length ≤ 9223372036854775807) (hz : openE b = 0) :
    Calls Try.prog 4 #[.int .i64 k, .string ⟨t.toArray⟩, .string ⟨b.toArray⟩] w fun e w' => e = .returned (.bool true) ∧ Below w.heap.size w w' := by
  have HZ := Lib.hid hz
  clear hz
  have st := Lib.hid (str_size t)
  have y1 : decide (1 ≤ k) = true := decide_eq_true c1
  have y2 : decide (k ≤ 9) = true := decide_eq_true c2
  have y3 : decide (t.length ≤ 120) = false := decide_eq_false c3
  have y6 : decide ((t.length : Int) ≤ 120) = false := by simp; omega
  have SN := Lib.hid (fun W => seal_no k t W (by unfold sealOk; rw [y3]; simp) hl)
  clear c1 c2 c3
  go_enter Try.func4, Try.ntmps4
  go_wp2_with fail
  refine (examples_any _).mono ?_
  rintro e w1 ⟨rfl, hb⟩
  have K1 := Lib.hid (hb)
  clear hb
  go_wp2_with fail
  refine (SN.out _).mono ?_
  rintro e w2 ⟨rfl, rfl⟩
  have K2 := K1
  have K3 := K2
  go_wp2_with fail
  refine (open_b0 b _ HZ.out).mono ?_
  rintro e w4 ⟨rfl, hb⟩
  have K4 := Lib.hid (K3.out.trans (hb.mono K3.out.size))
  clear hb
  go_wp2_with fail
  refine (seal_b0 b _ HZ.out).mono ?_
  rintro e w5 ⟨rfl, hb⟩
  have K5 := Lib.hid (K4.out.trans (hb.mono K4.out.size))
  clear hb
  go_wp2
  go_ret
  exact ⟨rfl, K5.out⟩
set_option maxHeartbeats 2000000 in
set_option maxRecDepth 100000 in
theorem back_y0 (k : Nat) (t b : List UInt8) (w : World) (h1 : 1 ≤ k) (h9 : k ≤ 9) (hl : t.length ≤ 120) (hz : openE b ≠ 0) :
    Calls Try.prog 4 #[.int .i64 k, .string ⟨t.toArray⟩, .string ⟨b.toArray⟩] w fun e w' => e = .returned (.bool true) ∧ Below w.heap.size w w' := by
  have z1 : ((openE b : Int) == 0) = false := by simp; omega
  have z2 : ((openE b : Int) != 0) = true := by simp; omega
  have HZ := Lib.hid hz
  clear hz
  have st := Lib.hid (str_size t)
  have SY := Lib.hid (fun W => seal_yes k t W h1 h9 hl)
  have OS := Lib.hid (fun W => open_s k t W h1 h9 hl)
  have sl := seal_len (k := k) hl
  obtain ⟨s, hs⟩ : ∃ s, sealL k t = s := ⟨_, rfl⟩
  rw [hs] at SY OS sl
  clear hs
  have dl : ((s.length : Int) == 128) = true := by simp; omega
  have dl2 : ((s.length : Int) != 128) = false := by simp; omega
  have l0 : s.length ≤ 128 := by omega
  clear sl
  have y1 : decide (1 ≤ k) = true := by simp; omega
  have y2 : decide (k ≤ 9) = true := by simp; omega
  have y3 : decide (t.length ≤ 120) = true := by simp; omega
  have y6 : decide ((t.length : Int) ≤ 120) = true := by simp; omega
  have y4 : decide ((1 : Int) ≤ (k : Int)) = true := by simp; omega
  have y5 : decide ((k : Int) ≤ 9) = true := by simp; omega
  go_enter Try.func4, Try.ntmps4
  go_wp2_with fail
  refine (examples_any _).mono ?_
  rintro e w1 ⟨rfl, hb⟩
  have K1 := Lib.hid (hb)
  clear hb
  go_wp2_with fail
  refine (SY.out _).mono ?_
  rintro e w2 ⟨rfl, hb⟩
  have K2 := Lib.hid (K1.out.trans (hb.mono K1.out.size))
  clear hb
  go_wp2_with fail
  refine (OS.out _).mono ?_
  rintro e w3 ⟨rfl, hb⟩
  have K3 := Lib.hid (K2.out.trans (hb.mono K2.out.size))
  clear hb
  go_wp2_with fail
  refine (open_b1 b _ HZ.out).mono ?_
  rintro e w4 ⟨rfl, hb⟩
  have K4 := Lib.hid (K3.out.trans (hb.mono K3.out.size))
  clear hb
  go_wp2_with fail
  refine (seal_b1 _).mono ?_
  rintro e w5 ⟨rfl, rfl⟩
  have K5 := K4
  go_wp2
  go_ret
  exact ⟨rfl, K5.out⟩
set_option maxHeartbeats 2000000 in
set_option maxRecDepth 100000 in
theorem back_n00 (k : Int) (t b : List UInt8) (w : World) (c1 : ¬ 1 ≤ k) (hl : t.length ≤ 9223372036854775807) (hz : openE b ≠ 0) :
    Calls Try.prog 4 #[.int .i64 k, .string ⟨t.toArray⟩, .string ⟨b.toArray⟩] w fun e w' => e = .returned (.bool true) ∧ Below w.heap.size w w' := by
  have z1 : ((openE b : Int) == 0) = false := by simp; omega
  have z2 : ((openE b : Int) != 0) = true := by simp; omega
  have HZ := Lib.hid hz
  clear hz
  have st := Lib.hid (str_size t)
  have y1 : decide (1 ≤ k) = false := decide_eq_false c1
  have SN := Lib.hid (fun W => seal_no k t W (by unfold sealOk; rw [y1]; simp) hl)
  clear c1
  go_enter Try.func4, Try.ntmps4
  go_wp2_with fail
  refine (examples_any _).mono ?_
  rintro e w1 ⟨rfl, hb⟩
  have K1 := Lib.hid (hb)
  clear hb
  go_wp2_with fail
  refine (SN.out _).mono ?_
  rintro e w2 ⟨rfl, rfl⟩
  have K2 := K1
  have K3 := K2
  go_wp2_with fail
  refine (open_b1 b _ HZ.out).mono ?_
  rintro e w4 ⟨rfl, hb⟩
  have K4 := Lib.hid (K3.out.trans (hb.mono K3.out.size))
  clear hb
  go_wp2_with fail
  refine (seal_b1 _).mono ?_
  rintro e w5 ⟨rfl, rfl⟩
  have K5 := K4
  go_wp2
  go_ret
  exact ⟨rfl, K5.out⟩
set_option maxHeartbeats 2000000 in
set_option maxRecDepth 100000 in
theorem back_n10 (k : Int) (t b : List UInt8) (w : World) (c1 : 1 ≤ k) (c2 : ¬ k ≤ 9) (hl : t.length ≤ 9223372036854775807) (hz : openE b ≠ 0) :
    Calls Try.prog 4 #[.int .i64 k, .string ⟨t.toArray⟩, .string ⟨b.toArray⟩] w fun e w' => e = .returned (.bool true) ∧ Below w.heap.size w w' := by
  have z1 : ((openE b : Int) == 0) = false := by simp; omega
  have z2 : ((openE b : Int) != 0) = true := by simp; omega
  have HZ := Lib.hid hz
  clear hz
  have st := Lib.hid (str_size t)
  have y1 : decide (1 ≤ k) = true := decide_eq_true c1
  have y2 : decide (k ≤ 9) = false := decide_eq_false c2
  have SN := Lib.hid (fun W => seal_no k t W (by unfold sealOk; rw [y2]; simp) hl)
  clear c1 c2
  go_enter Try.func4, Try.ntmps4
  go_wp2_with fail
  refine (examples_any _).mono ?_
  rintro e w1 ⟨rfl, hb⟩
  have K1 := Lib.hid (hb)
  clear hb
  go_wp2_with fail
  refine (SN.out _).mono ?_
  rintro e w2 ⟨rfl, rfl⟩
  have K2 := K1
  have K3 := K2
  go_wp2_with fail
  refine (open_b1 b _ HZ.out).mono ?_
  rintro e w4 ⟨rfl, hb⟩
  have K4 := Lib.hid (K3.out.trans (hb.mono K3.out.size))
  clear hb
  go_wp2_with fail
  refine (seal_b1 _).mono ?_
  rintro e w5 ⟨rfl, rfl⟩
  have K5 := K4
  go_wp2
  go_ret
  exact ⟨rfl, K5.out⟩
set_option maxHeartbeats 2000000 in
set_option maxRecDepth 100000 in
theorem back_n20 (k : Int) (t b : List UInt8) (w : World) (c1 : 1 ≤ k) (c2 : k ≤ 9) (c3 : ¬ t.length ≤ 120) (hl : t.length ≤ 9223372036854775807) (hz : openE b ≠ 0) :
    Calls Try.prog 4 #[.int .i64 k, .string ⟨t.toArray⟩, .string ⟨b.toArray⟩] w fun e w' => e = .returned (.bool true) ∧ Below w.heap.size w w' := by
  have z1 : ((openE b : Int) == 0) = false := by simp; omega
  have z2 : ((openE b : Int) != 0) = true := by simp; omega
  have HZ := Lib.hid hz
  clear hz
  have st := Lib.hid (str_size t)
  have y1 : decide (1 ≤ k) = true := decide_eq_true c1
  have y2 : decide (k ≤ 9) = true := decide_eq_true c2
  have y3 : decide (t.length ≤ 120) = false := decide_eq_false c3
  have y6 : decide ((t.length : Int) ≤ 120) = false := by simp; omega
  have SN := Lib.hid (fun W => seal_no k t W (by unfold sealOk; rw [y3]; simp) hl)
  clear c1 c2 c3
  go_enter Try.func4, Try.ntmps4
  go_wp2_with fail
  refine (examples_any _).mono ?_
  rintro e w1 ⟨rfl, hb⟩
  have K1 := Lib.hid (hb)
  clear hb
  go_wp2_with fail
  refine (SN.out _).mono ?_
  rintro e w2 ⟨rfl, rfl⟩
  have K2 := K1
  have K3 := K2
  go_wp2_with fail
  refine (open_b1 b _ HZ.out).mono ?_
  rintro e w4 ⟨rfl, hb⟩
  have K4 := Lib.hid (K3.out.trans (hb.mono K3.out.size))
  clear hb
  go_wp2_with fail
  refine (seal_b1 _).mono ?_
  rintro e w5 ⟨rfl, rfl⟩
  have K5 := K4
  go_wp2
  go_ret
  exact ⟨rfl, K5.out⟩
theorem pback_any (k : Int) (t b : ByteArray) (w : World) (hl : t.size ≤ 9223372036854775807) :
    Calls Try.prog 4 #[.int .i64 k, .string t, .string b] w fun e w' => e = .returned (.bool true) ∧ Below w.heap.size w w' := by
  rw [← Lib.mk_data t, ← Lib.mk_data b]
  rw [← Lib.mk_data t, str_size] at hl
  by_cases hz : openE b.data.toList = 0
  · by_cases c1 : 1 ≤ k
    · by_cases c2 : k ≤ 9
      · by_cases c3 : t.data.toList.length ≤ 120
        · obtain ⟨K, rfl⟩ := Int.eq_ofNat_of_zero_le (show 0 ≤ k by omega)
          exact back_y1 K _ _ w (by omega) (by omega) c3 hz
        · exact back_n21 k _ _ w c1 c2 c3 hl hz
      · exact back_n11 k _ _ w c1 c2 hl hz
    · exact back_n01 k _ _ w c1 hl hz
  · by_cases c1 : 1 ≤ k
    · by_cases c2 : k ≤ 9
      · by_cases c3 : t.data.toList.length ≤ 120
        · obtain ⟨K, rfl⟩ := Int.eq_ofNat_of_zero_le (show 0 ≤ k by omega)
          exact back_y0 K _ _ w (by omega) (by omega) c3 hz
        · exact back_n20 k _ _ w c1 c2 c3 hl hz
      · exact back_n10 k _ _ w c1 c2 hl hz
    · exact back_n00 k _ _ w c1 hl hz
end Go.Proofs.Ytcomfcmimnjhoaa
