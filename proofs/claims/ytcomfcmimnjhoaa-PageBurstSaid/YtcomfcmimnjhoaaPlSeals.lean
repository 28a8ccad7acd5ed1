/-
  astrolabelaw18.PageSeals: any kind and text are sealed, any bytes are opened, any text has the sum, as the chapter says, or it is refused.
-/
import Derived.Test.YtcomfcmimnjhoaaPg
namespace Go.Proofs.Ytcomfcmimnjhoaa
open Go.RowKit
theorem okP (k : Int) (n : Nat) (h : sealOk k n = true) : ∃ K : Nat, k = (K : Int) ∧ 1 ≤ K ∧ K ≤ 9 ∧ n ≤ 120 := by
  unfold sealOk at h
  simp only [Bool.and_eq_true, decide_eq_true_eq] at h
  exact ⟨k.toNat, by omega, by omega, by omega, h.2⟩
set_option maxHeartbeats 2000000 in
set_option maxRecDepth 100000 in
theorem seals_yes (k : Nat) (t b : List UInt8) (w : World) (h1 : 1 ≤ k) (h9 : k ≤ 9) (hl : t.length ≤ 120) :
    Calls Try.prog 3 #[.int .i64 k, .string ⟨t.toArray⟩, .string ⟨b.toArray⟩] w fun e w' => e = .returned (.bool true) ∧ Below w.heap.size w w' := by
  go_enter Try.func3, Try.ntmps3
  go_wp2_with fail
  refine (examples_any _).mono ?_
  rintro e w1 ⟨rfl, hb⟩
  have K1 := Lib.hid hb
  clear hb
  go_wp2_with fail
  refine (seal_yes k t _ h1 h9 hl).mono ?_
  rintro e w2 ⟨rfl, hb⟩
  have K2 := Lib.hid (K1.out.trans (hb.mono K1.out.size))
  clear hb
  go_wp2_with fail
  refine (rseal_yes k t _ h1 h9 hl).mono ?_
  rintro e w3 ⟨rfl, hb⟩
  have K3 := Lib.hid (K2.out.trans (hb.mono K2.out.size))
  clear hb
  go_wp2_with fail
  refine (open_any b _).mono ?_
  rintro e w4 ⟨rfl, hb⟩
  have K4 := Lib.hid (K3.out.trans (hb.mono K3.out.size))
  clear hb
  go_wp2_with fail
  refine (ropen_any b _).mono ?_
  rintro e w5 ⟨rfl, hb⟩
  have K5 := Lib.hid (K4.out.trans (hb.mono K4.out.size))
  clear hb
  go_wp2_with fail
  refine (sum_any t _ (by omega)).mono ?_
  rintro e w6 ⟨rfl, rfl⟩
  go_wp2_with fail
  refine (rsum_any t _ (by omega)).mono ?_
  rintro e w7 ⟨rfl, rfl⟩
  go_wp2
  go_ret
  exact ⟨rfl, K5.out⟩
set_option maxHeartbeats 2000000 in
set_option maxRecDepth 100000 in
theorem seals_no (k : Int) (t b : List UInt8) (w : World) (hn : sealOk k t.length = false) (hl : t.length ≤ 9223372036854775807) :
    Calls Try.prog 3 #[.int .i64 k, .string ⟨t.toArray⟩, .string ⟨b.toArray⟩] w fun e w' => e = .returned (.bool true) ∧ Below w.heap.size w w' := by
  have HN := Lib.hid hn
  clear hn
  go_enter Try.func3, Try.ntmps3
  go_wp2_with fail
  refine (examples_any _).mono ?_
  rintro e w1 ⟨rfl, hb⟩
  have K1 := Lib.hid hb
  clear hb
  go_wp2_with fail
  refine (seal_no k t _ HN.out hl).mono ?_
  rintro e w2 ⟨rfl, rfl⟩
  go_wp2_with fail
  refine (rseal_no k t _ HN.out hl).mono ?_
  rintro e w3 ⟨rfl, rfl⟩
  go_wp2_with fail
  refine (open_any b _).mono ?_
  rintro e w4 ⟨rfl, hb⟩
  have K4 := Lib.hid (K1.out.trans (hb.mono K1.out.size))
  clear hb
  go_wp2_with fail
  refine (ropen_any b _).mono ?_
  rintro e w5 ⟨rfl, hb⟩
  have K5 := Lib.hid (K4.out.trans (hb.mono K4.out.size))
  clear hb
  go_wp2_with fail
  refine (sum_any t _ hl).mono ?_
  rintro e w6 ⟨rfl, rfl⟩
  go_wp2_with fail
  refine (rsum_any t _ hl).mono ?_
  rintro e w7 ⟨rfl, rfl⟩
  go_wp2
  go_ret
  exact ⟨rfl, K5.out⟩
theorem pseals_any (k : Int) (t b : ByteArray) (w : World) (hl : t.size ≤ 9223372036854775807) :
    Calls Try.prog 3 #[.int .i64 k, .string t, .string b] w fun e w' => e = .returned (.bool true) ∧ Below w.heap.size w w' := by
  rw [← Lib.mk_data t, ← Lib.mk_data b]
  rw [← Lib.mk_data t, str_size] at hl
  cases h : sealOk k t.data.toList.length
  · exact seals_no k _ _ w h hl
  · obtain ⟨K, rfl, h1, h9, h0⟩ := okP _ _ h
    exact seals_yes K _ _ w h1 h9 h0
end Go.Proofs.Ytcomfcmimnjhoaa
