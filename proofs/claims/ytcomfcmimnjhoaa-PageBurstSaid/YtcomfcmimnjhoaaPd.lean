/-
  The document's Seal.
-/
import Derived.Test.YtcomfcmimnjhoaaPc
import Derived.Deep.OwnRows
import Derived.Laws.OwnMore
namespace Go.Proofs.Ytcomfcmimnjhoaa
open Go.RowKit
theorem made_conv (w : World) (n : Nat) (z : List UInt8) (hz : z = List.replicate n 0) :
    (convert 35 9 (.slice (some ⟨w.heap.size, 0, none⟩) n n)).run Try.prog (w.alloc (.cells (madeCells #[.int .u8 0] n) 5)) = .ok (.string ⟨z.toArray⟩) (w.alloc (.cells (madeCells #[.int .u8 0] n) 5)) := by
  have hl : z.length = n := by rw [hz]; simp
  have := conv_of (w.alloc (.cells (madeCells #[.int .u8 0] n) 5)) w.heap.size n z (fun j hj => by
    rw [cell_of_row _ _ _ _ _ _ (heap_alloc_new w _)]
    subst hz
    have hjn : j < n := by simpa using hj
    simp [madeCells, hjn, Nat.mod_one])
  rw [hl] at this
  exact this
theorem elem8_info : (Try.prog.info? 5).map (fun i => (i.zero, i.size, i.bytes)) = some (some (.int .u8 0), 1, 1) := by kernel_rfl
set_option maxHeartbeats 1000000 in
set_option maxRecDepth 100000 in
/-- Refused. -/
theorem rseal_no (k : Int) (t : List UInt8) (w : World) (h : sealOk k t.length = false) (hl : t.length ≤ 9223372036854775807) :
    Calls Try.prog 9 #[.int .i64 k, .string ⟨t.toArray⟩] w fun e w' => e = .returned (.tuple #[.string ⟨#[]⟩, .bool false]) ∧ w = w' := by
  have hs := Lib.hid (str_size t)
  by_cases h1 : k < 1
  · have d1 : decide (k < 1) = true := decide_eq_true h1
    go_enter Try.func9, Try.ntmps9
    go_wp2
    go_ret2
    exact ⟨rfl, rfl⟩
  · have d1 : decide (k < 1) = false := decide_eq_false h1
    by_cases h9 : 9 < k
    · have d9 : decide (9 < k) = true := decide_eq_true h9
      go_enter Try.func9, Try.ntmps9
      go_wp2
      go_ret2
      exact ⟨rfl, rfl⟩
    · have d9 : decide (9 < k) = false := decide_eq_false h9
      have hn : 120 < t.length := by
        unfold sealOk at h
        have a1 : decide (1 ≤ k) = true := by simp; omega
        have a2 : decide (k ≤ 9) = true := by simp; omega
        rw [a1, a2] at h
        simpa using h
      have dn : decide (120 < t.length) = true := decide_eq_true hn
      have dn' : decide ((120 : Int) < (t.length : Int)) = true := by simp; omega
      go_enter Try.func9, Try.ntmps9
      go_wp2
      go_ret2
      exact ⟨rfl, rfl⟩
set_option maxHeartbeats 2000000 in
set_option maxRecDepth 100000 in
theorem rseal_yes (k : Nat) (t : List UInt8) (w : World) (h1 : 1 ≤ k) (h9 : k ≤ 9) (hl : t.length ≤ 120) :
    Calls Try.prog 9 #[.int .i64 k, .string ⟨t.toArray⟩] w fun e w' => e = .returned (.tuple #[.string ⟨(sealL k t).toArray⟩, .bool true]) ∧ Below w.heap.size w w' := by
  have hs := Lib.hid (str_size t)
  have d1 : decide ((k : Int) < 1) = false := by simp; omega
  have d9 : decide ((9 : Int) < (k : Int)) = false := by simp; omega
  have dn : decide (120 < t.length) = false := by simp; omega
  have dn' : decide ((120 : Int) < (t.length : Int)) = false := by simp; omega
  have m1 : (k : Int) % 256 = (k : Int) := by omega
  have m2 : (t.length : Int) % 256 = (t.length : Int) := by omega
  have HW := Lib.hid (row_cell w [.int .u8 (k : Int), .int .u8 (t.length : Int)] 5)
  have hcv := conv2 (w.alloc (.cells #[.int .u8 (k : Int), .int .u8 (t.length : Int)] 5)) w.heap.size (UInt8.ofNat k) (UInt8.ofNat t.length) (k : Int) (t.length : Int) (by simp [UInt8.toNat_ofNat']; omega) (by simp [UInt8.toNat_ofNat']; omega) (HW.out 0) (HW.out 1)
  obtain ⟨hd, hdE⟩ : ∃ hd : List UInt8, hd = [65, 83] ++ [UInt8.ofNat k, UInt8.ofNat t.length] ++ t := ⟨_, rfl⟩
  have hdl : hd.length = t.length + 4 := by rw [hdE]; simp
  have hap : ((⟨#[65, 83]⟩ : ByteArray) ++ ⟨#[UInt8.ofNat k, UInt8.ofNat t.length]⟩ ++ ⟨t.toArray⟩ : ByteArray) = ⟨hd.toArray⟩ := by
    rw [hdE, ← ByteArray.mk_append_mk, ← ByteArray.mk_append_mk]
  obtain ⟨n, hn⟩ : ∃ n : Nat, 120 - t.length = n := ⟨_, rfl⟩
  obtain ⟨z, hzE⟩ : ∃ z : List UInt8, z = List.replicate n 0 := ⟨_, rfl⟩
  have hzl : z.length = n := by rw [hzE]; simp
  have hbd : hd ++ z = bodyL k t := by rw [hdE, hzE, ← hn]; rfl
  have hap2 : ((⟨hd.toArray⟩ : ByteArray) ++ ⟨z.toArray⟩) = ⟨(bodyL k t).toArray⟩ := by rw [ByteArray.mk_append_mk, hbd]
  have hbl := body_len (k := k) hl
  have hsl : sealL k t = bodyL k t ++ sumT (bodyL k t) := rfl
  have hsm := Lib.hid (fun W => rsum_any (bodyL k t) W (by omega))
  have hlt := sumL_lt (bodyL k t)
  rw [hsl]
  have hap3 : ((⟨(bodyL k t).toArray⟩ : ByteArray) ++ ⟨(b4 (sumL (bodyL k t))).toArray⟩) = ⟨(bodyL k t ++ sumT (bodyL k t)).toArray⟩ := by rw [ByteArray.mk_append_mk]; rfl
  generalize bodyL k t = bd at *
  have hdn : (124 : Int) - (hd.length : Int) = (n : Int) := by omega
  have hmk := run_make_row' (P := Try.prog) 35 5 (.int .u8 0) 1 Try.underlying35 elem8_info rfl .i64 .i64 n (by omega) (by omega)
  have HBL := Lib.hid hbl
  have HZE := Lib.hid hzE
  have n1 : n ≤ 120 := by omega
  clear hn
  clear hbl hdE hzE hbd hsl
  have s1 := Lib.hid (str_size hd)
  have l1 : hd.length ≤ 1000 := by omega
  clear hdl hlt
  have hcz := made_conv (w.alloc (.cells #[.int .u8 (k : Int), .int .u8 (t.length : Int)] 5)) n z HZE.out
  have hz1 : (w.alloc (.cells #[.int .u8 (k : Int), .int .u8 (t.length : Int)] 5)).heap.size = w.heap.size + 1 := by simp
  rw [hz1] at hcz
  clear hz1
  go_enter Try.func9, Try.ntmps9
  go_wp2_with fail
  refine (hsm.out _).mono ?_
  rintro e w2 ⟨rfl, rfl⟩
  clear hcz
  obtain ⟨W, hW⟩ : ∃ W : World, W = (w.alloc (.cells #[.int .u8 (k : Int), .int .u8 (t.length : Int)] 5)).alloc (.cells (madeCells #[.int .u8 0] n) 5) := ⟨_, rfl⟩
  rw [← hW]
  have KW := Lib.hid (show Below w.heap.size w W by rw [hW]; exact ((Below.refl _ _).alloc (Nat.le_refl _) _).alloc (by simp) _)
  clear hW hcv hmk hap hap2
  have hc4 := conv4 (W.alloc (.cells #[.int .u8 ((sumL bd : Int) % 256), .int .u8 ((sumL bd : Int) / 256 % 256), .int .u8 ((sumL bd : Int) / 65536 % 256), .int .u8 ((sumL bd : Int) / 16777216 % 256)] 5)) W.heap.size (sumL bd) (row_cell W [.int .u8 ((sumL bd : Int) % 256), .int .u8 ((sumL bd : Int) / 256 % 256), .int .u8 ((sumL bd : Int) / 65536 % 256), .int .u8 ((sumL bd : Int) / 16777216 % 256)] _ 0) (row_cell W [.int .u8 ((sumL bd : Int) % 256), .int .u8 ((sumL bd : Int) / 256 % 256), .int .u8 ((sumL bd : Int) / 65536 % 256), .int .u8 ((sumL bd : Int) / 16777216 % 256)] _ 1) (row_cell W [.int .u8 ((sumL bd : Int) % 256), .int .u8 ((sumL bd : Int) / 256 % 256), .int .u8 ((sumL bd : Int) / 65536 % 256), .int .u8 ((sumL bd : Int) / 16777216 % 256)] _ 2) (row_cell W [.int .u8 ((sumL bd : Int) % 256), .int .u8 ((sumL bd : Int) / 256 % 256), .int .u8 ((sumL bd : Int) / 65536 % 256), .int .u8 ((sumL bd : Int) / 16777216 % 256)] _ 3)
  have sb := Lib.hid (str_size bd)
  have s4 := Lib.hid (str_size (b4 (sumL bd)))
  have lb : bd.length ≤ 1000 := by rw [HBL.out]; omega
  have lb4 : (b4 (sumL bd)).length ≤ 1000 := by unfold b4; simp
  go_wp2
  go_ret2
  exact ⟨rfl, KW.out.alloc KW.out.size _⟩
end Go.Proofs.Ytcomfcmimnjhoaa
