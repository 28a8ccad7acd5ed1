/-
  The document's key and kid: a name's and a kid's bytes.
-/
import Derived.Test.YtkbdcbcjbgbglaaNv
import Derived.Test.YtkbdcbcjbgbglaaNp
namespace Go.Proofs.Ytkbdcbcjbgbglaa
open Go.RowKit
set_option linter.unusedVariables false
set_option linter.unusedSimpArgs false
theorem conv1 (x : World) (g n : Nat) (h : x.heap[g]? = some (.cells #[.int .u8 ((n : Int) % 256)] 5 (0, 0))) :
    (convert 67 9 (.slice (some ⟨g, 0, none⟩) 1 1)).run Try.prog x = .ok (.string ⟨[UInt8.ofNat n].toArray⟩) x := by
  have key : ∀ j, (hj : j < ([UInt8.ofNat n] : List UInt8).length) → x.cell? ((⟨g, 0, none⟩ : Addr).add j) = some (.int .u8 (([UInt8.ofNat n] : List UInt8)[j].toNat : Int)) := by
    intro j hj
    have hj0 : j = 0 := by simpa using hj
    subst hj0
    rw [Addr.add_lit, Nat.zero_add, cell_of_row _ _ _ _ _ _ h]
    simp [UInt8.toNat_ofNat']
  exact run_convert_bytes_back (P := Try.prog) x 67 9 5 ⟨g, 0, none⟩ 1 [UInt8.ofNat n] Try.underlying67 Try.underlying5 Try.underlying9 key
theorem conv2 (x : World) (g q : Nat) (h : x.heap[g]? = some (.cells #[.int .u8 ((q : Int) / 256 % 256), .int .u8 ((q : Int) % 256)] 5 (0, 0))) :
    (convert 67 9 (.slice (some ⟨g, 0, none⟩) 2 2)).run Try.prog x = .ok (.string ⟨(b2 (q : Int)).toArray⟩) x := by
  have key : ∀ j, (hj : j < (b2 (q : Int)).length) → x.cell? ((⟨g, 0, none⟩ : Addr).add j) = some (.int .u8 ((b2 (q : Int))[j].toNat : Int)) := by
    intro j hj
    rw [b2_len] at hj
    rw [Addr.add_lit, Nat.zero_add, cell_of_row _ _ _ _ _ _ h]
    match j, hj with
    | 0, _ => simp [b2, UInt8.toNat_ofNat']
    | 1, _ => simp [b2, UInt8.toNat_ofNat']
  exact run_convert_bytes_back (P := Try.prog) x 67 9 5 ⟨g, 0, none⟩ 2 (b2 (q : Int)) Try.underlying67 Try.underlying5 Try.underlying9 key
theorem app_b (l m : List UInt8) : (⟨l.toArray⟩ : ByteArray) ++ ⟨m.toArray⟩ = ⟨(l ++ m).toArray⟩ := by rw [ByteArray.mk_append_mk]
set_option maxHeartbeats 4000000 in
set_option maxRecDepth 100000 in
theorem rkey_any (x : List UInt8) (w : World) (hx : x.length ≤ 4000000) : Calls Try.prog 34 #[sv x] w fun e w' => e = .returned (sv (UInt8.ofNat x.length :: x)) ∧ Below w.heap.size w w' := by
  obtain ⟨n, hn⟩ : ∃ n, x.length = n := ⟨_, rfl⟩
  rw [hn] at hx ⊢
  obtain ⟨V, hV⟩ : ∃ V : World, V = w.alloc (.cells #[.int .u8 ((n : Int) % 256)] 5) := ⟨_, rfl⟩
  have cv := conv1 V w.heap.size n (by rw [hV]; exact heap_alloc_new _ _)
  obtain ⟨d1, hd1⟩ : ∃ d : ByteArray, d = ⟨[UInt8.ofNat n].toArray⟩ := ⟨_, rfl⟩
  obtain ⟨dx, hdx⟩ : ∃ d : ByteArray, d = ⟨x.toArray⟩ := ⟨_, rfl⟩
  obtain ⟨dz, hdz⟩ : ∃ d : ByteArray, d1 ++ dx = d := ⟨_, rfl⟩
  have hz : dz = ⟨(UInt8.ofNat n :: x).toArray⟩ := by rw [← hdz, hd1, hdx, app_b]; rfl
  have s1 : dx.size = n := by rw [hdx, str_size, hn]
  have s2 : d1.size = 1 := by rw [hd1]; rfl
  have s3 : ¬ 9223372036854775807 < d1.size + dx.size := by omega
  have s4 : ¬ 9223372036854775807 < 1 + n := by omega
  rw [← hd1, hV] at cv
  unfold sv
  rw [← hdx, ← hz]
  clear hn hV hd1 hdx hz hx
  go_enter Try.func34, Try.ntmps34
  go_wp2
  go_ret
  exact ⟨rfl, bda _ _⟩
set_option maxHeartbeats 4000000 in
set_option maxRecDepth 100000 in
theorem rkid_any (q : Nat) (w : World) : Calls Try.prog 35 #[.int .i64 (q : Int)] w fun e w' => e = .returned (sv (b2 (q : Int))) ∧ Below w.heap.size w w' := by
  obtain ⟨V, hV⟩ : ∃ V : World, V = w.alloc (.cells #[.int .u8 ((q : Int) / 256 % 256), .int .u8 ((q : Int) % 256)] 5) := ⟨_, rfl⟩
  have cv := conv2 V w.heap.size q (by rw [hV]; exact heap_alloc_new _ _)
  obtain ⟨d1, hd1⟩ : ∃ d : ByteArray, d = ⟨(b2 (q : Int)).toArray⟩ := ⟨_, rfl⟩
  rw [← hd1, hV] at cv
  unfold sv
  rw [← hd1]
  clear hV hd1
  go_enter Try.func35, Try.ntmps35
  go_wp2
  go_ret
  exact ⟨rfl, bda _ _⟩
end Go.Proofs.Ytkbdcbcjbgbglaa
