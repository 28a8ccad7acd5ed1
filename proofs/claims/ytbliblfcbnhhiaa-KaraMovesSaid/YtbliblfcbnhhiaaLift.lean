/-
  kara.half, lift, less.
-/
import Derived.Test.YtbliblfcbnhhiaaLive
import Derived.Laws.CopyOwn
namespace Go.Proofs.Ytbliblfcbnhhiaa
open Go.RowKit
theorem half_any (n : Nat) (w : World) (hn : n ≤ 1048576) : Calls Try.prog 21 #[.int .i64 n] w fun e w' => e = .returned (.int .i64 (((n + 1) / 2 : Nat) : Int)) ∧ w = w' := by
  go_enter Try.func21, Try.ntmps21
  go_wp2
  go_ret
  exact ⟨ret_i (by omega), rfl⟩
theorem half_any' (n : Nat) (w : World) (hn : n ≤ 1000000) : Calls Try.prog 21 #[.int .i64 n] w fun e w' => e = .returned (.int .i64 (((n + 1) / 2 : Nat) : Int)) ∧ w = w' := half_any n w (by omega)
theorem lift_ok {xs : List Nat} (h : ok32 xs) (k : Nat) : ok32 (List.replicate k 0 ++ xs) := by
  intro x hx
  rcases List.mem_append.1 hx with hx | hx
  · exact ok_zeros k x hx
  · exact h x hx
theorem lift_val (xs : List Nat) (k : Nat) : val (List.replicate k 0 ++ xs) = 4294967296 ^ k * val xs := by rw [val_append, val_zeros, List.length_replicate]; omega
theorem zeros_cells (n : Nat) : madeCells #[.int .u32 0] n = (cells (List.replicate n 0)).toArray := by
  apply Array.ext
  · simp [madeCells, cells]
  · intro i h1 h2
    simp [madeCells, cells, Nat.mod_one]
theorem splice_lift (xs : List Nat) (k : Nat) : splice (cells (List.replicate (k + xs.length) 0)) k (cells xs) = cells (List.replicate k 0 ++ xs) := by
  simp [splice, cells, List.take_replicate, List.map_append]
theorem elem_size : (Try.prog.info? 30).map (·.size) = some 1 := by kernel_rfl
theorem lift_fin {w : World} {g k : Nat} {CS XS : List Value} {xs : List Nat} {w0 : World} {A : Option Addr} {c : Nat} (hg : w.heap[g]? = some (.cells (splice CS k XS).toArray 30 (0, 0))) (h1 : CS = cells (List.replicate (k + xs.length) 0)) (h2 : XS = cells xs) (hx : Dg w0 A c xs) :
    Dg w (some ⟨g, 0, none⟩) (k + xs.length) (List.replicate k 0 ++ xs) := by
  subst h1 h2
  rw [splice_lift] at hg
  exact Row.dg (show Row w g (List.replicate k 0 ++ xs) from hg) (lift_ok hx.2.1 k) (by simp)
set_option maxHeartbeats 1000000 in
theorem lift_any (A : Option Addr) (c : Nat) (xs : List Nat) (k : Nat) (w : World) (h : Dg w A c xs) (hl : xs.length ≤ 1048576) (hk : k ≤ 1048576) :
    Calls Try.prog 22 #[.slice A xs.length c, .int .i64 k] w fun e w' => ∃ A' c', e = .returned (.slice A' (k + xs.length) c') ∧ Dg w' A' c' (List.replicate k 0 ++ xs) ∧ Below w.heap.size w w' := by
  have H := Lib.hid h
  clear h
  have hmk := run_make_row' (P := Try.prog) 22 30 (.int .u32 0) 4 Try.underlying22 elem_info rfl .i64 .i64 (k + xs.length) (by omega) (by omega)
  rw [show ((k + xs.length : Nat) : Int) = (k : Int) + (xs.length : Int) by omega, zeros_cells] at hmk
  obtain ⟨CS, hCS⟩ : ∃ CS, CS = cells (List.replicate (k + xs.length) 0) := ⟨_, rfl⟩
  obtain ⟨XS, hXS⟩ : ∃ XS, XS = cells xs := ⟨_, rfl⟩
  rw [← hCS] at hmk
  have HCS := Lib.hid hCS
  have HXS := Lib.hid hXS
  clear hCS hXS
  have hsz : (w.alloc (.cells CS.toArray 30)).heap[w.heap.size]? = some (.cells CS.toArray 30 (0, 0)) := heap_alloc_new w _
  have HSZ := Lib.hid hsz
  clear hsz
  have hki : (k : Int) ≤ (k : Int) + (xs.length : Int) := by omega
  have H1 := Lib.hid (show ∀ v ∈ XS, v.oneCell' = true from by rw [HXS.out]; intro u hu; unfold cells at hu; obtain ⟨x, _, rfl⟩ := List.mem_map.1 hu; rfl)
  have HF := Lib.hid (show k + XS.length ≤ CS.length from by rw [HXS.out, HCS.out, cells_len, cells_len]; simp)
  by_cases h0 : xs.length = 0
  · obtain rfl : xs = [] := List.eq_nil_of_length_eq_zero h0
    have HD := Lib.hid (show Dg (w.alloc (.cells CS.toArray 30)) (some ⟨w.heap.size, 0, none⟩) (k + 0) (List.replicate k 0 ++ []) from by
      refine Row.dg (show Row _ _ _ from ?_) (lift_ok H.out.2.1 k) (by simp)
      have := HSZ.out
      rw [List.append_nil]
      rw [show CS = cells (List.replicate k 0) from HCS.out] at this ⊢
      exact this)
    clear H1 HF
    simp only [List.length_nil, Nat.add_zero, Int.natCast_zero, Int.add_zero] at hmk
    go_enter Try.func22, Try.ntmps22
    go_wp2_with (refine wpList_copy_nothing rfl _ _ 22 22 rfl 30 Try.underlying22 elem_size _ _ _ _ _ _ rfl rfl (by simp) ?_)
    go_ret
    exact ⟨_, _, rfl, HD.out, (Below.refl _ _).alloc (Nat.le_refl _) _⟩
  · have hkk : ¬ (k + xs.length = k) := by omega
    obtain ⟨b, off, hA, hb, hcx⟩ := H.out.2.2 (by omega)
    have HL := Lib.hid (show XS.length = Nat.min xs.length xs.length from by rw [HXS.out, cells_len]; exact (Nat.min_self _).symm)
    have HP := Lib.hid (show 0 < XS.length → some (⟨w.heap.size, k, none⟩ : Addr) = some ⟨w.heap.size, k, none⟩ ∧ ∃ ad, A = some ad ∧ ∀ j v, XS[j]? = some v → (w.alloc (.cells CS.toArray 30)).cell? (ad.add j) = some v from fun _ => ⟨rfl, ⟨b, off, none⟩, hA, fun j v hv => by
      rw [HXS.out] at hv
      subst hA
      rw [← dg_cell H.out hv]
      exact World.cell?_alloc_lt w _ _ (by rw [Addr.add_lit]; exact hb)⟩)
    clear hcx
    go_enter Try.func22, Try.ntmps22
    go_wp2_with (refine wpList_copy_splice rfl _ _ 22 22 rfl 30 Try.underlying22 elem_size _ _ _ _ _ _ rfl rfl w.heap.size k CS 30 HSZ.out XS HL.out HP.out HF.out H1.out w.heap.size w ((Below.refl _ _).alloc (Nat.le_refl _) _) (Nat.le_refl _) ?_; intro w2 HG2 hB2)
    have HD := Lib.hid (lift_fin HG2.out HCS.out HXS.out H.out)
    have HB2 := Lib.hid hB2
    clear HG2 hB2
    go_wp2
    go_ret
    exact ⟨_, _, rfl, HD.out, HB2.out⟩
set_option maxHeartbeats 1000000 in
/-- kara.less at two parts: each is taken away. -/
theorem less_any (A : Option Addr) (c : Nat) (xs : List Nat) (p : Nat) (B1 B2 : Option Addr) (d1 d2 : Nat) (ys zs : List Nat) (w : World) (h : Dg w A c xs) (h1 : Dg w B1 d1 ys) (h2 : Dg w B2 d2 zs)
    (hp : p < w.heap.size) (c1 : w.cell? ⟨p, 0, none⟩ = some (.slice B1 ys.length d1)) (c2 : w.cell? ⟨p, 1, none⟩ = some (.slice B2 zs.length d2)) (hl : xs.length ≤ 1048576) (hl1 : ys.length ≤ 1048576) (hl2 : zs.length ≤ 1048576) (hle : val ys + val zs ≤ val xs) :
    Calls Try.prog 23 #[.slice A xs.length c, .slice (some ⟨p, 0, none⟩) 2 2] w fun e w' => ∃ A' c', e = .returned (.slice A' (digs (val xs - val ys - val zs)).length c') ∧ Dg w' A' c' (digs (val xs - val ys - val zs)) ∧ Below w.heap.size w w' := by
  have s1 := Lib.hid (sub_yes A B1 c d1 xs ys w h h1 hl hl1 (by omega))
  have l1 := digs_sub_len (val xs) (val ys)
  have l0 := digs_len_le h.2.1
  have H2 := Lib.hid h2
  have HV := Lib.hid (show val zs ≤ val xs - val ys by omega)
  have C2 := Lib.hid c2
  clear h h1 h2 hle c2
  go_enter Try.func23, Try.ntmps23
  go_wp2
  go_loopw [0, 9] (fun a i wr => (i = .int .i64 0 ∧ a = .slice A xs.length c ∧ wr = w) ∨ (i = .int .i64 1 ∧ ∃ A1 c1, a = .slice A1 (digs (val xs - val ys)).length c1 ∧ Dg wr A1 c1 (digs (val xs - val ys)) ∧ Below w.heap.size w wr) ∨
    (i = .int .i64 2 ∧ ∃ A1 c1, a = .slice A1 (digs (val xs - val ys - val zs)).length c1 ∧ Dg wr A1 c1 (digs (val xs - val ys - val zs)) ∧ Below w.heap.size w wr)) (fun _ i _ => 2 - (intOf i).toNat)
  case atStart => exact .inl ⟨rfl, rfl, rfl⟩
  case round =>
    rcases hrel with ⟨rfl, rfl, rfl⟩ | ⟨rfl, A1, c1', rfl, g1, hb1⟩ | ⟨rfl, A1, c1', rfl, g1, hb1⟩
    · go_wp2_with fail
      refine s1.out.mono ?_
      rintro e w1 ⟨A1, c1', rfl, g1, hb1⟩
      have G1 := Lib.hid g1
      have HB1 := Lib.hid hb1
      clear g1 hb1
      go_wp2
      go_roundw
      case rel => exact .inr (.inl ⟨rfl, A1, c1', rfl, G1.out, HB1.out⟩)
      case measure => simp [intOf]
    · have c2' := (hb1.cell (p := ⟨p, 1, none⟩) hp).trans C2.out
      have s2 := sub_yes A1 B2 c1' d2 (digs (val xs - val ys)) zs wr g1 (H2.out.keep hb1.size (fun b o h => hb1.cell (p := ⟨b, o, none⟩) h)) (by omega) hl2 (by rw [val_digs]; exact HV.out)
      rw [val_digs] at s2
      have S2 := Lib.hid s2
      clear s2
      go_wp2_with fail
      refine S2.out.mono ?_
      rintro e w1 ⟨A2, c2', rfl, g2, hb2⟩
      have G2 := Lib.hid g2
      have HB2 := Lib.hid hb2
      clear g2 hb2
      go_wp2
      go_roundw
      case rel => exact .inr (.inr ⟨rfl, A2, c2', rfl, G2.out, hb1.trans (HB2.out.mono hb1.size)⟩)
      case measure => simp [intOf]
    · go_wp2
      go_ret
      exact ⟨A1, c1', rfl, g1, hb1⟩
end Go.Proofs.Ytbliblfcbnhhiaa
