/-
  slices.Clone at []uint32; nat.Trim, From, Small.
-/
import Derived.Test.YtceningojnfgpaaBits
import Derived.Laws.OwnMore
namespace Go.Proofs.Ytceningojnfgpaa
open Go.RowKit
/-- The cells of a list of digits. -/
def cells (xs : List Nat) : List Value := xs.map fun (x : Nat) => Value.int .u32 (x : Int)
theorem cells_get {xs : List Nat} {j : Nat} {u : Value} (h : (cells xs)[j]? = some u) : j < xs.length ∧ u = .int .u32 (xs[j]?.getD 0 : Nat) := by
  unfold cells at h
  rw [List.getElem?_map] at h
  rcases Nat.lt_or_ge j xs.length with hj | hj
  · rw [List.getElem?_eq_getElem hj] at h ⊢
    simp at h
    exact ⟨hj, by simp [h]⟩
  · rw [List.getElem?_eq_none hj] at h; simp at h
theorem dg_of_own {w : World} {base : Nat} {e : TypeId} {v : Value} {n : Nat} {xs : List Nat} (h : w.ownsRow base e 1 v n (cells xs)) (hk : ok32 xs) : ∃ A c, v = .slice A xs.length c ∧ Dg w A c xs := by
  have hn : xs.length = n := by have := h.1; simp [cells] at this; omega
  rcases h.2 with ⟨rfl, h0⟩ | ⟨g, cap, cur, rfl, hb, hh, hc, hm, hs, ht⟩
  · have : xs = [] := List.eq_nil_of_length_eq_zero (by omega)
    subst this
    exact ⟨none, 0, rfl, Dg.nil_ _ _⟩
  · refine ⟨some ⟨g, 0, none⟩, cap, by rw [hn], by omega, hk, fun h0 => ⟨g, 0, rfl, ?_, fun j hj => ?_⟩⟩
    · rcases Nat.lt_or_ge g w.heap.size with hlt | hge
      · exact hlt
      · rw [Array.getElem?_eq_none hge] at hh; cases hh
    · have hca := h.cellAt j (by omega)
      rw [Nat.zero_add, hca]
      unfold cells
      rw [List.getElem?_map, List.getElem?_eq_getElem hj]
      simp
/-- What a call hands back lies behind block B, or nowhere. -/
def Fr (B : Nat) (A : Option Addr) : Prop := ∀ b o, A = some ⟨b, o, none⟩ → B ≤ b
theorem fr_none (B : Nat) : Fr B none := fun _ _ h => by cases h
theorem dg_of_own_f {w : World} {base : Nat} {e : TypeId} {v : Value} {n : Nat} {xs : List Nat} (h : w.ownsRow base e 1 v n (cells xs)) (hk : ok32 xs) : ∃ A c, v = .slice A xs.length c ∧ Dg w A c xs ∧ Fr base A := by
  obtain ⟨A, c, hv, hd⟩ := dg_of_own h hk
  refine ⟨A, c, hv, hd, ?_⟩
  rcases h.2 with ⟨rfl, h0⟩ | ⟨g, cap, cur, rfl, hb, _⟩
  · simp only [Value.slice.injEq] at hv; obtain ⟨rfl, _⟩ := hv; exact fr_none _
  · simp only [Value.slice.injEq] at hv; obtain ⟨rfl, _⟩ := hv
    intro b o e
    simp only [Option.some.injEq, Addr.mk.injEq] at e
    omega
theorem elem_info : (Try.prog.info? 37).map (fun i => (i.zero, i.size, i.bytes)) = some (some (.int .u32 0), 1, 4) := by kernel_rfl
theorem dg_cell {w : World} {A : Addr} {c : Nat} {xs : List Nat} (h : Dg w (some A) c xs) {j : Nat} {u : Value} (hu : (cells xs)[j]? = some u) : w.cell? (A.add j) = some u := by
  obtain ⟨hj, rfl⟩ := cells_get hu
  obtain ⟨b, off, e, _, hc⟩ := h.2.2 (by omega)
  injection e with e
  subst e
  rw [Addr.add_lit]
  exact hc j hj
set_option maxHeartbeats 1000000 in
theorem clone_any (A : Option Addr) (c : Nat) (xs : List Nat) (w : World) (h : Dg w A c xs) (hl : xs.length ≤ 16777216) :
    Calls Try.prog 44 #[.slice A xs.length c] w fun e w' => ∃ A' c', e = .returned (.slice A' xs.length c') ∧ Dg w' A' c' xs ∧ Below w.heap.size w w' := by
  obtain ⟨i0, hi, hz0, hz1, hz2⟩ := info_parts elem_info
  have q22 : ∀ (w : World) (a : Option Addr) (n c n' c' : Nat), (binOp .eql 22 (.slice a n c) (.slice none n' c')).run Try.prog w = .ok (.bool a.isNone) w := fun w a n c n' c' => Lib.run_eql_slice_nil w _ _ a n c n' c' Try.underlying22
  rcases A with _ | A
  · have h0 : xs = [] := by
      rcases Nat.eq_zero_or_pos xs.length with h0 | h0
      · exact List.eq_nil_of_length_eq_zero h0
      · obtain ⟨b, off, e, _⟩ := h.2.2 h0
        cases e
    subst h0
    go_enter Try.func44, Try.ntmps44
    go_wp2
    go_ret
    exact ⟨none, 0, rfl, Dg.nil_ _ _, Below.refl _ _⟩
  · have H := Lib.hid h
    have hc : xs.length = (cells xs).length := by simp [cells]
    have HC := Lib.hid hc
    clear h hc
    go_enter Try.func44, Try.ntmps44
    go_wp2_with (at_builtin; refine wpList_append_own _ rfl _ _ 22 rfl w.heap.size 37 i0 (.int .u32 0) 1 4 Try.underlying22 hi hz0 hz1 hz2 rfl (by decide) _ _ _ rfl (World.ownsRow_made w #[] 0 (Nat.le_refl _) (Nat.zero_le _) rfl) A xs.length c (cells xs) rfl ?qc1 ?qc2 ?qc3 ?qc4 ?qc5 ?qc6 ?_)
    case qc1 => have := HC.out; omega
    case qc2 =>
      intro j u hj
      obtain ⟨hlt, _⟩ := cells_get hj
      have hold := dg_cell H.out hj
      obtain ⟨b, off, e, hb, _⟩ := H.out.2.2 (by omega)
      injection e with e
      subst e
      rw [← hold]
      exact World.cell?_alloc_lt w _ _ (by rw [Addr.add_lit]; exact hb)
    case qc3 => intro u hu; unfold cells at hu; obtain ⟨x, _, rfl⟩ := List.mem_map.1 hu; rfl
    case qc4 => unfold maxLen; omega
    case qc5 => omega
    case qc6 => simp
    intro v' w1 hown hgrow hnil
    try simp only [Nat.zero_add, List.nil_append] at hown
    obtain ⟨A', c', hv, hd⟩ := dg_of_own hown H.out.2.1
    have HV := Lib.hid hv
    clear hv hown
    go_wp2
    go_ret
    refine ⟨A', c', by rw [← HV.out]; rfl, hd, ?_⟩
    exact ((Below.refl _ w).alloc (Nat.le_refl _) _).grown hgrow (by simp) (by intro k hk; simp [Value.ownBlock] at hk; omega)
set_option maxHeartbeats 400000 in
theorem trim_any (A : Option Addr) (c : Nat) (xs : List Nat) (w : World) (h : Dg w A c xs) (hl : xs.length ≤ 16777216) :
    Calls Try.prog 22 #[.slice A xs.length c] w fun e w' => ∃ A' c', e = .returned (.slice A' (digs (val xs)).length c') ∧ Dg w' A' c' (digs (val xs)) ∧ Below w.heap.size w w' := by
  have hd := digs_len_le h.2.1
  have H := Lib.hid h
  clear h
  go_enter Try.func22, Try.ntmps22
  go_wp2_with fail
  refine (short_any A c xs _ H.out hl).mono ?_
  rintro e w' ⟨A1, c1, rfl, h1, rfl⟩
  have H1 := Lib.hid h1
  clear h1
  go_wp2_with fail
  refine (clone_any A1 c1 _ _ H1.out (by omega)).mono ?_
  rintro e w' ⟨A2, c2, rfl, h2, hb⟩
  have H2 := Lib.hid h2
  clear h2
  go_wp2
  go_ret
  exact ⟨A2, c2, rfl, H2.out, hb⟩
end Go.Proofs.Ytceningojnfgpaa
