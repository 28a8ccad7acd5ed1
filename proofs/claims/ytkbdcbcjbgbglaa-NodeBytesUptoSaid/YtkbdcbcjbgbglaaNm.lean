/-
  The law's own grow: keys put in, one behind the other.
-/
import Derived.Test.YtkbdcbcjbgbglaaNl
namespace Go.Proofs.Ytkbdcbcjbgbglaa
open Go.RowKit
set_option linter.unusedVariables false
def putK (key : List UInt8) (ks : List (List UInt8)) : List (List UInt8) := putKi ks key (lbK key ks) (thereB key ks)
def putD (lf : Bool) (key : List UInt8) (ks : List (List UInt8)) (kid : Int) (ds : List Int) : List Int := putDi ds kid lf (lbK key ks) (thereB key ks)
theorem srt_pw {ks : List (List UInt8)} : Srt ks ↔ ks.Pairwise (· < ·) := by
  rw [List.pairwise_iff_getElem]
  constructor
  · intro h i j hi hj hij
    exact h i j _ _ hij (List.getElem?_eq_getElem hi) (List.getElem?_eq_getElem hj)
  · intro h i j x y hij hx hy
    obtain ⟨hi, rfl⟩ := List.getElem?_eq_some_iff.1 hx
    obtain ⟨hj, rfl⟩ := List.getElem?_eq_some_iff.1 hy
    exact h i j hi hj hij
theorem lt_ir (a : List UInt8) : ¬ a < a := List.lt_irrefl a
theorem lt_tri : ∀ {a b : List UInt8}, ¬ a < b → a ≠ b → b < a
  | [], [], _, h => absurd rfl h
  | [], y :: ys, h, _ => absurd (List.nil_lt_cons y ys) h
  | x :: xs, [], _, _ => List.nil_lt_cons x xs
  | x :: xs, y :: ys, h, h2 => by
    rw [List.cons_lt_cons_iff] at h ⊢
    by_cases hxy : x = y
    · subst hxy
      exact .inr ⟨rfl, lt_tri (fun e => h (.inr ⟨rfl, e⟩)) (fun e => h2 (by rw [e]))⟩
    · refine .inl ?_
      have h3 : ¬ x < y := fun e => h (.inl e)
      rw [UInt8.lt_iff_toNat_lt] at h3 ⊢
      have h4 : x.toNat ≠ y.toNat := fun e => hxy (UInt8.toNat_inj.1 e)
      omega
theorem there_spec {key : List UInt8} {ks : List (List UInt8)} : thereB key ks = true ↔ ks[lbK key ks]? = some key := by unfold thereB; simp
/-- In a row of rising keys all behind the place are above the key. -/
theorem srt_above {ks : List (List UInt8)} (hs : Srt ks) {key x : List UInt8} {t : Nat} (hx : ks[t]? = some x) (ht : lbK key ks + (if thereB key ks then 1 else 0) ≤ t) : key < x := by
  have hl : lbK key ks < ks.length := by have := (List.getElem?_eq_some_iff.1 hx).1; split at ht <;> omega
  obtain ⟨y, hy⟩ := get_lt hl
  have h1 := lbK_stop hy
  by_cases hk : y = key
  · subst hk
    have hb : thereB y ks = true := there_spec.2 hy
    rw [hb] at ht
    simp only [if_true] at ht
    exact hs _ t y x (by omega) hy hx
  · have hky : key < y := lt_tri h1 hk
    rcases Nat.lt_or_ge (lbK key ks) t with h2 | h2
    · exact lt_tr hky (hs _ t y x h2 hy hx)
    · obtain rfl : t = lbK key ks := by split at ht <;> omega
      rw [hy] at hx; injection hx with hx; subst hx; exact hky
theorem putK_srt {key : List UInt8} {ks : List (List UInt8)} (hs : Srt ks) : Srt (putK key ks) := by
  rw [srt_pw]
  unfold putK putKi
  rw [List.append_assoc, List.pairwise_append]
  have hp := srt_pw.1 hs
  refine ⟨hp.sublist (List.take_sublist _ _), ?_, ?_⟩
  · rw [List.singleton_append, List.pairwise_cons]
    refine ⟨fun x hx => ?_, hp.sublist (List.drop_sublist _ _)⟩
    obtain ⟨j, hj⟩ := List.getElem?_of_mem hx
    rw [List.getElem?_drop] at hj
    exact srt_above hs hj (by omega)
  · intro a ha b hb
    obtain ⟨i, hi⟩ := List.getElem?_of_mem ha
    have hil : i < lbK key ks := by
      have := (List.getElem?_eq_some_iff.1 hi).1
      rw [List.length_take] at this; omega
    rw [List.getElem?_take, if_pos hil] at hi
    have hak := lbK_below hi hil
    rw [List.singleton_append] at hb
    rcases List.mem_cons.1 hb with rfl | hb
    · exact hak
    · obtain ⟨j, hj⟩ := List.getElem?_of_mem hb
      rw [List.getElem?_drop] at hj
      exact lt_tr hak (srt_above hs hj (by omega))
theorem there_lt {key : List UInt8} {ks : List (List UInt8)} (h : thereB key ks = true) : lbK key ks < ks.length := (List.getElem?_eq_some_iff.1 (there_spec.1 h)).1
theorem putK_len (key : List UInt8) (ks : List (List UInt8)) : (putK key ks).length = ks.length + (if thereB key ks then 0 else 1) := by
  unfold putK putKi
  have h1 := lbK_le key ks
  simp only [List.length_append, List.length_take, List.length_drop, List.length_singleton]
  cases hb : thereB key ks
  · simp; omega
  · have := there_lt hb; simp; omega
theorem putD_len {lf : Bool} {key : List UInt8} {ks : List (List UInt8)} {kid : Int} {ds : List Int} (hd : ds.length = if lf then ks.length else ks.length + 1) : (putD lf key ks kid ds).length = if lf then (putK key ks).length else (putK key ks).length + 1 := by
  rw [putK_len]
  unfold putD putDi bhd
  have h1 := lbK_le key ks
  simp only [List.length_append, List.length_take, List.length_drop, List.length_singleton]
  cases hb : thereB key ks
  · cases lf <;> simp at hd ⊢ <;> omega
  · have := there_lt hb
    cases lf <;> simp at hd ⊢ <;> omega
theorem mem_putK {key x : List UInt8} {ks : List (List UInt8)} (h : x ∈ putK key ks) : x = key ∨ x ∈ ks := by
  unfold putK putKi at h
  rcases List.mem_append.1 h with h | h
  · rcases List.mem_append.1 h with h | h
    · exact .inr (List.mem_of_mem_take h)
    · exact .inl (by simpa using h)
  · exact .inr (List.mem_of_mem_drop h)
theorem mem_putD {lf : Bool} {key : List UInt8} {ks : List (List UInt8)} {kid x : Int} {ds : List Int} (h : x ∈ putD lf key ks kid ds) : x = kid ∨ x ∈ ds := by
  unfold putD putDi at h
  rcases List.mem_append.1 h with h | h
  · rcases List.mem_append.1 h with h | h
    · exact .inr (List.mem_of_mem_take h)
    · exact .inl (by simpa using h)
  · exact .inr (List.mem_of_mem_drop h)
def nameOk (x : List UInt8) : Bool := decide (1 ≤ x.length) && decide (x.length ≤ 16)
def growS (i : Nat) (x : List UInt8) (p : List (List UInt8) × List Int) : List (List UInt8) × List Int := if nameOk x then (putK x p.1, putD true x p.1 ((i : Int) + 2) p.2) else p
def growM (l : List (List UInt8)) : Nat → List (List UInt8) × List Int
  | 0 => ([], [])
  | k + 1 => match l[k]? with
    | some x => growS k x (growM l k)
    | none => growM l k
theorem growM_succ {l : List (List UInt8)} {k : Nat} {x : List UInt8} (h : l[k]? = some x) : growM l (k + 1) = growS k x (growM l k) := by
  simp only [growM, h]
theorem growM_facts (l : List (List UInt8)) : ∀ k, Srt (growM l k).1 ∧ (growM l k).2.length = (growM l k).1.length ∧ (growM l k).1.length ≤ k ∧ (∀ x ∈ (growM l k).1, 1 ≤ x.length ∧ x.length ≤ 16) ∧ (∀ d ∈ (growM l k).2, 2 ≤ d ∧ d ≤ (k : Int) + 1)
  | 0 => ⟨fun i j x y _ h => by simp [growM] at h, rfl, Nat.le_refl _, fun x h => by simp [growM] at h, fun x h => by simp [growM] at h⟩
  | k + 1 => by
    obtain ⟨h1, h2, h3, h4, h5⟩ := growM_facts l k
    cases hx : l[k]? with
    | none =>
      have e : growM l (k + 1) = growM l k := by simp only [growM, hx]
      rw [e]
      exact ⟨h1, h2, by omega, h4, fun d hd => by have := h5 d hd; omega⟩
    | some x =>
      rw [growM_succ hx]
      unfold growS
      split
      · rename_i hn
        refine ⟨putK_srt h1, by simpa using putD_len (lf := true) (key := x) (kid := (k : Int) + 2) (by simpa using h2), by rw [putK_len]; split <;> omega, fun y hy => ?_, fun d hd => ?_⟩
        · rcases mem_putK hy with rfl | hy
          · simpa [nameOk] using hn
          · exact h4 y hy
        · rcases mem_putD hd with rfl | hd
          · omega
          · have := h5 d hd; omega
      · exact ⟨h1, h2, by omega, h4, fun d hd => by have := h5 d hd; omega⟩
set_option maxHeartbeats 4000000 in
set_option maxRecDepth 100000 in
theorem grow_any (A0 : Option Addr) (c0 : Nat) (l : List (List UInt8)) (w : World) (h : Rl sv w A0 c0 l) :
    Calls Try.prog 33 #[.slice A0 l.length c0] w fun e w' => ∃ A c B d, e = .returned (.agg #[.bool true, .slice A (growM l (min 12 l.length)).1.length c, .slice B (growM l (min 12 l.length)).2.length d]) ∧ Rl sv w' A c (growM l (min 12 l.length)).1 ∧ Rl nv w' B d (growM l (min 12 l.length)).2 ∧ Below w.heap.size w w' := by
  have H := Lib.hid h
  clear h
  obtain ⟨M, hM⟩ : ∃ M, min 12 l.length = M := ⟨_, rfl⟩
  rw [hM]
  have HM := Lib.hid hM
  clear hM
  obtain ⟨W, hW⟩ : ∃ W : World, W = (w.alloc (.cells #[.bool false, .slice none 0 0, .slice none 0 0] 25)).alloc (.cells #[.bool true, .slice none 0 0, .slice none 0 0] 25) := ⟨_, rfl⟩
  have ra := row_on (heap_alloc_new w (.cells #[.bool false, .slice none 0 0, .slice none 0 0] 25)) (bda _ (.cells #[.bool true, .slice none 0 0, .slice none 0 0] 25))
  have rb := heap_alloc_new (w.alloc (.cells #[.bool false, .slice none 0 0, .slice none 0 0] 25)) (.cells #[.bool true, .slice none 0 0, .slice none 0 0] 25)
  simp only [World.size_alloc] at rb
  rw [← hW] at ra rb
  have RA := Lib.hid ra
  have RB := Lib.hid rb
  have BW := Lib.hid (show Below w.heap.size w W by rw [hW]; exact bon (bda _ _) (bda _ _))
  have SW := Lib.hid (show w.heap.size + 2 ≤ W.heap.size by rw [hW]; simp)
  have HW := Lib.hid hW
  clear ra rb hW
  go_enter Try.func33, Try.ntmps33
  go_wp2_with fail
  rw [← HW.out]
  clear HW
  go_loopw [4] (fun i wr => ∃ (k : Nat) (ks : List (List UInt8)) (ds : List Int) (A : Option Addr) (c : Nat) (B : Option Addr) (d : Nat), k ≤ M ∧ i = .int .i64 k ∧ Hid (growM l k = (ks, ds)) ∧ Hid (wr.heap[w.heap.size + 1]? = some (.cells #[.bool true, .slice A ks.length c, .slice B ds.length d] 25 (0, 0))) ∧ Hid (wr.heap[w.heap.size]? = some (.cells #[.bool false, .slice none 0 0, .slice none 0 0] 25 (0, 0))) ∧ Hid (Rl sv wr A c ks ∧ Rl nv wr B d ds) ∧ Hid (Fr (w.heap.size + 2) A ∧ Fr (w.heap.size + 2) B) ∧ Hid (Below w.heap.size w wr) ∧ Hid (w.heap.size + 2 ≤ wr.heap.size)) (fun i _ => M - (intOf i).toNat)
  case atStart => exact ⟨0, [], [], none, 0, none, 0, Nat.zero_le _, rfl, Lib.hid rfl, RB, RA, Lib.hid ⟨Rl.nil_ _ _ _ _, Rl.nil_ _ _ _ _⟩, Lib.hid ⟨(fun _ _ h => by cases h), (fun _ _ h => by cases h)⟩, BW, SW⟩
  case round =>
    obtain ⟨k, ks, ds, A, c, B, d, hk, rfl, hg, r1, r2, hv, hf, kb, bz⟩ := hrel
    by_cases hlt : k < M
    · have hkl : k < l.length := by have := HM.out; omega
      have hk12 : k < 12 := by have := HM.out; omega
      obtain ⟨x_, hx⟩ := get_lt hkl
      obtain ⟨b0, off0, hA, hbl, g2⟩ := (H.out.below kb.out).cell hx
      have GS := Lib.hid (growM_succ hx)
      have GF := Lib.hid (growM_facts l k)
      rw [hg.out] at GS GF
      have HLT := Lib.hid hlt
      have hsx := str_size x_
      have k0 : (0 : Int) ≤ (k : Int) := by omega
      have k1 : (k : Int) < (l.length : Int) := by omega
      have k3 : decide ((k : Int) < 12) = true := decide_eq_true (by omega)
      have k4 : decide (k < 12) = true := decide_eq_true hk12
      have k2 : IntKind.i64.wrap ((k : Int) + 2) = (k : Int) + 2 := IntWalk.i64_in _ (by omega)
      unfold sv at g2
      obtain ⟨X, hX⟩ : ∃ X, x_.length = X := ⟨_, rfl⟩
      rw [hX] at hsx
      have HX := Lib.hid hX
      subst hA
      clear hx hlt hX
      by_cases c1 : 1 ≤ X
      · have d1 : decide ((1 : Int) ≤ (X : Int)) = true := decide_eq_true (by omega)
        have d2 : decide (1 ≤ X) = true := decide_eq_true c1
        by_cases c2 : X ≤ 16
        · have d3 : decide ((X : Int) ≤ 16) = true := decide_eq_true (by omega)
          have d4 : decide (X ≤ 16) = true := decide_eq_true c2
          have GY := Lib.hid (show growM l (k + 1) = (putK x_ ks, putD true x_ ks ((k : Int) + 2) ds) by
            rw [GS.out]; unfold growS; rw [if_pos]; unfold nameOk; rw [HX.out, d2, d4]; rfl)
          have f0 := row_c r1.out (i := 0) rfl
          have f1 := row_c r1.out (i := 1) rfl
          have f2 := row_c r1.out (i := 2) rfl
          have PA := Lib.hid (fun V (hV : Below wr.heap.size wr V) => put_any true A c ks B d ds x_ ((k : Int) + 2) V (hv.out.1.below hV) (hv.out.2.below hV) (by have := GF.out.2.2.1; simp at this; omega) (by have := GF.out.2.1; unfold shapedB; simpa using this))
          have FA := Lib.hid (fun x (K : Below wr.heap.size wr x) => And.intro (row_c (row_on r1.out K) (i := 0) rfl) (And.intro (row_c (row_on r1.out K) (i := 1) rfl) (row_c (row_on r1.out K) (i := 2) rfl)))
          have FX := Lib.hid (fun x (K : Below wr.heap.size wr x) => (K.cell (p := ⟨b0, off0 + k, none⟩) hbl).trans g2)
          clear c1 c2 GS
          go_upto_region 6 with (fail)
          clear f0 f1 f2 g2 d1 d2 d3 d4 k3 k4 hbl
          refine wp_operands (W := wr) rfl 8 [30, 31, 32, 33, 34, 35, 36, 37] (fun i u x => match i with | 0 => u = .agg #[.bool true, .slice A ks.length c, .slice B ds.length d] | 1 => u = .slice (some ⟨b0, off0, none⟩) l.length c0 | 2 => u = .int .i64 (k : Int) | 3 => u = .pointer (some ⟨b0, off0 + k, none⟩) | 4 => u = .string ⟨x_.toArray⟩ | 5 => u = .int .i64 (k : Int) | 6 => u = .int .i64 ((k : Int) + 2) | 7 => ∃ A0 cq B0 d0, u = .agg #[.bool true, .slice A0 (putK x_ ks).length cq, .slice B0 (putD true x_ ks ((k : Int) + 2) ds).length d0] ∧ Rl sv x A0 cq (putK x_ ks) ∧ Rl nv x B0 d0 (putD true x_ ks ((k : Int) + 2) ds) ∧ Fr (w.heap.size + 2) A0 ∧ Fr (w.heap.size + 2) B0 | _ => True) (fun _ => false)
            (by decide) rfl (by kernel_rfl) (by kernel_rfl) (by decide) (by kernel_rfl) ?_ (fun _ _ _ h => by cases h) ?_ ?_
          · intro i u x x' hi hR hb'
            have hi' : i = 0 ∨ i = 1 ∨ i = 2 ∨ i = 3 ∨ i = 4 ∨ i = 5 ∨ i = 6 ∨ i = 7 := by omega
            rcases hi' with rfl | rfl | rfl | rfl | rfl | rfl | rfl | rfl
            · exact hR
            · exact hR
            · exact hR
            · exact hR
            · exact hR
            · exact hR
            · exact hR
            · obtain ⟨A0, cq, B0, d0, e, h1, h2, h3, h4⟩ := hR; exact ⟨A0, cq, B0, d0, e, h1.below hb', h2.below hb', h3, h4⟩
          · intro i av x K hi hF hb' hw hK
            have hi' : i = 0 ∨ i = 1 ∨ i = 2 ∨ i = 3 ∨ i = 4 ∨ i = 5 ∨ i = 6 ∨ i = 7 := by omega
            rcases hi' with rfl | rfl | rfl | rfl | rfl | rfl | rfl | rfl
            · simp only [wpOp, List.getElem?_toArray, List.getElem?_cons_zero, Region.wanted, if_true]
              refine Or.inl ?_
              have e0 : av.tmps.getD 3 undef = .pointer (some ⟨w.heap.size + 1, 0, none⟩) := hF.2.2 3 (by decide)
              have e0e : av.eval (.tmp 3) = .pointer (some ⟨w.heap.size + 1, 0, none⟩) := e0
              have e0g : av.tmps[3]?.getD undef = .pointer (some ⟨w.heap.size + 1, 0, none⟩) := by have := e0; simp only [Array.getD_eq_getD_getElem?] at this; exact this
              obtain ⟨f0, f1, f2⟩ := FA.out x hb'
              clear hw hF
              simp only [Oper.wp, execOp]
              try simp only [e0e]
              go_simp
              exact hK _ x (by first | rfl | (simp only [Nat.add_zero]; done) | (congr 1; omega)) (Below.refl _ _) (fun h => by cases h)
            · simp only [wpOp, List.getElem?_toArray, List.getElem?_cons_succ, List.getElem?_cons_zero, Region.wanted, if_true]
              refine Or.inl ?_
              have e0 : av.tmps.getD 0 undef = .slice (some ⟨b0, off0, none⟩) l.length c0 := hF.2.2 0 (by decide)
              have e0e : av.eval (.tmp 0) = .slice (some ⟨b0, off0, none⟩) l.length c0 := e0
              have e0g : av.tmps[0]?.getD undef = .slice (some ⟨b0, off0, none⟩) l.length c0 := by have := e0; simp only [Array.getD_eq_getD_getElem?] at this; exact this
              clear hw hF
              simp only [Oper.wp, execOp]
              try simp only [e0e]
              go_simp
              exact hK _ x (by first | rfl | (simp only [Nat.add_zero]; done) | (congr 1; omega)) (Below.refl _ _) (fun h => by cases h)
            · simp only [wpOp, List.getElem?_toArray, List.getElem?_cons_succ, List.getElem?_cons_zero, Region.wanted, if_true]
              refine Or.inl ?_
              have e0 : av.tmps.getD 4 undef = .int .i64 (k : Int) := hF.2.2 4 (by decide)
              have e0e : av.eval (.tmp 4) = .int .i64 (k : Int) := e0
              have e0g : av.tmps[4]?.getD undef = .int .i64 (k : Int) := by have := e0; simp only [Array.getD_eq_getD_getElem?] at this; exact this
              clear hw hF
              simp only [Oper.wp, execOp]
              try simp only [e0e]
              go_simp
              exact hK _ x (by first | rfl | (simp only [Nat.add_zero]; done) | (congr 1; omega)) (Below.refl _ _) (fun h => by cases h)
            · simp only [wpOp, List.getElem?_toArray, List.getElem?_cons_succ, List.getElem?_cons_zero, Region.wanted, if_true]
              refine Or.inl ?_
              have e0 : av.tmps.getD 31 undef = .slice (some ⟨b0, off0, none⟩) l.length c0 := (hw 1 (by kernel_rfl))
              have e0e : av.eval (.tmp 31) = .slice (some ⟨b0, off0, none⟩) l.length c0 := e0
              have e0g : av.tmps[31]?.getD undef = .slice (some ⟨b0, off0, none⟩) l.length c0 := by have := e0; simp only [Array.getD_eq_getD_getElem?] at this; exact this
              have e1 : av.tmps.getD 32 undef = .int .i64 (k : Int) := (hw 2 (by kernel_rfl))
              have e1e : av.eval (.tmp 32) = .int .i64 (k : Int) := e1
              have e1g : av.tmps[32]?.getD undef = .int .i64 (k : Int) := by have := e1; simp only [Array.getD_eq_getD_getElem?] at this; exact this
              clear hw hF
              simp only [Oper.wp, execOp]
              try simp only [e0e, e1e]
              go_simp
              exact hK _ x (by first | rfl | (simp only [Nat.add_zero]; done) | (congr 1; omega)) (Below.refl _ _) (fun h => by cases h)
            · simp only [wpOp, List.getElem?_toArray, List.getElem?_cons_succ, List.getElem?_cons_zero, Region.wanted, if_true]
              refine Or.inl ?_
              have e0 : av.tmps.getD 33 undef = .pointer (some ⟨b0, off0 + k, none⟩) := (hw 3 (by kernel_rfl))
              have e0e : av.eval (.tmp 33) = .pointer (some ⟨b0, off0 + k, none⟩) := e0
              have e0g : av.tmps[33]?.getD undef = .pointer (some ⟨b0, off0 + k, none⟩) := by have := e0; simp only [Array.getD_eq_getD_getElem?] at this; exact this
              have fx := FX.out x hb'
              clear hw hF
              simp only [Oper.wp, execOp]
              try simp only [e0e]
              go_simp
              exact hK _ x (by first | rfl | (simp only [Nat.add_zero]; done) | (congr 1; omega)) (Below.refl _ _) (fun h => by cases h)
            · simp only [wpOp, List.getElem?_toArray, List.getElem?_cons_succ, List.getElem?_cons_zero, Region.wanted, if_true]
              refine Or.inl ?_
              have e0 : av.tmps.getD 4 undef = .int .i64 (k : Int) := hF.2.2 4 (by decide)
              have e0e : av.eval (.tmp 4) = .int .i64 (k : Int) := e0
              have e0g : av.tmps[4]?.getD undef = .int .i64 (k : Int) := by have := e0; simp only [Array.getD_eq_getD_getElem?] at this; exact this
              clear hw hF
              simp only [Oper.wp, execOp]
              try simp only [e0e]
              go_simp
              exact hK _ x (by first | rfl | (simp only [Nat.add_zero]; done) | (congr 1; omega)) (Below.refl _ _) (fun h => by cases h)
            · simp only [wpOp, List.getElem?_toArray, List.getElem?_cons_succ, List.getElem?_cons_zero, Region.wanted, if_true]
              refine Or.inl ?_
              have e0 : av.tmps.getD 35 undef = .int .i64 (k : Int) := (hw 5 (by kernel_rfl))
              have e0e : av.eval (.tmp 35) = .int .i64 (k : Int) := e0
              have e0g : av.tmps[35]?.getD undef = .int .i64 (k : Int) := by have := e0; simp only [Array.getD_eq_getD_getElem?] at this; exact this
              clear hw hF
              simp only [Oper.wp, execOp]
              try simp only [e0e]
              go_simp
              exact hK _ x (by first | rfl | (simp only [Nat.add_zero]; done) | (congr 1; omega)) (Below.refl _ _) (fun h => by cases h)
            · simp only [wpOp, List.getElem?_toArray, List.getElem?_cons_succ, List.getElem?_cons_zero, Region.wanted, if_true]
              refine Or.inl ?_
              have e0 : av.tmps.getD 30 undef = .agg #[.bool true, .slice A ks.length c, .slice B ds.length d] := (hw 0 (by kernel_rfl))
              have e0e : av.eval (.tmp 30) = .agg #[.bool true, .slice A ks.length c, .slice B ds.length d] := e0
              have e0g : av.tmps[30]?.getD undef = .agg #[.bool true, .slice A ks.length c, .slice B ds.length d] := by have := e0; simp only [Array.getD_eq_getD_getElem?] at this; exact this
              have e1 : av.tmps.getD 34 undef = .string ⟨x_.toArray⟩ := (hw 4 (by kernel_rfl))
              have e1e : av.eval (.tmp 34) = .string ⟨x_.toArray⟩ := e1
              have e1g : av.tmps[34]?.getD undef = .string ⟨x_.toArray⟩ := by have := e1; simp only [Array.getD_eq_getD_getElem?] at this; exact this
              have e2 : av.tmps.getD 36 undef = .int .i64 ((k : Int) + 2) := (hw 6 (by kernel_rfl))
              have e2e : av.eval (.tmp 36) = .int .i64 ((k : Int) + 2) := e2
              have e2g : av.tmps[36]?.getD undef = .int .i64 ((k : Int) + 2) := by have := e2; simp only [Array.getD_eq_getD_getElem?] at this; exact this
              clear hw hF
              simp only [Oper.wp, execOp]
              try simp only [e0e, e1e, e2e]
              go_simp
              refine (PA.out x hb').mono ?_
              rintro e x' ⟨ix, bx, A0, cq, B0, d0, rfl, h1, h2, h3, _, h5, h6, h7, h8⟩
              obtain ⟨rfl, rfl⟩ := h5 GF.out.1
              exact hK _ x' ⟨A0, cq, B0, d0, rfl, h1, h2, fun b_ o_ e_ => by have := h7 b_ o_ e_; have := bz.out; have := hb'.size; omega, fun b_ o_ e_ => by have := h8 b_ o_ e_; have := bz.out; have := hb'.size; omega⟩ h6 (fun h => by cases h)
          · intro av x hF hb' hR _
            have e0 : av.tmps.getD 30 undef = .agg #[.bool true, .slice A ks.length c, .slice B ds.length d] := hR 0 (by decide)
            have e1 : av.tmps.getD 31 undef = .slice (some ⟨b0, off0, none⟩) l.length c0 := hR 1 (by decide)
            have e2 : av.tmps.getD 32 undef = .int .i64 (k : Int) := hR 2 (by decide)
            have e3 : av.tmps.getD 33 undef = .pointer (some ⟨b0, off0 + k, none⟩) := hR 3 (by decide)
            have e4 : av.tmps.getD 34 undef = .string ⟨x_.toArray⟩ := hR 4 (by decide)
            have e5 : av.tmps.getD 35 undef = .int .i64 (k : Int) := hR 5 (by decide)
            have e6 : av.tmps.getD 36 undef = .int .i64 ((k : Int) + 2) := hR 6 (by decide)
            obtain ⟨Ax7, cx7, Bx7, dx7, e7, h1x7, h2x7, h3x7, h4x7⟩ := hR 7 (by decide)
            replace e7 : av.tmps.getD 37 undef = .agg #[.bool true, .slice Ax7 (putK x_ ks).length cx7, .slice Bx7 (putD true x_ ks ((k : Int) + 2) ds).length dx7] := e7
            rw [hF.fold (by kernel_rfl)]
            simp only [List.foldl_cons, List.foldl_nil, e0, e1, e2, e3, e4, e5, e6, e7]
            simp only [Act.put, List.setIfInBounds_toArray, List.set_cons_zero, List.set_cons_succ]
            change wpOps _ _ _ [8] _ _
            simp only [wpOps_cons]
            clear e0 e1 e2 e3 e4 e5 e6 e7 hR hF
            have Q1 := Lib.hid (row_on r1.out hb')
            have Q2 := Lib.hid (row_on r2.out hb')
            have K3 := Lib.hid (kb.out.trans (hb'.mono kb.out.size))
            have Z3 := Lib.hid (Nat.le_trans bz.out hb'.size)
            have X1 := Lib.hid h1x7
            have X2 := Lib.hid h2x7
            have X3 := Lib.hid h3x7
            have X4 := Lib.hid h4x7
            clear hb' h1x7 h2x7 h3x7 h4x7
            have p0 := row_c Q1.out (i := 0) rfl
            have p1 := row_c Q1.out (i := 1) rfl
            have p2 := row_c Q1.out (i := 2) rfl
            have y0 := frozen_of_row _ _ 0 _ _ Q1.out
            have y1 := frozen_of_row _ _ 1 _ _ Q1.out
            have y2 := frozen_of_row _ _ 2 _ _ Q1.out
            try rw [wpOps_cons]
            simp only [wpOp, List.getElem?_toArray, List.getElem?_cons_succ, List.getElem?_cons_zero, Region.wanted, if_true]
            refine Or.inl ?_
            simp only [Oper.wp, execOp]
            go_simp
            try simp only [wpOps]
            clear p0 p1 p2 y0 y1 y2
            go_wp2
            go_roundw
            case rel =>
              refine ⟨k + 1, putK x_ ks, putD true x_ ks ((k : Int) + 2) ds, Ax7, cx7, Bx7, dx7, HLT.out, by go_num, GY, Lib.hid ?_, Lib.hid ?_, Lib.hid ⟨?_, ?_⟩, Lib.hid ⟨X3.out, X4.out⟩, Lib.hid ?_, Lib.hid ?_⟩
              · have := row_set (i := 2) (row_set (i := 1) (row_set (i := 0) Q1.out (.bool true)) (.slice Ax7 (putK x_ ks).length cx7)) (.slice Bx7 (putD true x_ ks ((k : Int) + 2) ds).length dx7); simpa using this
              · exact row_far (row_far (row_far Q2.out (by omega) _) (by omega) _) (by omega) _
              · exact ((X1.out.set X3.out (by omega) _ _).set X3.out (by omega) _ _).set X3.out (by omega) _ _
              · exact ((X2.out.set X4.out (by omega) _ _).set X4.out (by omega) _ _).set X4.out (by omega) _ _
              · exact ((K3.out.setCell (by simp) _).setCell (by simp) _).setCell (by simp) _
              · simpa using Z3.out
            case measure => simp [intOf]; have := HLT.out; omega
        · have d3 : decide ((X : Int) ≤ 16) = false := decide_eq_false (by omega)
          have d4 : decide (X ≤ 16) = false := decide_eq_false c2
          have GN := Lib.hid (show growM l (k + 1) = (ks, ds) by rw [GS.out]; unfold growS; rw [if_neg]; unfold nameOk; rw [HX.out, d4]; simp)
          clear c1 c2 GS
          go_wp2
          go_roundw
          case rel => exact ⟨k + 1, ks, ds, A, c, B, d, HLT.out, by go_num, GN, r1, r2, hv, hf, kb, bz⟩
          case measure => simp [intOf]; have := HLT.out; omega
      · have d1 : decide ((1 : Int) ≤ (X : Int)) = false := decide_eq_false (by omega)
        have d2 : decide (1 ≤ X) = false := decide_eq_false c1
        have GN := Lib.hid (show growM l (k + 1) = (ks, ds) by rw [GS.out]; unfold growS; rw [if_neg]; unfold nameOk; rw [HX.out, d2]; simp)
        clear c1 GS
        go_wp2
        go_roundw
        case rel => exact ⟨k + 1, ks, ds, A, c, B, d, HLT.out, by go_num, GN, r1, r2, hv, hf, kb, bz⟩
        case measure => simp [intOf]; have := HLT.out; omega
    · obtain rfl : k = M := by omega
      have f0 := row_c r1.out (i := 0) rfl
      have f1 := row_c r1.out (i := 1) rfl
      have f2 := row_c r1.out (i := 2) rfl
      have p0 := row_c r2.out (i := 0) rfl
      have p1 := row_c r2.out (i := 1) rfl
      have p2 := row_c r2.out (i := 2) rfl
      have y0 := frozen_of_row _ _ 0 _ _ r2.out
      have y1 := frozen_of_row _ _ 1 _ _ r2.out
      have y2 := frozen_of_row _ _ 2 _ _ r2.out
      by_cases hkl : k < l.length
      · have k0 : (k : Int) < (l.length : Int) := by omega
        have hk12 : k = 12 := by have := HM.out; omega
        subst hk12
        have k3 : decide ((12 : Int) < 12) = false := rfl
        go_wp2
        refine bodyPost_ret (v := .agg #[.bool true, .slice A ks.length c, .slice B ds.length d]) (by simp [results, Try.results33, go_sem, p0, p1, p2]) rfl ⟨A, c, B, d, by rw [hg.out], ?_, ?_, ?_⟩
        · rw [hg.out]; exact ((hv.out.1.set hf.out.1 (by omega) _ _).set hf.out.1 (by omega) _ _).set hf.out.1 (by omega) _ _
        · rw [hg.out]; exact ((hv.out.2.set hf.out.2 (by omega) _ _).set hf.out.2 (by omega) _ _).set hf.out.2 (by omega) _ _
        · exact ((kb.out.setCell (Nat.le_refl _) _).setCell (Nat.le_refl _) _).setCell (Nat.le_refl _) _
      · have k0 : ¬ ((k : Int) < (l.length : Int)) := by omega
        go_wp2
        refine bodyPost_ret (v := .agg #[.bool true, .slice A ks.length c, .slice B ds.length d]) (by simp [results, Try.results33, go_sem, p0, p1, p2]) rfl ⟨A, c, B, d, by rw [hg.out], ?_, ?_, ?_⟩
        · rw [hg.out]; exact ((hv.out.1.set hf.out.1 (by omega) _ _).set hf.out.1 (by omega) _ _).set hf.out.1 (by omega) _ _
        · rw [hg.out]; exact ((hv.out.2.set hf.out.2 (by omega) _ _).set hf.out.2 (by omega) _ _).set hf.out.2 (by omega) _ _
        · exact ((kb.out.setCell (Nat.le_refl _) _).setCell (Nat.le_refl _) _).setCell (Nat.le_refl _) _
end Go.Proofs.Ytkbdcbcjbgbglaa
