/-
  astrolabelaw21.NodeParts: any node that is plain is split, any two are joined, as the chapter says.
-/
import Derived.Test.YtkbdcbcjbgbglaaNz
import Derived.Test.YtkbdcbcjbgbglaaRegC
namespace Go.Proofs.Ytkbdcbcjbgbglaa
open Go.RowKit
set_option linter.unusedVariables false
set_option linter.unusedSimpArgs false
/-- What a node is split into. -/
def SpIs (lf : Bool) (ks : List (List UInt8)) (ds : List Int) (l1 : Bool) (Z1 : List (List UInt8)) (X1 : List Int) (s : List UInt8) (l2 : Bool) (Z2 : List (List UInt8)) (X2 : List Int) (ok : Bool) : Prop :=
  (ks.length < 4 ∧ l1 = false ∧ Z1 = [] ∧ X1 = [] ∧ s = [] ∧ l2 = false ∧ Z2 = [] ∧ X2 = [] ∧ ok = false) ∨ (4 ≤ ks.length ∧ l1 = lf ∧ Z1 = ks.take (hf ks) ∧ X1 = ds.take (cutN lf ks) ∧ ks[hf ks]? = some s ∧ l2 = lf ∧ Z2 = ks.drop (cutN lf ks) ∧ X2 = ds.drop (cutN lf ks) ∧ ok = true)
theorem SpIs.uniq {lf : Bool} {ks : List (List UInt8)} {ds : List Int} {l1 : Bool} {Z1 : List (List UInt8)} {X1 : List Int} {s : List UInt8} {l2 : Bool} {Z2 : List (List UInt8)} {X2 : List Int} {ok : Bool} {l1' : Bool} {Z1' : List (List UInt8)} {X1' : List Int} {s' : List UInt8} {l2' : Bool} {Z2' : List (List UInt8)} {X2' : List Int} {ok' : Bool}
    (h : SpIs lf ks ds l1 Z1 X1 s l2 Z2 X2 ok) (k : SpIs lf ks ds l1' Z1' X1' s' l2' Z2' X2' ok') : l1 = l1' ∧ Z1 = Z1' ∧ X1 = X1' ∧ s = s' ∧ l2 = l2' ∧ Z2 = Z2' ∧ X2 = X2' ∧ ok = ok' := by
  rcases h with ⟨h0, rfl, rfl, rfl, rfl, rfl, rfl, rfl, rfl⟩ | ⟨h0, rfl, rfl, rfl, hs, rfl, rfl, rfl, rfl⟩ <;> rcases k with ⟨k0, rfl, rfl, rfl, rfl, rfl, rfl, rfl, rfl⟩ | ⟨k0, rfl, rfl, rfl, ks_, rfl, rfl, rfl, rfl⟩
  · simp
  · omega
  · omega
  · rw [hs] at ks_; injection ks_ with e; simp [e]
theorem SpIs.len {lf : Bool} {ks : List (List UInt8)} {ds : List Int} {l1 : Bool} {Z1 : List (List UInt8)} {X1 : List Int} {s : List UInt8} {l2 : Bool} {Z2 : List (List UInt8)} {X2 : List Int} {ok : Bool} (h : SpIs lf ks ds l1 Z1 X1 s l2 Z2 X2 ok) : Z1.length ≤ ks.length ∧ X1.length ≤ ds.length ∧ Z2.length ≤ ks.length ∧ X2.length ≤ ds.length := by
  rcases h with ⟨h0, rfl, rfl, rfl, rfl, rfl, rfl, rfl, rfl⟩ | ⟨h0, rfl, rfl, rfl, hs, rfl, rfl, rfl, rfl⟩
  · simp
  · simp only [List.length_take, List.length_drop]; omega
def JnIs (la lb : Bool) (ka kb : List (List UInt8)) (da db : List Int) (mid : List UInt8) (l : Bool) (Z : List (List UInt8)) (X : List Int) (ok : Bool) : Prop :=
  ((la ≠ lb ∨ fitsB (jk la ka mid kb) (da ++ db) = false) ∧ l = false ∧ Z = [] ∧ X = [] ∧ ok = false) ∨ (la = lb ∧ fitsB (jk la ka mid kb) (da ++ db) = true ∧ l = la ∧ Z = jk la ka mid kb ∧ X = da ++ db ∧ ok = true)
theorem JnIs.uniq {la lb : Bool} {ka kb : List (List UInt8)} {da db : List Int} {mid : List UInt8} {l : Bool} {Z : List (List UInt8)} {X : List Int} {ok : Bool} {l' : Bool} {Z' : List (List UInt8)} {X' : List Int} {ok' : Bool} (h : JnIs la lb ka kb da db mid l Z X ok) (k : JnIs la lb ka kb da db mid l' Z' X' ok') : l = l' ∧ Z = Z' ∧ X = X' ∧ ok = ok' := by
  rcases h with ⟨h0, rfl, rfl, rfl, rfl⟩ | ⟨h0, h1, rfl, rfl, rfl, rfl⟩ <;> rcases k with ⟨k0, rfl, rfl, rfl, rfl⟩ | ⟨k0, k1, rfl, rfl, rfl, rfl⟩
  · simp
  · rcases h0 with h0 | h0
    · exact absurd k0 h0
    · rw [h0] at k1; cases k1
  · rcases k0 with k0 | k0
    · exact absurd h0 k0
    · rw [k0] at h1; cases h1
  · simp
theorem JnIs.len {la lb : Bool} {ka kb : List (List UInt8)} {da db : List Int} {mid : List UInt8} {l : Bool} {Z : List (List UInt8)} {X : List Int} {ok : Bool} (h : JnIs la lb ka kb da db mid l Z X ok) : Z.length ≤ ka.length + 1 + kb.length ∧ X.length ≤ da.length + db.length := by
  rcases h with ⟨h0, rfl, rfl, rfl, rfl⟩ | ⟨h0, h1, rfl, rfl, rfl, rfl⟩
  · simp
  · unfold jk
    cases l <;> simp <;> omega
set_option maxHeartbeats 4000000 in
set_option maxRecDepth 100000 in
theorem split_no (lf : Bool) (A : Option Addr) (c : Nat) (ks : List (List UInt8)) (B : Option Addr) (d : Nat) (ds : List Int) (w : World) (hl : ks.length ≤ 4000000) (hs : shapedB lf ks ds = false) :
    Calls Try.prog 29 #[.agg #[.bool lf, .slice A ks.length c, .slice B ds.length d]] w fun e w' => e = .returned (.tuple #[.agg #[.bool false, .slice none 0 0, .slice none 0 0], .string ⟨#[]⟩, .agg #[.bool false, .slice none 0 0, .slice none 0 0], .bool false]) ∧ Below w.heap.size w w' := by
  have SH := Lib.hid (fun V => shaped_any lf A c ks B d ds V hl)
  rw [hs] at SH
  obtain ⟨W, hW⟩ : ∃ W : World, W = ((w.alloc (.cells #[.bool lf, .slice A ks.length c, .slice B ds.length d] 25)).alloc (.cells #[.bool false, .slice none 0 0, .slice none 0 0] 25)).alloc (.cells #[.bool false, .slice none 0 0, .slice none 0 0] 25) := ⟨_, rfl⟩
  have RA := Lib.hid (show W.heap[w.heap.size]? = some (.cells #[.bool lf, .slice A ks.length c, .slice B ds.length d] 25 (0, 0)) by rw [hW]; exact row_on (row_on (heap_alloc_new w _) (bda _ _)) (bda _ _))
  have RB := Lib.hid (show W.heap[w.heap.size + 1]? = some (.cells #[.bool false, .slice none 0 0, .slice none 0 0] 25 (0, 0)) by rw [hW]; have := row_on (heap_alloc_new (w.alloc (.cells #[.bool lf, .slice A ks.length c, .slice B ds.length d] 25)) (.cells #[.bool false, .slice none 0 0, .slice none 0 0] 25)) (bda _ (.cells #[.bool false, .slice none 0 0, .slice none 0 0] 25)); simpa using this)
  have RC := Lib.hid (show W.heap[w.heap.size + 1 + 1]? = some (.cells #[.bool false, .slice none 0 0, .slice none 0 0] 25 (0, 0)) by rw [hW]; have := heap_alloc_new ((w.alloc (.cells #[.bool lf, .slice A ks.length c, .slice B ds.length d] 25)).alloc (.cells #[.bool false, .slice none 0 0, .slice none 0 0] 25)) (.cells #[.bool false, .slice none 0 0, .slice none 0 0] 25); simpa using this)
  have BW := Lib.hid (show Below w.heap.size w W by rw [hW]; exact bon (bon (bda _ _) (bda _ _)) (bda _ _))
  have HW := Lib.hid hW
  clear hW hs
  go_enter Try.func29, Try.ntmps29
  go_wp2_with fail
  rw [← HW.out]
  refine (SH.out _).mono ?_
  rintro e w2 ⟨rfl, hb⟩
  have RA2 := Lib.hid (row_on RA.out hb)
  have RB2 := Lib.hid (row_on RB.out hb)
  have RC2 := Lib.hid (row_on RC.out hb)
  have K2 := Lib.hid (BW.out.trans (hb.mono BW.out.size))
  clear hb HW RA RB RC
  have f1 := row_c RA2.out (i := 1) rfl
  have p0 := row_c RB2.out (i := 0) rfl
  have pz0 := frozen_of_row _ _ 0 _ _ RB2.out
  have p1 := row_c RB2.out (i := 1) rfl
  have pz1 := frozen_of_row _ _ 1 _ _ RB2.out
  have p2 := row_c RB2.out (i := 2) rfl
  have pz2 := frozen_of_row _ _ 2 _ _ RB2.out
  have q0 := row_c RC2.out (i := 0) rfl
  have qz0 := frozen_of_row _ _ 0 _ _ RC2.out
  have q1 := row_c RC2.out (i := 1) rfl
  have qz1 := frozen_of_row _ _ 1 _ _ RC2.out
  have q2 := row_c RC2.out (i := 2) rfl
  have qz2 := frozen_of_row _ _ 2 _ _ RC2.out
  go_wp2
  refine bodyPost_ret (v := .tuple #[.agg #[.bool false, .slice none 0 0, .slice none 0 0], .string ⟨#[]⟩, .agg #[.bool false, .slice none 0 0, .slice none 0 0], .bool false]) (by simp [results, Try.results29, go_sem, p0, p1, p2, q0, q1, q2]) rfl ⟨rfl, ?_⟩
  exact (((((K2.out.setCell (by first | (simp; done) | (simp; omega)) _).setCell (by first | (simp; done) | (simp; omega)) _).setCell (by first | (simp; done) | (simp; omega)) _).setCell (by first | (simp; done) | (simp; omega)) _).setCell (by first | (simp; done) | (simp; omega)) _).setCell (by first | (simp; done) | (simp; omega)) _
theorem split_both (lf : Bool) (A : Option Addr) (c : Nat) (ks : List (List UInt8)) (B : Option Addr) (d : Nat) (ds : List Int) (w : World) (h : Rl sv w A c ks) (h2 : Rl nv w B d ds) (hl : ks.length ≤ 3999990) :
    Calls Try.prog 29 #[.agg #[.bool lf, .slice A ks.length c, .slice B ds.length d]] w fun e w' => ∃ l1 A1 c1 Z1 B1 d1 X1 s l2 A2 c2 Z2 B2 d2 X2 ok, e = .returned (.tuple #[.agg #[.bool l1, .slice A1 Z1.length c1, .slice B1 X1.length d1], sv s, .agg #[.bool l2, .slice A2 Z2.length c2, .slice B2 X2.length d2], .bool ok]) ∧ Rl sv w' A1 c1 Z1 ∧ Rl nv w' B1 d1 X1 ∧ Rl sv w' A2 c2 Z2 ∧ Rl nv w' B2 d2 X2 ∧ (plainB lf ks ds = true → SpIs lf ks ds l1 Z1 X1 s l2 Z2 X2 ok) ∧ Below w.heap.size w w' := by
  cases hs : shapedB lf ks ds
  · refine (split_no lf A c ks B d ds w (by omega) hs).mono ?_
    rintro e w' ⟨rfl, hb⟩
    exact ⟨false, none, 0, [], none, 0, [], [], false, none, 0, [], none, 0, [], false, rfl, Rl.nil_ _ _ _ _, Rl.nil_ _ _ _ _, Rl.nil_ _ _ _ _, Rl.nil_ _ _ _ _, (fun hp => by rw [plain_sh hp] at hs; cases hs), hb⟩
  · by_cases h4 : ks.length < 4
    · refine (split_few lf A c ks B d ds w (by omega) hs h4).mono ?_
      rintro e w' ⟨rfl, hb⟩
      exact ⟨false, none, 0, [], none, 0, [], [], false, none, 0, [], none, 0, [], false, rfl, Rl.nil_ _ _ _ _, Rl.nil_ _ _ _ _, Rl.nil_ _ _ _ _, Rl.nil_ _ _ _ _, (fun _ => .inl ⟨h4, rfl, rfl, rfl, rfl, rfl, rfl, rfl, rfl⟩), hb⟩
    · obtain ⟨mid, hm⟩ := get_lt (xs := ks) (k := hf ks) (by unfold hf; omega)
      refine (split_any lf A c ks B d ds mid w h h2 (by omega) hs (by omega) hm).mono ?_
      rintro e w' ⟨A1, c1, B1, d1, A2, c2, B2, d2, rfl, g1, g2, g3, g4, hb⟩
      exact ⟨lf, A1, c1, _, B1, d1, _, mid, lf, A2, c2, _, B2, d2, _, true, rfl, g1, g2, g3, g4, (fun _ => .inr ⟨by omega, rfl, rfl, rfl, hm, rfl, rfl, rfl, rfl⟩), hb⟩
theorem rsplit_both (lf : Bool) (A : Option Addr) (c : Nat) (ks : List (List UInt8)) (B : Option Addr) (d : Nat) (ds : List Int) (w : World) (h : Rl sv w A c ks) (h2 : Rl nv w B d ds) (hl : ks.length ≤ 3999990) (hs : shapedB lf ks ds = true) :
    Calls Try.prog 31 #[.agg #[.bool lf, .slice A ks.length c, .slice B ds.length d]] w fun e w' => ∃ l1 A1 c1 Z1 B1 d1 X1 s l2 A2 c2 Z2 B2 d2 X2 ok, e = .returned (.tuple #[.agg #[.bool l1, .slice A1 Z1.length c1, .slice B1 X1.length d1], sv s, .agg #[.bool l2, .slice A2 Z2.length c2, .slice B2 X2.length d2], .bool ok]) ∧ Rl sv w' A1 c1 Z1 ∧ Rl nv w' B1 d1 X1 ∧ Rl sv w' A2 c2 Z2 ∧ Rl nv w' B2 d2 X2 ∧ (plainB lf ks ds = true → SpIs lf ks ds l1 Z1 X1 s l2 Z2 X2 ok) ∧ Below w.heap.size w w' := by
  skip
  by_cases h4 : ks.length < 4
  · refine (rsplit_few lf A c ks B d ds w h4).mono ?_
    rintro e w' ⟨rfl, hb⟩
    exact ⟨false, none, 0, [], none, 0, [], [], false, none, 0, [], none, 0, [], false, rfl, Rl.nil_ _ _ _ _, Rl.nil_ _ _ _ _, Rl.nil_ _ _ _ _, Rl.nil_ _ _ _ _, (fun _ => .inl ⟨h4, rfl, rfl, rfl, rfl, rfl, rfl, rfl, rfl⟩), hb⟩
  · obtain ⟨mid, hm⟩ := get_lt (xs := ks) (k := hf ks) (by unfold hf; omega)
    refine (rsplit_any lf A c ks B d ds mid w h h2 (by omega) hs (by omega) hm).mono ?_
    rintro e w' ⟨A1, c1, B1, d1, A2, c2, B2, d2, rfl, g1, g2, g3, g4, hb⟩
    exact ⟨lf, A1, c1, _, B1, d1, _, mid, lf, A2, c2, _, B2, d2, _, true, rfl, g1, g2, g3, g4, (fun _ => .inr ⟨by omega, rfl, rfl, rfl, hm, rfl, rfl, rfl, rfl⟩), hb⟩
theorem join_both (la lb : Bool) (A A2 B B2 : Option Addr) (c c2 d d2 : Nat) (ka kb : List (List UInt8)) (da db : List Int) (mid : List UInt8) (w : World) (h1 : Rl sv w A c ka) (h2 : Rl nv w B d da) (h3 : Rl sv w A2 c2 kb) (h4 : Rl nv w B2 d2 db)
    (l1 : ka.length ≤ 1000000) (l2 : da.length ≤ 1000000) (l3 : kb.length ≤ 1000000) (l4 : db.length ≤ 1000000) :
    Calls Try.prog 30 #[.agg #[.bool la, .slice A ka.length c, .slice B da.length d], .string ⟨mid.toArray⟩, .agg #[.bool lb, .slice A2 kb.length c2, .slice B2 db.length d2]] w fun e w' => ∃ l A' c' Z B' d' X ok, e = .returned (.tuple #[.agg #[.bool l, .slice A' Z.length c', .slice B' X.length d'], .bool ok]) ∧ Rl sv w' A' c' Z ∧ Rl nv w' B' d' X ∧ JnIs la lb ka kb da db mid l Z X ok ∧ Below w.heap.size w w' := by
  by_cases hl : la = lb
  · subst hl
    refine (join_w la A A2 B B2 c c2 d d2 ka kb da db mid w h1 h2 h3 h4 l1 l2 l3 l4).mono ?_
    rintro e w' ⟨hy, hn, hb⟩
    cases hf_ : fitsB (jk la ka mid kb) (da ++ db)
    · obtain rfl := hn hf_
      exact ⟨false, none, 0, [], none, 0, [], false, rfl, Rl.nil_ _ _ _ _, Rl.nil_ _ _ _ _, .inl ⟨.inr hf_, rfl, rfl, rfl, rfl⟩, hb⟩
    · obtain ⟨A', c', B', d', rfl, g1, g2⟩ := hy hf_
      exact ⟨la, A', c', _, B', d', _, true, rfl, g1, g2, .inr ⟨rfl, hf_, rfl, rfl, rfl, rfl⟩, hb⟩
  · refine (join_no la lb A A2 B B2 c c2 d d2 ka.length kb.length da.length db.length mid w hl).mono ?_
    rintro e w' ⟨rfl, hb⟩
    exact ⟨false, none, 0, [], none, 0, [], false, rfl, Rl.nil_ _ _ _ _, Rl.nil_ _ _ _ _, .inl ⟨.inl hl, rfl, rfl, rfl, rfl⟩, hb⟩
theorem rjoin_both (la lb : Bool) (A A2 B B2 : Option Addr) (c c2 d d2 : Nat) (ka kb : List (List UInt8)) (da db : List Int) (mid : List UInt8) (w : World) (h1 : Rl sv w A c ka) (h2 : Rl nv w B d da) (h3 : Rl sv w A2 c2 kb) (h4 : Rl nv w B2 d2 db)
    (l1 : ka.length ≤ 1000000) (l2 : da.length ≤ 1000000) (l3 : kb.length ≤ 1000000) (l4 : db.length ≤ 1000000) :
    Calls Try.prog 32 #[.agg #[.bool la, .slice A ka.length c, .slice B da.length d], .string ⟨mid.toArray⟩, .agg #[.bool lb, .slice A2 kb.length c2, .slice B2 db.length d2]] w fun e w' => ∃ l A' c' Z B' d' X ok, e = .returned (.tuple #[.agg #[.bool l, .slice A' Z.length c', .slice B' X.length d'], .bool ok]) ∧ Rl sv w' A' c' Z ∧ Rl nv w' B' d' X ∧ JnIs la lb ka kb da db mid l Z X ok ∧ Below w.heap.size w w' := by
  by_cases hl : la = lb
  · subst hl
    refine (rjoin_w la A A2 B B2 c c2 d d2 ka kb da db mid w h1 h2 h3 h4 l1 l2 l3 l4).mono ?_
    rintro e w' ⟨hy, hn, hb⟩
    cases hf_ : fitsB (jk la ka mid kb) (da ++ db)
    · obtain rfl := hn hf_
      exact ⟨false, none, 0, [], none, 0, [], false, rfl, Rl.nil_ _ _ _ _, Rl.nil_ _ _ _ _, .inl ⟨.inr hf_, rfl, rfl, rfl, rfl⟩, hb⟩
    · obtain ⟨A', c', B', d', rfl, g1, g2⟩ := hy hf_
      exact ⟨la, A', c', _, B', d', _, true, rfl, g1, g2, .inr ⟨rfl, hf_, rfl, rfl, rfl, rfl⟩, hb⟩
  · refine (rjoin_no la lb A A2 B B2 c c2 d d2 ka.length kb.length da.length db.length mid w hl).mono ?_
    rintro e w' ⟨rfl, hb⟩
    exact ⟨false, none, 0, [], none, 0, [], false, rfl, Rl.nil_ _ _ _ _, Rl.nil_ _ _ _ _, .inl ⟨.inl hl, rfl, rfl, rfl, rfl⟩, hb⟩
set_option maxHeartbeats 8000000 in
set_option maxRecDepth 100000 in
theorem parts_any (la : Bool) (A : Option Addr) (c : Nat) (ka : List (List UInt8)) (B : Option Addr) (d : Nat) (da : List Int) (lb : Bool) (A2 : Option Addr) (c2 : Nat) (kb : List (List UInt8)) (B2 : Option Addr) (d2 : Nat) (db : List Int) (mid : List UInt8) (w : World) (h : Rl sv w A c ka) (h2 : Rl nv w B d da) (h3 : Rl sv w A2 c2 kb) (h4 : Rl nv w B2 d2 db) :
    Calls Try.prog 5 #[.agg #[.bool la, .slice A ka.length c, .slice B da.length d], .agg #[.bool lb, .slice A2 kb.length c2, .slice B2 db.length d2], sv mid] w fun e w' => e = .returned (.bool true) ∧ Below w.heap.size w w' := by
  obtain ⟨W, hW⟩ : ∃ W : World, W = (w.alloc (.cells #[.bool la, .slice A ka.length c, .slice B da.length d] 25)).alloc (.cells #[.bool lb, .slice A2 kb.length c2, .slice B2 db.length d2] 25) := ⟨_, rfl⟩
  have RN := Lib.hid (show W.heap[w.heap.size]? = some (.cells #[.bool la, .slice A ka.length c, .slice B da.length d] 25 (0, 0)) by rw [hW]; exact row_on (heap_alloc_new _ _) (bda _ _))
  have RM := Lib.hid (show W.heap[w.heap.size + 1]? = some (.cells #[.bool lb, .slice A2 kb.length c2, .slice B2 db.length d2] 25 (0, 0)) by rw [hW]; have := heap_alloc_new (w.alloc (.cells #[.bool la, .slice A ka.length c, .slice B da.length d] 25)) (.cells #[.bool lb, .slice A2 kb.length c2, .slice B2 db.length d2] 25); simpa using this)
  have KN := Lib.hid (show Below w.heap.size w W by rw [hW]; exact bon (bda _ _) (bda _ _))
  have HW := Lib.hid hW
  have H1 := Lib.hid (And.intro h h2)
  have H2 := Lib.hid (And.intro h3 h4)
  clear hW h h2 h3 h4
  unfold sv
  go_enter Try.func5, Try.ntmps5
  go_wp2_with fail
  rw [← HW.out]
  clear HW
  refine (examples_any _).mono ?_
  rintro e w1 ⟨rfl, hb⟩
  have RNx := Lib.hid (row_on RN.out hb)
  have RMx := Lib.hid (row_on RM.out hb)
  have KNx := Lib.hid (KN.out.trans (hb.mono KN.out.size))
  clear RN RM KN
  have RN := RNx
  have RM := RMx
  have KN := KNx
  clear RNx RMx KNx
  clear hb
  have f0 := row_c RN.out (i := 0) rfl
  have f1 := row_c RN.out (i := 1) rfl
  have f2 := row_c RN.out (i := 2) rfl
  go_wp2_with fail
  refine (few_any la A c ka B d da _ (H1.out.1.below KN.out) (H1.out.2.below KN.out)).mono ?_
  rintro e w2 ⟨An, cn, Bn, dn, rfl, g1, g2, hb⟩
  have RNx := Lib.hid (row_on RN.out hb)
  have RMx := Lib.hid (row_on RM.out hb)
  have KNx := Lib.hid (KN.out.trans (hb.mono KN.out.size))
  clear RN RM KN
  have RN := RNx
  have RM := RMx
  have KN := KNx
  clear RNx RMx KNx
  have VF := Lib.hid (And.intro g1 g2)
  have l1 : (ka.take 12).length ≤ 12 := by rw [List.length_take]; omega
  have l2 : (da.take 13).length ≤ 13 := by rw [List.length_take]; omega
  generalize ka.take 12 = zs at *
  generalize da.take 13 = ys at *
  have LN := Lib.hid (And.intro l1 l2)
  clear hb g1 g2 f0 f1 f2 l1 l2 H1
  have p0 := row_c RN.out (i := 0) rfl
  have p1 := row_c RN.out (i := 1) rfl
  have p2 := row_c RN.out (i := 2) rfl
  have y0 := frozen_of_row _ _ 0 _ _ RN.out
  have y1 := frozen_of_row _ _ 1 _ _ RN.out
  have y2 := frozen_of_row _ _ 2 _ _ RN.out
  obtain ⟨V1, hV⟩ : ∃ V : World, V = ((w2.setCell ⟨w.heap.size, 0, none⟩ (.bool la)).setCell ⟨w.heap.size, 1, none⟩ (.slice An zs.length cn)).setCell ⟨w.heap.size, 2, none⟩ (.slice Bn ys.length dn) := ⟨_, rfl⟩
  have RNx := Lib.hid (show V1.heap[w.heap.size]? = some (.cells #[.bool la, .slice An zs.length cn, .slice Bn ys.length dn] 25 (0, 0)) by rw [hV]; have := row_set (i := 2) (row_set (i := 1) (row_set (i := 0) RN.out (.bool la)) (.slice An zs.length cn)) (.slice Bn ys.length dn); simpa using this)
  have VRNx := Lib.hid (show Rl sv V1 An cn zs ∧ Rl nv V1 Bn dn ys by rw [hV]; exact ⟨rl_off3 VF.out.1 RN.out (fun z i h => off_s h) _ _ _, rl_off3 VF.out.2 RN.out (fun z i h => off_n h) _ _ _⟩)
  have RMx := Lib.hid (show V1.heap[_]? = some _ by rw [hV]; exact row_far (row_far (row_far RM.out (by omega) _) (by omega) _) (by omega) _)
  have KNx := Lib.hid (show Below w.heap.size w V1 by rw [hV]; exact ((KN.out.setCell (by simp) _).setCell (by simp) _).setCell (by simp) _)
  have HV := Lib.hid hV
  clear hV VF KN RN RM
  have RN := RNx
  clear RNx
  have RM := RMx
  clear RMx
  have KN := KNx
  clear KNx
  have VRN := VRNx
  clear VRNx
  go_upto_region 5 with (fail)
  rw [← HV.out]
  clear HV p0 p1 p2 y0 y1 y2
  have f0 := row_c RM.out (i := 0) rfl
  have f1 := row_c RM.out (i := 1) rfl
  have f2 := row_c RM.out (i := 2) rfl
  go_wp2_with fail
  refine (few_any lb A2 c2 kb B2 d2 db _ (H2.out.1.below KN.out) (H2.out.2.below KN.out)).mono ?_
  rintro e w3 ⟨Am, cm, Bm, dm, rfl, g1, g2, hb⟩
  have RNx := Lib.hid (row_on RN.out hb)
  have RMx := Lib.hid (row_on RM.out hb)
  have VRNx := Lib.hid (And.intro (VRN.out.1.below hb) (VRN.out.2.below hb))
  have KNx := Lib.hid (KN.out.trans (hb.mono KN.out.size))
  clear RN RM VRN KN
  have RN := RNx
  have RM := RMx
  have VRN := VRNx
  have KN := KNx
  clear RNx RMx VRNx KNx
  have VF := Lib.hid (And.intro g1 g2)
  have l1 : (kb.take 12).length ≤ 12 := by rw [List.length_take]; omega
  have l2 : (db.take 13).length ≤ 13 := by rw [List.length_take]; omega
  generalize kb.take 12 = zt at *
  generalize db.take 13 = yt at *
  have LM := Lib.hid (And.intro l1 l2)
  clear hb g1 g2 f0 f1 f2 l1 l2 H2
  have p0 := row_c RM.out (i := 0) rfl
  have p1 := row_c RM.out (i := 1) rfl
  have p2 := row_c RM.out (i := 2) rfl
  have y0 := frozen_of_row _ _ 0 _ _ RM.out
  have y1 := frozen_of_row _ _ 1 _ _ RM.out
  have y2 := frozen_of_row _ _ 2 _ _ RM.out
  obtain ⟨V2, hV⟩ : ∃ V : World, V = ((w3.setCell ⟨w.heap.size + 1, 0, none⟩ (.bool lb)).setCell ⟨w.heap.size + 1, 1, none⟩ (.slice Am zt.length cm)).setCell ⟨w.heap.size + 1, 2, none⟩ (.slice Bm yt.length dm) := ⟨_, rfl⟩
  have RMx := Lib.hid (show V2.heap[w.heap.size + 1]? = some (.cells #[.bool lb, .slice Am zt.length cm, .slice Bm yt.length dm] 25 (0, 0)) by rw [hV]; have := row_set (i := 2) (row_set (i := 1) (row_set (i := 0) RM.out (.bool lb)) (.slice Am zt.length cm)) (.slice Bm yt.length dm); simpa using this)
  have VRMx := Lib.hid (show Rl sv V2 Am cm zt ∧ Rl nv V2 Bm dm yt by rw [hV]; exact ⟨rl_off3 VF.out.1 RM.out (fun z i h => off_s h) _ _ _, rl_off3 VF.out.2 RM.out (fun z i h => off_n h) _ _ _⟩)
  have RNx := Lib.hid (show V2.heap[_]? = some _ by rw [hV]; exact row_far (row_far (row_far RN.out (by omega) _) (by omega) _) (by omega) _)
  have VRNx := Lib.hid (show Rl sv V2 _ _ _ ∧ Rl nv V2 _ _ _ by rw [hV]; exact ⟨rl_off3 VRN.out.1 RM.out (fun z i h => off_s h) _ _ _, rl_off3 VRN.out.2 RM.out (fun z i h => off_n h) _ _ _⟩)
  have KNx := Lib.hid (show Below w.heap.size w V2 by rw [hV]; exact ((KN.out.setCell (by simp) _).setCell (by simp) _).setCell (by simp) _)
  have HV := Lib.hid hV
  clear hV VF KN RN RM VRN
  have RN := RNx
  clear RNx
  have RM := RMx
  clear RMx
  have VRN := VRNx
  clear VRNx
  have KN := KNx
  clear KNx
  have VRM := VRMx
  clear VRMx
  go_upto_region 6 with (fail)
  rw [← HV.out]
  clear HV p0 p1 p2 y0 y1 y2
  have f0 := row_c RN.out (i := 0) rfl
  have f1 := row_c RN.out (i := 1) rfl
  have f2 := row_c RN.out (i := 2) rfl
  go_wp2_with fail
  refine (split_both la An cn zs Bn dn ys _ VRN.out.1 VRN.out.2 (by have := LN.out; omega)).mono ?_
  rintro e w4 ⟨l1, A1, c1, Z1, B1, d1, X1, s, l2, A3, c3, Z2, B3, d3, X2, ok, rfl, g1, g2, g3, g4, hp, hb⟩
  have HS := Lib.hid hp
  clear hp f0 f1 f2
  have RNx := Lib.hid (row_on RN.out hb)
  have RMx := Lib.hid (row_on RM.out hb)
  have VRNx := Lib.hid (And.intro (VRN.out.1.below hb) (VRN.out.2.below hb))
  have VRMx := Lib.hid (And.intro (VRM.out.1.below hb) (VRM.out.2.below hb))
  have KNx := Lib.hid (KN.out.trans (hb.mono KN.out.size))
  clear RN RM VRN VRM KN
  have RN := RNx
  have RM := RMx
  have VRN := VRNx
  have VRM := VRMx
  have KN := KNx
  clear RNx RMx VRNx VRMx KNx
  have VA := Lib.hid (And.intro g1 g2)
  have VB := Lib.hid (And.intro g3 g4)
  clear hb g1 g2 g3 g4
  unfold sv
  go_upto_region 7 with (fail)
  obtain ⟨Vs, hV⟩ : ∃ V : World, V = ((w4.alloc (.cells #[.bool l1, .slice A1 Z1.length c1, .slice B1 X1.length d1] 25)).alloc (.cells #[.bool l2, .slice A3 Z2.length c3, .slice B3 X2.length d3] 25)) := ⟨_, rfl⟩
  obtain ⟨gs, hgs⟩ : ∃ g : Nat, w4.heap.size = g := ⟨_, rfl⟩
  have gsW := Lib.hid (show w.heap.size ≤ gs from by rw [← hgs]; exact KN.out.size)
  have RA := Lib.hid (show Vs.heap[gs]? = some (.cells #[.bool l1, .slice A1 Z1.length c1, .slice B1 X1.length d1] 25 (0, 0)) by rw [← hgs, hV]; have := row_on (heap_alloc_new w4 (.cells #[.bool l1, .slice A1 Z1.length c1, .slice B1 X1.length d1] 25)) (bda _ (.cells #[.bool l2, .slice A3 Z2.length c3, .slice B3 X2.length d3] 25)); simpa using this)
  have RB := Lib.hid (show Vs.heap[gs + 1]? = some (.cells #[.bool l2, .slice A3 Z2.length c3, .slice B3 X2.length d3] 25 (0, 0)) by rw [← hgs, hV]; have := heap_alloc_new (w4.alloc (.cells #[.bool l1, .slice A1 Z1.length c1, .slice B1 X1.length d1] 25)) (.cells #[.bool l2, .slice A3 Z2.length c3, .slice B3 X2.length d3] 25); simpa using this)
  have BV := Lib.hid (show Below w4.heap.size w4 Vs by rw [hV]; exact bon (bda _ _) (bda _ _))
  have RNx := Lib.hid (row_on RN.out BV.out)
  have RMx := Lib.hid (row_on RM.out BV.out)
  have VRNx := Lib.hid (And.intro (VRN.out.1.below BV.out) (VRN.out.2.below BV.out))
  have VRMx := Lib.hid (And.intro (VRM.out.1.below BV.out) (VRM.out.2.below BV.out))
  have VAx := Lib.hid (And.intro (VA.out.1.below BV.out) (VA.out.2.below BV.out))
  have VBx := Lib.hid (And.intro (VB.out.1.below BV.out) (VB.out.2.below BV.out))
  have KNx := Lib.hid (KN.out.trans (BV.out.mono KN.out.size))
  clear RN RM VRN VRM VA VB KN
  have RN := RNx
  have RM := RMx
  have VRN := VRNx
  have VRM := VRMx
  have VA := VAx
  have VB := VBx
  have KN := KNx
  clear RNx RMx VRNx VRMx VAx VBx KNx
  rw [← hV]
  clear hV BV
  have f0 := row_c RN.out (i := 0) rfl
  have f1 := row_c RN.out (i := 1) rfl
  have f2 := row_c RN.out (i := 2) rfl
  have k0 := row_c RM.out (i := 0) rfl
  have k1 := row_c RM.out (i := 1) rfl
  have k2 := row_c RM.out (i := 2) rfl
  go_wp2_with fail
  refine (join_both la lb An Am Bn Bm cn cm dn dm zs zt ys yt mid _ VRN.out.1 VRN.out.2 VRM.out.1 VRM.out.2 (by have := LN.out; omega) (by have := LN.out; omega) (by have := LM.out; omega) (by have := LM.out; omega)).mono ?_
  rintro e w5 ⟨lj, A4, c4, Zj, B4, d4, Xj, oj, rfl, g1, g2, hj, hb⟩
  have HJ := Lib.hid hj
  clear hj f0 f1 f2 k0 k1 k2
  have RNx := Lib.hid (row_on RN.out hb)
  have RMx := Lib.hid (row_on RM.out hb)
  have RAx := Lib.hid (row_on RA.out hb)
  have RBx := Lib.hid (row_on RB.out hb)
  have VRNx := Lib.hid (And.intro (VRN.out.1.below hb) (VRN.out.2.below hb))
  have VRMx := Lib.hid (And.intro (VRM.out.1.below hb) (VRM.out.2.below hb))
  have VAx := Lib.hid (And.intro (VA.out.1.below hb) (VA.out.2.below hb))
  have VBx := Lib.hid (And.intro (VB.out.1.below hb) (VB.out.2.below hb))
  have KNx := Lib.hid (KN.out.trans (hb.mono KN.out.size))
  clear RN RM RA RB VRN VRM VA VB KN
  have RN := RNx
  have RM := RMx
  have RA := RAx
  have RB := RBx
  have VRN := VRNx
  have VRM := VRMx
  have VA := VAx
  have VB := VBx
  have KN := KNx
  clear RNx RMx RAx RBx VRNx VRMx VAx VBx KNx
  have VU := Lib.hid (And.intro g1 g2)
  clear hb g1 g2
  go_upto_region 8 with (fail)
  obtain ⟨Vu, hV⟩ : ∃ V : World, V = (w5.alloc (.cells #[.bool lj, .slice A4 Zj.length c4, .slice B4 Xj.length d4] 25)) := ⟨_, rfl⟩
  obtain ⟨gu, hgu⟩ : ∃ g : Nat, w5.heap.size = g := ⟨_, rfl⟩
  have RU := Lib.hid (show Vu.heap[gu]? = some (.cells #[.bool lj, .slice A4 Zj.length c4, .slice B4 Xj.length d4] 25 (0, 0)) by rw [← hgu, hV]; have := heap_alloc_new w5 (.cells #[.bool lj, .slice A4 Zj.length c4, .slice B4 Xj.length d4] 25); simpa using this)
  have BV := Lib.hid (show Below w5.heap.size w5 Vu by rw [hV]; exact bda _ _)
  have RNx := Lib.hid (row_on RN.out BV.out)
  have RMx := Lib.hid (row_on RM.out BV.out)
  have RAx := Lib.hid (row_on RA.out BV.out)
  have RBx := Lib.hid (row_on RB.out BV.out)
  have VRNx := Lib.hid (And.intro (VRN.out.1.below BV.out) (VRN.out.2.below BV.out))
  have VRMx := Lib.hid (And.intro (VRM.out.1.below BV.out) (VRM.out.2.below BV.out))
  have VAx := Lib.hid (And.intro (VA.out.1.below BV.out) (VA.out.2.below BV.out))
  have VBx := Lib.hid (And.intro (VB.out.1.below BV.out) (VB.out.2.below BV.out))
  have VUx := Lib.hid (And.intro (VU.out.1.below BV.out) (VU.out.2.below BV.out))
  have KNx := Lib.hid (KN.out.trans (BV.out.mono KN.out.size))
  clear RN RM RA RB VRN VRM VA VB VU KN
  have RN := RNx
  have RM := RMx
  have RA := RAx
  have RB := RBx
  have VRN := VRNx
  have VRM := VRMx
  have VA := VAx
  have VB := VBx
  have VU := VUx
  have KN := KNx
  clear RNx RMx RAx RBx VRNx VRMx VAx VBx VUx KNx
  rw [← hV]
  clear hV BV
  have f0 := row_c RN.out (i := 0) rfl
  have f1 := row_c RN.out (i := 1) rfl
  have f2 := row_c RN.out (i := 2) rfl
  go_wp2_with fail
  refine (ref_any la An cn zs Bn dn ys _ VRN.out.1 VRN.out.2).mono ?_
  rintro e w6 ⟨rfl, hb⟩
  have RNx := Lib.hid (row_on RN.out hb)
  have RMx := Lib.hid (row_on RM.out hb)
  have RAx := Lib.hid (row_on RA.out hb)
  have RBx := Lib.hid (row_on RB.out hb)
  have RUx := Lib.hid (row_on RU.out hb)
  have VRNx := Lib.hid (And.intro (VRN.out.1.below hb) (VRN.out.2.below hb))
  have VRMx := Lib.hid (And.intro (VRM.out.1.below hb) (VRM.out.2.below hb))
  have VAx := Lib.hid (And.intro (VA.out.1.below hb) (VA.out.2.below hb))
  have VBx := Lib.hid (And.intro (VB.out.1.below hb) (VB.out.2.below hb))
  have VUx := Lib.hid (And.intro (VU.out.1.below hb) (VU.out.2.below hb))
  have KNx := Lib.hid (KN.out.trans (hb.mono KN.out.size))
  clear RN RM RA RB RU VRN VRM VA VB VU KN
  have RN := RNx
  have RM := RMx
  have RA := RAx
  have RB := RBx
  have RU := RUx
  have VRN := VRNx
  have VRM := VRMx
  have VA := VAx
  have VB := VBx
  have VU := VUx
  have KN := KNx
  clear RNx RMx RAx RBx RUx VRNx VRMx VAx VBx VUx KNx
  clear hb f0 f1 f2
  go_wp2_with fail
  refine (plain_any la An cn zs Bn dn ys w6 VRN.out.1 VRN.out.2 (by have := LN.out; omega) (by have := LN.out; omega)).mono ?_
  rintro e w7 ⟨rfl, hb⟩
  have RNx := Lib.hid (row_on RN.out hb)
  have RMx := Lib.hid (row_on RM.out hb)
  have RAx := Lib.hid (row_on RA.out hb)
  have RBx := Lib.hid (row_on RB.out hb)
  have RUx := Lib.hid (row_on RU.out hb)
  have VRNx := Lib.hid (And.intro (VRN.out.1.below hb) (VRN.out.2.below hb))
  have VRMx := Lib.hid (And.intro (VRM.out.1.below hb) (VRM.out.2.below hb))
  have VAx := Lib.hid (And.intro (VA.out.1.below hb) (VA.out.2.below hb))
  have VBx := Lib.hid (And.intro (VB.out.1.below hb) (VB.out.2.below hb))
  have VUx := Lib.hid (And.intro (VU.out.1.below hb) (VU.out.2.below hb))
  have KNx := Lib.hid (KN.out.trans (hb.mono KN.out.size))
  clear RN RM RA RB RU VRN VRM VA VB VU KN
  have RN := RNx
  have RM := RMx
  have RA := RAx
  have RB := RBx
  have RU := RUx
  have VRN := VRNx
  have VRM := VRMx
  have VA := VAx
  have VB := VBx
  have VU := VUx
  have KN := KNx
  clear RNx RMx RAx RBx RUx VRNx VRMx VAx VBx VUx KNx
  clear hb
  have f0 := row_c RM.out (i := 0) rfl
  have f1 := row_c RM.out (i := 1) rfl
  have f2 := row_c RM.out (i := 2) rfl
  go_wp2_with fail
  refine (ref_any lb Am cm zt Bm dm yt _ VRM.out.1 VRM.out.2).mono ?_
  rintro e w8 ⟨rfl, hb⟩
  have RNx := Lib.hid (row_on RN.out hb)
  have RMx := Lib.hid (row_on RM.out hb)
  have RAx := Lib.hid (row_on RA.out hb)
  have RBx := Lib.hid (row_on RB.out hb)
  have RUx := Lib.hid (row_on RU.out hb)
  have VRNx := Lib.hid (And.intro (VRN.out.1.below hb) (VRN.out.2.below hb))
  have VRMx := Lib.hid (And.intro (VRM.out.1.below hb) (VRM.out.2.below hb))
  have VAx := Lib.hid (And.intro (VA.out.1.below hb) (VA.out.2.below hb))
  have VBx := Lib.hid (And.intro (VB.out.1.below hb) (VB.out.2.below hb))
  have VUx := Lib.hid (And.intro (VU.out.1.below hb) (VU.out.2.below hb))
  have KNx := Lib.hid (KN.out.trans (hb.mono KN.out.size))
  clear RN RM RA RB RU VRN VRM VA VB VU KN
  have RN := RNx
  have RM := RMx
  have RA := RAx
  have RB := RBx
  have RU := RUx
  have VRN := VRNx
  have VRM := VRMx
  have VA := VAx
  have VB := VBx
  have VU := VUx
  have KN := KNx
  clear RNx RMx RAx RBx RUx VRNx VRMx VAx VBx VUx KNx
  clear hb f0 f1 f2
  go_wp2_with fail
  refine (plain_any lb Am cm zt Bm dm yt w8 VRM.out.1 VRM.out.2 (by have := LM.out; omega) (by have := LM.out; omega)).mono ?_
  rintro e w9 ⟨rfl, hb⟩
  have RNx := Lib.hid (row_on RN.out hb)
  have RMx := Lib.hid (row_on RM.out hb)
  have RAx := Lib.hid (row_on RA.out hb)
  have RBx := Lib.hid (row_on RB.out hb)
  have RUx := Lib.hid (row_on RU.out hb)
  have VRNx := Lib.hid (And.intro (VRN.out.1.below hb) (VRN.out.2.below hb))
  have VRMx := Lib.hid (And.intro (VRM.out.1.below hb) (VRM.out.2.below hb))
  have VAx := Lib.hid (And.intro (VA.out.1.below hb) (VA.out.2.below hb))
  have VBx := Lib.hid (And.intro (VB.out.1.below hb) (VB.out.2.below hb))
  have VUx := Lib.hid (And.intro (VU.out.1.below hb) (VU.out.2.below hb))
  have KNx := Lib.hid (KN.out.trans (hb.mono KN.out.size))
  clear RN RM RA RB RU VRN VRM VA VB VU KN
  have RN := RNx
  have RM := RMx
  have RA := RAx
  have RB := RBx
  have RU := RUx
  have VRN := VRNx
  have VRM := VRMx
  have VA := VAx
  have VB := VBx
  have VU := VUx
  have KN := KNx
  clear RNx RMx RAx RBx RUx VRNx VRMx VAx VBx VUx KNx
  clear hb
  cases hP : plainB la zs ys
  · clear hP
    generalize plainB lb zt yt = q at *
    cases q
    all_goals
      go_wp2
      go_ret
      exact ⟨rfl, KN.out⟩
  cases hQ : plainB lb zt yt
  · clear hQ hP
    go_wp2
    go_ret
    exact ⟨rfl, KN.out⟩
  have hs := HS.out hP
  have hj := HJ.out
  have RSC := Lib.hid (fun V (h1 : Rl sv V An cn zs) (h3 : Rl nv V Bn dn ys) => show Calls Try.prog 31 #[.agg #[.bool la, .slice An zs.length cn, .slice Bn ys.length dn]] V fun e w' => ∃ A1 c1 B1 d1 A2 c2 B2 d2, e = .returned (.tuple #[.agg #[.bool l1, .slice A1 Z1.length c1, .slice B1 X1.length d1], .string ⟨s.toArray⟩, .agg #[.bool l2, .slice A2 Z2.length c2, .slice B2 X2.length d2], .bool ok]) ∧ Rl sv w' A1 c1 Z1 ∧ Rl nv w' B1 d1 X1 ∧ Rl sv w' A2 c2 Z2 ∧ Rl nv w' B2 d2 X2 ∧ Below V.heap.size V w' from by
    refine (rsplit_both la An cn zs Bn dn ys V h1 h3 (by have := LN.out; omega) (plain_sh hP)).mono ?_
    rintro e w' ⟨l1', A1, c1, Z1', B1, d1, X1', s', l2', A2, c2, Z2', B2, d2, X2', ok', rfl, g1, g2, g3, g4, hp, hb⟩
    obtain ⟨rfl, rfl, rfl, rfl, rfl, rfl, rfl, rfl⟩ := hs.uniq (hp hP)
    exact ⟨A1, c1, B1, d1, A2, c2, B2, d2, rfl, g1, g2, g3, g4, hb⟩)
  have RJC := Lib.hid (fun V (h1 : Rl sv V An cn zs) (h3 : Rl nv V Bn dn ys) (h5 : Rl sv V Am cm zt) (h6 : Rl nv V Bm dm yt) => show Calls Try.prog 32 #[.agg #[.bool la, .slice An zs.length cn, .slice Bn ys.length dn], .string ⟨mid.toArray⟩, .agg #[.bool lb, .slice Am zt.length cm, .slice Bm yt.length dm]] V fun e w' => ∃ A1 c1 B1 d1, e = .returned (.tuple #[.agg #[.bool lj, .slice A1 Zj.length c1, .slice B1 Xj.length d1], .bool oj]) ∧ Rl sv w' A1 c1 Zj ∧ Rl nv w' B1 d1 Xj ∧ Below V.heap.size V w' from by
    refine (rjoin_both la lb An Am Bn Bm cn cm dn dm zs zt ys yt mid V h1 h3 h5 h6 (by have := LN.out; omega) (by have := LN.out; omega) (by have := LM.out; omega) (by have := LM.out; omega)).mono ?_
    rintro e w' ⟨l', A1, c1, Z', B1, d1, X', ok', rfl, g1, g2, hp, hb⟩
    obtain ⟨rfl, rfl, rfl, rfl⟩ := hj.uniq hp
    exact ⟨A1, c1, B1, d1, rfl, g1, g2, hb⟩)
  have LZ := Lib.hid (And.intro hs.len hj.len)
  clear hs hj HS HJ hP hQ
  have f0 := row_c RN.out (i := 0) rfl
  have f1 := row_c RN.out (i := 1) rfl
  have f2 := row_c RN.out (i := 2) rfl
  go_wp2_with fail
  refine (ref_any la An cn zs Bn dn ys _ VRN.out.1 VRN.out.2).mono ?_
  rintro e w10 ⟨rfl, hb⟩
  have RNx := Lib.hid (row_on RN.out hb)
  have RMx := Lib.hid (row_on RM.out hb)
  have RAx := Lib.hid (row_on RA.out hb)
  have RBx := Lib.hid (row_on RB.out hb)
  have RUx := Lib.hid (row_on RU.out hb)
  have VRNx := Lib.hid (And.intro (VRN.out.1.below hb) (VRN.out.2.below hb))
  have VRMx := Lib.hid (And.intro (VRM.out.1.below hb) (VRM.out.2.below hb))
  have VAx := Lib.hid (And.intro (VA.out.1.below hb) (VA.out.2.below hb))
  have VBx := Lib.hid (And.intro (VB.out.1.below hb) (VB.out.2.below hb))
  have VUx := Lib.hid (And.intro (VU.out.1.below hb) (VU.out.2.below hb))
  have KNx := Lib.hid (KN.out.trans (hb.mono KN.out.size))
  clear RN RM RA RB RU VRN VRM VA VB VU KN
  have RN := RNx
  have RM := RMx
  have RA := RAx
  have RB := RBx
  have RU := RUx
  have VRN := VRNx
  have VRM := VRMx
  have VA := VAx
  have VB := VBx
  have VU := VUx
  have KN := KNx
  clear RNx RMx RAx RBx RUx VRNx VRMx VAx VBx VUx KNx
  clear hb f0 f1 f2
  go_wp2_with fail
  refine (RSC.out _ VRN.out.1 VRN.out.2).mono ?_
  rintro e w11 ⟨A5, c5, B5, d5, A6, c6, B6, d6, rfl, g1, g2, g3, g4, hb⟩
  have RNx := Lib.hid (row_on RN.out hb)
  have RMx := Lib.hid (row_on RM.out hb)
  have RAx := Lib.hid (row_on RA.out hb)
  have RBx := Lib.hid (row_on RB.out hb)
  have RUx := Lib.hid (row_on RU.out hb)
  have VRNx := Lib.hid (And.intro (VRN.out.1.below hb) (VRN.out.2.below hb))
  have VRMx := Lib.hid (And.intro (VRM.out.1.below hb) (VRM.out.2.below hb))
  have VAx := Lib.hid (And.intro (VA.out.1.below hb) (VA.out.2.below hb))
  have VBx := Lib.hid (And.intro (VB.out.1.below hb) (VB.out.2.below hb))
  have VUx := Lib.hid (And.intro (VU.out.1.below hb) (VU.out.2.below hb))
  have KNx := Lib.hid (KN.out.trans (hb.mono KN.out.size))
  clear RN RM RA RB RU VRN VRM VA VB VU KN
  have RN := RNx
  have RM := RMx
  have RA := RAx
  have RB := RBx
  have RU := RUx
  have VRN := VRNx
  have VRM := VRMx
  have VA := VAx
  have VB := VBx
  have VU := VUx
  have KN := KNx
  clear RNx RMx RAx RBx RUx VRNx VRMx VAx VBx VUx KNx
  have VC := Lib.hid (And.intro g1 g2)
  have VD := Lib.hid (And.intro g3 g4)
  clear hb g1 g2 g3 g4 RSC
  go_upto_region 13 with (fail)
  obtain ⟨V8, hV⟩ : ∃ V : World, V = ((w11.alloc (.cells #[.bool l1, .slice A5 Z1.length c5, .slice B5 X1.length d5] 33)).alloc (.cells #[.bool l2, .slice A6 Z2.length c6, .slice B6 X2.length d6] 33)) := ⟨_, rfl⟩
  obtain ⟨gc, hgc⟩ : ∃ g : Nat, w11.heap.size = g := ⟨_, rfl⟩
  have RC := Lib.hid (show V8.heap[gc]? = some (.cells #[.bool l1, .slice A5 Z1.length c5, .slice B5 X1.length d5] 33 (0, 0)) by rw [← hgc, hV]; have := row_on (heap_alloc_new w11 (.cells #[.bool l1, .slice A5 Z1.length c5, .slice B5 X1.length d5] 33)) (bda _ (.cells #[.bool l2, .slice A6 Z2.length c6, .slice B6 X2.length d6] 33)); simpa using this)
  have RD := Lib.hid (show V8.heap[gc + 1]? = some (.cells #[.bool l2, .slice A6 Z2.length c6, .slice B6 X2.length d6] 33 (0, 0)) by rw [← hgc, hV]; have := heap_alloc_new (w11.alloc (.cells #[.bool l1, .slice A5 Z1.length c5, .slice B5 X1.length d5] 33)) (.cells #[.bool l2, .slice A6 Z2.length c6, .slice B6 X2.length d6] 33); simpa using this)
  have BV := Lib.hid (show Below w11.heap.size w11 V8 by rw [hV]; exact bon (bda _ _) (bda _ _))
  have RNx := Lib.hid (row_on RN.out BV.out)
  have RMx := Lib.hid (row_on RM.out BV.out)
  have RAx := Lib.hid (row_on RA.out BV.out)
  have RBx := Lib.hid (row_on RB.out BV.out)
  have RUx := Lib.hid (row_on RU.out BV.out)
  have VRNx := Lib.hid (And.intro (VRN.out.1.below BV.out) (VRN.out.2.below BV.out))
  have VRMx := Lib.hid (And.intro (VRM.out.1.below BV.out) (VRM.out.2.below BV.out))
  have VAx := Lib.hid (And.intro (VA.out.1.below BV.out) (VA.out.2.below BV.out))
  have VBx := Lib.hid (And.intro (VB.out.1.below BV.out) (VB.out.2.below BV.out))
  have VUx := Lib.hid (And.intro (VU.out.1.below BV.out) (VU.out.2.below BV.out))
  have VCx := Lib.hid (And.intro (VC.out.1.below BV.out) (VC.out.2.below BV.out))
  have VDx := Lib.hid (And.intro (VD.out.1.below BV.out) (VD.out.2.below BV.out))
  have KNx := Lib.hid (KN.out.trans (BV.out.mono KN.out.size))
  clear RN RM RA RB RU VRN VRM VA VB VU VC VD KN
  have RN := RNx
  have RM := RMx
  have RA := RAx
  have RB := RBx
  have RU := RUx
  have VRN := VRNx
  have VRM := VRMx
  have VA := VAx
  have VB := VBx
  have VU := VUx
  have VC := VCx
  have VD := VDx
  have KN := KNx
  clear RNx RMx RAx RBx RUx VRNx VRMx VAx VBx VUx VCx VDx KNx
  rw [← hV]
  clear hV BV
  have FN := Lib.hid (fun x (K : Below V8.heap.size V8 x) => And.intro (row_c (row_on RN.out K) (i := 0) rfl) (And.intro (row_c (row_on RN.out K) (i := 1) rfl) (row_c (row_on RN.out K) (i := 2) rfl)))
  have FM := Lib.hid (fun x (K : Below V8.heap.size V8 x) => And.intro (row_c (row_on RM.out K) (i := 0) rfl) (And.intro (row_c (row_on RM.out K) (i := 1) rfl) (row_c (row_on RM.out K) (i := 2) rfl)))
  have SZV := Lib.hid (show gs + 2 ≤ V8.heap.size ∧ gu + 1 ≤ V8.heap.size ∧ gc + 2 ≤ V8.heap.size from ⟨heap_lt RB.out, heap_lt RU.out, heap_lt RD.out⟩)
  have SZW := Lib.hid (show w.heap.size ≤ gs from by have := gsW.out; omega)
  refine wp_operands_late (W := V8) rfl 8 10 11 [0, 1, 2, 3, 4, 5, 6, 7, 9] [68, 69, 70, 71, 72, 73, 67, 74, 75, 20] (fun i u x => match i with | 8 => u = .bool oj | 0 => u = .agg #[.bool la, .slice An zs.length cn, .slice Bn ys.length dn] | 1 => u = .agg #[.bool la, .slice An zs.length cn, .slice Bn ys.length dn] | 2 => u = .string ⟨mid.toArray⟩ | 3 => u = .agg #[.bool lb, .slice Am zt.length cm, .slice Bm yt.length dm] | 4 => u = .agg #[.bool lb, .slice Am zt.length cm, .slice Bm yt.length dm] | 5 => ∃ A0 q0 B0 p0, u = .tuple #[.agg #[.bool lj, .slice A0 Zj.length q0, .slice B0 Xj.length p0], .bool oj] ∧ Rl sv x A0 q0 Zj ∧ Rl nv x B0 p0 Xj | 6 => ∃ A0 q0 B0 p0, u = .tuple #[.agg #[.bool lj, .slice A0 Zj.length q0, .slice B0 Xj.length p0], .bool oj] ∧ Rl sv x A0 q0 Zj ∧ Rl nv x B0 p0 Xj | 7 => ∃ A0 q0 B0 p0, u = .agg #[.bool lj, .slice A0 Zj.length q0, .slice B0 Xj.length p0] ∧ Rl sv x A0 q0 Zj ∧ Rl nv x B0 p0 Xj | 9 => ∃ g, u = .pointer (some ⟨g, 0, none⟩) ∧ x.heap[g]? = some (.cells #[.bool false, .slice none 0 0, .slice none 0 0] 33 (0, 0)) ∧ V8.heap.size ≤ g | _ => True)
    (by kernel_rfl) (by kernel_rfl) (by decide) (by kernel_rfl) (by kernel_rfl) (by kernel_rfl) (by decide) (by kernel_rfl) (by kernel_rfl) (by kernel_rfl) (by kernel_rfl) (by kernel_rfl) (by kernel_rfl) (by kernel_rfl) (by kernel_rfl) ?_ ?_ ?_
  · intro i u x x' hi hR hb'
    have hi' : i = 8 ∨ i = 0 ∨ i = 1 ∨ i = 2 ∨ i = 3 ∨ i = 4 ∨ i = 5 ∨ i = 6 ∨ i = 7 ∨ i = 9 := by simpa using hi
    rcases hi' with rfl | rfl | rfl | rfl | rfl | rfl | rfl | rfl | rfl | rfl
    · exact hR
    · exact hR
    · exact hR
    · exact hR
    · exact hR
    · exact hR
    · obtain ⟨A0, q0, B0, p0, e, h1, h2⟩ := hR; exact ⟨A0, q0, B0, p0, e, h1.below hb', h2.below hb'⟩
    · obtain ⟨A0, q0, B0, p0, e, h1, h2⟩ := hR; exact ⟨A0, q0, B0, p0, e, h1.below hb', h2.below hb'⟩
    · obtain ⟨A0, q0, B0, p0, e, h1, h2⟩ := hR; exact ⟨A0, q0, B0, p0, e, h1.below hb', h2.below hb'⟩
    · obtain ⟨g, e, hg, hn⟩ := hR; exact ⟨g, e, (hb'.block g (heap_lt hg)).trans hg, hn⟩
  · intro i av x K hi hF hb' hw hK
    have hi' : i = 8 ∨ i = 0 ∨ i = 1 ∨ i = 2 ∨ i = 3 ∨ i = 4 ∨ i = 5 ∨ i = 6 ∨ i = 7 ∨ i = 9 := by simpa using hi
    rcases hi' with rfl | rfl | rfl | rfl | rfl | rfl | rfl | rfl | rfl | rfl
    · simp only [wpOp, List.getElem?_toArray, List.getElem?_cons_succ, List.getElem?_cons_zero, Region.wanted, if_true]
      refine Or.inl ?_
      obtain ⟨Ax0, qx0, Bx0, px0, e0, h1x0, h2x0⟩ := hw 6 (by kernel_rfl)
      have e0e : av.eval (.tmp 67) = .tuple #[.agg #[.bool lj, .slice Ax0 Zj.length qx0, .slice Bx0 Xj.length px0], .bool oj] := e0
      have e0g : av.tmps[67]?.getD undef = .tuple #[.agg #[.bool lj, .slice Ax0 Zj.length qx0, .slice Bx0 Xj.length px0], .bool oj] := by have := e0; simp only [Array.getD_eq_getD_getElem?] at this; exact this
      clear hw hF
      simp only [Oper.wp, execOp]
      try simp only [e0e]
      go_simp
      exact hK _ x rfl (Below.refl _ _)
    · simp only [wpOp, List.getElem?_toArray, List.getElem?_cons_zero, Region.wanted, if_true]
      refine Or.inl ?_
      have e0 : av.tmps.getD 3 undef = .pointer (some ⟨w.heap.size, 0, none⟩) := hF.2.2 3 (by decide)
      have e0e : av.eval (.tmp 3) = .pointer (some ⟨w.heap.size, 0, none⟩) := e0
      have e0g : av.tmps[3]?.getD undef = .pointer (some ⟨w.heap.size, 0, none⟩) := by have := e0; simp only [Array.getD_eq_getD_getElem?] at this; exact this
      obtain ⟨f0, f1, f2⟩ := FN.out x hb'
      clear hw hF
      simp only [Oper.wp, execOp]
      try simp only [e0e]
      go_simp
      exact hK _ x (by first | rfl | (simp only [Nat.add_zero]; done) | (congr 1; omega)) (Below.refl _ _)
    · simp only [wpOp, List.getElem?_toArray, List.getElem?_cons_succ, List.getElem?_cons_zero, Region.wanted, if_true]
      refine Or.inl ?_
      have e0 : av.tmps.getD 68 undef = .agg #[.bool la, .slice An zs.length cn, .slice Bn ys.length dn] := hw 0 (by kernel_rfl)
      have e0e : av.eval (.tmp 68) = .agg #[.bool la, .slice An zs.length cn, .slice Bn ys.length dn] := e0
      have e0g : av.tmps[68]?.getD undef = .agg #[.bool la, .slice An zs.length cn, .slice Bn ys.length dn] := by have := e0; simp only [Array.getD_eq_getD_getElem?] at this; exact this
      clear hw hF
      simp only [Oper.wp, execOp]
      try simp only [e0e]
      go_simp
      refine (ref_any la An cn zs Bn dn ys x (VRN.out.1.below hb') (VRN.out.2.below hb')).mono ?_
      rintro e x' ⟨rfl, hx⟩
      exact hK _ x' rfl hx
    · simp only [wpOp, List.getElem?_toArray, List.getElem?_cons_succ, List.getElem?_cons_zero, Region.wanted, if_true]
      refine Or.inl ?_
      have e0 : av.tmps.getD 2 undef = .string ⟨mid.toArray⟩ := hF.2.2 2 (by decide)
      have e0e : av.eval (.tmp 2) = .string ⟨mid.toArray⟩ := e0
      have e0g : av.tmps[2]?.getD undef = .string ⟨mid.toArray⟩ := by have := e0; simp only [Array.getD_eq_getD_getElem?] at this; exact this
      clear hw hF
      simp only [Oper.wp, execOp]
      try simp only [e0e]
      go_simp
      exact hK _ x (by first | rfl | (simp only [Nat.add_zero]; done) | (congr 1; omega)) (Below.refl _ _)
    · simp only [wpOp, List.getElem?_toArray, List.getElem?_cons_succ, List.getElem?_cons_zero, Region.wanted, if_true]
      refine Or.inl ?_
      have e0 : av.tmps.getD 4 undef = .pointer (some ⟨w.heap.size + 1, 0, none⟩) := hF.2.2 4 (by decide)
      have e0e : av.eval (.tmp 4) = .pointer (some ⟨w.heap.size + 1, 0, none⟩) := e0
      have e0g : av.tmps[4]?.getD undef = .pointer (some ⟨w.heap.size + 1, 0, none⟩) := by have := e0; simp only [Array.getD_eq_getD_getElem?] at this; exact this
      obtain ⟨f0, f1, f2⟩ := FM.out x hb'
      clear hw hF
      simp only [Oper.wp, execOp]
      try simp only [e0e]
      go_simp
      exact hK _ x (by first | rfl | (simp only [Nat.add_zero]; done) | (congr 1; omega)) (Below.refl _ _)
    · simp only [wpOp, List.getElem?_toArray, List.getElem?_cons_succ, List.getElem?_cons_zero, Region.wanted, if_true]
      refine Or.inl ?_
      have e0 : av.tmps.getD 71 undef = .agg #[.bool lb, .slice Am zt.length cm, .slice Bm yt.length dm] := hw 3 (by kernel_rfl)
      have e0e : av.eval (.tmp 71) = .agg #[.bool lb, .slice Am zt.length cm, .slice Bm yt.length dm] := e0
      have e0g : av.tmps[71]?.getD undef = .agg #[.bool lb, .slice Am zt.length cm, .slice Bm yt.length dm] := by have := e0; simp only [Array.getD_eq_getD_getElem?] at this; exact this
      clear hw hF
      simp only [Oper.wp, execOp]
      try simp only [e0e]
      go_simp
      refine (ref_any lb Am cm zt Bm dm yt x (VRM.out.1.below hb') (VRM.out.2.below hb')).mono ?_
      rintro e x' ⟨rfl, hx⟩
      exact hK _ x' rfl hx
    · simp only [wpOp, List.getElem?_toArray, List.getElem?_cons_succ, List.getElem?_cons_zero, Region.wanted, if_true]
      refine Or.inl ?_
      have e0 : av.tmps.getD 69 undef = .agg #[.bool la, .slice An zs.length cn, .slice Bn ys.length dn] := hw 1 (by kernel_rfl)
      have e0e : av.eval (.tmp 69) = .agg #[.bool la, .slice An zs.length cn, .slice Bn ys.length dn] := e0
      have e0g : av.tmps[69]?.getD undef = .agg #[.bool la, .slice An zs.length cn, .slice Bn ys.length dn] := by have := e0; simp only [Array.getD_eq_getD_getElem?] at this; exact this
      have e1 : av.tmps.getD 70 undef = .string ⟨mid.toArray⟩ := hw 2 (by kernel_rfl)
      have e1e : av.eval (.tmp 70) = .string ⟨mid.toArray⟩ := e1
      have e1g : av.tmps[70]?.getD undef = .string ⟨mid.toArray⟩ := by have := e1; simp only [Array.getD_eq_getD_getElem?] at this; exact this
      have e2 : av.tmps.getD 72 undef = .agg #[.bool lb, .slice Am zt.length cm, .slice Bm yt.length dm] := hw 4 (by kernel_rfl)
      have e2e : av.eval (.tmp 72) = .agg #[.bool lb, .slice Am zt.length cm, .slice Bm yt.length dm] := e2
      have e2g : av.tmps[72]?.getD undef = .agg #[.bool lb, .slice Am zt.length cm, .slice Bm yt.length dm] := by have := e2; simp only [Array.getD_eq_getD_getElem?] at this; exact this
      clear hw hF
      simp only [Oper.wp, execOp]
      try simp only [e0e, e1e, e2e]
      go_simp
      refine (RJC.out x (VRN.out.1.below hb') (VRN.out.2.below hb') (VRM.out.1.below hb') (VRM.out.2.below hb')).mono ?_
      rintro e x' ⟨A0, q0, B0, p0, rfl, h1, h2, hx⟩
      exact hK _ x' ⟨A0, q0, B0, p0, rfl, h1, h2⟩ hx
    · simp only [wpOp, List.getElem?_toArray, List.getElem?_cons_succ, List.getElem?_cons_zero, Region.wanted, if_true]
      refine Or.inl ?_
      obtain ⟨Ax0, qx0, Bx0, px0, e0, h1x0, h2x0⟩ := hw 5 (by kernel_rfl)
      have e0e : av.eval (.tmp 73) = .tuple #[.agg #[.bool lj, .slice Ax0 Zj.length qx0, .slice Bx0 Xj.length px0], .bool oj] := e0
      have e0g : av.tmps[73]?.getD undef = .tuple #[.agg #[.bool lj, .slice Ax0 Zj.length qx0, .slice Bx0 Xj.length px0], .bool oj] := by have := e0; simp only [Array.getD_eq_getD_getElem?] at this; exact this
      clear hw hF
      simp only [Oper.wp, execOp]
      try simp only [e0e]
      go_simp
      exact hK _ x ⟨Ax0, qx0, Bx0, px0, rfl, h1x0, h2x0⟩ (Below.refl _ _)
    · simp only [wpOp, List.getElem?_toArray, List.getElem?_cons_succ, List.getElem?_cons_zero, Region.wanted, if_true]
      refine Or.inl ?_
      obtain ⟨Ax0, qx0, Bx0, px0, e0, h1x0, h2x0⟩ := hw 6 (by kernel_rfl)
      have e0e : av.eval (.tmp 67) = .tuple #[.agg #[.bool lj, .slice Ax0 Zj.length qx0, .slice Bx0 Xj.length px0], .bool oj] := e0
      have e0g : av.tmps[67]?.getD undef = .tuple #[.agg #[.bool lj, .slice Ax0 Zj.length qx0, .slice Bx0 Xj.length px0], .bool oj] := by have := e0; simp only [Array.getD_eq_getD_getElem?] at this; exact this
      clear hw hF
      simp only [Oper.wp, execOp]
      try simp only [e0e]
      go_simp
      exact hK _ x ⟨Ax0, qx0, Bx0, px0, rfl, h1x0, h2x0⟩ (Below.refl _ _)
    · simp only [wpOp, List.getElem?_toArray, List.getElem?_cons_succ, List.getElem?_cons_zero, Region.wanted, if_true]
      refine Or.inl ?_
      clear hw hF
      simp only [Oper.wp, execOp]
      go_simp
      exact hK _ _ ⟨_, rfl, heap_alloc_new _ _, hb'.size⟩ ((Below.refl _ _).alloc (Nat.le_refl _) _)
  · intro av x hF0 hb' hR
    have hF : Fr6 [75, 68, 69, 70, 71, 72, 73, 67, 74, 20] _ av := hF0
    have e0 : av.tmps.getD 68 undef = .agg #[.bool la, .slice An zs.length cn, .slice Bn ys.length dn] := hR 0 (by decide)
    have e1 : av.tmps.getD 69 undef = .agg #[.bool la, .slice An zs.length cn, .slice Bn ys.length dn] := hR 1 (by decide)
    have e2 : av.tmps.getD 70 undef = .string ⟨mid.toArray⟩ := hR 2 (by decide)
    have e3 : av.tmps.getD 71 undef = .agg #[.bool lb, .slice Am zt.length cm, .slice Bm yt.length dm] := hR 3 (by decide)
    have e4 : av.tmps.getD 72 undef = .agg #[.bool lb, .slice Am zt.length cm, .slice Bm yt.length dm] := hR 4 (by decide)
    obtain ⟨Ax5, qx5, Bx5, px5, e5, h1x5, h2x5⟩ := hR 5 (by decide)
    replace e5 : av.tmps.getD 73 undef = .tuple #[.agg #[.bool lj, .slice Ax5 Zj.length qx5, .slice Bx5 Xj.length px5], .bool oj] := e5
    obtain ⟨Ax6, qx6, Bx6, px6, e6, h1x6, h2x6⟩ := hR 6 (by decide)
    replace e6 : av.tmps.getD 67 undef = .tuple #[.agg #[.bool lj, .slice Ax6 Zj.length qx6, .slice Bx6 Xj.length px6], .bool oj] := e6
    obtain ⟨Ax7, qx7, Bx7, px7, e7, h1x7, h2x7⟩ := hR 7 (by decide)
    replace e7 : av.tmps.getD 74 undef = .agg #[.bool lj, .slice Ax7 Zj.length qx7, .slice Bx7 Xj.length px7] := e7
    obtain ⟨gg9, e9, hg9, hn9⟩ := hR 9 (by decide)
    replace e9 : av.tmps.getD 20 undef = .pointer (some ⟨gg9, 0, none⟩) := e9
    refine ⟨⟨?_, ?_⟩, fun hx => ?_⟩
    · rw [hF.fold (by kernel_rfl)]
      simp only [List.foldl_cons, List.foldl_nil, e0, e1, e2, e3, e4, e5, e6, e7, e9]
      generalize av.tmps.getD 75 undef = vx at *
      simp only [Act.put, List.setIfInBounds_toArray, List.set_cons_zero, List.set_cons_succ]
      clear e0 e1 e2 e3 e4 e5 e6 e7 e9 hR hF hF0
      clear RN RM VRN VRM FN FM RJC
      have RV := Lib.hid hg9
      have NG := Lib.hid hn9
      have VV := Lib.hid (And.intro h1x7 h2x7)
      have RAx := Lib.hid (row_on RA.out hb')
      have RBx := Lib.hid (row_on RB.out hb')
      have RCx := Lib.hid (row_on RC.out hb')
      have RDx := Lib.hid (row_on RD.out hb')
      have RUx := Lib.hid (row_on RU.out hb')
      have VAx := Lib.hid (And.intro (VA.out.1.below hb') (VA.out.2.below hb'))
      have VBx := Lib.hid (And.intro (VB.out.1.below hb') (VB.out.2.below hb'))
      have VCx := Lib.hid (And.intro (VC.out.1.below hb') (VC.out.2.below hb'))
      have VDx := Lib.hid (And.intro (VD.out.1.below hb') (VD.out.2.below hb'))
      have VUx := Lib.hid (And.intro (VU.out.1.below hb') (VU.out.2.below hb'))
      have KNx := Lib.hid (KN.out.trans (hb'.mono KN.out.size))
      clear RA RB RC RD RU VA VB VC VD VU KN
      have RA := RAx
      have RB := RBx
      have RC := RCx
      have RD := RDx
      have RU := RUx
      have VA := VAx
      have VB := VBx
      have VC := VCx
      have VD := VDx
      have VU := VUx
      have KN := KNx
      clear RAx RBx RCx RDx RUx VAx VBx VCx VDx VUx KNx
      clear hb' hg9 hn9
      have p0 := row_c RV.out (i := 0) rfl
      have p1 := row_c RV.out (i := 1) rfl
      have p2 := row_c RV.out (i := 2) rfl
      have y0 := frozen_of_row _ _ 0 _ _ RV.out
      have y1 := frozen_of_row _ _ 1 _ _ RV.out
      have y2 := frozen_of_row _ _ 2 _ _ RV.out
      try rw [wpOps_cons]
      simp only [wpOp, List.getElem?_toArray, List.getElem?_cons_succ, List.getElem?_cons_zero, Region.wanted, if_true]
      refine Or.inl ?_
      simp only [Oper.wp, execOp]
      go_simp
      try rw [wpOps_cons]
      simp only [wpOp, List.getElem?_toArray, List.getElem?_cons_succ, List.getElem?_cons_zero, Region.wanted, if_true]
      refine Or.inl ?_
      simp only [Oper.wp, execOp]
      go_simp
      try rw [wpOps_cons]
      simp only [wpOp, List.getElem?_toArray, List.getElem?_cons_succ, List.getElem?_cons_zero, Region.wanted, if_true]
      refine Or.inl ?_
      simp only [Oper.wp, execOp]
      go_simp
      try simp only [wpOps]
      obtain ⟨U, hU⟩ : ∃ U : World, U = ((x.setCell ⟨gg9, 0, none⟩ (.bool lj)).setCell ⟨gg9, 1, none⟩ (.slice Ax7 Zj.length qx7)).setCell ⟨gg9, 2, none⟩ (.slice Bx7 Xj.length px7) := ⟨_, rfl⟩
      have RVx := Lib.hid (show U.heap[gg9]? = some (.cells #[.bool lj, .slice Ax7 Zj.length qx7, .slice Bx7 Xj.length px7] 33 (0, 0)) by rw [hU]; have := row_set (i := 2) (row_set (i := 1) (row_set (i := 0) RV.out (.bool lj)) (.slice Ax7 Zj.length qx7)) (.slice Bx7 Xj.length px7); simpa using this)
      have SZ8 := Lib.hid (show gs + 2 ≤ gg9 ∧ gu + 1 ≤ gg9 ∧ gc + 2 ≤ gg9 from by have h1 := NG.out; have h2 := SZV.out; omega)
      have RAx := Lib.hid (show U.heap[_]? = some _ by rw [hU]; have := SZ8.out; exact row_far (row_far (row_far RA.out (by omega) _) (by omega) _) (by omega) _)
      have RBx := Lib.hid (show U.heap[_]? = some _ by rw [hU]; have := SZ8.out; exact row_far (row_far (row_far RB.out (by omega) _) (by omega) _) (by omega) _)
      have RCx := Lib.hid (show U.heap[_]? = some _ by rw [hU]; have := SZ8.out; exact row_far (row_far (row_far RC.out (by omega) _) (by omega) _) (by omega) _)
      have RDx := Lib.hid (show U.heap[_]? = some _ by rw [hU]; have := SZ8.out; exact row_far (row_far (row_far RD.out (by omega) _) (by omega) _) (by omega) _)
      have RUx := Lib.hid (show U.heap[_]? = some _ by rw [hU]; have := SZ8.out; exact row_far (row_far (row_far RU.out (by omega) _) (by omega) _) (by omega) _)
      have VAx := Lib.hid (show Rl sv U _ _ _ ∧ Rl nv U _ _ _ by rw [hU]; exact ⟨rl_off3 VA.out.1 RV.out (fun z i h => off_s h) _ _ _, rl_off3 VA.out.2 RV.out (fun z i h => off_n h) _ _ _⟩)
      have VBx := Lib.hid (show Rl sv U _ _ _ ∧ Rl nv U _ _ _ by rw [hU]; exact ⟨rl_off3 VB.out.1 RV.out (fun z i h => off_s h) _ _ _, rl_off3 VB.out.2 RV.out (fun z i h => off_n h) _ _ _⟩)
      have VCx := Lib.hid (show Rl sv U _ _ _ ∧ Rl nv U _ _ _ by rw [hU]; exact ⟨rl_off3 VC.out.1 RV.out (fun z i h => off_s h) _ _ _, rl_off3 VC.out.2 RV.out (fun z i h => off_n h) _ _ _⟩)
      have VDx := Lib.hid (show Rl sv U _ _ _ ∧ Rl nv U _ _ _ by rw [hU]; exact ⟨rl_off3 VD.out.1 RV.out (fun z i h => off_s h) _ _ _, rl_off3 VD.out.2 RV.out (fun z i h => off_n h) _ _ _⟩)
      have VUx := Lib.hid (show Rl sv U _ _ _ ∧ Rl nv U _ _ _ by rw [hU]; exact ⟨rl_off3 VU.out.1 RV.out (fun z i h => off_s h) _ _ _, rl_off3 VU.out.2 RV.out (fun z i h => off_n h) _ _ _⟩)
      have VVx := Lib.hid (show Rl sv U _ _ _ ∧ Rl nv U _ _ _ by rw [hU]; exact ⟨rl_off3 VV.out.1 RV.out (fun z i h => off_s h) _ _ _, rl_off3 VV.out.2 RV.out (fun z i h => off_n h) _ _ _⟩)
      have KNx := Lib.hid (show Below w.heap.size w U by rw [hU]; have h1 := SZ8.out; have h2 := SZW.out; exact ((KN.out.setCell (by simp; omega) _).setCell (by simp; omega) _).setCell (by simp; omega) _)
      rw [← hU]
      clear hU p0 p1 p2 y0 y1 y2 NG RV VV KN RA RB RC RD RU VA VB VC VD VU
      have RA := RAx
      clear RAx
      have RB := RBx
      clear RBx
      have RC := RCx
      clear RCx
      have RD := RDx
      clear RDx
      have RU := RUx
      clear RUx
      have VA := VAx
      clear VAx
      have VB := VBx
      clear VBx
      have VC := VCx
      clear VCx
      have VD := VDx
      clear VDx
      have VU := VUx
      clear VUx
      have RV := RVx
      clear RVx
      have VV := VVx
      clear VVx
      have KN := KNx
      clear KNx
      have f0 := row_c RA.out (i := 0) rfl
      have f1 := row_c RA.out (i := 1) rfl
      have f2 := row_c RA.out (i := 2) rfl
      have k0 := row_c RC.out (i := 0) rfl
      have k1 := row_c RC.out (i := 1) rfl
      have k2 := row_c RC.out (i := 2) rfl
      go_wp2_with fail
      refine (nodes_any l1 _ _ _ _ _ _ _ _ Z1 X1 _ VA.out.1 VA.out.2 VC.out.1 VC.out.2 (by have := LZ.out; have := LN.out; omega) (by have := LZ.out; have := LN.out; omega)).mono ?_
      rintro e w12 ⟨rfl, hb⟩
      have RAx := Lib.hid (row_on RA.out hb)
      have RBx := Lib.hid (row_on RB.out hb)
      have RCx := Lib.hid (row_on RC.out hb)
      have RDx := Lib.hid (row_on RD.out hb)
      have RUx := Lib.hid (row_on RU.out hb)
      have RVx := Lib.hid (row_on RV.out hb)
      have VAx := Lib.hid (And.intro (VA.out.1.below hb) (VA.out.2.below hb))
      have VBx := Lib.hid (And.intro (VB.out.1.below hb) (VB.out.2.below hb))
      have VCx := Lib.hid (And.intro (VC.out.1.below hb) (VC.out.2.below hb))
      have VDx := Lib.hid (And.intro (VD.out.1.below hb) (VD.out.2.below hb))
      have VUx := Lib.hid (And.intro (VU.out.1.below hb) (VU.out.2.below hb))
      have VVx := Lib.hid (And.intro (VV.out.1.below hb) (VV.out.2.below hb))
      have KNx := Lib.hid (KN.out.trans (hb.mono KN.out.size))
      clear RA RB RC RD RU RV VA VB VC VD VU VV KN
      have RA := RAx
      have RB := RBx
      have RC := RCx
      have RD := RDx
      have RU := RUx
      have RV := RVx
      have VA := VAx
      have VB := VBx
      have VC := VCx
      have VD := VDx
      have VU := VUx
      have VV := VVx
      have KN := KNx
      clear RAx RBx RCx RDx RUx RVx VAx VBx VCx VDx VUx VVx KNx
      clear hb f0 f1 f2 k0 k1 k2
      have f0 := row_c RB.out (i := 0) rfl
      have f1 := row_c RB.out (i := 1) rfl
      have f2 := row_c RB.out (i := 2) rfl
      have k0 := row_c RD.out (i := 0) rfl
      have k1 := row_c RD.out (i := 1) rfl
      have k2 := row_c RD.out (i := 2) rfl
      go_wp2_with fail
      refine (nodes_any l2 _ _ _ _ _ _ _ _ Z2 X2 _ VB.out.1 VB.out.2 VD.out.1 VD.out.2 (by have := LZ.out; have := LN.out; omega) (by have := LZ.out; have := LN.out; omega)).mono ?_
      rintro e w13 ⟨rfl, hb⟩
      have RAx := Lib.hid (row_on RA.out hb)
      have RBx := Lib.hid (row_on RB.out hb)
      have RCx := Lib.hid (row_on RC.out hb)
      have RDx := Lib.hid (row_on RD.out hb)
      have RUx := Lib.hid (row_on RU.out hb)
      have RVx := Lib.hid (row_on RV.out hb)
      have VAx := Lib.hid (And.intro (VA.out.1.below hb) (VA.out.2.below hb))
      have VBx := Lib.hid (And.intro (VB.out.1.below hb) (VB.out.2.below hb))
      have VCx := Lib.hid (And.intro (VC.out.1.below hb) (VC.out.2.below hb))
      have VDx := Lib.hid (And.intro (VD.out.1.below hb) (VD.out.2.below hb))
      have VUx := Lib.hid (And.intro (VU.out.1.below hb) (VU.out.2.below hb))
      have VVx := Lib.hid (And.intro (VV.out.1.below hb) (VV.out.2.below hb))
      have KNx := Lib.hid (KN.out.trans (hb.mono KN.out.size))
      clear RA RB RC RD RU RV VA VB VC VD VU VV KN
      have RA := RAx
      have RB := RBx
      have RC := RCx
      have RD := RDx
      have RU := RUx
      have RV := RVx
      have VA := VAx
      have VB := VBx
      have VC := VCx
      have VD := VDx
      have VU := VUx
      have VV := VVx
      have KN := KNx
      clear RAx RBx RCx RDx RUx RVx VAx VBx VCx VDx VUx VVx KNx
      clear hb f0 f1 f2 k0 k1 k2
      have f0 := row_c RU.out (i := 0) rfl
      have f1 := row_c RU.out (i := 1) rfl
      have f2 := row_c RU.out (i := 2) rfl
      have k0 := row_c RV.out (i := 0) rfl
      have k1 := row_c RV.out (i := 1) rfl
      have k2 := row_c RV.out (i := 2) rfl
      go_wp2_with fail
      refine (nodes_any lj _ _ _ _ _ _ _ _ Zj Xj _ VU.out.1 VU.out.2 VV.out.1 VV.out.2 (by have := LZ.out; have := LN.out; have := LM.out; omega) (by have := LZ.out; have := LN.out; have := LM.out; omega)).mono ?_
      rintro e w14 ⟨rfl, hb⟩
      have RAx := Lib.hid (row_on RA.out hb)
      have RBx := Lib.hid (row_on RB.out hb)
      have RCx := Lib.hid (row_on RC.out hb)
      have RDx := Lib.hid (row_on RD.out hb)
      have RUx := Lib.hid (row_on RU.out hb)
      have RVx := Lib.hid (row_on RV.out hb)
      have VAx := Lib.hid (And.intro (VA.out.1.below hb) (VA.out.2.below hb))
      have VBx := Lib.hid (And.intro (VB.out.1.below hb) (VB.out.2.below hb))
      have VCx := Lib.hid (And.intro (VC.out.1.below hb) (VC.out.2.below hb))
      have VDx := Lib.hid (And.intro (VD.out.1.below hb) (VD.out.2.below hb))
      have VUx := Lib.hid (And.intro (VU.out.1.below hb) (VU.out.2.below hb))
      have VVx := Lib.hid (And.intro (VV.out.1.below hb) (VV.out.2.below hb))
      have KNx := Lib.hid (KN.out.trans (hb.mono KN.out.size))
      clear RA RB RC RD RU RV VA VB VC VD VU VV KN
      have RA := RAx
      have RB := RBx
      have RC := RCx
      have RD := RDx
      have RU := RUx
      have RV := RVx
      have VA := VAx
      have VB := VBx
      have VC := VCx
      have VD := VDx
      have VU := VUx
      have VV := VVx
      have KN := KNx
      clear RAx RBx RCx RDx RUx RVx VAx VBx VCx VDx VUx VVx KNx
      clear hb f0 f1 f2 k0 k1 k2
      generalize (⟨s.toArray⟩ : ByteArray) = sb at *
      cases ok <;> cases oj
      all_goals
        go_wp2
        go_ret
        exact ⟨rfl, KN.out⟩
    · rw [hF.fold (by kernel_rfl)]
      simp only [List.foldl_cons, List.foldl_nil, e0, e1, e2, e3, e4, e5, e6, e7, e9]
      generalize av.tmps.getD 75 undef = vx at *
      simp only [Act.put, List.setIfInBounds_toArray, List.set_cons_zero, List.set_cons_succ]
      clear e0 e1 e2 e3 e4 e5 e6 e7 e9 hR hF hF0
      clear RN RM VRN VRM FN FM RJC
      have RV := Lib.hid hg9
      have NG := Lib.hid hn9
      have VV := Lib.hid (And.intro h1x7 h2x7)
      have RAx := Lib.hid (row_on RA.out hb')
      have RBx := Lib.hid (row_on RB.out hb')
      have RCx := Lib.hid (row_on RC.out hb')
      have RDx := Lib.hid (row_on RD.out hb')
      have RUx := Lib.hid (row_on RU.out hb')
      have VAx := Lib.hid (And.intro (VA.out.1.below hb') (VA.out.2.below hb'))
      have VBx := Lib.hid (And.intro (VB.out.1.below hb') (VB.out.2.below hb'))
      have VCx := Lib.hid (And.intro (VC.out.1.below hb') (VC.out.2.below hb'))
      have VDx := Lib.hid (And.intro (VD.out.1.below hb') (VD.out.2.below hb'))
      have VUx := Lib.hid (And.intro (VU.out.1.below hb') (VU.out.2.below hb'))
      have KNx := Lib.hid (KN.out.trans (hb'.mono KN.out.size))
      clear RA RB RC RD RU VA VB VC VD VU KN
      have RA := RAx
      have RB := RBx
      have RC := RCx
      have RD := RDx
      have RU := RUx
      have VA := VAx
      have VB := VBx
      have VC := VCx
      have VD := VDx
      have VU := VUx
      have KN := KNx
      clear RAx RBx RCx RDx RUx VAx VBx VCx VDx VUx KNx
      clear hb' hg9 hn9
      have p0 := row_c RV.out (i := 0) rfl
      have p1 := row_c RV.out (i := 1) rfl
      have p2 := row_c RV.out (i := 2) rfl
      have y0 := frozen_of_row _ _ 0 _ _ RV.out
      have y1 := frozen_of_row _ _ 1 _ _ RV.out
      have y2 := frozen_of_row _ _ 2 _ _ RV.out
      try rw [wpOps_cons]
      simp only [wpOp, List.getElem?_toArray, List.getElem?_cons_succ, List.getElem?_cons_zero, Region.wanted, if_true]
      refine Or.inl ?_
      simp only [Oper.wp, execOp]
      go_simp
      try rw [wpOps_cons]
      simp only [wpOp, List.getElem?_toArray, List.getElem?_cons_succ, List.getElem?_cons_zero, Region.wanted, if_true]
      refine Or.inl ?_
      simp only [Oper.wp, execOp]
      go_simp
      try rw [wpOps_cons]
      simp only [wpOp, List.getElem?_toArray, List.getElem?_cons_succ, List.getElem?_cons_zero, Region.wanted, if_true]
      refine Or.inl ?_
      simp only [Oper.wp, execOp]
      go_simp
      try simp only [wpOps]
      obtain ⟨U, hU⟩ : ∃ U : World, U = ((x.setCell ⟨gg9, 0, none⟩ (.bool lj)).setCell ⟨gg9, 1, none⟩ (.slice Ax7 Zj.length qx7)).setCell ⟨gg9, 2, none⟩ (.slice Bx7 Xj.length px7) := ⟨_, rfl⟩
      have RVx := Lib.hid (show U.heap[gg9]? = some (.cells #[.bool lj, .slice Ax7 Zj.length qx7, .slice Bx7 Xj.length px7] 33 (0, 0)) by rw [hU]; have := row_set (i := 2) (row_set (i := 1) (row_set (i := 0) RV.out (.bool lj)) (.slice Ax7 Zj.length qx7)) (.slice Bx7 Xj.length px7); simpa using this)
      have SZ8 := Lib.hid (show gs + 2 ≤ gg9 ∧ gu + 1 ≤ gg9 ∧ gc + 2 ≤ gg9 from by have h1 := NG.out; have h2 := SZV.out; omega)
      have RAx := Lib.hid (show U.heap[_]? = some _ by rw [hU]; have := SZ8.out; exact row_far (row_far (row_far RA.out (by omega) _) (by omega) _) (by omega) _)
      have RBx := Lib.hid (show U.heap[_]? = some _ by rw [hU]; have := SZ8.out; exact row_far (row_far (row_far RB.out (by omega) _) (by omega) _) (by omega) _)
      have RCx := Lib.hid (show U.heap[_]? = some _ by rw [hU]; have := SZ8.out; exact row_far (row_far (row_far RC.out (by omega) _) (by omega) _) (by omega) _)
      have RDx := Lib.hid (show U.heap[_]? = some _ by rw [hU]; have := SZ8.out; exact row_far (row_far (row_far RD.out (by omega) _) (by omega) _) (by omega) _)
      have RUx := Lib.hid (show U.heap[_]? = some _ by rw [hU]; have := SZ8.out; exact row_far (row_far (row_far RU.out (by omega) _) (by omega) _) (by omega) _)
      have VAx := Lib.hid (show Rl sv U _ _ _ ∧ Rl nv U _ _ _ by rw [hU]; exact ⟨rl_off3 VA.out.1 RV.out (fun z i h => off_s h) _ _ _, rl_off3 VA.out.2 RV.out (fun z i h => off_n h) _ _ _⟩)
      have VBx := Lib.hid (show Rl sv U _ _ _ ∧ Rl nv U _ _ _ by rw [hU]; exact ⟨rl_off3 VB.out.1 RV.out (fun z i h => off_s h) _ _ _, rl_off3 VB.out.2 RV.out (fun z i h => off_n h) _ _ _⟩)
      have VCx := Lib.hid (show Rl sv U _ _ _ ∧ Rl nv U _ _ _ by rw [hU]; exact ⟨rl_off3 VC.out.1 RV.out (fun z i h => off_s h) _ _ _, rl_off3 VC.out.2 RV.out (fun z i h => off_n h) _ _ _⟩)
      have VDx := Lib.hid (show Rl sv U _ _ _ ∧ Rl nv U _ _ _ by rw [hU]; exact ⟨rl_off3 VD.out.1 RV.out (fun z i h => off_s h) _ _ _, rl_off3 VD.out.2 RV.out (fun z i h => off_n h) _ _ _⟩)
      have VUx := Lib.hid (show Rl sv U _ _ _ ∧ Rl nv U _ _ _ by rw [hU]; exact ⟨rl_off3 VU.out.1 RV.out (fun z i h => off_s h) _ _ _, rl_off3 VU.out.2 RV.out (fun z i h => off_n h) _ _ _⟩)
      have VVx := Lib.hid (show Rl sv U _ _ _ ∧ Rl nv U _ _ _ by rw [hU]; exact ⟨rl_off3 VV.out.1 RV.out (fun z i h => off_s h) _ _ _, rl_off3 VV.out.2 RV.out (fun z i h => off_n h) _ _ _⟩)
      have KNx := Lib.hid (show Below w.heap.size w U by rw [hU]; have h1 := SZ8.out; have h2 := SZW.out; exact ((KN.out.setCell (by simp; omega) _).setCell (by simp; omega) _).setCell (by simp; omega) _)
      rw [← hU]
      clear hU p0 p1 p2 y0 y1 y2 NG RV VV KN RA RB RC RD RU VA VB VC VD VU
      have RA := RAx
      clear RAx
      have RB := RBx
      clear RBx
      have RC := RCx
      clear RCx
      have RD := RDx
      clear RDx
      have RU := RUx
      clear RUx
      have VA := VAx
      clear VAx
      have VB := VBx
      clear VBx
      have VC := VCx
      clear VCx
      have VD := VDx
      clear VDx
      have VU := VUx
      clear VUx
      have RV := RVx
      clear RVx
      have VV := VVx
      clear VVx
      have KN := KNx
      clear KNx
      have f0 := row_c RA.out (i := 0) rfl
      have f1 := row_c RA.out (i := 1) rfl
      have f2 := row_c RA.out (i := 2) rfl
      have k0 := row_c RC.out (i := 0) rfl
      have k1 := row_c RC.out (i := 1) rfl
      have k2 := row_c RC.out (i := 2) rfl
      go_wp2_with fail
      refine (nodes_any l1 _ _ _ _ _ _ _ _ Z1 X1 _ VA.out.1 VA.out.2 VC.out.1 VC.out.2 (by have := LZ.out; have := LN.out; omega) (by have := LZ.out; have := LN.out; omega)).mono ?_
      rintro e w12 ⟨rfl, hb⟩
      have RAx := Lib.hid (row_on RA.out hb)
      have RBx := Lib.hid (row_on RB.out hb)
      have RCx := Lib.hid (row_on RC.out hb)
      have RDx := Lib.hid (row_on RD.out hb)
      have RUx := Lib.hid (row_on RU.out hb)
      have RVx := Lib.hid (row_on RV.out hb)
      have VAx := Lib.hid (And.intro (VA.out.1.below hb) (VA.out.2.below hb))
      have VBx := Lib.hid (And.intro (VB.out.1.below hb) (VB.out.2.below hb))
      have VCx := Lib.hid (And.intro (VC.out.1.below hb) (VC.out.2.below hb))
      have VDx := Lib.hid (And.intro (VD.out.1.below hb) (VD.out.2.below hb))
      have VUx := Lib.hid (And.intro (VU.out.1.below hb) (VU.out.2.below hb))
      have VVx := Lib.hid (And.intro (VV.out.1.below hb) (VV.out.2.below hb))
      have KNx := Lib.hid (KN.out.trans (hb.mono KN.out.size))
      clear RA RB RC RD RU RV VA VB VC VD VU VV KN
      have RA := RAx
      have RB := RBx
      have RC := RCx
      have RD := RDx
      have RU := RUx
      have RV := RVx
      have VA := VAx
      have VB := VBx
      have VC := VCx
      have VD := VDx
      have VU := VUx
      have VV := VVx
      have KN := KNx
      clear RAx RBx RCx RDx RUx RVx VAx VBx VCx VDx VUx VVx KNx
      clear hb f0 f1 f2 k0 k1 k2
      have f0 := row_c RB.out (i := 0) rfl
      have f1 := row_c RB.out (i := 1) rfl
      have f2 := row_c RB.out (i := 2) rfl
      have k0 := row_c RD.out (i := 0) rfl
      have k1 := row_c RD.out (i := 1) rfl
      have k2 := row_c RD.out (i := 2) rfl
      go_wp2_with fail
      refine (nodes_any l2 _ _ _ _ _ _ _ _ Z2 X2 _ VB.out.1 VB.out.2 VD.out.1 VD.out.2 (by have := LZ.out; have := LN.out; omega) (by have := LZ.out; have := LN.out; omega)).mono ?_
      rintro e w13 ⟨rfl, hb⟩
      have RAx := Lib.hid (row_on RA.out hb)
      have RBx := Lib.hid (row_on RB.out hb)
      have RCx := Lib.hid (row_on RC.out hb)
      have RDx := Lib.hid (row_on RD.out hb)
      have RUx := Lib.hid (row_on RU.out hb)
      have RVx := Lib.hid (row_on RV.out hb)
      have VAx := Lib.hid (And.intro (VA.out.1.below hb) (VA.out.2.below hb))
      have VBx := Lib.hid (And.intro (VB.out.1.below hb) (VB.out.2.below hb))
      have VCx := Lib.hid (And.intro (VC.out.1.below hb) (VC.out.2.below hb))
      have VDx := Lib.hid (And.intro (VD.out.1.below hb) (VD.out.2.below hb))
      have VUx := Lib.hid (And.intro (VU.out.1.below hb) (VU.out.2.below hb))
      have VVx := Lib.hid (And.intro (VV.out.1.below hb) (VV.out.2.below hb))
      have KNx := Lib.hid (KN.out.trans (hb.mono KN.out.size))
      clear RA RB RC RD RU RV VA VB VC VD VU VV KN
      have RA := RAx
      have RB := RBx
      have RC := RCx
      have RD := RDx
      have RU := RUx
      have RV := RVx
      have VA := VAx
      have VB := VBx
      have VC := VCx
      have VD := VDx
      have VU := VUx
      have VV := VVx
      have KN := KNx
      clear RAx RBx RCx RDx RUx RVx VAx VBx VCx VDx VUx VVx KNx
      clear hb f0 f1 f2 k0 k1 k2
      have f0 := row_c RU.out (i := 0) rfl
      have f1 := row_c RU.out (i := 1) rfl
      have f2 := row_c RU.out (i := 2) rfl
      have k0 := row_c RV.out (i := 0) rfl
      have k1 := row_c RV.out (i := 1) rfl
      have k2 := row_c RV.out (i := 2) rfl
      go_wp2_with fail
      refine (nodes_any lj _ _ _ _ _ _ _ _ Zj Xj _ VU.out.1 VU.out.2 VV.out.1 VV.out.2 (by have := LZ.out; have := LN.out; have := LM.out; omega) (by have := LZ.out; have := LN.out; have := LM.out; omega)).mono ?_
      rintro e w14 ⟨rfl, hb⟩
      have RAx := Lib.hid (row_on RA.out hb)
      have RBx := Lib.hid (row_on RB.out hb)
      have RCx := Lib.hid (row_on RC.out hb)
      have RDx := Lib.hid (row_on RD.out hb)
      have RUx := Lib.hid (row_on RU.out hb)
      have RVx := Lib.hid (row_on RV.out hb)
      have VAx := Lib.hid (And.intro (VA.out.1.below hb) (VA.out.2.below hb))
      have VBx := Lib.hid (And.intro (VB.out.1.below hb) (VB.out.2.below hb))
      have VCx := Lib.hid (And.intro (VC.out.1.below hb) (VC.out.2.below hb))
      have VDx := Lib.hid (And.intro (VD.out.1.below hb) (VD.out.2.below hb))
      have VUx := Lib.hid (And.intro (VU.out.1.below hb) (VU.out.2.below hb))
      have VVx := Lib.hid (And.intro (VV.out.1.below hb) (VV.out.2.below hb))
      have KNx := Lib.hid (KN.out.trans (hb.mono KN.out.size))
      clear RA RB RC RD RU RV VA VB VC VD VU VV KN
      have RA := RAx
      have RB := RBx
      have RC := RCx
      have RD := RDx
      have RU := RUx
      have RV := RVx
      have VA := VAx
      have VB := VBx
      have VC := VCx
      have VD := VDx
      have VU := VUx
      have VV := VVx
      have KN := KNx
      clear RAx RBx RCx RDx RUx RVx VAx VBx VCx VDx VUx VVx KNx
      clear hb f0 f1 f2 k0 k1 k2
      generalize (⟨s.toArray⟩ : ByteArray) = sb at *
      cases ok <;> cases oj
      all_goals
        go_wp2
        go_ret
        exact ⟨rfl, KN.out⟩
    · have e8 : av.tmps.getD 75 undef = .bool oj := hx
      rw [hF.fold (by kernel_rfl)]
      simp only [List.foldl_cons, List.foldl_nil, e0, e1, e2, e3, e4, e5, e6, e7, e9, e8]
      simp only [Act.put, List.setIfInBounds_toArray, List.set_cons_zero, List.set_cons_succ]
      clear e0 e1 e2 e3 e4 e5 e6 e7 e9 e8 hR hF hF0 hx
      clear RN RM VRN VRM FN FM RJC
      have RV := Lib.hid hg9
      have NG := Lib.hid hn9
      have VV := Lib.hid (And.intro h1x7 h2x7)
      have RAx := Lib.hid (row_on RA.out hb')
      have RBx := Lib.hid (row_on RB.out hb')
      have RCx := Lib.hid (row_on RC.out hb')
      have RDx := Lib.hid (row_on RD.out hb')
      have RUx := Lib.hid (row_on RU.out hb')
      have VAx := Lib.hid (And.intro (VA.out.1.below hb') (VA.out.2.below hb'))
      have VBx := Lib.hid (And.intro (VB.out.1.below hb') (VB.out.2.below hb'))
      have VCx := Lib.hid (And.intro (VC.out.1.below hb') (VC.out.2.below hb'))
      have VDx := Lib.hid (And.intro (VD.out.1.below hb') (VD.out.2.below hb'))
      have VUx := Lib.hid (And.intro (VU.out.1.below hb') (VU.out.2.below hb'))
      have KNx := Lib.hid (KN.out.trans (hb'.mono KN.out.size))
      clear RA RB RC RD RU VA VB VC VD VU KN
      have RA := RAx
      have RB := RBx
      have RC := RCx
      have RD := RDx
      have RU := RUx
      have VA := VAx
      have VB := VBx
      have VC := VCx
      have VD := VDx
      have VU := VUx
      have KN := KNx
      clear RAx RBx RCx RDx RUx VAx VBx VCx VDx VUx KNx
      clear hb' hg9 hn9
      have p0 := row_c RV.out (i := 0) rfl
      have p1 := row_c RV.out (i := 1) rfl
      have p2 := row_c RV.out (i := 2) rfl
      have y0 := frozen_of_row _ _ 0 _ _ RV.out
      have y1 := frozen_of_row _ _ 1 _ _ RV.out
      have y2 := frozen_of_row _ _ 2 _ _ RV.out
      try rw [wpOps_cons]
      simp only [wpOp, List.getElem?_toArray, List.getElem?_cons_succ, List.getElem?_cons_zero, Region.wanted, if_true]
      refine Or.inl ?_
      simp only [Oper.wp, execOp]
      go_simp
      try rw [wpOps_cons]
      simp only [wpOp, List.getElem?_toArray, List.getElem?_cons_succ, List.getElem?_cons_zero, Region.wanted, if_true]
      refine Or.inl ?_
      simp only [Oper.wp, execOp]
      go_simp
      try simp only [wpOps]
      obtain ⟨U, hU⟩ : ∃ U : World, U = ((x.setCell ⟨gg9, 0, none⟩ (.bool lj)).setCell ⟨gg9, 1, none⟩ (.slice Ax7 Zj.length qx7)).setCell ⟨gg9, 2, none⟩ (.slice Bx7 Xj.length px7) := ⟨_, rfl⟩
      have RVx := Lib.hid (show U.heap[gg9]? = some (.cells #[.bool lj, .slice Ax7 Zj.length qx7, .slice Bx7 Xj.length px7] 33 (0, 0)) by rw [hU]; have := row_set (i := 2) (row_set (i := 1) (row_set (i := 0) RV.out (.bool lj)) (.slice Ax7 Zj.length qx7)) (.slice Bx7 Xj.length px7); simpa using this)
      have SZ8 := Lib.hid (show gs + 2 ≤ gg9 ∧ gu + 1 ≤ gg9 ∧ gc + 2 ≤ gg9 from by have h1 := NG.out; have h2 := SZV.out; omega)
      have RAx := Lib.hid (show U.heap[_]? = some _ by rw [hU]; have := SZ8.out; exact row_far (row_far (row_far RA.out (by omega) _) (by omega) _) (by omega) _)
      have RBx := Lib.hid (show U.heap[_]? = some _ by rw [hU]; have := SZ8.out; exact row_far (row_far (row_far RB.out (by omega) _) (by omega) _) (by omega) _)
      have RCx := Lib.hid (show U.heap[_]? = some _ by rw [hU]; have := SZ8.out; exact row_far (row_far (row_far RC.out (by omega) _) (by omega) _) (by omega) _)
      have RDx := Lib.hid (show U.heap[_]? = some _ by rw [hU]; have := SZ8.out; exact row_far (row_far (row_far RD.out (by omega) _) (by omega) _) (by omega) _)
      have RUx := Lib.hid (show U.heap[_]? = some _ by rw [hU]; have := SZ8.out; exact row_far (row_far (row_far RU.out (by omega) _) (by omega) _) (by omega) _)
      have VAx := Lib.hid (show Rl sv U _ _ _ ∧ Rl nv U _ _ _ by rw [hU]; exact ⟨rl_off3 VA.out.1 RV.out (fun z i h => off_s h) _ _ _, rl_off3 VA.out.2 RV.out (fun z i h => off_n h) _ _ _⟩)
      have VBx := Lib.hid (show Rl sv U _ _ _ ∧ Rl nv U _ _ _ by rw [hU]; exact ⟨rl_off3 VB.out.1 RV.out (fun z i h => off_s h) _ _ _, rl_off3 VB.out.2 RV.out (fun z i h => off_n h) _ _ _⟩)
      have VCx := Lib.hid (show Rl sv U _ _ _ ∧ Rl nv U _ _ _ by rw [hU]; exact ⟨rl_off3 VC.out.1 RV.out (fun z i h => off_s h) _ _ _, rl_off3 VC.out.2 RV.out (fun z i h => off_n h) _ _ _⟩)
      have VDx := Lib.hid (show Rl sv U _ _ _ ∧ Rl nv U _ _ _ by rw [hU]; exact ⟨rl_off3 VD.out.1 RV.out (fun z i h => off_s h) _ _ _, rl_off3 VD.out.2 RV.out (fun z i h => off_n h) _ _ _⟩)
      have VUx := Lib.hid (show Rl sv U _ _ _ ∧ Rl nv U _ _ _ by rw [hU]; exact ⟨rl_off3 VU.out.1 RV.out (fun z i h => off_s h) _ _ _, rl_off3 VU.out.2 RV.out (fun z i h => off_n h) _ _ _⟩)
      have VVx := Lib.hid (show Rl sv U _ _ _ ∧ Rl nv U _ _ _ by rw [hU]; exact ⟨rl_off3 VV.out.1 RV.out (fun z i h => off_s h) _ _ _, rl_off3 VV.out.2 RV.out (fun z i h => off_n h) _ _ _⟩)
      have KNx := Lib.hid (show Below w.heap.size w U by rw [hU]; have h1 := SZ8.out; have h2 := SZW.out; exact ((KN.out.setCell (by simp; omega) _).setCell (by simp; omega) _).setCell (by simp; omega) _)
      rw [← hU]
      clear hU p0 p1 p2 y0 y1 y2 NG RV VV KN RA RB RC RD RU VA VB VC VD VU
      have RA := RAx
      clear RAx
      have RB := RBx
      clear RBx
      have RC := RCx
      clear RCx
      have RD := RDx
      clear RDx
      have RU := RUx
      clear RUx
      have VA := VAx
      clear VAx
      have VB := VBx
      clear VBx
      have VC := VCx
      clear VCx
      have VD := VDx
      clear VDx
      have VU := VUx
      clear VUx
      have RV := RVx
      clear RVx
      have VV := VVx
      clear VVx
      have KN := KNx
      clear KNx
      have f0 := row_c RA.out (i := 0) rfl
      have f1 := row_c RA.out (i := 1) rfl
      have f2 := row_c RA.out (i := 2) rfl
      have k0 := row_c RC.out (i := 0) rfl
      have k1 := row_c RC.out (i := 1) rfl
      have k2 := row_c RC.out (i := 2) rfl
      go_wp2_with fail
      refine (nodes_any l1 _ _ _ _ _ _ _ _ Z1 X1 _ VA.out.1 VA.out.2 VC.out.1 VC.out.2 (by have := LZ.out; have := LN.out; omega) (by have := LZ.out; have := LN.out; omega)).mono ?_
      rintro e w12 ⟨rfl, hb⟩
      have RAx := Lib.hid (row_on RA.out hb)
      have RBx := Lib.hid (row_on RB.out hb)
      have RCx := Lib.hid (row_on RC.out hb)
      have RDx := Lib.hid (row_on RD.out hb)
      have RUx := Lib.hid (row_on RU.out hb)
      have RVx := Lib.hid (row_on RV.out hb)
      have VAx := Lib.hid (And.intro (VA.out.1.below hb) (VA.out.2.below hb))
      have VBx := Lib.hid (And.intro (VB.out.1.below hb) (VB.out.2.below hb))
      have VCx := Lib.hid (And.intro (VC.out.1.below hb) (VC.out.2.below hb))
      have VDx := Lib.hid (And.intro (VD.out.1.below hb) (VD.out.2.below hb))
      have VUx := Lib.hid (And.intro (VU.out.1.below hb) (VU.out.2.below hb))
      have VVx := Lib.hid (And.intro (VV.out.1.below hb) (VV.out.2.below hb))
      have KNx := Lib.hid (KN.out.trans (hb.mono KN.out.size))
      clear RA RB RC RD RU RV VA VB VC VD VU VV KN
      have RA := RAx
      have RB := RBx
      have RC := RCx
      have RD := RDx
      have RU := RUx
      have RV := RVx
      have VA := VAx
      have VB := VBx
      have VC := VCx
      have VD := VDx
      have VU := VUx
      have VV := VVx
      have KN := KNx
      clear RAx RBx RCx RDx RUx RVx VAx VBx VCx VDx VUx VVx KNx
      clear hb f0 f1 f2 k0 k1 k2
      have f0 := row_c RB.out (i := 0) rfl
      have f1 := row_c RB.out (i := 1) rfl
      have f2 := row_c RB.out (i := 2) rfl
      have k0 := row_c RD.out (i := 0) rfl
      have k1 := row_c RD.out (i := 1) rfl
      have k2 := row_c RD.out (i := 2) rfl
      go_wp2_with fail
      refine (nodes_any l2 _ _ _ _ _ _ _ _ Z2 X2 _ VB.out.1 VB.out.2 VD.out.1 VD.out.2 (by have := LZ.out; have := LN.out; omega) (by have := LZ.out; have := LN.out; omega)).mono ?_
      rintro e w13 ⟨rfl, hb⟩
      have RAx := Lib.hid (row_on RA.out hb)
      have RBx := Lib.hid (row_on RB.out hb)
      have RCx := Lib.hid (row_on RC.out hb)
      have RDx := Lib.hid (row_on RD.out hb)
      have RUx := Lib.hid (row_on RU.out hb)
      have RVx := Lib.hid (row_on RV.out hb)
      have VAx := Lib.hid (And.intro (VA.out.1.below hb) (VA.out.2.below hb))
      have VBx := Lib.hid (And.intro (VB.out.1.below hb) (VB.out.2.below hb))
      have VCx := Lib.hid (And.intro (VC.out.1.below hb) (VC.out.2.below hb))
      have VDx := Lib.hid (And.intro (VD.out.1.below hb) (VD.out.2.below hb))
      have VUx := Lib.hid (And.intro (VU.out.1.below hb) (VU.out.2.below hb))
      have VVx := Lib.hid (And.intro (VV.out.1.below hb) (VV.out.2.below hb))
      have KNx := Lib.hid (KN.out.trans (hb.mono KN.out.size))
      clear RA RB RC RD RU RV VA VB VC VD VU VV KN
      have RA := RAx
      have RB := RBx
      have RC := RCx
      have RD := RDx
      have RU := RUx
      have RV := RVx
      have VA := VAx
      have VB := VBx
      have VC := VCx
      have VD := VDx
      have VU := VUx
      have VV := VVx
      have KN := KNx
      clear RAx RBx RCx RDx RUx RVx VAx VBx VCx VDx VUx VVx KNx
      clear hb f0 f1 f2 k0 k1 k2
      have f0 := row_c RU.out (i := 0) rfl
      have f1 := row_c RU.out (i := 1) rfl
      have f2 := row_c RU.out (i := 2) rfl
      have k0 := row_c RV.out (i := 0) rfl
      have k1 := row_c RV.out (i := 1) rfl
      have k2 := row_c RV.out (i := 2) rfl
      go_wp2_with fail
      refine (nodes_any lj _ _ _ _ _ _ _ _ Zj Xj _ VU.out.1 VU.out.2 VV.out.1 VV.out.2 (by have := LZ.out; have := LN.out; have := LM.out; omega) (by have := LZ.out; have := LN.out; have := LM.out; omega)).mono ?_
      rintro e w14 ⟨rfl, hb⟩
      have RAx := Lib.hid (row_on RA.out hb)
      have RBx := Lib.hid (row_on RB.out hb)
      have RCx := Lib.hid (row_on RC.out hb)
      have RDx := Lib.hid (row_on RD.out hb)
      have RUx := Lib.hid (row_on RU.out hb)
      have RVx := Lib.hid (row_on RV.out hb)
      have VAx := Lib.hid (And.intro (VA.out.1.below hb) (VA.out.2.below hb))
      have VBx := Lib.hid (And.intro (VB.out.1.below hb) (VB.out.2.below hb))
      have VCx := Lib.hid (And.intro (VC.out.1.below hb) (VC.out.2.below hb))
      have VDx := Lib.hid (And.intro (VD.out.1.below hb) (VD.out.2.below hb))
      have VUx := Lib.hid (And.intro (VU.out.1.below hb) (VU.out.2.below hb))
      have VVx := Lib.hid (And.intro (VV.out.1.below hb) (VV.out.2.below hb))
      have KNx := Lib.hid (KN.out.trans (hb.mono KN.out.size))
      clear RA RB RC RD RU RV VA VB VC VD VU VV KN
      have RA := RAx
      have RB := RBx
      have RC := RCx
      have RD := RDx
      have RU := RUx
      have RV := RVx
      have VA := VAx
      have VB := VBx
      have VC := VCx
      have VD := VDx
      have VU := VUx
      have VV := VVx
      have KN := KNx
      clear RAx RBx RCx RDx RUx RVx VAx VBx VCx VDx VUx VVx KNx
      clear hb f0 f1 f2 k0 k1 k2
      generalize (⟨s.toArray⟩ : ByteArray) = sb at *
      cases ok <;> cases oj
      all_goals
        go_wp2
        go_ret
        exact ⟨rfl, KN.out⟩
end Go.Proofs.Ytkbdcbcjbgbglaa
