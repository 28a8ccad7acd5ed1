/-
  node.Join of two nodes of one kind.
-/
import Derived.Test.YtkbdcbcjbgbglaaNq
namespace Go.Proofs.Ytkbdcbcjbgbglaa
open Go.RowKit
set_option linter.unusedVariables false
set_option linter.unusedSimpArgs false
def jk (lf : Bool) (ka : List (List UInt8)) (mid : List UInt8) (kb : List (List UInt8)) : List (List UInt8) := if lf then ka ++ kb else ka ++ [mid] ++ kb
theorem rl_off {α : Type} {g : α → Value} {w : World} {A : Option Addr} {c : Nat} {xs : List α} (h : Rl g w A c xs) {k : Nat} {a b d : Value} {T : TypeId} (hk : w.heap[k]? = some (.cells #[a, b, d] T (0, 0))) (hne : ∀ (x : α) (i : Nat), (#[a, b, d] : Array Value)[i]? ≠ some (g x)) (i : Nat) (v : Value) : Rl g (w.setCell ⟨k, i, none⟩ v) A c xs ∧ (0 < xs.length → ∀ bb off, A = some ⟨bb, off, none⟩ → bb ≠ k) := by
  have key : 0 < xs.length → ∀ bb off, A = some ⟨bb, off, none⟩ → bb ≠ k := fun h0 bb off e e2 => by
    obtain ⟨b0, off0, e0, _, hc⟩ := h.2 h0
    rw [e] at e0
    injection e0 with e0
    injection e0 with e1 e3
    subst e1 e3 e2
    have h1 := hc 0 xs[0] (List.getElem?_eq_getElem h0)
    rw [cell_of_row _ _ _ _ _ _ hk] at h1
    exact hne _ _ h1
  refine ⟨⟨h.1, fun h0 => ?_⟩, key⟩
  obtain ⟨b0, off0, e0, hlt, hc⟩ := h.2 h0
  have hbk := key h0 b0 off0 e0
  exact ⟨b0, off0, e0, by simpa using hlt, fun j y hj => (World.cell?_setCell_other _ _ _ _ (fun e => by have := congrArg Addr.block e; simp at this; omega)).trans (hc j y hj)⟩
theorem rl_setne {α : Type} {g : α → Value} {w : World} {A : Option Addr} {c : Nat} {xs : List α} (h : Rl g w A c xs) {k : Nat} (key : 0 < xs.length → ∀ bb off, A = some ⟨bb, off, none⟩ → bb ≠ k) (i : Nat) (v : Value) : Rl g (w.setCell ⟨k, i, none⟩ v) A c xs := by
  refine ⟨h.1, fun h0 => ?_⟩
  obtain ⟨b0, off0, e0, hlt, hc⟩ := h.2 h0
  have hbk := key h0 b0 off0 e0
  exact ⟨b0, off0, e0, by simpa using hlt, fun j y hj => (World.cell?_setCell_other _ _ _ _ (fun e => by have := congrArg Addr.block e; simp at this; omega)).trans (hc j y hj)⟩
theorem rl_off3 {α : Type} {g : α → Value} {w : World} {A : Option Addr} {c : Nat} {xs : List α} (h : Rl g w A c xs) {k : Nat} {a b d : Value} {T : TypeId} (hk : w.heap[k]? = some (.cells #[a, b, d] T (0, 0))) (hne : ∀ (x : α) (i : Nat), (#[a, b, d] : Array Value)[i]? ≠ some (g x)) (u v x : Value) : Rl g (((w.setCell ⟨k, 0, none⟩ u).setCell ⟨k, 1, none⟩ v).setCell ⟨k, 2, none⟩ x) A c xs := by
  obtain ⟨h1, key⟩ := rl_off h hk hne 0 u
  exact rl_setne (rl_setne h1 key 1 v) key 2 x
theorem off_s {b0 : Bool} {A B : Option Addr} {n m c d : Nat} {z : List UInt8} {i : Nat} (h : (#[.bool b0, .slice A n c, .slice B m d] : Array Value)[i]? = some (sv z)) : False := by
  match i with
  | 0 => simp [sv] at h
  | 1 => simp [sv] at h
  | 2 => simp [sv] at h
  | i + 3 => simp at h
theorem off_n {b0 : Bool} {A B : Option Addr} {n m c d : Nat} {z : Int} {i : Nat} (h : (#[.bool b0, .slice A n c, .slice B m d] : Array Value)[i]? = some (nv z)) : False := by
  match i with
  | 0 => simp [nv] at h
  | 1 => simp [nv] at h
  | 2 => simp [nv] at h
  | i + 3 => simp at h
theorem lay_js (A : Option Addr) (c : Nat) (xs : List (List UInt8)) (B : Option Addr) (d : Nat) (ys : List (List UInt8)) (w : World) (h : Rl sv w A c xs) (h2 : Rl sv w B d ys) (hl : xs.length ≤ 4000000) (hl2 : ys.length ≤ 4000000) :
    Calls Try.prog 41 #[.slice A xs.length c, .int .i64 (xs.length : Int), .int .i64 0, .slice B ys.length d] w fun e w' => ∃ A' c', e = .returned (.slice A' (xs ++ ys).length c') ∧ Rl sv w' A' c' (xs ++ ys) ∧ Below w.heap.size w w' ∧ Fr w.heap.size A' := by
  have := lay_s A c xs xs.length 0 B d ys w h h2 (by omega) (by omega) hl2
  rw [List.take_length, Nat.add_zero, List.drop_length, List.append_nil] at this
  exact this
theorem lay_ji (A : Option Addr) (c : Nat) (xs : List (Int)) (B : Option Addr) (d : Nat) (ys : List (Int)) (w : World) (h : Rl nv w A c xs) (h2 : Rl nv w B d ys) (hl : xs.length ≤ 4000000) (hl2 : ys.length ≤ 4000000) :
    Calls Try.prog 42 #[.slice A xs.length c, .int .i64 (xs.length : Int), .int .i64 0, .slice B ys.length d] w fun e w' => ∃ A' c', e = .returned (.slice A' (xs ++ ys).length c') ∧ Rl nv w' A' c' (xs ++ ys) ∧ Below w.heap.size w w' ∧ Fr w.heap.size A' := by
  have := lay_i A c xs xs.length 0 B d ys w h h2 (by omega) (by omega) hl2
  rw [List.take_length, Nat.add_zero, List.drop_length, List.append_nil] at this
  exact this
set_option maxHeartbeats 8000000 in
set_option maxRecDepth 100000 in
theorem join_any (lf : Bool) (A A2 B B2 : Option Addr) (c c2 d d2 : Nat) (ka kb : List (List UInt8)) (da db : List Int) (mid : List UInt8) (w : World) (h1 : Rl sv w A c ka) (h2 : Rl nv w B d da) (h3 : Rl sv w A2 c2 kb) (h4 : Rl nv w B2 d2 db)
    (l1 : ka.length ≤ 1000000) (l2 : da.length ≤ 1000000) (l3 : kb.length ≤ 1000000) (l4 : db.length ≤ 1000000) (hz : sizeN (jk lf ka mid kb) (da ++ db) < 4611686018427387904) :
    Calls Try.prog 30 #[.agg #[.bool lf, .slice A ka.length c, .slice B da.length d], .string ⟨mid.toArray⟩, .agg #[.bool lf, .slice A2 kb.length c2, .slice B2 db.length d2]] w fun e w' => (sizeN (jk lf ka mid kb) (da ++ db) ≤ 120 → ∃ A' c' B' d', e = .returned (.tuple #[.agg #[.bool lf, .slice A' (jk lf ka mid kb).length c', .slice B' (da ++ db).length d'], .bool true]) ∧ Rl sv w' A' c' (jk lf ka mid kb) ∧ Rl nv w' B' d' (da ++ db)) ∧ (¬ sizeN (jk lf ka mid kb) (da ++ db) ≤ 120 → e = .returned (.tuple #[.agg #[.bool false, .slice none 0 0, .slice none 0 0], .bool false])) ∧ Below w.heap.size w w' := by
  obtain ⟨W, hW⟩ : ∃ W : World, W = ((w.alloc (.cells #[.bool lf, .slice A ka.length c, .slice B da.length d] 25)).alloc (.cells #[.bool lf, .slice A2 kb.length c2, .slice B2 db.length d2] 25)).alloc (.cells #[.bool false, .slice none 0 0, .slice none 0 0] 25) := ⟨_, rfl⟩
  have RA := Lib.hid (show W.heap[w.heap.size]? = some (.cells #[.bool lf, .slice A ka.length c, .slice B da.length d] 25 (0, 0)) by rw [hW]; exact row_on (row_on (heap_alloc_new w _) (bda _ _)) (bda _ _))
  have RB := Lib.hid (show W.heap[w.heap.size + 1]? = some (.cells #[.bool lf, .slice A2 kb.length c2, .slice B2 db.length d2] 25 (0, 0)) by rw [hW]; have := row_on (heap_alloc_new (w.alloc (.cells #[.bool lf, .slice A ka.length c, .slice B da.length d] 25)) (.cells #[.bool lf, .slice A2 kb.length c2, .slice B2 db.length d2] 25)) (bda _ (.cells #[.bool false, .slice none 0 0, .slice none 0 0] 25)); simpa using this)
  have RC := Lib.hid (show W.heap[w.heap.size + 1 + 1]? = some (.cells #[.bool false, .slice none 0 0, .slice none 0 0] 25 (0, 0)) by rw [hW]; have := heap_alloc_new ((w.alloc (.cells #[.bool lf, .slice A ka.length c, .slice B da.length d] 25)).alloc (.cells #[.bool lf, .slice A2 kb.length c2, .slice B2 db.length d2] 25)) (.cells #[.bool false, .slice none 0 0, .slice none 0 0] 25); simpa using this)
  have KW := Lib.hid (show Below w.heap.size w W by rw [hW]; exact bon (bon (bda _ _) (bda _ _)) (bda _ _))
  have HW := Lib.hid hW
  have V1 := Lib.hid (show Rl sv W A c ka ∧ Rl nv W B d da ∧ Rl sv W A2 c2 kb ∧ Rl nv W B2 d2 db from ⟨h1.below KW.out, h2.below KW.out, h3.below KW.out, h4.below KW.out⟩)
  have hll : (lf != lf) = false := by simp
  have ZS := Lib.hid hz
  have JK := Lib.hid (show jk lf ka mid kb = if lf then ka ++ kb else ka ++ [mid] ++ kb from rfl)
  clear hW h1 h2 h3 h4 hz
  cases lf
  · have JY := Lib.hid (show jk false ka mid kb = (ka ++ [mid]) ++ kb from JK.out)
    clear JK
    have SW := Lib.hid (show W.heap.size = w.heap.size + 1 + 1 + 1 by rw [HW.out]; simp)
    obtain ⟨X, hX⟩ : ∃ X : World, X = W.alloc (.cells #[.string ⟨mid.toArray⟩] 9) := ⟨_, rfl⟩
    have RX := Lib.hid (show X.heap[w.heap.size + 1 + 1 + 1]? = some (.cells ([mid].map sv).toArray 9 (0, 0)) by rw [← SW.out, hX]; exact heap_alloc_new _ _)
    have BX := Lib.hid (show Below W.heap.size W X by rw [hX]; exact bda _ _)
    have HX := Lib.hid (show X = (((w.alloc (.cells #[.bool false, .slice A ka.length c, .slice B da.length d] 25)).alloc (.cells #[.bool false, .slice A2 kb.length c2, .slice B2 db.length d2] 25)).alloc (.cells #[.bool false, .slice none 0 0, .slice none 0 0] 25)).alloc (.cells #[.string ⟨mid.toArray⟩] 9) by rw [hX, HW.out])
    have LJ := Lib.hid (show Calls Try.prog 41 #[.slice A ka.length c, .int .i64 (ka.length : Int), .int .i64 0, .slice (some ⟨w.heap.size + 1 + 1 + 1, 0, none⟩) 1 1] X fun e w' => ∃ A' c', e = .returned (.slice A' (ka ++ [mid]).length c') ∧ Rl sv w' A' c' (ka ++ [mid]) ∧ Below X.heap.size X w' ∧ Fr X.heap.size A' from lay_js A c ka (some ⟨w.heap.size + 1 + 1 + 1, 0, none⟩) 1 [mid] X (V1.out.1.below BX.out) (rl_of_row RX.out 1 (by simp)) (by omega) (by simp))
    clear hX RX
    go_enter Try.func30, Try.ntmps30
    go_wp2_with fail
    rw [← HX.out]
    refine LJ.out.mono ?_
    rintro e Y ⟨Ak, ck, rfl, hr, hb, _⟩
    have BY := Lib.hid (BX.out.trans (hb.mono BX.out.size))
    have VX := Lib.hid hr
    clear hr hb BX LJ HX
    have RAy := Lib.hid (row_on RA.out BY.out)
    have RBy := Lib.hid (row_on RB.out BY.out)
    have RCy := Lib.hid (row_on RC.out BY.out)
    have KY := Lib.hid (KW.out.trans (BY.out.mono KW.out.size))
    have VY := Lib.hid (show Rl nv Y B d da ∧ Rl sv Y A2 c2 kb ∧ Rl nv Y B2 d2 db from ⟨V1.out.2.1.below BY.out, V1.out.2.2.1.below BY.out, V1.out.2.2.2.below BY.out⟩)
    clear RA RB RC KW V1 HW BY SW
    obtain ⟨kx, hkx⟩ : ∃ z, ka ++ [mid] = z := ⟨_, rfl⟩
    rw [hkx] at VX JY ⊢
    have LX := Lib.hid (show kx.length ≤ 1000001 by rw [← hkx]; simp; omega)
    clear hkx
    obtain ⟨N1, hN1⟩ : ∃ n, (kx ++ kb).length = n := ⟨_, rfl⟩
    obtain ⟨N2, hN2⟩ : ∃ n, (da ++ db).length = n := ⟨_, rfl⟩
    have LK1 := Lib.hid (fun x (hb' : Below Y.heap.size Y x) => lay_js Ak ck kx A2 c2 kb x (VX.out.below hb') (VY.out.2.1.below hb') (by have := LX.out; omega) (by omega))
    have LK2 := Lib.hid (fun x (hb' : Below Y.heap.size Y x) => lay_ji B d da B2 d2 db x (VY.out.1.below hb') (VY.out.2.2.below hb') (by omega) (by omega))
    rw [hN1] at LK1
    rw [hN2] at LK2
    rw [JY.out] at ZS
    have SZ := Lib.hid (fun (A : Option Addr) (c : Nat) (B : Option Addr) (d : Nat) V (hV : Rl sv V A c (kx ++ kb)) => size_any false A c (kx ++ kb) B d (da ++ db) V hV (by rw [List.length_append]; have := LX.out; omega) ZS.out)
    rw [hN1, hN2] at SZ
    have HN := Lib.hid (And.intro hN1 hN2)
    clear hN1 hN2
    have SY := Lib.hid (show w.heap.size + 3 ≤ Y.heap.size from heap_lt RCy.out)
    have FA := Lib.hid (fun x (K : Below Y.heap.size Y x) => And.intro (row_c (row_on RAy.out K) (i := 0) rfl) (row_c (row_on RAy.out K) (i := 2) rfl))
    have FB := Lib.hid (fun x (K : Below Y.heap.size Y x) => And.intro (row_c (row_on RBy.out K) (i := 1) rfl) (row_c (row_on RBy.out K) (i := 2) rfl))
    have f0 := row_c RAy.out (i := 0) rfl
    go_upto_region 6 with (fail)
    clear f0
    refine wp_operands (W := Y) rfl 18 [27, 28, 29, 30, 31, 32, 33, 34, 35, 36, 37, 38, 39, 40, 41, 42, 43, 9] (fun i u x => match i with | 0 => u = .pointer (some ⟨w.heap.size, 0, none⟩) | 1 => u = .bool false | 2 => u = .slice Ak kx.length ck | 3 => u = .slice Ak kx.length ck | 4 => u = .int .i64 (kx.length : Int) | 5 => u = .pointer (some ⟨w.heap.size + 1, 1, none⟩) | 6 => u = .slice A2 kb.length c2 | 7 => ∃ A0 q0, u = .slice A0 N1 q0 ∧ Rl sv x A0 q0 (kx ++ kb) ∧ Fr Y.heap.size A0 | 8 => u = .pointer (some ⟨w.heap.size, 2, none⟩) | 9 => u = .slice B da.length d | 10 => u = .pointer (some ⟨w.heap.size, 2, none⟩) | 11 => u = .slice B da.length d | 12 => u = .int .i64 (da.length : Int) | 13 => u = .pointer (some ⟨w.heap.size + 1, 2, none⟩) | 14 => u = .slice B2 db.length d2 | 15 => ∃ A0 q0, u = .slice A0 N2 q0 ∧ Rl nv x A0 q0 (da ++ db) ∧ Fr Y.heap.size A0 | 16 => ∃ A0 q0 B0 p0, u = .agg #[.bool false, .slice A0 N1 q0, .slice B0 N2 p0] ∧ Rl sv x A0 q0 (kx ++ kb) ∧ Rl nv x B0 p0 (da ++ db) ∧ Fr Y.heap.size A0 ∧ Fr Y.heap.size B0 | 17 => ∃ g, u = .pointer (some ⟨g, 0, none⟩) ∧ x.heap[g]? = some (.cells #[.bool false, .slice none 0 0, .slice none 0 0] 25 (0, 0)) ∧ Y.heap.size ≤ g | _ => True) (fun _ => false)
      (by decide) rfl (by kernel_rfl) (by kernel_rfl) (by decide) (by kernel_rfl) ?_ (fun _ _ _ h => by cases h) ?_ ?_
    · intro i u x x' hi hR hb'
      have hi' : i = 0 ∨ i = 1 ∨ i = 2 ∨ i = 3 ∨ i = 4 ∨ i = 5 ∨ i = 6 ∨ i = 7 ∨ i = 8 ∨ i = 9 ∨ i = 10 ∨ i = 11 ∨ i = 12 ∨ i = 13 ∨ i = 14 ∨ i = 15 ∨ i = 16 ∨ i = 17 := by omega
      rcases hi' with rfl | rfl | rfl | rfl | rfl | rfl | rfl | rfl | rfl | rfl | rfl | rfl | rfl | rfl | rfl | rfl | rfl | rfl
      · exact hR
      · exact hR
      · exact hR
      · exact hR
      · exact hR
      · exact hR
      · exact hR
      · obtain ⟨A0, q0, e, hr, hf⟩ := hR; exact ⟨A0, q0, e, hr.below hb', hf⟩
      · exact hR
      · exact hR
      · exact hR
      · exact hR
      · exact hR
      · exact hR
      · exact hR
      · obtain ⟨A0, q0, e, hr, hf⟩ := hR; exact ⟨A0, q0, e, hr.below hb', hf⟩
      · obtain ⟨A0, q0, B0, p0, e, h1, h2, h3, h4⟩ := hR; exact ⟨A0, q0, B0, p0, e, h1.below hb', h2.below hb', h3, h4⟩
      · obtain ⟨g, e, hg, hn⟩ := hR; exact ⟨g, e, (hb'.block g (heap_lt hg)).trans hg, hn⟩
    · intro i av x K hi hF hb' hw hK
      have hi' : i = 0 ∨ i = 1 ∨ i = 2 ∨ i = 3 ∨ i = 4 ∨ i = 5 ∨ i = 6 ∨ i = 7 ∨ i = 8 ∨ i = 9 ∨ i = 10 ∨ i = 11 ∨ i = 12 ∨ i = 13 ∨ i = 14 ∨ i = 15 ∨ i = 16 ∨ i = 17 := by omega
      rcases hi' with rfl | rfl | rfl | rfl | rfl | rfl | rfl | rfl | rfl | rfl | rfl | rfl | rfl | rfl | rfl | rfl | rfl | rfl
      · simp only [wpOp, List.getElem?_toArray, List.getElem?_cons_zero, Region.wanted, if_true]
        refine Or.inl ?_
        have e0 : av.tmps.getD 3 undef = .pointer (some ⟨w.heap.size, 0, none⟩) := hF.2.2 3 (by decide)
        have e0e : av.eval (.tmp 3) = .pointer (some ⟨w.heap.size, 0, none⟩) := e0
        have e0g : av.tmps[3]?.getD undef = .pointer (some ⟨w.heap.size, 0, none⟩) := by have := e0; simp only [Array.getD_eq_getD_getElem?] at this; exact this
        clear hw hF
        simp only [Oper.wp, execOp]
        try simp only [e0e]
        go_simp
        exact hK _ x (by first | rfl | (simp only [Nat.add_zero]; done) | (congr 1; omega)) (Below.refl _ _) (fun h => by cases h)
      · simp only [wpOp, List.getElem?_toArray, List.getElem?_cons_succ, List.getElem?_cons_zero, Region.wanted, if_true]
        refine Or.inl ?_
        have e0 : av.tmps.getD 27 undef = .pointer (some ⟨w.heap.size, 0, none⟩) := (hw 0 (by kernel_rfl))
        have e0e : av.eval (.tmp 27) = .pointer (some ⟨w.heap.size, 0, none⟩) := e0
        have e0g : av.tmps[27]?.getD undef = .pointer (some ⟨w.heap.size, 0, none⟩) := by have := e0; simp only [Array.getD_eq_getD_getElem?] at this; exact this
        obtain ⟨f0, f2⟩ := FA.out x hb'
        clear hw hF
        simp only [Oper.wp, execOp]
        try simp only [e0e]
        go_simp
        exact hK _ x (by first | rfl | (simp only [Nat.add_zero]; done) | (congr 1; omega)) (Below.refl _ _) (fun h => by cases h)
      · simp only [wpOp, List.getElem?_toArray, List.getElem?_cons_succ, List.getElem?_cons_zero, Region.wanted, if_true]
        refine Or.inl ?_
        have e0 : av.tmps.getD 8 undef = .slice Ak kx.length ck := hF.2.2 8 (by decide)
        have e0e : av.eval (.tmp 8) = .slice Ak kx.length ck := e0
        have e0g : av.tmps[8]?.getD undef = .slice Ak kx.length ck := by have := e0; simp only [Array.getD_eq_getD_getElem?] at this; exact this
        clear hw hF
        simp only [Oper.wp, execOp]
        try simp only [e0e]
        go_simp
        exact hK _ x (by first | rfl | (simp only [Nat.add_zero]; done) | (congr 1; omega)) (Below.refl _ _) (fun h => by cases h)
      · simp only [wpOp, List.getElem?_toArray, List.getElem?_cons_succ, List.getElem?_cons_zero, Region.wanted, if_true]
        refine Or.inl ?_
        have e0 : av.tmps.getD 8 undef = .slice Ak kx.length ck := hF.2.2 8 (by decide)
        have e0e : av.eval (.tmp 8) = .slice Ak kx.length ck := e0
        have e0g : av.tmps[8]?.getD undef = .slice Ak kx.length ck := by have := e0; simp only [Array.getD_eq_getD_getElem?] at this; exact this
        clear hw hF
        simp only [Oper.wp, execOp]
        try simp only [e0e]
        go_simp
        exact hK _ x (by first | rfl | (simp only [Nat.add_zero]; done) | (congr 1; omega)) (Below.refl _ _) (fun h => by cases h)
      · simp only [wpOp, List.getElem?_toArray, List.getElem?_cons_succ, List.getElem?_cons_zero, Region.wanted, if_true]
        refine Or.inl ?_
        have e0 : av.tmps.getD 30 undef = .slice Ak kx.length ck := (hw 3 (by kernel_rfl))
        have e0e : av.eval (.tmp 30) = .slice Ak kx.length ck := e0
        have e0g : av.tmps[30]?.getD undef = .slice Ak kx.length ck := by have := e0; simp only [Array.getD_eq_getD_getElem?] at this; exact this
        clear hw hF
        simp only [Oper.wp, execOp]
        try simp only [e0e]
        go_simp
        exact hK _ x (by first | rfl | (simp only [Nat.add_zero]; done) | (congr 1; omega)) (Below.refl _ _) (fun h => by cases h)
      · simp only [wpOp, List.getElem?_toArray, List.getElem?_cons_succ, List.getElem?_cons_zero, Region.wanted, if_true]
        refine Or.inl ?_
        have e0 : av.tmps.getD 5 undef = .pointer (some ⟨w.heap.size + 1, 0, none⟩) := hF.2.2 5 (by decide)
        have e0e : av.eval (.tmp 5) = .pointer (some ⟨w.heap.size + 1, 0, none⟩) := e0
        have e0g : av.tmps[5]?.getD undef = .pointer (some ⟨w.heap.size + 1, 0, none⟩) := by have := e0; simp only [Array.getD_eq_getD_getElem?] at this; exact this
        clear hw hF
        simp only [Oper.wp, execOp]
        try simp only [e0e]
        go_simp
        exact hK _ x (by first | rfl | (simp only [Nat.add_zero]; done) | (congr 1; omega)) (Below.refl _ _) (fun h => by cases h)
      · simp only [wpOp, List.getElem?_toArray, List.getElem?_cons_succ, List.getElem?_cons_zero, Region.wanted, if_true]
        refine Or.inl ?_
        have e0 : av.tmps.getD 32 undef = .pointer (some ⟨w.heap.size + 1, 1, none⟩) := (hw 5 (by kernel_rfl))
        have e0e : av.eval (.tmp 32) = .pointer (some ⟨w.heap.size + 1, 1, none⟩) := e0
        have e0g : av.tmps[32]?.getD undef = .pointer (some ⟨w.heap.size + 1, 1, none⟩) := by have := e0; simp only [Array.getD_eq_getD_getElem?] at this; exact this
        obtain ⟨f1, f2⟩ := FB.out x hb'
        clear hw hF
        simp only [Oper.wp, execOp]
        try simp only [e0e]
        go_simp
        exact hK _ x (by first | rfl | (simp only [Nat.add_zero]; done) | (congr 1; omega)) (Below.refl _ _) (fun h => by cases h)
      · simp only [wpOp, List.getElem?_toArray, List.getElem?_cons_succ, List.getElem?_cons_zero, Region.wanted, if_true]
        refine Or.inl ?_
        have e0 : av.tmps.getD 29 undef = .slice Ak kx.length ck := (hw 2 (by kernel_rfl))
        have e0e : av.eval (.tmp 29) = .slice Ak kx.length ck := e0
        have e0g : av.tmps[29]?.getD undef = .slice Ak kx.length ck := by have := e0; simp only [Array.getD_eq_getD_getElem?] at this; exact this
        have e1 : av.tmps.getD 31 undef = .int .i64 (kx.length : Int) := (hw 4 (by kernel_rfl))
        have e1e : av.eval (.tmp 31) = .int .i64 (kx.length : Int) := e1
        have e1g : av.tmps[31]?.getD undef = .int .i64 (kx.length : Int) := by have := e1; simp only [Array.getD_eq_getD_getElem?] at this; exact this
        have e2 : av.tmps.getD 33 undef = .slice A2 kb.length c2 := (hw 6 (by kernel_rfl))
        have e2e : av.eval (.tmp 33) = .slice A2 kb.length c2 := e2
        have e2g : av.tmps[33]?.getD undef = .slice A2 kb.length c2 := by have := e2; simp only [Array.getD_eq_getD_getElem?] at this; exact this
        clear hw hF
        simp only [Oper.wp, execOp]
        try simp only [e0e, e1e, e2e]
        go_simp
        refine (LK1.out x hb').mono ?_
        rintro e x' ⟨A0, q0, rfl, hr, hx, hf⟩
        exact hK _ x' ⟨A0, q0, rfl, hr, fun b_ o_ e_ => by have := hf b_ o_ e_; have := hb'.size; omega⟩ hx (fun h => by cases h)
      · simp only [wpOp, List.getElem?_toArray, List.getElem?_cons_succ, List.getElem?_cons_zero, Region.wanted, if_true]
        refine Or.inl ?_
        have e0 : av.tmps.getD 3 undef = .pointer (some ⟨w.heap.size, 0, none⟩) := hF.2.2 3 (by decide)
        have e0e : av.eval (.tmp 3) = .pointer (some ⟨w.heap.size, 0, none⟩) := e0
        have e0g : av.tmps[3]?.getD undef = .pointer (some ⟨w.heap.size, 0, none⟩) := by have := e0; simp only [Array.getD_eq_getD_getElem?] at this; exact this
        clear hw hF
        simp only [Oper.wp, execOp]
        try simp only [e0e]
        go_simp
        exact hK _ x (by first | rfl | (simp only [Nat.add_zero]; done) | (congr 1; omega)) (Below.refl _ _) (fun h => by cases h)
      · simp only [wpOp, List.getElem?_toArray, List.getElem?_cons_succ, List.getElem?_cons_zero, Region.wanted, if_true]
        refine Or.inl ?_
        have e0 : av.tmps.getD 35 undef = .pointer (some ⟨w.heap.size, 2, none⟩) := (hw 8 (by kernel_rfl))
        have e0e : av.eval (.tmp 35) = .pointer (some ⟨w.heap.size, 2, none⟩) := e0
        have e0g : av.tmps[35]?.getD undef = .pointer (some ⟨w.heap.size, 2, none⟩) := by have := e0; simp only [Array.getD_eq_getD_getElem?] at this; exact this
        obtain ⟨f0, f2⟩ := FA.out x hb'
        clear hw hF
        simp only [Oper.wp, execOp]
        try simp only [e0e]
        go_simp
        exact hK _ x (by first | rfl | (simp only [Nat.add_zero]; done) | (congr 1; omega)) (Below.refl _ _) (fun h => by cases h)
      · simp only [wpOp, List.getElem?_toArray, List.getElem?_cons_succ, List.getElem?_cons_zero, Region.wanted, if_true]
        refine Or.inl ?_
        have e0 : av.tmps.getD 3 undef = .pointer (some ⟨w.heap.size, 0, none⟩) := hF.2.2 3 (by decide)
        have e0e : av.eval (.tmp 3) = .pointer (some ⟨w.heap.size, 0, none⟩) := e0
        have e0g : av.tmps[3]?.getD undef = .pointer (some ⟨w.heap.size, 0, none⟩) := by have := e0; simp only [Array.getD_eq_getD_getElem?] at this; exact this
        clear hw hF
        simp only [Oper.wp, execOp]
        try simp only [e0e]
        go_simp
        exact hK _ x (by first | rfl | (simp only [Nat.add_zero]; done) | (congr 1; omega)) (Below.refl _ _) (fun h => by cases h)
      · simp only [wpOp, List.getElem?_toArray, List.getElem?_cons_succ, List.getElem?_cons_zero, Region.wanted, if_true]
        refine Or.inl ?_
        have e0 : av.tmps.getD 37 undef = .pointer (some ⟨w.heap.size, 2, none⟩) := (hw 10 (by kernel_rfl))
        have e0e : av.eval (.tmp 37) = .pointer (some ⟨w.heap.size, 2, none⟩) := e0
        have e0g : av.tmps[37]?.getD undef = .pointer (some ⟨w.heap.size, 2, none⟩) := by have := e0; simp only [Array.getD_eq_getD_getElem?] at this; exact this
        obtain ⟨f0, f2⟩ := FA.out x hb'
        clear hw hF
        simp only [Oper.wp, execOp]
        try simp only [e0e]
        go_simp
        exact hK _ x (by first | rfl | (simp only [Nat.add_zero]; done) | (congr 1; omega)) (Below.refl _ _) (fun h => by cases h)
      · simp only [wpOp, List.getElem?_toArray, List.getElem?_cons_succ, List.getElem?_cons_zero, Region.wanted, if_true]
        refine Or.inl ?_
        have e0 : av.tmps.getD 38 undef = .slice B da.length d := (hw 11 (by kernel_rfl))
        have e0e : av.eval (.tmp 38) = .slice B da.length d := e0
        have e0g : av.tmps[38]?.getD undef = .slice B da.length d := by have := e0; simp only [Array.getD_eq_getD_getElem?] at this; exact this
        clear hw hF
        simp only [Oper.wp, execOp]
        try simp only [e0e]
        go_simp
        exact hK _ x (by first | rfl | (simp only [Nat.add_zero]; done) | (congr 1; omega)) (Below.refl _ _) (fun h => by cases h)
      · simp only [wpOp, List.getElem?_toArray, List.getElem?_cons_succ, List.getElem?_cons_zero, Region.wanted, if_true]
        refine Or.inl ?_
        have e0 : av.tmps.getD 5 undef = .pointer (some ⟨w.heap.size + 1, 0, none⟩) := hF.2.2 5 (by decide)
        have e0e : av.eval (.tmp 5) = .pointer (some ⟨w.heap.size + 1, 0, none⟩) := e0
        have e0g : av.tmps[5]?.getD undef = .pointer (some ⟨w.heap.size + 1, 0, none⟩) := by have := e0; simp only [Array.getD_eq_getD_getElem?] at this; exact this
        clear hw hF
        simp only [Oper.wp, execOp]
        try simp only [e0e]
        go_simp
        exact hK _ x (by first | rfl | (simp only [Nat.add_zero]; done) | (congr 1; omega)) (Below.refl _ _) (fun h => by cases h)
      · simp only [wpOp, List.getElem?_toArray, List.getElem?_cons_succ, List.getElem?_cons_zero, Region.wanted, if_true]
        refine Or.inl ?_
        have e0 : av.tmps.getD 40 undef = .pointer (some ⟨w.heap.size + 1, 2, none⟩) := (hw 13 (by kernel_rfl))
        have e0e : av.eval (.tmp 40) = .pointer (some ⟨w.heap.size + 1, 2, none⟩) := e0
        have e0g : av.tmps[40]?.getD undef = .pointer (some ⟨w.heap.size + 1, 2, none⟩) := by have := e0; simp only [Array.getD_eq_getD_getElem?] at this; exact this
        obtain ⟨f1, f2⟩ := FB.out x hb'
        clear hw hF
        simp only [Oper.wp, execOp]
        try simp only [e0e]
        go_simp
        exact hK _ x (by first | rfl | (simp only [Nat.add_zero]; done) | (congr 1; omega)) (Below.refl _ _) (fun h => by cases h)
      · simp only [wpOp, List.getElem?_toArray, List.getElem?_cons_succ, List.getElem?_cons_zero, Region.wanted, if_true]
        refine Or.inl ?_
        have e0 : av.tmps.getD 36 undef = .slice B da.length d := (hw 9 (by kernel_rfl))
        have e0e : av.eval (.tmp 36) = .slice B da.length d := e0
        have e0g : av.tmps[36]?.getD undef = .slice B da.length d := by have := e0; simp only [Array.getD_eq_getD_getElem?] at this; exact this
        have e1 : av.tmps.getD 39 undef = .int .i64 (da.length : Int) := (hw 12 (by kernel_rfl))
        have e1e : av.eval (.tmp 39) = .int .i64 (da.length : Int) := e1
        have e1g : av.tmps[39]?.getD undef = .int .i64 (da.length : Int) := by have := e1; simp only [Array.getD_eq_getD_getElem?] at this; exact this
        have e2 : av.tmps.getD 41 undef = .slice B2 db.length d2 := (hw 14 (by kernel_rfl))
        have e2e : av.eval (.tmp 41) = .slice B2 db.length d2 := e2
        have e2g : av.tmps[41]?.getD undef = .slice B2 db.length d2 := by have := e2; simp only [Array.getD_eq_getD_getElem?] at this; exact this
        clear hw hF
        simp only [Oper.wp, execOp]
        try simp only [e0e, e1e, e2e]
        go_simp
        refine (LK2.out x hb').mono ?_
        rintro e x' ⟨A0, q0, rfl, hr, hx, hf⟩
        exact hK _ x' ⟨A0, q0, rfl, hr, fun b_ o_ e_ => by have := hf b_ o_ e_; have := hb'.size; omega⟩ hx (fun h => by cases h)
      · simp only [wpOp, List.getElem?_toArray, List.getElem?_cons_succ, List.getElem?_cons_zero, Region.wanted, if_true]
        refine Or.inl ?_
        have e0 : av.tmps.getD 28 undef = .bool false := (hw 1 (by kernel_rfl))
        have e0e : av.eval (.tmp 28) = .bool false := e0
        have e0g : av.tmps[28]?.getD undef = .bool false := by have := e0; simp only [Array.getD_eq_getD_getElem?] at this; exact this
        obtain ⟨A01, q01, e1, hr1, hf1⟩ := (hw 7 (by kernel_rfl))
        have e1e : av.eval (.tmp 34) = .slice A01 N1 q01 := e1
        have e1g : av.tmps[34]?.getD undef = .slice A01 N1 q01 := by have := e1; simp only [Array.getD_eq_getD_getElem?] at this; exact this
        obtain ⟨A02, q02, e2, hr2, hf2⟩ := (hw 15 (by kernel_rfl))
        have e2e : av.eval (.tmp 42) = .slice A02 N2 q02 := e2
        have e2g : av.tmps[42]?.getD undef = .slice A02 N2 q02 := by have := e2; simp only [Array.getD_eq_getD_getElem?] at this; exact this
        clear hw hF
        simp only [Oper.wp, execOp]
        try simp only [e0e, e1e, e2e]
        go_simp
        exact hK _ x ⟨A01, q01, A02, q02, rfl, hr1, hr2, hf1, hf2⟩ (Below.refl _ _) (fun h => by cases h)
      · simp only [wpOp, List.getElem?_toArray, List.getElem?_cons_succ, List.getElem?_cons_zero, Region.wanted, if_true]
        refine Or.inl ?_
        clear hw hF
        simp only [Oper.wp, execOp]
        go_simp
        exact hK _ _ ⟨_, rfl, heap_alloc_new _ _, hb'.size⟩ ((Below.refl _ _).alloc (Nat.le_refl _) _) (fun h => by cases h)
    · intro av x hF hb' hR _
      have e0 : av.tmps.getD 27 undef = .pointer (some ⟨w.heap.size, 0, none⟩) := hR 0 (by decide)
      have e1 : av.tmps.getD 28 undef = .bool false := hR 1 (by decide)
      have e2 : av.tmps.getD 29 undef = .slice Ak kx.length ck := hR 2 (by decide)
      have e3 : av.tmps.getD 30 undef = .slice Ak kx.length ck := hR 3 (by decide)
      have e4 : av.tmps.getD 31 undef = .int .i64 (kx.length : Int) := hR 4 (by decide)
      have e5 : av.tmps.getD 32 undef = .pointer (some ⟨w.heap.size + 1, 1, none⟩) := hR 5 (by decide)
      have e6 : av.tmps.getD 33 undef = .slice A2 kb.length c2 := hR 6 (by decide)
      obtain ⟨A07, q07, e7, hr7, hf7⟩ := hR 7 (by decide)
      replace e7 : av.tmps.getD 34 undef = .slice A07 N1 q07 := e7
      have e8 : av.tmps.getD 35 undef = .pointer (some ⟨w.heap.size, 2, none⟩) := hR 8 (by decide)
      have e9 : av.tmps.getD 36 undef = .slice B da.length d := hR 9 (by decide)
      have e10 : av.tmps.getD 37 undef = .pointer (some ⟨w.heap.size, 2, none⟩) := hR 10 (by decide)
      have e11 : av.tmps.getD 38 undef = .slice B da.length d := hR 11 (by decide)
      have e12 : av.tmps.getD 39 undef = .int .i64 (da.length : Int) := hR 12 (by decide)
      have e13 : av.tmps.getD 40 undef = .pointer (some ⟨w.heap.size + 1, 2, none⟩) := hR 13 (by decide)
      have e14 : av.tmps.getD 41 undef = .slice B2 db.length d2 := hR 14 (by decide)
      obtain ⟨A015, q015, e15, hr15, hf15⟩ := hR 15 (by decide)
      replace e15 : av.tmps.getD 42 undef = .slice A015 N2 q015 := e15
      obtain ⟨Ax16, qx16, Bx16, px16, e16, h1x16, h2x16, h3x16, h4x16⟩ := hR 16 (by decide)
      replace e16 : av.tmps.getD 43 undef = .agg #[.bool false, .slice Ax16 N1 qx16, .slice Bx16 N2 px16] := e16
      obtain ⟨gg17, e17, hg17, hn17⟩ := hR 17 (by decide)
      replace e17 : av.tmps.getD 9 undef = .pointer (some ⟨gg17, 0, none⟩) := e17
      rw [hF.fold (by kernel_rfl)]
      simp only [List.foldl_cons, List.foldl_nil, e0, e1, e2, e3, e4, e5, e6, e7, e8, e9, e10, e11, e12, e13, e14, e15, e16, e17]
      simp only [Act.put, List.setIfInBounds_toArray, List.set_cons_zero, List.set_cons_succ]
      change wpOps _ _ _ [18] _ _
      simp only [wpOps_cons]
      clear e0 e1 e2 e3 e4 e5 e6 e7 e8 e9 e10 e11 e12 e13 e14 e15 e16 e17 hR hF
      have HG := Lib.hid hg17
      have NG := Lib.hid (And.intro hn17 (heap_lt hg17))
      have RCx := Lib.hid (row_on RCy.out hb')
      have KB := Lib.hid (KY.out.trans (hb'.mono KY.out.size))
      have X1 := Lib.hid (And.intro h1x16 h2x16)
      clear hb' h1x16 h2x16 h3x16 h4x16 hr7 hf7 hr15 hf15 hg17 hn17
      have p0 := row_c HG.out (i := 0) rfl
      have p1 := row_c HG.out (i := 1) rfl
      have p2 := row_c HG.out (i := 2) rfl
      have y0 := frozen_of_row _ _ 0 _ _ HG.out
      have y1 := frozen_of_row _ _ 1 _ _ HG.out
      have y2 := frozen_of_row _ _ 2 _ _ HG.out
      try rw [wpOps_cons]
      simp only [wpOp, List.getElem?_toArray, List.getElem?_cons_succ, List.getElem?_cons_zero, Region.wanted, if_true]
      refine Or.inl ?_
      simp only [Oper.wp, execOp]
      go_simp
      try simp only [wpOps]
      obtain ⟨U, hU⟩ : ∃ U : World, U = ((x.setCell ⟨gg17, 0, none⟩ (.bool false)).setCell ⟨gg17, 1, none⟩ (.slice Ax16 N1 qx16)).setCell ⟨gg17, 2, none⟩ (.slice Bx16 N2 px16) := ⟨_, rfl⟩
      have RG := Lib.hid (show U.heap[gg17]? = some (.cells #[.bool false, .slice Ax16 N1 qx16, .slice Bx16 N2 px16] 25 (0, 0)) by rw [hU]; have := row_set (i := 2) (row_set (i := 1) (row_set (i := 0) HG.out (.bool false)) (.slice Ax16 N1 qx16)) (.slice Bx16 N2 px16); simpa using this)
      have RCu := Lib.hid (show U.heap[w.heap.size + 1 + 1]? = some _ by rw [hU]; have h1 := SY.out; have h2 := NG.out.1; exact row_far (row_far (row_far RCx.out (by omega) _) (by omega) _) (by omega) _)
      have VU := Lib.hid (show Rl sv U Ax16 qx16 (kx ++ kb) ∧ Rl nv U Bx16 px16 (da ++ db) by rw [hU]; exact ⟨rl_off3 X1.out.1 HG.out (fun z i h => off_s h) _ _ _, rl_off3 X1.out.2 HG.out (fun z i h => off_n h) _ _ _⟩)
      have KU := Lib.hid (show Below w.heap.size w U by rw [hU]; have h1 := SY.out; have h2 := NG.out.1; exact ((KB.out.setCell (by simp; omega) _).setCell (by simp; omega) _).setCell (by simp; omega) _)
      rw [← hU]
      clear hU p0 p1 p2 y0 y1 y2 X1 KB RCx HG LK1 LK2 FA FB
      obtain ⟨A9, hA9⟩ : ∃ z, z = Ax16 := ⟨_, rfl⟩
      obtain ⟨q9, hq9⟩ : ∃ z, z = qx16 := ⟨_, rfl⟩
      obtain ⟨B9, hB9⟩ : ∃ z, z = Bx16 := ⟨_, rfl⟩
      obtain ⟨p9, hp9⟩ : ∃ z, z = px16 := ⟨_, rfl⟩
      rw [← hA9, ← hq9, ← hB9, ← hp9] at RG VU ⊢
      clear hA9 hq9 hB9 hp9
      obtain ⟨SN, hSN⟩ : ∃ n, sizeN (kx ++ kb) (da ++ db) = n := ⟨_, rfl⟩
      rw [hSN] at SZ
      have HSN := Lib.hid hSN
      clear hSN
      have f0 := row_c RG.out (i := 0) rfl
      have f1 := row_c RG.out (i := 1) rfl
      have f2 := row_c RG.out (i := 2) rfl
      go_wp2_with fail
      refine (SZ.out _ _ _ _ _ VU.out.1).mono ?_
      rintro e U2 ⟨rfl, hx⟩
      have RG2 := Lib.hid (row_on RG.out hx)
      have RC2 := Lib.hid (row_on RCu.out hx)
      have K2 := Lib.hid (KU.out.trans (hx.mono KU.out.size))
      have V2 := Lib.hid (And.intro (VU.out.1.below hx) (VU.out.2.below hx))
      clear hx f0 f1 f2 RG RCu KU VU SZ
      have p0 := row_c RC2.out (i := 0) rfl
      have p1 := row_c RC2.out (i := 1) rfl
      have p2 := row_c RC2.out (i := 2) rfl
      have y0 := frozen_of_row _ _ 0 _ _ RC2.out
      have y1 := frozen_of_row _ _ 1 _ _ RC2.out
      have y2 := frozen_of_row _ _ 2 _ _ RC2.out
      by_cases hbig : SN ≤ 120
      · have e3 : decide (120 < SN) = false := decide_eq_false (by omega)
        have e4 : decide ((120 : Int) < (SN : Int)) = false := decide_eq_false (by omega)
        have HBG := Lib.hid hbig
        have f0 := row_c RG2.out (i := 0) rfl
        have f1 := row_c RG2.out (i := 1) rfl
        have f2 := row_c RG2.out (i := 2) rfl
        clear hbig
        go_wp2
        refine bodyPost_ret (v := .tuple #[.agg #[.bool false, .slice A9 N1 q9, .slice B9 N2 p9], .bool true]) (by simp [results, Try.results30, go_sem, p0, p1, p2]) rfl ⟨fun _ => ⟨A9, q9, B9, p9, by rw [JY.out, HN.out.1, HN.out.2], ?_, ?_⟩, fun h => absurd (by rw [JY.out, HSN.out]; exact HBG.out) h, ?_⟩
        · rw [JY.out]; exact rl_off3 V2.out.1 RC2.out (fun z i h => off_s h) _ _ _
        · exact rl_off3 V2.out.2 RC2.out (fun z i h => off_n h) _ _ _
        · exact ((K2.out.setCell (by first | (simp; done) | (simp; omega)) _).setCell (by first | (simp; done) | (simp; omega)) _).setCell (by first | (simp; done) | (simp; omega)) _
      · have e3 : decide (120 < SN) = true := decide_eq_true (by omega)
        have e4 : decide ((120 : Int) < (SN : Int)) = true := decide_eq_true (by omega)
        have HBG := Lib.hid hbig
        clear hbig
        go_wp2
        refine bodyPost_ret (v := .tuple #[.agg #[.bool false, .slice none 0 0, .slice none 0 0], .bool false]) (by simp [results, Try.results30, go_sem, p0, p1, p2]) rfl ⟨fun h => absurd (by rw [JY.out, HSN.out] at h; exact h) HBG.out, fun _ => rfl, ?_⟩
        exact ((K2.out.setCell (by first | (simp; done) | (simp; omega)) _).setCell (by first | (simp; done) | (simp; omega)) _).setCell (by first | (simp; done) | (simp; omega)) _
  · have JY := Lib.hid (show jk true ka mid kb = ka ++ kb from JK.out)
    clear JK
    go_enter Try.func30, Try.ntmps30
    go_wp2_with fail
    rw [← HW.out]
    obtain ⟨Y, hY⟩ : ∃ Y, W = Y := ⟨_, rfl⟩
    rw [hY] at RA RB RC KW V1 ⊢
    have VX := Lib.hid V1.out.1
    have RAy := RA
    have RBy := RB
    have RCy := RC
    have KY := KW
    have VY := Lib.hid V1.out.2
    have LX := Lib.hid (show ka.length ≤ 1000001 by omega)
    clear RA RB RC KW V1 HW hY
    obtain ⟨N1, hN1⟩ : ∃ n, (ka ++ kb).length = n := ⟨_, rfl⟩
    obtain ⟨N2, hN2⟩ : ∃ n, (da ++ db).length = n := ⟨_, rfl⟩
    have LK1 := Lib.hid (fun x (hb' : Below Y.heap.size Y x) => lay_js A c ka A2 c2 kb x (VX.out.below hb') (VY.out.2.1.below hb') (by have := LX.out; omega) (by omega))
    have LK2 := Lib.hid (fun x (hb' : Below Y.heap.size Y x) => lay_ji B d da B2 d2 db x (VY.out.1.below hb') (VY.out.2.2.below hb') (by omega) (by omega))
    rw [hN1] at LK1
    rw [hN2] at LK2
    rw [JY.out] at ZS
    have SZ := Lib.hid (fun (A : Option Addr) (c : Nat) (B : Option Addr) (d : Nat) V (hV : Rl sv V A c (ka ++ kb)) => size_any true A c (ka ++ kb) B d (da ++ db) V hV (by rw [List.length_append]; have := LX.out; omega) ZS.out)
    rw [hN1, hN2] at SZ
    have HN := Lib.hid (And.intro hN1 hN2)
    clear hN1 hN2
    have SY := Lib.hid (show w.heap.size + 3 ≤ Y.heap.size from heap_lt RCy.out)
    have FA := Lib.hid (fun x (K : Below Y.heap.size Y x) => And.intro (row_c (row_on RAy.out K) (i := 0) rfl) (row_c (row_on RAy.out K) (i := 2) rfl))
    have FB := Lib.hid (fun x (K : Below Y.heap.size Y x) => And.intro (row_c (row_on RBy.out K) (i := 1) rfl) (row_c (row_on RBy.out K) (i := 2) rfl))
    have f0 := row_c RAy.out (i := 0) rfl
    go_upto_region 6 with (fail)
    clear f0
    refine wp_operands (W := Y) rfl 18 [27, 28, 29, 30, 31, 32, 33, 34, 35, 36, 37, 38, 39, 40, 41, 42, 43, 9] (fun i u x => match i with | 0 => u = .pointer (some ⟨w.heap.size, 0, none⟩) | 1 => u = .bool true | 2 => u = .slice A ka.length c | 3 => u = .slice A ka.length c | 4 => u = .int .i64 (ka.length : Int) | 5 => u = .pointer (some ⟨w.heap.size + 1, 1, none⟩) | 6 => u = .slice A2 kb.length c2 | 7 => ∃ A0 q0, u = .slice A0 N1 q0 ∧ Rl sv x A0 q0 (ka ++ kb) ∧ Fr Y.heap.size A0 | 8 => u = .pointer (some ⟨w.heap.size, 2, none⟩) | 9 => u = .slice B da.length d | 10 => u = .pointer (some ⟨w.heap.size, 2, none⟩) | 11 => u = .slice B da.length d | 12 => u = .int .i64 (da.length : Int) | 13 => u = .pointer (some ⟨w.heap.size + 1, 2, none⟩) | 14 => u = .slice B2 db.length d2 | 15 => ∃ A0 q0, u = .slice A0 N2 q0 ∧ Rl nv x A0 q0 (da ++ db) ∧ Fr Y.heap.size A0 | 16 => ∃ A0 q0 B0 p0, u = .agg #[.bool true, .slice A0 N1 q0, .slice B0 N2 p0] ∧ Rl sv x A0 q0 (ka ++ kb) ∧ Rl nv x B0 p0 (da ++ db) ∧ Fr Y.heap.size A0 ∧ Fr Y.heap.size B0 | 17 => ∃ g, u = .pointer (some ⟨g, 0, none⟩) ∧ x.heap[g]? = some (.cells #[.bool false, .slice none 0 0, .slice none 0 0] 25 (0, 0)) ∧ Y.heap.size ≤ g | _ => True) (fun _ => false)
      (by decide) rfl (by kernel_rfl) (by kernel_rfl) (by decide) (by kernel_rfl) ?_ (fun _ _ _ h => by cases h) ?_ ?_
    · intro i u x x' hi hR hb'
      have hi' : i = 0 ∨ i = 1 ∨ i = 2 ∨ i = 3 ∨ i = 4 ∨ i = 5 ∨ i = 6 ∨ i = 7 ∨ i = 8 ∨ i = 9 ∨ i = 10 ∨ i = 11 ∨ i = 12 ∨ i = 13 ∨ i = 14 ∨ i = 15 ∨ i = 16 ∨ i = 17 := by omega
      rcases hi' with rfl | rfl | rfl | rfl | rfl | rfl | rfl | rfl | rfl | rfl | rfl | rfl | rfl | rfl | rfl | rfl | rfl | rfl
      · exact hR
      · exact hR
      · exact hR
      · exact hR
      · exact hR
      · exact hR
      · exact hR
      · obtain ⟨A0, q0, e, hr, hf⟩ := hR; exact ⟨A0, q0, e, hr.below hb', hf⟩
      · exact hR
      · exact hR
      · exact hR
      · exact hR
      · exact hR
      · exact hR
      · exact hR
      · obtain ⟨A0, q0, e, hr, hf⟩ := hR; exact ⟨A0, q0, e, hr.below hb', hf⟩
      · obtain ⟨A0, q0, B0, p0, e, h1, h2, h3, h4⟩ := hR; exact ⟨A0, q0, B0, p0, e, h1.below hb', h2.below hb', h3, h4⟩
      · obtain ⟨g, e, hg, hn⟩ := hR; exact ⟨g, e, (hb'.block g (heap_lt hg)).trans hg, hn⟩
    · intro i av x K hi hF hb' hw hK
      have hi' : i = 0 ∨ i = 1 ∨ i = 2 ∨ i = 3 ∨ i = 4 ∨ i = 5 ∨ i = 6 ∨ i = 7 ∨ i = 8 ∨ i = 9 ∨ i = 10 ∨ i = 11 ∨ i = 12 ∨ i = 13 ∨ i = 14 ∨ i = 15 ∨ i = 16 ∨ i = 17 := by omega
      rcases hi' with rfl | rfl | rfl | rfl | rfl | rfl | rfl | rfl | rfl | rfl | rfl | rfl | rfl | rfl | rfl | rfl | rfl | rfl
      · simp only [wpOp, List.getElem?_toArray, List.getElem?_cons_zero, Region.wanted, if_true]
        refine Or.inl ?_
        have e0 : av.tmps.getD 3 undef = .pointer (some ⟨w.heap.size, 0, none⟩) := hF.2.2 3 (by decide)
        have e0e : av.eval (.tmp 3) = .pointer (some ⟨w.heap.size, 0, none⟩) := e0
        have e0g : av.tmps[3]?.getD undef = .pointer (some ⟨w.heap.size, 0, none⟩) := by have := e0; simp only [Array.getD_eq_getD_getElem?] at this; exact this
        clear hw hF
        simp only [Oper.wp, execOp]
        try simp only [e0e]
        go_simp
        exact hK _ x (by first | rfl | (simp only [Nat.add_zero]; done) | (congr 1; omega)) (Below.refl _ _) (fun h => by cases h)
      · simp only [wpOp, List.getElem?_toArray, List.getElem?_cons_succ, List.getElem?_cons_zero, Region.wanted, if_true]
        refine Or.inl ?_
        have e0 : av.tmps.getD 27 undef = .pointer (some ⟨w.heap.size, 0, none⟩) := (hw 0 (by kernel_rfl))
        have e0e : av.eval (.tmp 27) = .pointer (some ⟨w.heap.size, 0, none⟩) := e0
        have e0g : av.tmps[27]?.getD undef = .pointer (some ⟨w.heap.size, 0, none⟩) := by have := e0; simp only [Array.getD_eq_getD_getElem?] at this; exact this
        obtain ⟨f0, f2⟩ := FA.out x hb'
        clear hw hF
        simp only [Oper.wp, execOp]
        try simp only [e0e]
        go_simp
        exact hK _ x (by first | rfl | (simp only [Nat.add_zero]; done) | (congr 1; omega)) (Below.refl _ _) (fun h => by cases h)
      · simp only [wpOp, List.getElem?_toArray, List.getElem?_cons_succ, List.getElem?_cons_zero, Region.wanted, if_true]
        refine Or.inl ?_
        have e0 : av.tmps.getD 8 undef = .slice A ka.length c := hF.2.2 8 (by decide)
        have e0e : av.eval (.tmp 8) = .slice A ka.length c := e0
        have e0g : av.tmps[8]?.getD undef = .slice A ka.length c := by have := e0; simp only [Array.getD_eq_getD_getElem?] at this; exact this
        clear hw hF
        simp only [Oper.wp, execOp]
        try simp only [e0e]
        go_simp
        exact hK _ x (by first | rfl | (simp only [Nat.add_zero]; done) | (congr 1; omega)) (Below.refl _ _) (fun h => by cases h)
      · simp only [wpOp, List.getElem?_toArray, List.getElem?_cons_succ, List.getElem?_cons_zero, Region.wanted, if_true]
        refine Or.inl ?_
        have e0 : av.tmps.getD 8 undef = .slice A ka.length c := hF.2.2 8 (by decide)
        have e0e : av.eval (.tmp 8) = .slice A ka.length c := e0
        have e0g : av.tmps[8]?.getD undef = .slice A ka.length c := by have := e0; simp only [Array.getD_eq_getD_getElem?] at this; exact this
        clear hw hF
        simp only [Oper.wp, execOp]
        try simp only [e0e]
        go_simp
        exact hK _ x (by first | rfl | (simp only [Nat.add_zero]; done) | (congr 1; omega)) (Below.refl _ _) (fun h => by cases h)
      · simp only [wpOp, List.getElem?_toArray, List.getElem?_cons_succ, List.getElem?_cons_zero, Region.wanted, if_true]
        refine Or.inl ?_
        have e0 : av.tmps.getD 30 undef = .slice A ka.length c := (hw 3 (by kernel_rfl))
        have e0e : av.eval (.tmp 30) = .slice A ka.length c := e0
        have e0g : av.tmps[30]?.getD undef = .slice A ka.length c := by have := e0; simp only [Array.getD_eq_getD_getElem?] at this; exact this
        clear hw hF
        simp only [Oper.wp, execOp]
        try simp only [e0e]
        go_simp
        exact hK _ x (by first | rfl | (simp only [Nat.add_zero]; done) | (congr 1; omega)) (Below.refl _ _) (fun h => by cases h)
      · simp only [wpOp, List.getElem?_toArray, List.getElem?_cons_succ, List.getElem?_cons_zero, Region.wanted, if_true]
        refine Or.inl ?_
        have e0 : av.tmps.getD 5 undef = .pointer (some ⟨w.heap.size + 1, 0, none⟩) := hF.2.2 5 (by decide)
        have e0e : av.eval (.tmp 5) = .pointer (some ⟨w.heap.size + 1, 0, none⟩) := e0
        have e0g : av.tmps[5]?.getD undef = .pointer (some ⟨w.heap.size + 1, 0, none⟩) := by have := e0; simp only [Array.getD_eq_getD_getElem?] at this; exact this
        clear hw hF
        simp only [Oper.wp, execOp]
        try simp only [e0e]
        go_simp
        exact hK _ x (by first | rfl | (simp only [Nat.add_zero]; done) | (congr 1; omega)) (Below.refl _ _) (fun h => by cases h)
      · simp only [wpOp, List.getElem?_toArray, List.getElem?_cons_succ, List.getElem?_cons_zero, Region.wanted, if_true]
        refine Or.inl ?_
        have e0 : av.tmps.getD 32 undef = .pointer (some ⟨w.heap.size + 1, 1, none⟩) := (hw 5 (by kernel_rfl))
        have e0e : av.eval (.tmp 32) = .pointer (some ⟨w.heap.size + 1, 1, none⟩) := e0
        have e0g : av.tmps[32]?.getD undef = .pointer (some ⟨w.heap.size + 1, 1, none⟩) := by have := e0; simp only [Array.getD_eq_getD_getElem?] at this; exact this
        obtain ⟨f1, f2⟩ := FB.out x hb'
        clear hw hF
        simp only [Oper.wp, execOp]
        try simp only [e0e]
        go_simp
        exact hK _ x (by first | rfl | (simp only [Nat.add_zero]; done) | (congr 1; omega)) (Below.refl _ _) (fun h => by cases h)
      · simp only [wpOp, List.getElem?_toArray, List.getElem?_cons_succ, List.getElem?_cons_zero, Region.wanted, if_true]
        refine Or.inl ?_
        have e0 : av.tmps.getD 29 undef = .slice A ka.length c := (hw 2 (by kernel_rfl))
        have e0e : av.eval (.tmp 29) = .slice A ka.length c := e0
        have e0g : av.tmps[29]?.getD undef = .slice A ka.length c := by have := e0; simp only [Array.getD_eq_getD_getElem?] at this; exact this
        have e1 : av.tmps.getD 31 undef = .int .i64 (ka.length : Int) := (hw 4 (by kernel_rfl))
        have e1e : av.eval (.tmp 31) = .int .i64 (ka.length : Int) := e1
        have e1g : av.tmps[31]?.getD undef = .int .i64 (ka.length : Int) := by have := e1; simp only [Array.getD_eq_getD_getElem?] at this; exact this
        have e2 : av.tmps.getD 33 undef = .slice A2 kb.length c2 := (hw 6 (by kernel_rfl))
        have e2e : av.eval (.tmp 33) = .slice A2 kb.length c2 := e2
        have e2g : av.tmps[33]?.getD undef = .slice A2 kb.length c2 := by have := e2; simp only [Array.getD_eq_getD_getElem?] at this; exact this
        clear hw hF
        simp only [Oper.wp, execOp]
        try simp only [e0e, e1e, e2e]
        go_simp
        refine (LK1.out x hb').mono ?_
        rintro e x' ⟨A0, q0, rfl, hr, hx, hf⟩
        exact hK _ x' ⟨A0, q0, rfl, hr, fun b_ o_ e_ => by have := hf b_ o_ e_; have := hb'.size; omega⟩ hx (fun h => by cases h)
      · simp only [wpOp, List.getElem?_toArray, List.getElem?_cons_succ, List.getElem?_cons_zero, Region.wanted, if_true]
        refine Or.inl ?_
        have e0 : av.tmps.getD 3 undef = .pointer (some ⟨w.heap.size, 0, none⟩) := hF.2.2 3 (by decide)
        have e0e : av.eval (.tmp 3) = .pointer (some ⟨w.heap.size, 0, none⟩) := e0
        have e0g : av.tmps[3]?.getD undef = .pointer (some ⟨w.heap.size, 0, none⟩) := by have := e0; simp only [Array.getD_eq_getD_getElem?] at this; exact this
        clear hw hF
        simp only [Oper.wp, execOp]
        try simp only [e0e]
        go_simp
        exact hK _ x (by first | rfl | (simp only [Nat.add_zero]; done) | (congr 1; omega)) (Below.refl _ _) (fun h => by cases h)
      · simp only [wpOp, List.getElem?_toArray, List.getElem?_cons_succ, List.getElem?_cons_zero, Region.wanted, if_true]
        refine Or.inl ?_
        have e0 : av.tmps.getD 35 undef = .pointer (some ⟨w.heap.size, 2, none⟩) := (hw 8 (by kernel_rfl))
        have e0e : av.eval (.tmp 35) = .pointer (some ⟨w.heap.size, 2, none⟩) := e0
        have e0g : av.tmps[35]?.getD undef = .pointer (some ⟨w.heap.size, 2, none⟩) := by have := e0; simp only [Array.getD_eq_getD_getElem?] at this; exact this
        obtain ⟨f0, f2⟩ := FA.out x hb'
        clear hw hF
        simp only [Oper.wp, execOp]
        try simp only [e0e]
        go_simp
        exact hK _ x (by first | rfl | (simp only [Nat.add_zero]; done) | (congr 1; omega)) (Below.refl _ _) (fun h => by cases h)
      · simp only [wpOp, List.getElem?_toArray, List.getElem?_cons_succ, List.getElem?_cons_zero, Region.wanted, if_true]
        refine Or.inl ?_
        have e0 : av.tmps.getD 3 undef = .pointer (some ⟨w.heap.size, 0, none⟩) := hF.2.2 3 (by decide)
        have e0e : av.eval (.tmp 3) = .pointer (some ⟨w.heap.size, 0, none⟩) := e0
        have e0g : av.tmps[3]?.getD undef = .pointer (some ⟨w.heap.size, 0, none⟩) := by have := e0; simp only [Array.getD_eq_getD_getElem?] at this; exact this
        clear hw hF
        simp only [Oper.wp, execOp]
        try simp only [e0e]
        go_simp
        exact hK _ x (by first | rfl | (simp only [Nat.add_zero]; done) | (congr 1; omega)) (Below.refl _ _) (fun h => by cases h)
      · simp only [wpOp, List.getElem?_toArray, List.getElem?_cons_succ, List.getElem?_cons_zero, Region.wanted, if_true]
        refine Or.inl ?_
        have e0 : av.tmps.getD 37 undef = .pointer (some ⟨w.heap.size, 2, none⟩) := (hw 10 (by kernel_rfl))
        have e0e : av.eval (.tmp 37) = .pointer (some ⟨w.heap.size, 2, none⟩) := e0
        have e0g : av.tmps[37]?.getD undef = .pointer (some ⟨w.heap.size, 2, none⟩) := by have := e0; simp only [Array.getD_eq_getD_getElem?] at this; exact this
        obtain ⟨f0, f2⟩ := FA.out x hb'
        clear hw hF
        simp only [Oper.wp, execOp]
        try simp only [e0e]
        go_simp
        exact hK _ x (by first | rfl | (simp only [Nat.add_zero]; done) | (congr 1; omega)) (Below.refl _ _) (fun h => by cases h)
      · simp only [wpOp, List.getElem?_toArray, List.getElem?_cons_succ, List.getElem?_cons_zero, Region.wanted, if_true]
        refine Or.inl ?_
        have e0 : av.tmps.getD 38 undef = .slice B da.length d := (hw 11 (by kernel_rfl))
        have e0e : av.eval (.tmp 38) = .slice B da.length d := e0
        have e0g : av.tmps[38]?.getD undef = .slice B da.length d := by have := e0; simp only [Array.getD_eq_getD_getElem?] at this; exact this
        clear hw hF
        simp only [Oper.wp, execOp]
        try simp only [e0e]
        go_simp
        exact hK _ x (by first | rfl | (simp only [Nat.add_zero]; done) | (congr 1; omega)) (Below.refl _ _) (fun h => by cases h)
      · simp only [wpOp, List.getElem?_toArray, List.getElem?_cons_succ, List.getElem?_cons_zero, Region.wanted, if_true]
        refine Or.inl ?_
        have e0 : av.tmps.getD 5 undef = .pointer (some ⟨w.heap.size + 1, 0, none⟩) := hF.2.2 5 (by decide)
        have e0e : av.eval (.tmp 5) = .pointer (some ⟨w.heap.size + 1, 0, none⟩) := e0
        have e0g : av.tmps[5]?.getD undef = .pointer (some ⟨w.heap.size + 1, 0, none⟩) := by have := e0; simp only [Array.getD_eq_getD_getElem?] at this; exact this
        clear hw hF
        simp only [Oper.wp, execOp]
        try simp only [e0e]
        go_simp
        exact hK _ x (by first | rfl | (simp only [Nat.add_zero]; done) | (congr 1; omega)) (Below.refl _ _) (fun h => by cases h)
      · simp only [wpOp, List.getElem?_toArray, List.getElem?_cons_succ, List.getElem?_cons_zero, Region.wanted, if_true]
        refine Or.inl ?_
        have e0 : av.tmps.getD 40 undef = .pointer (some ⟨w.heap.size + 1, 2, none⟩) := (hw 13 (by kernel_rfl))
        have e0e : av.eval (.tmp 40) = .pointer (some ⟨w.heap.size + 1, 2, none⟩) := e0
        have e0g : av.tmps[40]?.getD undef = .pointer (some ⟨w.heap.size + 1, 2, none⟩) := by have := e0; simp only [Array.getD_eq_getD_getElem?] at this; exact this
        obtain ⟨f1, f2⟩ := FB.out x hb'
        clear hw hF
        simp only [Oper.wp, execOp]
        try simp only [e0e]
        go_simp
        exact hK _ x (by first | rfl | (simp only [Nat.add_zero]; done) | (congr 1; omega)) (Below.refl _ _) (fun h => by cases h)
      · simp only [wpOp, List.getElem?_toArray, List.getElem?_cons_succ, List.getElem?_cons_zero, Region.wanted, if_true]
        refine Or.inl ?_
        have e0 : av.tmps.getD 36 undef = .slice B da.length d := (hw 9 (by kernel_rfl))
        have e0e : av.eval (.tmp 36) = .slice B da.length d := e0
        have e0g : av.tmps[36]?.getD undef = .slice B da.length d := by have := e0; simp only [Array.getD_eq_getD_getElem?] at this; exact this
        have e1 : av.tmps.getD 39 undef = .int .i64 (da.length : Int) := (hw 12 (by kernel_rfl))
        have e1e : av.eval (.tmp 39) = .int .i64 (da.length : Int) := e1
        have e1g : av.tmps[39]?.getD undef = .int .i64 (da.length : Int) := by have := e1; simp only [Array.getD_eq_getD_getElem?] at this; exact this
        have e2 : av.tmps.getD 41 undef = .slice B2 db.length d2 := (hw 14 (by kernel_rfl))
        have e2e : av.eval (.tmp 41) = .slice B2 db.length d2 := e2
        have e2g : av.tmps[41]?.getD undef = .slice B2 db.length d2 := by have := e2; simp only [Array.getD_eq_getD_getElem?] at this; exact this
        clear hw hF
        simp only [Oper.wp, execOp]
        try simp only [e0e, e1e, e2e]
        go_simp
        refine (LK2.out x hb').mono ?_
        rintro e x' ⟨A0, q0, rfl, hr, hx, hf⟩
        exact hK _ x' ⟨A0, q0, rfl, hr, fun b_ o_ e_ => by have := hf b_ o_ e_; have := hb'.size; omega⟩ hx (fun h => by cases h)
      · simp only [wpOp, List.getElem?_toArray, List.getElem?_cons_succ, List.getElem?_cons_zero, Region.wanted, if_true]
        refine Or.inl ?_
        have e0 : av.tmps.getD 28 undef = .bool true := (hw 1 (by kernel_rfl))
        have e0e : av.eval (.tmp 28) = .bool true := e0
        have e0g : av.tmps[28]?.getD undef = .bool true := by have := e0; simp only [Array.getD_eq_getD_getElem?] at this; exact this
        obtain ⟨A01, q01, e1, hr1, hf1⟩ := (hw 7 (by kernel_rfl))
        have e1e : av.eval (.tmp 34) = .slice A01 N1 q01 := e1
        have e1g : av.tmps[34]?.getD undef = .slice A01 N1 q01 := by have := e1; simp only [Array.getD_eq_getD_getElem?] at this; exact this
        obtain ⟨A02, q02, e2, hr2, hf2⟩ := (hw 15 (by kernel_rfl))
        have e2e : av.eval (.tmp 42) = .slice A02 N2 q02 := e2
        have e2g : av.tmps[42]?.getD undef = .slice A02 N2 q02 := by have := e2; simp only [Array.getD_eq_getD_getElem?] at this; exact this
        clear hw hF
        simp only [Oper.wp, execOp]
        try simp only [e0e, e1e, e2e]
        go_simp
        exact hK _ x ⟨A01, q01, A02, q02, rfl, hr1, hr2, hf1, hf2⟩ (Below.refl _ _) (fun h => by cases h)
      · simp only [wpOp, List.getElem?_toArray, List.getElem?_cons_succ, List.getElem?_cons_zero, Region.wanted, if_true]
        refine Or.inl ?_
        clear hw hF
        simp only [Oper.wp, execOp]
        go_simp
        exact hK _ _ ⟨_, rfl, heap_alloc_new _ _, hb'.size⟩ ((Below.refl _ _).alloc (Nat.le_refl _) _) (fun h => by cases h)
    · intro av x hF hb' hR _
      have e0 : av.tmps.getD 27 undef = .pointer (some ⟨w.heap.size, 0, none⟩) := hR 0 (by decide)
      have e1 : av.tmps.getD 28 undef = .bool true := hR 1 (by decide)
      have e2 : av.tmps.getD 29 undef = .slice A ka.length c := hR 2 (by decide)
      have e3 : av.tmps.getD 30 undef = .slice A ka.length c := hR 3 (by decide)
      have e4 : av.tmps.getD 31 undef = .int .i64 (ka.length : Int) := hR 4 (by decide)
      have e5 : av.tmps.getD 32 undef = .pointer (some ⟨w.heap.size + 1, 1, none⟩) := hR 5 (by decide)
      have e6 : av.tmps.getD 33 undef = .slice A2 kb.length c2 := hR 6 (by decide)
      obtain ⟨A07, q07, e7, hr7, hf7⟩ := hR 7 (by decide)
      replace e7 : av.tmps.getD 34 undef = .slice A07 N1 q07 := e7
      have e8 : av.tmps.getD 35 undef = .pointer (some ⟨w.heap.size, 2, none⟩) := hR 8 (by decide)
      have e9 : av.tmps.getD 36 undef = .slice B da.length d := hR 9 (by decide)
      have e10 : av.tmps.getD 37 undef = .pointer (some ⟨w.heap.size, 2, none⟩) := hR 10 (by decide)
      have e11 : av.tmps.getD 38 undef = .slice B da.length d := hR 11 (by decide)
      have e12 : av.tmps.getD 39 undef = .int .i64 (da.length : Int) := hR 12 (by decide)
      have e13 : av.tmps.getD 40 undef = .pointer (some ⟨w.heap.size + 1, 2, none⟩) := hR 13 (by decide)
      have e14 : av.tmps.getD 41 undef = .slice B2 db.length d2 := hR 14 (by decide)
      obtain ⟨A015, q015, e15, hr15, hf15⟩ := hR 15 (by decide)
      replace e15 : av.tmps.getD 42 undef = .slice A015 N2 q015 := e15
      obtain ⟨Ax16, qx16, Bx16, px16, e16, h1x16, h2x16, h3x16, h4x16⟩ := hR 16 (by decide)
      replace e16 : av.tmps.getD 43 undef = .agg #[.bool true, .slice Ax16 N1 qx16, .slice Bx16 N2 px16] := e16
      obtain ⟨gg17, e17, hg17, hn17⟩ := hR 17 (by decide)
      replace e17 : av.tmps.getD 9 undef = .pointer (some ⟨gg17, 0, none⟩) := e17
      rw [hF.fold (by kernel_rfl)]
      simp only [List.foldl_cons, List.foldl_nil, e0, e1, e2, e3, e4, e5, e6, e7, e8, e9, e10, e11, e12, e13, e14, e15, e16, e17]
      simp only [Act.put, List.setIfInBounds_toArray, List.set_cons_zero, List.set_cons_succ]
      change wpOps _ _ _ [18] _ _
      simp only [wpOps_cons]
      clear e0 e1 e2 e3 e4 e5 e6 e7 e8 e9 e10 e11 e12 e13 e14 e15 e16 e17 hR hF
      have HG := Lib.hid hg17
      have NG := Lib.hid (And.intro hn17 (heap_lt hg17))
      have RCx := Lib.hid (row_on RCy.out hb')
      have KB := Lib.hid (KY.out.trans (hb'.mono KY.out.size))
      have X1 := Lib.hid (And.intro h1x16 h2x16)
      clear hb' h1x16 h2x16 h3x16 h4x16 hr7 hf7 hr15 hf15 hg17 hn17
      have p0 := row_c HG.out (i := 0) rfl
      have p1 := row_c HG.out (i := 1) rfl
      have p2 := row_c HG.out (i := 2) rfl
      have y0 := frozen_of_row _ _ 0 _ _ HG.out
      have y1 := frozen_of_row _ _ 1 _ _ HG.out
      have y2 := frozen_of_row _ _ 2 _ _ HG.out
      try rw [wpOps_cons]
      simp only [wpOp, List.getElem?_toArray, List.getElem?_cons_succ, List.getElem?_cons_zero, Region.wanted, if_true]
      refine Or.inl ?_
      simp only [Oper.wp, execOp]
      go_simp
      try simp only [wpOps]
      obtain ⟨U, hU⟩ : ∃ U : World, U = ((x.setCell ⟨gg17, 0, none⟩ (.bool true)).setCell ⟨gg17, 1, none⟩ (.slice Ax16 N1 qx16)).setCell ⟨gg17, 2, none⟩ (.slice Bx16 N2 px16) := ⟨_, rfl⟩
      have RG := Lib.hid (show U.heap[gg17]? = some (.cells #[.bool true, .slice Ax16 N1 qx16, .slice Bx16 N2 px16] 25 (0, 0)) by rw [hU]; have := row_set (i := 2) (row_set (i := 1) (row_set (i := 0) HG.out (.bool true)) (.slice Ax16 N1 qx16)) (.slice Bx16 N2 px16); simpa using this)
      have RCu := Lib.hid (show U.heap[w.heap.size + 1 + 1]? = some _ by rw [hU]; have h1 := SY.out; have h2 := NG.out.1; exact row_far (row_far (row_far RCx.out (by omega) _) (by omega) _) (by omega) _)
      have VU := Lib.hid (show Rl sv U Ax16 qx16 (ka ++ kb) ∧ Rl nv U Bx16 px16 (da ++ db) by rw [hU]; exact ⟨rl_off3 X1.out.1 HG.out (fun z i h => off_s h) _ _ _, rl_off3 X1.out.2 HG.out (fun z i h => off_n h) _ _ _⟩)
      have KU := Lib.hid (show Below w.heap.size w U by rw [hU]; have h1 := SY.out; have h2 := NG.out.1; exact ((KB.out.setCell (by simp; omega) _).setCell (by simp; omega) _).setCell (by simp; omega) _)
      rw [← hU]
      clear hU p0 p1 p2 y0 y1 y2 X1 KB RCx HG LK1 LK2 FA FB
      obtain ⟨A9, hA9⟩ : ∃ z, z = Ax16 := ⟨_, rfl⟩
      obtain ⟨q9, hq9⟩ : ∃ z, z = qx16 := ⟨_, rfl⟩
      obtain ⟨B9, hB9⟩ : ∃ z, z = Bx16 := ⟨_, rfl⟩
      obtain ⟨p9, hp9⟩ : ∃ z, z = px16 := ⟨_, rfl⟩
      rw [← hA9, ← hq9, ← hB9, ← hp9] at RG VU ⊢
      clear hA9 hq9 hB9 hp9
      obtain ⟨SN, hSN⟩ : ∃ n, sizeN (ka ++ kb) (da ++ db) = n := ⟨_, rfl⟩
      rw [hSN] at SZ
      have HSN := Lib.hid hSN
      clear hSN
      have f0 := row_c RG.out (i := 0) rfl
      have f1 := row_c RG.out (i := 1) rfl
      have f2 := row_c RG.out (i := 2) rfl
      go_wp2_with fail
      refine (SZ.out _ _ _ _ _ VU.out.1).mono ?_
      rintro e U2 ⟨rfl, hx⟩
      have RG2 := Lib.hid (row_on RG.out hx)
      have RC2 := Lib.hid (row_on RCu.out hx)
      have K2 := Lib.hid (KU.out.trans (hx.mono KU.out.size))
      have V2 := Lib.hid (And.intro (VU.out.1.below hx) (VU.out.2.below hx))
      clear hx f0 f1 f2 RG RCu KU VU SZ
      have p0 := row_c RC2.out (i := 0) rfl
      have p1 := row_c RC2.out (i := 1) rfl
      have p2 := row_c RC2.out (i := 2) rfl
      have y0 := frozen_of_row _ _ 0 _ _ RC2.out
      have y1 := frozen_of_row _ _ 1 _ _ RC2.out
      have y2 := frozen_of_row _ _ 2 _ _ RC2.out
      by_cases hbig : SN ≤ 120
      · have e3 : decide (120 < SN) = false := decide_eq_false (by omega)
        have e4 : decide ((120 : Int) < (SN : Int)) = false := decide_eq_false (by omega)
        have HBG := Lib.hid hbig
        have f0 := row_c RG2.out (i := 0) rfl
        have f1 := row_c RG2.out (i := 1) rfl
        have f2 := row_c RG2.out (i := 2) rfl
        clear hbig
        go_wp2
        refine bodyPost_ret (v := .tuple #[.agg #[.bool true, .slice A9 N1 q9, .slice B9 N2 p9], .bool true]) (by simp [results, Try.results30, go_sem, p0, p1, p2]) rfl ⟨fun _ => ⟨A9, q9, B9, p9, by rw [JY.out, HN.out.1, HN.out.2], ?_, ?_⟩, fun h => absurd (by rw [JY.out, HSN.out]; exact HBG.out) h, ?_⟩
        · rw [JY.out]; exact rl_off3 V2.out.1 RC2.out (fun z i h => off_s h) _ _ _
        · exact rl_off3 V2.out.2 RC2.out (fun z i h => off_n h) _ _ _
        · exact ((K2.out.setCell (by first | (simp; done) | (simp; omega)) _).setCell (by first | (simp; done) | (simp; omega)) _).setCell (by first | (simp; done) | (simp; omega)) _
      · have e3 : decide (120 < SN) = true := decide_eq_true (by omega)
        have e4 : decide ((120 : Int) < (SN : Int)) = true := decide_eq_true (by omega)
        have HBG := Lib.hid hbig
        clear hbig
        go_wp2
        refine bodyPost_ret (v := .tuple #[.agg #[.bool false, .slice none 0 0, .slice none 0 0], .bool false]) (by simp [results, Try.results30, go_sem, p0, p1, p2]) rfl ⟨fun h => absurd (by rw [JY.out, HSN.out] at h; exact h) HBG.out, fun _ => rfl, ?_⟩
        exact ((K2.out.setCell (by first | (simp; done) | (simp; omega)) _).setCell (by first | (simp; done) | (simp; omega)) _).setCell (by first | (simp; done) | (simp; omega)) _
end Go.Proofs.Ytkbdcbcjbgbglaa
