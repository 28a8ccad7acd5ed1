/-
  astrolabelaw21.NodeBytes: a node's bytes, and the node of some bytes, as the chapter says them.
-/
import Derived.Test.YtkbdcbcjbgbglaaYc
import Derived.Test.YtkbdcbcjbgbglaaNj
import Derived.Test.YtkbdcbcjbgbglaaNk
namespace Go.Proofs.Ytkbdcbcjbgbglaa
open Go.RowKit
set_option linter.unusedVariables false
set_option linter.unusedSimpArgs false
theorem ite_yes {c : Prop} [Decidable c] {a b : Prop} (hc : c) (ha : a) : if c then a else b := by rw [if_pos hc]; exact ha
theorem ite_not {c : Prop} [Decidable c] {a b : Prop} (hc : ¬ c) (hb : b) : if c then a else b := by rw [if_neg hc]; exact hb
theorem yielded_of {ops : Array Oper} {tmps : Array Value} {j : Nat} {t : Tmp} {b : Bool} (h1 : (ops[j]?).bind (·.dst) = some t) (h2 : tmps.getD t undef = .bool b) : yielded ops tmps j = some b := by
  unfold yielded
  rw [h1]
  simp only [Option.bind_some]
  rcases h : tmps[t]? with _ | v
  · rw [Array.getD_eq_getD_getElem?, h] at h2; cases h2
  · rw [Array.getD_eq_getD_getElem?, h] at h2
    simp only [Option.getD_some] at h2
    rw [h2]
theorem yielded_none {ops : Array Oper} {tmps : Array Value} {j : Nat} {t : Tmp} (h1 : (ops[j]?).bind (·.dst) = some t) (h2 : tmps.getD t undef = undef) : yielded ops tmps j = none := by
  unfold yielded
  rw [h1]
  simp only [Option.bind_some]
  rcases h : tmps[t]? with _ | v
  · rfl
  · rw [Array.getD_eq_getD_getElem?, h] at h2
    simp only [Option.getD_some] at h2
    rw [h2]; rfl
theorem wanted_none {o : Oper} {f : Nat → Option Bool} {j : Nat} {b : Bool} (hg : o.guard = some (j, b)) (hf : f j = none) : ¬ Region.wanted o f = true := by
  simp [Region.wanted, hg, hf]
theorem wanted_yes {o : Oper} {f : Nat → Option Bool} {j : Nat} {b : Bool} (hg : o.guard = some (j, b)) (hf : f j = some b) : Region.wanted o f = true := by
  simp [Region.wanted, hg, hf]
theorem wanted_not {o : Oper} {f : Nat → Option Bool} {j : Nat} {b : Bool} (hg : o.guard = some (j, b)) (hf : f j = some (!b)) : ¬ Region.wanted o f = true := by
  cases b <;> simp [Region.wanted, hg, hf]
theorem rl_off {α : Type} {g : α → Value} {w : World} {A : Option Addr} {c : Nat} {xs : List α} (h : Rl g w A c xs) {k : Nat} {a b d : Value} {T : TypeId} (hk : w.heap[k]? = some (.cells #[a, b, d] T (0, 0))) (hne : ∀ (x : α) (i : Nat), (#[a, b, d] : Array Value)[i]? ≠ some (g x)) (i : Nat) (v : Value) : Rl g (w.setCell ⟨k, i, none⟩ v) A c xs ∧ (0 < xs.length → ∀ bb off, A = some ⟨bb, off, none⟩ → bb ≠ k) := by
  have key : 0 < xs.length → ∀ bb off, A = some ⟨bb, off, none⟩ → bb ≠ k := fun h0 bb off e e2 => by
    obtain ⟨b0, off0, e0, _, hc⟩ := h.2 h0
    rw [e] at e0
    injection e0 with e0
    injection e0 with e1 e3
    subst e1 e3 e2
    have h1 := hc 0 xs[0] (List.getElem?_eq_getElem h0)
    rw [cell_of_row _ _ _ _ _ _ hk] at h1
    exact hne _ _ h1
  refine ⟨⟨h.1, fun h0 => ?_⟩, key⟩
  obtain ⟨b0, off0, e0, hlt, hc⟩ := h.2 h0
  have hbk := key h0 b0 off0 e0
  exact ⟨b0, off0, e0, by simpa using hlt, fun j y hj => (World.cell?_setCell_other _ _ _ _ (fun e => by have := congrArg Addr.block e; simp at this; omega)).trans (hc j y hj)⟩
theorem rl_setne {α : Type} {g : α → Value} {w : World} {A : Option Addr} {c : Nat} {xs : List α} (h : Rl g w A c xs) {k : Nat} (key : 0 < xs.length → ∀ bb off, A = some ⟨bb, off, none⟩ → bb ≠ k) (i : Nat) (v : Value) : Rl g (w.setCell ⟨k, i, none⟩ v) A c xs := by
  refine ⟨h.1, fun h0 => ?_⟩
  obtain ⟨b0, off0, e0, hlt, hc⟩ := h.2 h0
  have hbk := key h0 b0 off0 e0
  exact ⟨b0, off0, e0, by simpa using hlt, fun j y hj => (World.cell?_setCell_other _ _ _ _ (fun e => by have := congrArg Addr.block e; simp at this; omega)).trans (hc j y hj)⟩
theorem rl_off3 {α : Type} {g : α → Value} {w : World} {A : Option Addr} {c : Nat} {xs : List α} (h : Rl g w A c xs) {k : Nat} {a b d : Value} {T : TypeId} (hk : w.heap[k]? = some (.cells #[a, b, d] T (0, 0))) (hne : ∀ (x : α) (i : Nat), (#[a, b, d] : Array Value)[i]? ≠ some (g x)) (u v x : Value) : Rl g (((w.setCell ⟨k, 0, none⟩ u).setCell ⟨k, 1, none⟩ v).setCell ⟨k, 2, none⟩ x) A c xs := by
  obtain ⟨h1, key⟩ := rl_off h hk hne 0 u
  exact rl_setne (rl_setne h1 key 1 v) key 2 x
theorem off_s {b0 : Bool} {A B : Option Addr} {n m c d : Nat} {z : List UInt8} {i : Nat} (h : (#[.bool b0, .slice A n c, .slice B m d] : Array Value)[i]? = some (sv z)) : False := by
  match i with
  | 0 => simp [sv] at h
  | 1 => simp [sv] at h
  | 2 => simp [sv] at h
  | i + 3 => simp at h
theorem off_n {b0 : Bool} {A B : Option Addr} {n m c d : Nat} {z : Int} {i : Nat} (h : (#[.bool b0, .slice A n c, .slice B m d] : Array Value)[i]? = some (nv z)) : False := by
  match i with
  | 0 => simp [nv] at h
  | 1 => simp [nv] at h
  | 2 => simp [nv] at h
  | i + 3 => simp at h
theorem enc_both (lf : Bool) (zs : List (List UInt8)) (ys : List Int) (hl : zs.length ≤ 12) (hl2 : ys.length ≤ 13) (hz : sizeN zs ys < 4611686018427387904) : ∃ (t : ByteArray) (eb : Bool) (ee : Int), (eb = true ∧ ee = 0 ∨ eb = false ∧ ee = 1) ∧ (∀ A c B d V, Rl sv V A c zs → Rl nv V B d ys → Calls Try.prog 12 #[.agg #[.bool lf, .slice A zs.length c, .slice B ys.length d]] V fun e w' => e = .returned (.tuple #[.string t, .int .i64 ee]) ∧ Below V.heap.size V w') ∧ (∀ A c B d V, Rl sv V A c zs → Rl nv V B d ys → Calls Try.prog 13 #[.agg #[.bool lf, .slice A zs.length c, .slice B ys.length d]] V fun e w' => e = .returned (.tuple #[.string t, .bool eb]) ∧ Below V.heap.size V w') := by
  cases hr : rightB lf zs ys
  · exact ⟨⟨#[]⟩, false, 1, .inr ⟨rfl, rfl⟩, fun A c B d V h1 h2 => encode_no lf A c zs B d ys V h1 h2 (by omega) (by omega) hz hr, fun A c B d V h1 h2 => rencode_no lf A c zs B d ys V h1 h2 (by omega) (by omega) hz hr⟩
  · exact ⟨⟨(encL lf zs ys).toArray⟩, true, 0, .inl ⟨rfl, rfl⟩, fun A c B d V h1 h2 => encode_yes lf A c zs B d ys V h1 h2 hr, fun A c B d V h1 h2 => rencode_yes lf A c zs B d ys V h1 h2 hr⟩
theorem dec_both (S : List UInt8) (hS : S.length ≤ 1048576) : ∃ (l2 : Bool) (K2 : List (List UInt8)) (D2 : List Int) (db : Bool) (de : Int), (db = true ∧ de = 0 ∨ db = false ∧ de = 2) ∧ (K2.length ≤ 4000000 ∧ D2.length ≤ 4000001) ∧ (∀ V, Calls Try.prog 15 #[.string ⟨S.toArray⟩] V fun e w' => ∃ A' c' B' d', e = .returned (.tuple #[.agg #[.bool l2, .slice A' K2.length c', .slice B' D2.length d'], .int .i64 de]) ∧ Rl sv w' A' c' K2 ∧ Rl nv w' B' d' D2 ∧ Below V.heap.size V w') ∧ (∀ V, Calls Try.prog 16 #[.string ⟨S.toArray⟩] V fun e w' => ∃ A' c' B' d', e = .returned (.tuple #[.agg #[.bool l2, .slice A' K2.length c', .slice B' D2.length d'], .bool db]) ∧ Rl sv w' A' c' K2 ∧ Rl nv w' B' d' D2 ∧ Below V.heap.size V w') := by
  cases hd : decA S with
  | none => exact ⟨false, [], [], false, 2, .inr ⟨rfl, rfl⟩, ⟨by simp, by simp⟩, fun V => (decode_any S V hS).mono fun e w' ⟨_, h, b⟩ => ⟨none, 0, none, 0, h hd, Rl.nil_ _ _ _ _, Rl.nil_ _ _ _ _, b⟩, fun V => (rdecode_any S V hS).mono fun e w' ⟨_, h, b⟩ => ⟨none, 0, none, 0, h hd, Rl.nil_ _ _ _ _, Rl.nil_ _ _ _ _, b⟩⟩
  | some n =>
    obtain ⟨l2, K2, D2⟩ := n
    have hr := right_facts (decA_some hd).1
    have h1 := hr.1
    have h2 := hr.2.2.2.2.2.1
    refine ⟨l2, K2, D2, true, 0, .inl ⟨rfl, rfl⟩, ⟨by omega, by rw [h1]; split <;> omega⟩, fun V => (decode_any S V hS).mono fun e w' ⟨h, _, b⟩ => ?_, fun V => (rdecode_any S V hS).mono fun e w' ⟨h, _, b⟩ => ?_⟩
    · obtain ⟨A, c, B, d, h3, h4, h5⟩ := h _ _ _ hd
      exact ⟨A, c, B, d, h3, h4, h5, b⟩
    · obtain ⟨A, c, B, d, h3, h4, h5⟩ := h _ _ _ hd
      exact ⟨A, c, B, d, h3, h4, h5, b⟩
set_option maxHeartbeats 16000000 in
set_option maxRecDepth 100000 in
theorem bytes_yy (lf : Bool) (A : Option Addr) (c : Nat) (ks : List (List UInt8)) (B : Option Addr) (d : Nat) (ds : List Int) (S : List UInt8) (w : World) (h : Rl sv w A c ks) (h2 : Rl nv w B d ds) (zs : List (List UInt8)) (hz : ks.take 12 = zs) (ys : List Int) (hy : ds.take 13 = ys) (hsz : sizeN zs ys < 4611686018427387904)
    (t : ByteArray) (l2 : Bool) (K2 : List (List UInt8)) (D2 : List Int) (l2_ : K2.length ≤ 4000000 ∧ D2.length ≤ 4000001)
    (hE1 : ∀ A c B d V, Rl sv V A c zs → Rl nv V B d ys → Calls Try.prog 12 #[.agg #[.bool lf, .slice A zs.length c, .slice B ys.length d]] V fun e w' => e = .returned (.tuple #[.string t, .int .i64 0]) ∧ Below V.heap.size V w')
    (hE2 : ∀ A c B d V, Rl sv V A c zs → Rl nv V B d ys → Calls Try.prog 13 #[.agg #[.bool lf, .slice A zs.length c, .slice B ys.length d]] V fun e w' => e = .returned (.tuple #[.string t, .bool true]) ∧ Below V.heap.size V w')
    (hD1 : ∀ V, Calls Try.prog 15 #[.string ⟨S.toArray⟩] V fun e w' => ∃ A' c' B' d', e = .returned (.tuple #[.agg #[.bool l2, .slice A' K2.length c', .slice B' D2.length d'], .int .i64 0]) ∧ Rl sv w' A' c' K2 ∧ Rl nv w' B' d' D2 ∧ Below V.heap.size V w')
    (hD2 : ∀ V, Calls Try.prog 16 #[.string ⟨S.toArray⟩] V fun e w' => ∃ A' c' B' d', e = .returned (.tuple #[.agg #[.bool l2, .slice A' K2.length c', .slice B' D2.length d'], .bool true]) ∧ Rl sv w' A' c' K2 ∧ Rl nv w' B' d' D2 ∧ Below V.heap.size V w') :
    Calls Try.prog 3 #[.agg #[.bool lf, .slice A ks.length c, .slice B ds.length d], .string ⟨S.toArray⟩] w fun e w' => e = .returned (.bool true) ∧ Below w.heap.size w w' := by
  obtain ⟨W, hW⟩ : ∃ W : World, W = w.alloc (.cells #[.bool lf, .slice A ks.length c, .slice B ds.length d] 25) := ⟨_, rfl⟩
  have RN := Lib.hid (show W.heap[w.heap.size]? = some (.cells #[.bool lf, .slice A ks.length c, .slice B ds.length d] 25 (0, 0)) by rw [hW]; exact heap_alloc_new _ _)
  have KN := Lib.hid (show Below w.heap.size w W by rw [hW]; exact bda _ _)
  have HW := Lib.hid hW
  have H1 := Lib.hid (And.intro h h2)
  have EN1 := Lib.hid hE1
  have EN2 := Lib.hid hE2
  have DE1 := Lib.hid hD1
  have DE2 := Lib.hid hD2
  have L2 := Lib.hid l2_
  obtain ⟨rb, hrb⟩ : ∃ b, rightB lf zs ys = b := ⟨_, rfl⟩
  obtain ⟨SN, hSN⟩ : ∃ b, sizeN zs ys = b := ⟨_, rfl⟩
  have lz : zs.length ≤ 12 := by rw [← hz, List.length_take]; omega
  have ly : ys.length ≤ 13 := by rw [← hy, List.length_take]; omega
  have RGx := fun (A : Option Addr) (c : Nat) (B : Option Addr) (d : Nat) V (h1 : Rl sv V A c zs) (h3 : Rl nv V B d ys) => right_any lf A c zs B d ys V h1 h3 (by omega) (by omega) hsz
  have RGy := fun (A : Option Addr) (c : Nat) (B : Option Addr) (d : Nat) V (h1 : Rl sv V A c zs) (h3 : Rl nv V B d ys) => rright_any lf A c zs B d ys V h1 h3 (by omega) (by omega) hsz
  rw [hrb] at RGx RGy
  have SZx := fun (A : Option Addr) (c : Nat) (B : Option Addr) (d : Nat) V (h1 : Rl sv V A c zs) => size_any lf A c zs B d ys V h1 (by omega) hsz
  have SZy := fun (A : Option Addr) (c : Nat) (B : Option Addr) (d : Nat) V (h1 : Rl sv V A c zs) => rsize_any lf A c zs B d ys V h1 (by omega) hsz
  rw [hSN] at SZx SZy
  have G1 := Lib.hid RGx
  have G2 := Lib.hid RGy
  have S1 := Lib.hid SZx
  have S2 := Lib.hid SZy
  have HZ := Lib.hid (And.intro hz hy)
  clear hW h h2 hE1 hE2 hD1 hD2 l2_ hrb hSN lz ly RGx RGy SZx SZy hsz hz hy
  go_enter Try.func3, Try.ntmps3
  go_wp2_with fail
  rw [← HW.out]
  clear HW
  refine (examples_any _).mono ?_
  rintro e w1 ⟨rfl, hb⟩
  have RNx := Lib.hid (row_on RN.out hb)
  have KNx := Lib.hid (KN.out.trans (hb.mono KN.out.size))
  clear RN KN
  have RN := RNx
  have KN := KNx
  clear RNx KNx
  clear hb
  have f0 := row_c RN.out (i := 0) rfl
  have f1 := row_c RN.out (i := 1) rfl
  have f2 := row_c RN.out (i := 2) rfl
  go_wp2_with fail
  refine (few_any lf A c ks B d ds _ (H1.out.1.below KN.out) (H1.out.2.below KN.out)).mono ?_
  rw [HZ.out.1, HZ.out.2]
  rintro e w2 ⟨An, cn, Bn, dn, rfl, g1, g2, hb⟩
  have RNx := Lib.hid (row_on RN.out hb)
  have KNx := Lib.hid (KN.out.trans (hb.mono KN.out.size))
  clear RN KN
  have RN := RNx
  have KN := KNx
  clear RNx KNx
  have VF := Lib.hid (And.intro g1 g2)
  clear hb g1 g2 f0 f1 f2 H1
  have p0 := row_c RN.out (i := 0) rfl
  have p1 := row_c RN.out (i := 1) rfl
  have p2 := row_c RN.out (i := 2) rfl
  have y0 := frozen_of_row _ _ 0 _ _ RN.out
  have y1 := frozen_of_row _ _ 1 _ _ RN.out
  have y2 := frozen_of_row _ _ 2 _ _ RN.out
  obtain ⟨V1, hV⟩ : ∃ V : World, V = ((w2.setCell ⟨w.heap.size, 0, none⟩ (.bool lf)).setCell ⟨w.heap.size, 1, none⟩ (.slice An zs.length cn)).setCell ⟨w.heap.size, 2, none⟩ (.slice Bn ys.length dn) := ⟨_, rfl⟩
  have RNx := Lib.hid (show V1.heap[w.heap.size]? = some (.cells #[.bool lf, .slice An zs.length cn, .slice Bn ys.length dn] 25 (0, 0)) by rw [hV]; have := row_set (i := 2) (row_set (i := 1) (row_set (i := 0) RN.out (.bool lf)) (.slice An zs.length cn)) (.slice Bn ys.length dn); simpa using this)
  have VRN := Lib.hid (show Rl sv V1 An cn zs ∧ Rl nv V1 Bn dn ys by rw [hV]; exact ⟨rl_off3 VF.out.1 RN.out (fun z i h => off_s h) _ _ _, rl_off3 VF.out.2 RN.out (fun z i h => off_n h) _ _ _⟩)
  have KNx := Lib.hid (show Below w.heap.size w V1 by rw [hV]; exact ((KN.out.setCell (by simp) _).setCell (by simp) _).setCell (by simp) _)
  have HV := Lib.hid hV
  clear hV VF KN RN
  have RN := RNx
  have KN := KNx
  clear RNx KNx
  go_upto_region 5 with (fail)
  rw [← HV.out]
  clear HV p0 p1 p2 y0 y1 y2
  have f0 := row_c RN.out (i := 0) rfl
  have f1 := row_c RN.out (i := 1) rfl
  have f2 := row_c RN.out (i := 2) rfl
  go_wp2_with fail
  refine (EN1.out An cn Bn dn _ VRN.out.1 VRN.out.2).mono ?_
  rintro e w4 ⟨rfl, hb⟩
  have RNx := Lib.hid (row_on RN.out hb)
  have VRNx := Lib.hid (And.intro (VRN.out.1.below hb) (VRN.out.2.below hb))
  have KNx := Lib.hid (KN.out.trans (hb.mono KN.out.size))
  clear RN VRN KN
  have RN := RNx
  have VRN := VRNx
  have KN := KNx
  clear RNx VRNx KNx
  clear hb f0 f1 f2
  have f0 := row_c RN.out (i := 0) rfl
  have f1 := row_c RN.out (i := 1) rfl
  have f2 := row_c RN.out (i := 2) rfl
  go_wp2_with fail
  refine (ref_any lf An cn zs Bn dn ys _ VRN.out.1 VRN.out.2).mono ?_
  rintro e w5 ⟨rfl, hb⟩
  have RNx := Lib.hid (row_on RN.out hb)
  have VRNx := Lib.hid (And.intro (VRN.out.1.below hb) (VRN.out.2.below hb))
  have KNx := Lib.hid (KN.out.trans (hb.mono KN.out.size))
  clear RN VRN KN
  have RN := RNx
  have VRN := VRNx
  have KN := KNx
  clear RNx VRNx KNx
  clear hb f0 f1 f2
  go_wp2_with fail
  refine (EN2.out An cn Bn dn _ VRN.out.1 VRN.out.2).mono ?_
  rintro e w6 ⟨rfl, hb⟩
  have RNx := Lib.hid (row_on RN.out hb)
  have VRNx := Lib.hid (And.intro (VRN.out.1.below hb) (VRN.out.2.below hb))
  have KNx := Lib.hid (KN.out.trans (hb.mono KN.out.size))
  clear RN VRN KN
  have RN := RNx
  have VRN := VRNx
  have KN := KNx
  clear RNx VRNx KNx
  clear hb
  go_wp2_with fail
  refine (DE1.out _).mono ?_
  rintro e w7 ⟨A5, c5, B5, d5, rfl, g1, g2, hb⟩
  have RNx := Lib.hid (row_on RN.out hb)
  have VRNx := Lib.hid (And.intro (VRN.out.1.below hb) (VRN.out.2.below hb))
  have KNx := Lib.hid (KN.out.trans (hb.mono KN.out.size))
  clear RN VRN KN
  have RN := RNx
  have VRN := VRNx
  have KN := KNx
  clear RNx VRNx KNx
  have VD := Lib.hid (And.intro g1 g2)
  clear hb g1 g2
  go_upto_region 8 with (fail)
  obtain ⟨V7, hV⟩ : ∃ V : World, V = w7.alloc (.cells #[.bool l2, .slice A5 K2.length c5, .slice B5 D2.length d5] 25) := ⟨_, rfl⟩
  obtain ⟨g7, hg7⟩ : ∃ g : Nat, w7.heap.size = g := ⟨_, rfl⟩
  have RD := Lib.hid (show V7.heap[g7]? = some (.cells #[.bool l2, .slice A5 K2.length c5, .slice B5 D2.length d5] 25 (0, 0)) by rw [← hg7, hV]; exact heap_alloc_new _ _)
  have BV := Lib.hid (show Below w7.heap.size w7 V7 by rw [hV]; exact bda _ _)
  have RNx := Lib.hid (row_on RN.out BV.out)
  have VRNx := Lib.hid (And.intro (VRN.out.1.below BV.out) (VRN.out.2.below BV.out))
  have VDx := Lib.hid (And.intro (VD.out.1.below BV.out) (VD.out.2.below BV.out))
  have KNx := Lib.hid (KN.out.trans (BV.out.mono KN.out.size))
  clear RN VRN VD KN
  have RN := RNx
  have VRN := VRNx
  have VD := VDx
  have KN := KNx
  clear RNx VRNx VDx KNx
  rw [← hV]
  clear hV BV
  go_wp2_with fail
  refine (DE2.out _).mono ?_
  rintro e w8 ⟨A6, c6, B6, d6, rfl, g1, g2, hb⟩
  have RNx := Lib.hid (row_on RN.out hb)
  have RDx := Lib.hid (row_on RD.out hb)
  have VRNx := Lib.hid (And.intro (VRN.out.1.below hb) (VRN.out.2.below hb))
  have VDx := Lib.hid (And.intro (VD.out.1.below hb) (VD.out.2.below hb))
  have KNx := Lib.hid (KN.out.trans (hb.mono KN.out.size))
  clear RN RD VRN VD KN
  have RN := RNx
  have RD := RDx
  have VRN := VRNx
  have VD := VDx
  have KN := KNx
  clear RNx RDx VRNx VDx KNx
  have VE := Lib.hid (And.intro g1 g2)
  clear hb g1 g2
  go_upto_region 9 with (fail)
  obtain ⟨V8, hV⟩ : ∃ V : World, V = w8.alloc (.cells #[.bool l2, .slice A6 K2.length c6, .slice B6 D2.length d6] 33) := ⟨_, rfl⟩
  obtain ⟨g8, hg8⟩ : ∃ g : Nat, w8.heap.size = g := ⟨_, rfl⟩
  have RE := Lib.hid (show V8.heap[g8]? = some (.cells #[.bool l2, .slice A6 K2.length c6, .slice B6 D2.length d6] 33 (0, 0)) by rw [← hg8, hV]; exact heap_alloc_new _ _)
  have BV := Lib.hid (show Below w8.heap.size w8 V8 by rw [hV]; exact bda _ _)
  have RNx := Lib.hid (row_on RN.out BV.out)
  have RDx := Lib.hid (row_on RD.out BV.out)
  have VRNx := Lib.hid (And.intro (VRN.out.1.below BV.out) (VRN.out.2.below BV.out))
  have VDx := Lib.hid (And.intro (VD.out.1.below BV.out) (VD.out.2.below BV.out))
  have VEx := Lib.hid (And.intro (VE.out.1.below BV.out) (VE.out.2.below BV.out))
  have KNx := Lib.hid (KN.out.trans (BV.out.mono KN.out.size))
  clear RN RD VRN VD VE KN
  have RN := RNx
  have RD := RDx
  have VRN := VRNx
  have VD := VDx
  have VE := VEx
  have KN := KNx
  clear RNx RDx VRNx VDx VEx KNx
  rw [← hV]
  clear hV BV
  have f0 := row_c RD.out (i := 0) rfl
  have f1 := row_c RD.out (i := 1) rfl
  have f2 := row_c RD.out (i := 2) rfl
  have k0 := row_c RE.out (i := 0) rfl
  have k1 := row_c RE.out (i := 1) rfl
  have k2 := row_c RE.out (i := 2) rfl
  try rw [hg7]
  try rw [hg8]
  go_wp2_with fail
  refine (nodes_any l2 _ _ _ _ _ _ _ _ K2 D2 _ VD.out.1 VD.out.2 VE.out.1 VE.out.2 L2.out.1 L2.out.2).mono ?_
  rintro e w9 ⟨rfl, hb⟩
  have RNx := Lib.hid (row_on RN.out hb)
  have RDx := Lib.hid (row_on RD.out hb)
  have REx := Lib.hid (row_on RE.out hb)
  have VRNx := Lib.hid (And.intro (VRN.out.1.below hb) (VRN.out.2.below hb))
  have VDx := Lib.hid (And.intro (VD.out.1.below hb) (VD.out.2.below hb))
  have VEx := Lib.hid (And.intro (VE.out.1.below hb) (VE.out.2.below hb))
  have KNx := Lib.hid (KN.out.trans (hb.mono KN.out.size))
  clear RN RD RE VRN VD VE KN
  have RN := RNx
  have RD := RDx
  have RE := REx
  have VRN := VRNx
  have VD := VDx
  have VE := VEx
  have KN := KNx
  clear RNx RDx REx VRNx VDx VEx KNx
  clear hb f0 f1 f2 k0 k1 k2
  go_upto_region 10 with (fail)
  have RG := Lib.hid (fun V h1 h3 => G1.out An cn Bn dn V h1 h3)
  have RG2 := Lib.hid (fun V h1 h3 => G2.out An cn Bn dn V h1 h3)
  have SZ1 := Lib.hid (fun V h1 => S1.out An cn Bn dn V h1)
  have SZ2 := Lib.hid (fun V h1 => S2.out An cn Bn dn V h1)
  have FN := Lib.hid (fun x (K : Below w9.heap.size w9 x) => And.intro (row_c (row_on RN.out K) (i := 0) rfl) (And.intro (row_c (row_on RN.out K) (i := 1) rfl) (row_c (row_on RN.out K) (i := 2) rfl)))
  refine wp_operands (W := w9) rfl 55 [44, 45, 46, 47, 48, 49, 50, 51, 52, 53, 54, 55, 56, 57, 58, 59, 60, 61, 62, 63, 64, 65, 66, 67, 68, 69, 70, 71, 72, 73, 74, 75, 76, 77, 78, 79, 80, 81, 82, 83, 84, 85, 86, 87, 88, 89, 90, 91, 92, 93, 94, 95, 96, 97, 98] (fun i u x => match i with | 0 => u = .bool true | 1 => u = .bool true | 2 => u = .string t | 3 => u = .string t | 4 => u = .bool true | 5 => u = .bool true | 6 => u = .bool true | 7 => u = .bool true | 8 => u = .bool true | 9 => u = .int .i64 0 | 10 => u = .bool true | 11 => u = .bool true | 12 => u = .bool true | 13 => u = undef | 14 => u = undef | 15 => u = undef | 16 => u = undef | 17 => u = undef | 18 => u = undef | 19 => u = .bool true | 20 => u = .bool true | 21 => u = .bool true | 22 => u = .bool true | 23 => u = .bool true | 24 => u = .bool true | 25 => u = .bool true | 26 => u = .bool true | 27 => u = .int .i64 0 | 28 => u = .bool true | 29 => u = .bool true | 30 => u = .bool true | 31 => u = undef | 32 => u = undef | 33 => u = undef | 34 => u = undef | 35 => u = undef | 36 => u = undef | 37 => u = .bool true | 38 => u = .bool true | 39 => u = .bool true | 40 => u = .agg #[.bool lf, .slice An zs.length cn, .slice Bn ys.length dn] | 41 => u = .bool rb | 42 => u = .agg #[.bool lf, .slice An zs.length cn, .slice Bn ys.length dn] | 43 => u = .agg #[.bool lf, .slice An zs.length cn, .slice Bn ys.length dn] | 44 => u = .bool rb | 45 => u = .bool true | 46 => u = .bool true | 47 => u = .bool true | 48 => u = .agg #[.bool lf, .slice An zs.length cn, .slice Bn ys.length dn] | 49 => u = .int .i64 (SN : Int) | 50 => u = .agg #[.bool lf, .slice An zs.length cn, .slice Bn ys.length dn] | 51 => u = .agg #[.bool lf, .slice An zs.length cn, .slice Bn ys.length dn] | 52 => u = .int .i64 (SN : Int) | 53 => u = .bool true | 54 => u = .bool true | _ => True) (fun _ => false)
    (by decide) rfl (by kernel_rfl) (by kernel_rfl) (by decide) (by kernel_rfl) ?_ (fun _ _ _ h => by cases h) ?_ ?_
  · intro i u x x' hi hR hb'
    have hi' : i = 0 ∨ i = 1 ∨ i = 2 ∨ i = 3 ∨ i = 4 ∨ i = 5 ∨ i = 6 ∨ i = 7 ∨ i = 8 ∨ i = 9 ∨ i = 10 ∨ i = 11 ∨ i = 12 ∨ i = 13 ∨ i = 14 ∨ i = 15 ∨ i = 16 ∨ i = 17 ∨ i = 18 ∨ i = 19 ∨ i = 20 ∨ i = 21 ∨ i = 22 ∨ i = 23 ∨ i = 24 ∨ i = 25 ∨ i = 26 ∨ i = 27 ∨ i = 28 ∨ i = 29 ∨ i = 30 ∨ i = 31 ∨ i = 32 ∨ i = 33 ∨ i = 34 ∨ i = 35 ∨ i = 36 ∨ i = 37 ∨ i = 38 ∨ i = 39 ∨ i = 40 ∨ i = 41 ∨ i = 42 ∨ i = 43 ∨ i = 44 ∨ i = 45 ∨ i = 46 ∨ i = 47 ∨ i = 48 ∨ i = 49 ∨ i = 50 ∨ i = 51 ∨ i = 52 ∨ i = 53 ∨ i = 54 := by omega
    rcases hi' with rfl | rfl | rfl | rfl | rfl | rfl | rfl | rfl | rfl | rfl | rfl | rfl | rfl | rfl | rfl | rfl | rfl | rfl | rfl | rfl | rfl | rfl | rfl | rfl | rfl | rfl | rfl | rfl | rfl | rfl | rfl | rfl | rfl | rfl | rfl | rfl | rfl | rfl | rfl | rfl | rfl | rfl | rfl | rfl | rfl | rfl | rfl | rfl | rfl | rfl | rfl | rfl | rfl | rfl | rfl
    all_goals exact hR
  · intro i av x K hi hF hb hw hK
    have hi' : i = 0 ∨ i = 1 ∨ i = 2 ∨ i = 3 ∨ i = 4 ∨ i = 5 ∨ i = 6 ∨ i = 7 ∨ i = 8 ∨ i = 9 ∨ i = 10 ∨ i = 11 ∨ i = 12 ∨ i = 13 ∨ i = 14 ∨ i = 15 ∨ i = 16 ∨ i = 17 ∨ i = 18 ∨ i = 19 ∨ i = 20 ∨ i = 21 ∨ i = 22 ∨ i = 23 ∨ i = 24 ∨ i = 25 ∨ i = 26 ∨ i = 27 ∨ i = 28 ∨ i = 29 ∨ i = 30 ∨ i = 31 ∨ i = 32 ∨ i = 33 ∨ i = 34 ∨ i = 35 ∨ i = 36 ∨ i = 37 ∨ i = 38 ∨ i = 39 ∨ i = 40 ∨ i = 41 ∨ i = 42 ∨ i = 43 ∨ i = 44 ∨ i = 45 ∨ i = 46 ∨ i = 47 ∨ i = 48 ∨ i = 49 ∨ i = 50 ∨ i = 51 ∨ i = 52 ∨ i = 53 ∨ i = 54 := by omega
    rcases hi' with rfl | rfl | rfl | rfl | rfl | rfl | rfl | rfl | rfl | rfl | rfl | rfl | rfl | rfl | rfl | rfl | rfl | rfl | rfl | rfl | rfl | rfl | rfl | rfl | rfl | rfl | rfl | rfl | rfl | rfl | rfl | rfl | rfl | rfl | rfl | rfl | rfl | rfl | rfl | rfl | rfl | rfl | rfl | rfl | rfl | rfl | rfl | rfl | rfl | rfl | rfl | rfl | rfl | rfl | rfl
    · simp only [wpOp, List.getElem?_toArray, List.getElem?_cons_zero, Region.wanted, if_true]
      refine Or.inl ?_
      have e0 : av.eval (.tmp 5) = .bool true := hF.2.2 5 (by decide)
      clear hw hF
      simp only [Oper.wp, execOp]
      rw [e0]
      go_simp
      exact hK _ x (by first | rfl | simp) (Below.refl _ _) (fun h => by cases h)
    · simp only [wpOp, List.getElem?_toArray, List.getElem?_cons_succ, List.getElem?_cons_zero, Region.wanted, if_true]
      refine Or.inl ?_
      have e0 : av.tmps.getD 44 undef = .bool true := hw 0 (by kernel_rfl)
      clear hw hF
      simp only [Oper.wp, execOp]
      go_simp
      exact hK _ x (by first | rfl | simp) (Below.refl _ _) (fun h => by cases h)
    · simp only [wpOp, List.getElem?_toArray, List.getElem?_cons_succ, List.getElem?_cons_zero]
      have eg : av.tmps.getD 45 undef = .bool true := hw 1 (by kernel_rfl)
      refine ite_yes (wanted_yes rfl (yielded_of (t := 45) (by kernel_rfl) eg)) ?_
      clear eg
      refine Or.inl ?_
      have e0 : av.eval (.tmp 6) = .string t := hF.2.2 6 (by decide)
      clear hw hF
      simp only [Oper.wp, execOp]
      rw [e0]
      go_simp
      exact hK _ x (by first | rfl | simp) (Below.refl _ _) (fun h => by cases h)
    · simp only [wpOp, List.getElem?_toArray, List.getElem?_cons_succ, List.getElem?_cons_zero]
      have eg : av.tmps.getD 45 undef = .bool true := hw 1 (by kernel_rfl)
      refine ite_yes (wanted_yes rfl (yielded_of (t := 45) (by kernel_rfl) eg)) ?_
      clear eg
      refine Or.inl ?_
      have e0 : av.eval (.tmp 8) = .string t := hF.2.2 8 (by decide)
      clear hw hF
      simp only [Oper.wp, execOp]
      rw [e0]
      go_simp
      exact hK _ x (by first | rfl | simp) (Below.refl _ _) (fun h => by cases h)
    · simp only [wpOp, List.getElem?_toArray, List.getElem?_cons_succ, List.getElem?_cons_zero]
      have eg : av.tmps.getD 45 undef = .bool true := hw 1 (by kernel_rfl)
      refine ite_yes (wanted_yes rfl (yielded_of (t := 45) (by kernel_rfl) eg)) ?_
      clear eg
      refine Or.inl ?_
      have e0 : av.tmps.getD 46 undef = .string t := hw 2 (by kernel_rfl)
      have e1 : av.tmps.getD 47 undef = .string t := hw 3 (by kernel_rfl)
      clear hw hF
      simp only [Oper.wp, execOp]
      go_simp
      exact hK _ x (by first | rfl | simp) (Below.refl _ _) (fun h => by cases h)
    · simp only [wpOp, List.getElem?_toArray, List.getElem?_cons_succ, List.getElem?_cons_zero, Region.wanted, if_true]
      refine Or.inl ?_
      have e0 : av.tmps.getD 45 undef = .bool true := hw 1 (by kernel_rfl)
      have e1 : av.tmps.getD 48 undef = .bool true := hw 4 (by kernel_rfl)
      clear hw hF
      simp only [Oper.wp, execOp]
      go_simp
      exact hK _ x (by first | rfl | simp) (Below.refl _ _) (fun h => by cases h)
    · simp only [wpOp, List.getElem?_toArray, List.getElem?_cons_succ, List.getElem?_cons_zero, Region.wanted, if_true]
      refine Or.inl ?_
      have e0 : av.tmps.getD 49 undef = .bool true := hw 5 (by kernel_rfl)
      clear hw hF
      simp only [Oper.wp, execOp]
      go_simp
      exact hK _ x (by first | rfl | simp) (Below.refl _ _) (fun h => by cases h)
    · simp only [wpOp, List.getElem?_toArray, List.getElem?_cons_succ, List.getElem?_cons_zero]
      have eg : av.tmps.getD 50 undef = .bool true := hw 6 (by kernel_rfl)
      refine ite_yes (wanted_yes rfl (yielded_of (t := 50) (by kernel_rfl) eg)) ?_
      clear eg
      refine Or.inl ?_
      have e0 : av.eval (.tmp 9) = .bool true := hF.2.2 9 (by decide)
      clear hw hF
      simp only [Oper.wp, execOp]
      rw [e0]
      go_simp
      exact hK _ x (by first | rfl | simp) (Below.refl _ _) (fun h => by cases h)
    · simp only [wpOp, List.getElem?_toArray, List.getElem?_cons_succ, List.getElem?_cons_zero]
      have eg : av.tmps.getD 50 undef = .bool true := hw 6 (by kernel_rfl)
      refine ite_yes (wanted_yes rfl (yielded_of (t := 50) (by kernel_rfl) eg)) ?_
      clear eg
      refine Or.inl ?_
      have e0 : av.tmps.getD 51 undef = .bool true := hw 7 (by kernel_rfl)
      clear hw hF
      simp only [Oper.wp, execOp]
      go_simp
      exact hK _ x (by first | rfl | simp) (Below.refl _ _) (fun h => by cases h)
    · simp only [wpOp, List.getElem?_toArray, List.getElem?_cons_succ, List.getElem?_cons_zero]
      have eg : av.tmps.getD 52 undef = .bool true := hw 8 (by kernel_rfl)
      refine ite_yes (wanted_yes rfl (yielded_of (t := 52) (by kernel_rfl) eg)) ?_
      clear eg
      refine Or.inl ?_
      have e0 : av.eval (.tmp 7) = .int .i64 0 := hF.2.2 7 (by decide)
      clear hw hF
      simp only [Oper.wp, execOp]
      rw [e0]
      go_simp
      exact hK _ x (by first | rfl | simp) (Below.refl _ _) (fun h => by cases h)
    · simp only [wpOp, List.getElem?_toArray, List.getElem?_cons_succ, List.getElem?_cons_zero]
      have eg : av.tmps.getD 52 undef = .bool true := hw 8 (by kernel_rfl)
      refine ite_yes (wanted_yes rfl (yielded_of (t := 52) (by kernel_rfl) eg)) ?_
      clear eg
      refine Or.inl ?_
      have e0 : av.tmps.getD 53 undef = .int .i64 0 := hw 9 (by kernel_rfl)
      clear hw hF
      simp only [Oper.wp, execOp]
      go_simp
      exact hK _ x (by first | rfl | simp) (Below.refl _ _) (fun h => by cases h)
    · simp only [wpOp, List.getElem?_toArray, List.getElem?_cons_succ, List.getElem?_cons_zero]
      have eg : av.tmps.getD 50 undef = .bool true := hw 6 (by kernel_rfl)
      refine ite_yes (wanted_yes rfl (yielded_of (t := 50) (by kernel_rfl) eg)) ?_
      clear eg
      refine Or.inl ?_
      have e0 : av.tmps.getD 52 undef = .bool true := hw 8 (by kernel_rfl)
      have e1 : av.tmps.getD 54 undef = .bool true := hw 10 (by kernel_rfl)
      clear hw hF
      simp only [Oper.wp, execOp]
      go_simp
      exact hK _ x (by first | rfl | simp) (Below.refl _ _) (fun h => by cases h)
    · simp only [wpOp, List.getElem?_toArray, List.getElem?_cons_succ, List.getElem?_cons_zero]
      have eg : av.tmps.getD 50 undef = .bool true := hw 6 (by kernel_rfl)
      refine ite_yes (wanted_yes rfl (yielded_of (t := 50) (by kernel_rfl) eg)) ?_
      clear eg
      refine Or.inl ?_
      have e0 : av.tmps.getD 55 undef = .bool true := hw 11 (by kernel_rfl)
      clear hw hF
      simp only [Oper.wp, execOp]
      go_simp
      exact hK _ x (by first | rfl | simp) (Below.refl _ _) (fun h => by cases h)
    · simp only [wpOp, List.getElem?_toArray, List.getElem?_cons_succ, List.getElem?_cons_zero]
      have eg : av.tmps.getD 56 undef = .bool true := hw 12 (by kernel_rfl)
      refine ite_not (wanted_not rfl (yielded_of (t := 56) (by kernel_rfl) eg)) ?_
      exact hK _ x rfl (Below.refl _ _) (fun h => by cases h)
    · simp only [wpOp, List.getElem?_toArray, List.getElem?_cons_succ, List.getElem?_cons_zero]
      have eg : av.tmps.getD 56 undef = .bool true := hw 12 (by kernel_rfl)
      refine ite_not (wanted_not rfl (yielded_of (t := 56) (by kernel_rfl) eg)) ?_
      exact hK _ x rfl (Below.refl _ _) (fun h => by cases h)
    · simp only [wpOp, List.getElem?_toArray, List.getElem?_cons_succ, List.getElem?_cons_zero]
      have eg : av.tmps.getD 56 undef = .bool true := hw 12 (by kernel_rfl)
      refine ite_not (wanted_not rfl (yielded_of (t := 56) (by kernel_rfl) eg)) ?_
      exact hK _ x rfl (Below.refl _ _) (fun h => by cases h)
    · simp only [wpOp, List.getElem?_toArray, List.getElem?_cons_succ, List.getElem?_cons_zero]
      have eg : av.tmps.getD 59 undef = undef := hw 15 (by kernel_rfl)
      refine ite_not (wanted_none rfl (yielded_none (t := 59) (by kernel_rfl) eg)) ?_
      exact hK _ x rfl (Below.refl _ _) (fun h => by cases h)
    · simp only [wpOp, List.getElem?_toArray, List.getElem?_cons_succ, List.getElem?_cons_zero]
      have eg : av.tmps.getD 59 undef = undef := hw 15 (by kernel_rfl)
      refine ite_not (wanted_none rfl (yielded_none (t := 59) (by kernel_rfl) eg)) ?_
      exact hK _ x rfl (Below.refl _ _) (fun h => by cases h)
    · simp only [wpOp, List.getElem?_toArray, List.getElem?_cons_succ, List.getElem?_cons_zero]
      have eg : av.tmps.getD 56 undef = .bool true := hw 12 (by kernel_rfl)
      refine ite_not (wanted_not rfl (yielded_of (t := 56) (by kernel_rfl) eg)) ?_
      exact hK _ x rfl (Below.refl _ _) (fun h => by cases h)
    · simp only [wpOp, List.getElem?_toArray, List.getElem?_cons_succ, List.getElem?_cons_zero]
      have eg : av.tmps.getD 50 undef = .bool true := hw 6 (by kernel_rfl)
      refine ite_yes (wanted_yes rfl (yielded_of (t := 50) (by kernel_rfl) eg)) ?_
      clear eg
      refine Or.inl ?_
      have e0 : av.tmps.getD 56 undef = .bool true := hw 12 (by kernel_rfl)
      have e1 : av.tmps.getD 62 undef = undef := hw 18 (by kernel_rfl)
      clear hw hF
      simp only [Oper.wp, execOp]
      go_simp
      exact hK _ x (by first | rfl | simp) (Below.refl _ _) (fun h => by cases h)
    · simp only [wpOp, List.getElem?_toArray, List.getElem?_cons_succ, List.getElem?_cons_zero, Region.wanted, if_true]
      refine Or.inl ?_
      have e0 : av.tmps.getD 50 undef = .bool true := hw 6 (by kernel_rfl)
      have e1 : av.tmps.getD 63 undef = .bool true := hw 19 (by kernel_rfl)
      clear hw hF
      simp only [Oper.wp, execOp]
      go_simp
      exact hK _ x (by first | rfl | simp) (Below.refl _ _) (fun h => by cases h)
    · simp only [wpOp, List.getElem?_toArray, List.getElem?_cons_succ, List.getElem?_cons_zero, Region.wanted, if_true]
      refine Or.inl ?_
      have e0 : av.tmps.getD 64 undef = .bool true := hw 20 (by kernel_rfl)
      clear hw hF
      simp only [Oper.wp, execOp]
      go_simp
      exact hK _ x (by first | rfl | simp) (Below.refl _ _) (fun h => by cases h)
    · simp only [wpOp, List.getElem?_toArray, List.getElem?_cons_succ, List.getElem?_cons_zero]
      have eg : av.tmps.getD 65 undef = .bool true := hw 21 (by kernel_rfl)
      refine ite_yes (wanted_yes rfl (yielded_of (t := 65) (by kernel_rfl) eg)) ?_
      clear eg
      refine Or.inl ?_
      have e0 : av.eval (.tmp 14) = .bool true := hF.2.2 14 (by decide)
      clear hw hF
      simp only [Oper.wp, execOp]
      rw [e0]
      go_simp
      exact hK _ x (by first | rfl | simp) (Below.refl _ _) (fun h => by cases h)
    · simp only [wpOp, List.getElem?_toArray, List.getElem?_cons_succ, List.getElem?_cons_zero, Region.wanted, if_true]
      refine Or.inl ?_
      have e0 : av.tmps.getD 65 undef = .bool true := hw 21 (by kernel_rfl)
      have e1 : av.tmps.getD 66 undef = .bool true := hw 22 (by kernel_rfl)
      clear hw hF
      simp only [Oper.wp, execOp]
      go_simp
      exact hK _ x (by first | rfl | simp) (Below.refl _ _) (fun h => by cases h)
    · simp only [wpOp, List.getElem?_toArray, List.getElem?_cons_succ, List.getElem?_cons_zero, Region.wanted, if_true]
      refine Or.inl ?_
      have e0 : av.tmps.getD 67 undef = .bool true := hw 23 (by kernel_rfl)
      clear hw hF
      simp only [Oper.wp, execOp]
      go_simp
      exact hK _ x (by first | rfl | simp) (Below.refl _ _) (fun h => by cases h)
    · simp only [wpOp, List.getElem?_toArray, List.getElem?_cons_succ, List.getElem?_cons_zero]
      have eg : av.tmps.getD 68 undef = .bool true := hw 24 (by kernel_rfl)
      refine ite_yes (wanted_yes rfl (yielded_of (t := 68) (by kernel_rfl) eg)) ?_
      clear eg
      refine Or.inl ?_
      have e0 : av.eval (.tmp 13) = .bool true := hF.2.2 13 (by decide)
      clear hw hF
      simp only [Oper.wp, execOp]
      rw [e0]
      go_simp
      exact hK _ x (by first | rfl | simp) (Below.refl _ _) (fun h => by cases h)
    · simp only [wpOp, List.getElem?_toArray, List.getElem?_cons_succ, List.getElem?_cons_zero]
      have eg : av.tmps.getD 68 undef = .bool true := hw 24 (by kernel_rfl)
      refine ite_yes (wanted_yes rfl (yielded_of (t := 68) (by kernel_rfl) eg)) ?_
      clear eg
      refine Or.inl ?_
      have e0 : av.tmps.getD 69 undef = .bool true := hw 25 (by kernel_rfl)
      clear hw hF
      simp only [Oper.wp, execOp]
      go_simp
      exact hK _ x (by first | rfl | simp) (Below.refl _ _) (fun h => by cases h)
    · simp only [wpOp, List.getElem?_toArray, List.getElem?_cons_succ, List.getElem?_cons_zero]
      have eg : av.tmps.getD 70 undef = .bool true := hw 26 (by kernel_rfl)
      refine ite_yes (wanted_yes rfl (yielded_of (t := 70) (by kernel_rfl) eg)) ?_
      clear eg
      refine Or.inl ?_
      have e0 : av.eval (.tmp 11) = .int .i64 0 := hF.2.2 11 (by decide)
      clear hw hF
      simp only [Oper.wp, execOp]
      rw [e0]
      go_simp
      exact hK _ x (by first | rfl | simp) (Below.refl _ _) (fun h => by cases h)
    · simp only [wpOp, List.getElem?_toArray, List.getElem?_cons_succ, List.getElem?_cons_zero]
      have eg : av.tmps.getD 70 undef = .bool true := hw 26 (by kernel_rfl)
      refine ite_yes (wanted_yes rfl (yielded_of (t := 70) (by kernel_rfl) eg)) ?_
      clear eg
      refine Or.inl ?_
      have e0 : av.tmps.getD 71 undef = .int .i64 0 := hw 27 (by kernel_rfl)
      clear hw hF
      simp only [Oper.wp, execOp]
      go_simp
      exact hK _ x (by first | rfl | simp) (Below.refl _ _) (fun h => by cases h)
    · simp only [wpOp, List.getElem?_toArray, List.getElem?_cons_succ, List.getElem?_cons_zero]
      have eg : av.tmps.getD 68 undef = .bool true := hw 24 (by kernel_rfl)
      refine ite_yes (wanted_yes rfl (yielded_of (t := 68) (by kernel_rfl) eg)) ?_
      clear eg
      refine Or.inl ?_
      have e0 : av.tmps.getD 70 undef = .bool true := hw 26 (by kernel_rfl)
      have e1 : av.tmps.getD 72 undef = .bool true := hw 28 (by kernel_rfl)
      clear hw hF
      simp only [Oper.wp, execOp]
      go_simp
      exact hK _ x (by first | rfl | simp) (Below.refl _ _) (fun h => by cases h)
    · simp only [wpOp, List.getElem?_toArray, List.getElem?_cons_succ, List.getElem?_cons_zero]
      have eg : av.tmps.getD 68 undef = .bool true := hw 24 (by kernel_rfl)
      refine ite_yes (wanted_yes rfl (yielded_of (t := 68) (by kernel_rfl) eg)) ?_
      clear eg
      refine Or.inl ?_
      have e0 : av.tmps.getD 73 undef = .bool true := hw 29 (by kernel_rfl)
      clear hw hF
      simp only [Oper.wp, execOp]
      go_simp
      exact hK _ x (by first | rfl | simp) (Below.refl _ _) (fun h => by cases h)
    · simp only [wpOp, List.getElem?_toArray, List.getElem?_cons_succ, List.getElem?_cons_zero]
      have eg : av.tmps.getD 74 undef = .bool true := hw 30 (by kernel_rfl)
      refine ite_not (wanted_not rfl (yielded_of (t := 74) (by kernel_rfl) eg)) ?_
      exact hK _ x rfl (Below.refl _ _) (fun h => by cases h)
    · simp only [wpOp, List.getElem?_toArray, List.getElem?_cons_succ, List.getElem?_cons_zero]
      have eg : av.tmps.getD 74 undef = .bool true := hw 30 (by kernel_rfl)
      refine ite_not (wanted_not rfl (yielded_of (t := 74) (by kernel_rfl) eg)) ?_
      exact hK _ x rfl (Below.refl _ _) (fun h => by cases h)
    · simp only [wpOp, List.getElem?_toArray, List.getElem?_cons_succ, List.getElem?_cons_zero]
      have eg : av.tmps.getD 74 undef = .bool true := hw 30 (by kernel_rfl)
      refine ite_not (wanted_not rfl (yielded_of (t := 74) (by kernel_rfl) eg)) ?_
      exact hK _ x rfl (Below.refl _ _) (fun h => by cases h)
    · simp only [wpOp, List.getElem?_toArray, List.getElem?_cons_succ, List.getElem?_cons_zero]
      have eg : av.tmps.getD 77 undef = undef := hw 33 (by kernel_rfl)
      refine ite_not (wanted_none rfl (yielded_none (t := 77) (by kernel_rfl) eg)) ?_
      exact hK _ x rfl (Below.refl _ _) (fun h => by cases h)
    · simp only [wpOp, List.getElem?_toArray, List.getElem?_cons_succ, List.getElem?_cons_zero]
      have eg : av.tmps.getD 77 undef = undef := hw 33 (by kernel_rfl)
      refine ite_not (wanted_none rfl (yielded_none (t := 77) (by kernel_rfl) eg)) ?_
      exact hK _ x rfl (Below.refl _ _) (fun h => by cases h)
    · simp only [wpOp, List.getElem?_toArray, List.getElem?_cons_succ, List.getElem?_cons_zero]
      have eg : av.tmps.getD 74 undef = .bool true := hw 30 (by kernel_rfl)
      refine ite_not (wanted_not rfl (yielded_of (t := 74) (by kernel_rfl) eg)) ?_
      exact hK _ x rfl (Below.refl _ _) (fun h => by cases h)
    · simp only [wpOp, List.getElem?_toArray, List.getElem?_cons_succ, List.getElem?_cons_zero]
      have eg : av.tmps.getD 68 undef = .bool true := hw 24 (by kernel_rfl)
      refine ite_yes (wanted_yes rfl (yielded_of (t := 68) (by kernel_rfl) eg)) ?_
      clear eg
      refine Or.inl ?_
      have e0 : av.tmps.getD 74 undef = .bool true := hw 30 (by kernel_rfl)
      have e1 : av.tmps.getD 80 undef = undef := hw 36 (by kernel_rfl)
      clear hw hF
      simp only [Oper.wp, execOp]
      go_simp
      exact hK _ x (by first | rfl | simp) (Below.refl _ _) (fun h => by cases h)
    · simp only [wpOp, List.getElem?_toArray, List.getElem?_cons_succ, List.getElem?_cons_zero, Region.wanted, if_true]
      refine Or.inl ?_
      have e0 : av.tmps.getD 68 undef = .bool true := hw 24 (by kernel_rfl)
      have e1 : av.tmps.getD 81 undef = .bool true := hw 37 (by kernel_rfl)
      clear hw hF
      simp only [Oper.wp, execOp]
      go_simp
      exact hK _ x (by first | rfl | simp) (Below.refl _ _) (fun h => by cases h)
    · simp only [wpOp, List.getElem?_toArray, List.getElem?_cons_succ, List.getElem?_cons_zero, Region.wanted, if_true]
      refine Or.inl ?_
      have e0 : av.tmps.getD 82 undef = .bool true := hw 38 (by kernel_rfl)
      clear hw hF
      simp only [Oper.wp, execOp]
      go_simp
      exact hK _ x (by first | rfl | simp) (Below.refl _ _) (fun h => by cases h)
    · simp only [wpOp, List.getElem?_toArray, List.getElem?_cons_succ, List.getElem?_cons_zero]
      have eg : av.tmps.getD 83 undef = .bool true := hw 39 (by kernel_rfl)
      refine ite_yes (wanted_yes rfl (yielded_of (t := 83) (by kernel_rfl) eg)) ?_
      clear eg
      refine Or.inl ?_
      have e0 : av.eval (.tmp 2) = .pointer (some ⟨w.heap.size, 0, none⟩) := hF.2.2 2 (by decide)
      obtain ⟨f0, f1, f2⟩ := FN.out x hb
      clear hw hF
      simp only [Oper.wp, execOp]
      rw [e0]
      go_simp
      exact hK _ x (by first | rfl | simp) (Below.refl _ _) (fun h => by cases h)
    · simp only [wpOp, List.getElem?_toArray, List.getElem?_cons_succ, List.getElem?_cons_zero]
      have eg : av.tmps.getD 83 undef = .bool true := hw 39 (by kernel_rfl)
      refine ite_yes (wanted_yes rfl (yielded_of (t := 83) (by kernel_rfl) eg)) ?_
      clear eg
      refine Or.inl ?_
      have e0 : av.tmps.getD 84 undef = .agg #[.bool lf, .slice An zs.length cn, .slice Bn ys.length dn] := hw 40 (by kernel_rfl)
      clear hw hF
      simp only [Oper.wp, execOp]
      go_simp
      refine (RG.out x (VRN.out.1.below hb) (VRN.out.2.below hb)).mono ?_
      rintro e y ⟨rfl, hbb⟩
      exact hK _ y rfl hbb (fun h => by cases h)
    · simp only [wpOp, List.getElem?_toArray, List.getElem?_cons_succ, List.getElem?_cons_zero]
      have eg : av.tmps.getD 83 undef = .bool true := hw 39 (by kernel_rfl)
      refine ite_yes (wanted_yes rfl (yielded_of (t := 83) (by kernel_rfl) eg)) ?_
      clear eg
      refine Or.inl ?_
      have e0 : av.eval (.tmp 2) = .pointer (some ⟨w.heap.size, 0, none⟩) := hF.2.2 2 (by decide)
      obtain ⟨f0, f1, f2⟩ := FN.out x hb
      clear hw hF
      simp only [Oper.wp, execOp]
      rw [e0]
      go_simp
      exact hK _ x (by first | rfl | simp) (Below.refl _ _) (fun h => by cases h)
    · simp only [wpOp, List.getElem?_toArray, List.getElem?_cons_succ, List.getElem?_cons_zero]
      have eg : av.tmps.getD 83 undef = .bool true := hw 39 (by kernel_rfl)
      refine ite_yes (wanted_yes rfl (yielded_of (t := 83) (by kernel_rfl) eg)) ?_
      clear eg
      refine Or.inl ?_
      have e0 : av.tmps.getD 86 undef = .agg #[.bool lf, .slice An zs.length cn, .slice Bn ys.length dn] := hw 42 (by kernel_rfl)
      clear hw hF
      simp only [Oper.wp, execOp]
      go_simp
      refine (ref_any lf An cn zs Bn dn ys x (VRN.out.1.below hb) (VRN.out.2.below hb)).mono ?_
      rintro e y ⟨rfl, hbb⟩
      exact hK _ y rfl hbb (fun h => by cases h)
    · simp only [wpOp, List.getElem?_toArray, List.getElem?_cons_succ, List.getElem?_cons_zero]
      have eg : av.tmps.getD 83 undef = .bool true := hw 39 (by kernel_rfl)
      refine ite_yes (wanted_yes rfl (yielded_of (t := 83) (by kernel_rfl) eg)) ?_
      clear eg
      refine Or.inl ?_
      have e0 : av.tmps.getD 87 undef = .agg #[.bool lf, .slice An zs.length cn, .slice Bn ys.length dn] := hw 43 (by kernel_rfl)
      clear hw hF
      simp only [Oper.wp, execOp]
      go_simp
      refine (RG2.out x (VRN.out.1.below hb) (VRN.out.2.below hb)).mono ?_
      rintro e y ⟨rfl, hbb⟩
      exact hK _ y rfl hbb (fun h => by cases h)
    · simp only [wpOp, List.getElem?_toArray, List.getElem?_cons_succ, List.getElem?_cons_zero]
      have eg : av.tmps.getD 83 undef = .bool true := hw 39 (by kernel_rfl)
      refine ite_yes (wanted_yes rfl (yielded_of (t := 83) (by kernel_rfl) eg)) ?_
      clear eg
      refine Or.inl ?_
      have e0 : av.tmps.getD 85 undef = .bool rb := hw 41 (by kernel_rfl)
      have e1 : av.tmps.getD 88 undef = .bool rb := hw 44 (by kernel_rfl)
      clear hw hF
      simp only [Oper.wp, execOp]
      go_simp
      exact hK _ x (by first | rfl | simp) (Below.refl _ _) (fun h => by cases h)
    · simp only [wpOp, List.getElem?_toArray, List.getElem?_cons_succ, List.getElem?_cons_zero, Region.wanted, if_true]
      refine Or.inl ?_
      have e0 : av.tmps.getD 83 undef = .bool true := hw 39 (by kernel_rfl)
      have e1 : av.tmps.getD 89 undef = .bool true := hw 45 (by kernel_rfl)
      clear hw hF
      simp only [Oper.wp, execOp]
      go_simp
      exact hK _ x (by first | rfl | simp) (Below.refl _ _) (fun h => by cases h)
    · simp only [wpOp, List.getElem?_toArray, List.getElem?_cons_succ, List.getElem?_cons_zero, Region.wanted, if_true]
      refine Or.inl ?_
      have e0 : av.tmps.getD 90 undef = .bool true := hw 46 (by kernel_rfl)
      clear hw hF
      simp only [Oper.wp, execOp]
      go_simp
      exact hK _ x (by first | rfl | simp) (Below.refl _ _) (fun h => by cases h)
    · simp only [wpOp, List.getElem?_toArray, List.getElem?_cons_succ, List.getElem?_cons_zero]
      have eg : av.tmps.getD 91 undef = .bool true := hw 47 (by kernel_rfl)
      refine ite_yes (wanted_yes rfl (yielded_of (t := 91) (by kernel_rfl) eg)) ?_
      clear eg
      refine Or.inl ?_
      have e0 : av.eval (.tmp 2) = .pointer (some ⟨w.heap.size, 0, none⟩) := hF.2.2 2 (by decide)
      obtain ⟨f0, f1, f2⟩ := FN.out x hb
      clear hw hF
      simp only [Oper.wp, execOp]
      rw [e0]
      go_simp
      exact hK _ x (by first | rfl | simp) (Below.refl _ _) (fun h => by cases h)
    · simp only [wpOp, List.getElem?_toArray, List.getElem?_cons_succ, List.getElem?_cons_zero]
      have eg : av.tmps.getD 91 undef = .bool true := hw 47 (by kernel_rfl)
      refine ite_yes (wanted_yes rfl (yielded_of (t := 91) (by kernel_rfl) eg)) ?_
      clear eg
      refine Or.inl ?_
      have e0 : av.tmps.getD 92 undef = .agg #[.bool lf, .slice An zs.length cn, .slice Bn ys.length dn] := hw 48 (by kernel_rfl)
      clear hw hF
      simp only [Oper.wp, execOp]
      go_simp
      refine (SZ1.out x (VRN.out.1.below hb)).mono ?_
      rintro e y ⟨rfl, hbb⟩
      exact hK _ y rfl hbb (fun h => by cases h)
    · simp only [wpOp, List.getElem?_toArray, List.getElem?_cons_succ, List.getElem?_cons_zero]
      have eg : av.tmps.getD 91 undef = .bool true := hw 47 (by kernel_rfl)
      refine ite_yes (wanted_yes rfl (yielded_of (t := 91) (by kernel_rfl) eg)) ?_
      clear eg
      refine Or.inl ?_
      have e0 : av.eval (.tmp 2) = .pointer (some ⟨w.heap.size, 0, none⟩) := hF.2.2 2 (by decide)
      obtain ⟨f0, f1, f2⟩ := FN.out x hb
      clear hw hF
      simp only [Oper.wp, execOp]
      rw [e0]
      go_simp
      exact hK _ x (by first | rfl | simp) (Below.refl _ _) (fun h => by cases h)
    · simp only [wpOp, List.getElem?_toArray, List.getElem?_cons_succ, List.getElem?_cons_zero]
      have eg : av.tmps.getD 91 undef = .bool true := hw 47 (by kernel_rfl)
      refine ite_yes (wanted_yes rfl (yielded_of (t := 91) (by kernel_rfl) eg)) ?_
      clear eg
      refine Or.inl ?_
      have e0 : av.tmps.getD 94 undef = .agg #[.bool lf, .slice An zs.length cn, .slice Bn ys.length dn] := hw 50 (by kernel_rfl)
      clear hw hF
      simp only [Oper.wp, execOp]
      go_simp
      refine (ref_any lf An cn zs Bn dn ys x (VRN.out.1.below hb) (VRN.out.2.below hb)).mono ?_
      rintro e y ⟨rfl, hbb⟩
      exact hK _ y rfl hbb (fun h => by cases h)
    · simp only [wpOp, List.getElem?_toArray, List.getElem?_cons_succ, List.getElem?_cons_zero]
      have eg : av.tmps.getD 91 undef = .bool true := hw 47 (by kernel_rfl)
      refine ite_yes (wanted_yes rfl (yielded_of (t := 91) (by kernel_rfl) eg)) ?_
      clear eg
      refine Or.inl ?_
      have e0 : av.tmps.getD 95 undef = .agg #[.bool lf, .slice An zs.length cn, .slice Bn ys.length dn] := hw 51 (by kernel_rfl)
      clear hw hF
      simp only [Oper.wp, execOp]
      go_simp
      refine (SZ2.out x (VRN.out.1.below hb)).mono ?_
      rintro e y ⟨rfl, hbb⟩
      exact hK _ y rfl hbb (fun h => by cases h)
    · simp only [wpOp, List.getElem?_toArray, List.getElem?_cons_succ, List.getElem?_cons_zero]
      have eg : av.tmps.getD 91 undef = .bool true := hw 47 (by kernel_rfl)
      refine ite_yes (wanted_yes rfl (yielded_of (t := 91) (by kernel_rfl) eg)) ?_
      clear eg
      refine Or.inl ?_
      have e0 : av.tmps.getD 93 undef = .int .i64 (SN : Int) := hw 49 (by kernel_rfl)
      have e1 : av.tmps.getD 96 undef = .int .i64 (SN : Int) := hw 52 (by kernel_rfl)
      clear hw hF
      simp only [Oper.wp, execOp]
      go_simp
      exact hK _ x (by first | rfl | simp) (Below.refl _ _) (fun h => by cases h)
    · simp only [wpOp, List.getElem?_toArray, List.getElem?_cons_succ, List.getElem?_cons_zero, Region.wanted, if_true]
      refine Or.inl ?_
      have e0 : av.tmps.getD 91 undef = .bool true := hw 47 (by kernel_rfl)
      have e1 : av.tmps.getD 97 undef = .bool true := hw 53 (by kernel_rfl)
      clear hw hF
      simp only [Oper.wp, execOp]
      go_simp
      exact hK _ x (by first | rfl | simp) (Below.refl _ _) (fun h => by cases h)
  · intro av x hF hb hR _
    have e0 : av.tmps.getD 44 undef = .bool true := hR 0 (by decide)
    have e1 : av.tmps.getD 45 undef = .bool true := hR 1 (by decide)
    have e2 : av.tmps.getD 46 undef = .string t := hR 2 (by decide)
    have e3 : av.tmps.getD 47 undef = .string t := hR 3 (by decide)
    have e4 : av.tmps.getD 48 undef = .bool true := hR 4 (by decide)
    have e5 : av.tmps.getD 49 undef = .bool true := hR 5 (by decide)
    have e6 : av.tmps.getD 50 undef = .bool true := hR 6 (by decide)
    have e7 : av.tmps.getD 51 undef = .bool true := hR 7 (by decide)
    have e8 : av.tmps.getD 52 undef = .bool true := hR 8 (by decide)
    have e9 : av.tmps.getD 53 undef = .int .i64 0 := hR 9 (by decide)
    have e10 : av.tmps.getD 54 undef = .bool true := hR 10 (by decide)
    have e11 : av.tmps.getD 55 undef = .bool true := hR 11 (by decide)
    have e12 : av.tmps.getD 56 undef = .bool true := hR 12 (by decide)
    have e13 : av.tmps.getD 57 undef = undef := hR 13 (by decide)
    have e14 : av.tmps.getD 58 undef = undef := hR 14 (by decide)
    have e15 : av.tmps.getD 59 undef = undef := hR 15 (by decide)
    have e16 : av.tmps.getD 60 undef = undef := hR 16 (by decide)
    have e17 : av.tmps.getD 61 undef = undef := hR 17 (by decide)
    have e18 : av.tmps.getD 62 undef = undef := hR 18 (by decide)
    have e19 : av.tmps.getD 63 undef = .bool true := hR 19 (by decide)
    have e20 : av.tmps.getD 64 undef = .bool true := hR 20 (by decide)
    have e21 : av.tmps.getD 65 undef = .bool true := hR 21 (by decide)
    have e22 : av.tmps.getD 66 undef = .bool true := hR 22 (by decide)
    have e23 : av.tmps.getD 67 undef = .bool true := hR 23 (by decide)
    have e24 : av.tmps.getD 68 undef = .bool true := hR 24 (by decide)
    have e25 : av.tmps.getD 69 undef = .bool true := hR 25 (by decide)
    have e26 : av.tmps.getD 70 undef = .bool true := hR 26 (by decide)
    have e27 : av.tmps.getD 71 undef = .int .i64 0 := hR 27 (by decide)
    have e28 : av.tmps.getD 72 undef = .bool true := hR 28 (by decide)
    have e29 : av.tmps.getD 73 undef = .bool true := hR 29 (by decide)
    have e30 : av.tmps.getD 74 undef = .bool true := hR 30 (by decide)
    have e31 : av.tmps.getD 75 undef = undef := hR 31 (by decide)
    have e32 : av.tmps.getD 76 undef = undef := hR 32 (by decide)
    have e33 : av.tmps.getD 77 undef = undef := hR 33 (by decide)
    have e34 : av.tmps.getD 78 undef = undef := hR 34 (by decide)
    have e35 : av.tmps.getD 79 undef = undef := hR 35 (by decide)
    have e36 : av.tmps.getD 80 undef = undef := hR 36 (by decide)
    have e37 : av.tmps.getD 81 undef = .bool true := hR 37 (by decide)
    have e38 : av.tmps.getD 82 undef = .bool true := hR 38 (by decide)
    have e39 : av.tmps.getD 83 undef = .bool true := hR 39 (by decide)
    have e40 : av.tmps.getD 84 undef = .agg #[.bool lf, .slice An zs.length cn, .slice Bn ys.length dn] := hR 40 (by decide)
    have e41 : av.tmps.getD 85 undef = .bool rb := hR 41 (by decide)
    have e42 : av.tmps.getD 86 undef = .agg #[.bool lf, .slice An zs.length cn, .slice Bn ys.length dn] := hR 42 (by decide)
    have e43 : av.tmps.getD 87 undef = .agg #[.bool lf, .slice An zs.length cn, .slice Bn ys.length dn] := hR 43 (by decide)
    have e44 : av.tmps.getD 88 undef = .bool rb := hR 44 (by decide)
    have e45 : av.tmps.getD 89 undef = .bool true := hR 45 (by decide)
    have e46 : av.tmps.getD 90 undef = .bool true := hR 46 (by decide)
    have e47 : av.tmps.getD 91 undef = .bool true := hR 47 (by decide)
    have e48 : av.tmps.getD 92 undef = .agg #[.bool lf, .slice An zs.length cn, .slice Bn ys.length dn] := hR 48 (by decide)
    have e49 : av.tmps.getD 93 undef = .int .i64 (SN : Int) := hR 49 (by decide)
    have e50 : av.tmps.getD 94 undef = .agg #[.bool lf, .slice An zs.length cn, .slice Bn ys.length dn] := hR 50 (by decide)
    have e51 : av.tmps.getD 95 undef = .agg #[.bool lf, .slice An zs.length cn, .slice Bn ys.length dn] := hR 51 (by decide)
    have e52 : av.tmps.getD 96 undef = .int .i64 (SN : Int) := hR 52 (by decide)
    have e53 : av.tmps.getD 97 undef = .bool true := hR 53 (by decide)
    have e54 : av.tmps.getD 98 undef = .bool true := hR 54 (by decide)
    rw [hF.fold (by kernel_rfl)]
    simp only [List.foldl_cons, List.foldl_nil, e0, e1, e2, e3, e4, e5, e6, e7, e8, e9, e10, e11, e12, e13, e14, e15, e16, e17, e18, e19, e20, e21, e22, e23, e24, e25, e26, e27, e28, e29, e30, e31, e32, e33, e34, e35, e36, e37, e38, e39, e40, e41, e42, e43, e44, e45, e46, e47, e48, e49, e50, e51, e52, e53, e54]
    simp only [Act.put, List.setIfInBounds_toArray, List.set_cons_zero, List.set_cons_succ]
    change wpOps _ _ _ [55] _ _
    simp only [wpOps_cons]
    clear e0 e1 e2 e3 e4 e5 e6 e7 e8 e9 e10 e11 e12 e13 e14 e15 e16 e17 e18 e19 e20 e21 e22 e23 e24 e25 e26 e27 e28 e29 e30 e31 e32 e33 e34 e35 e36 e37 e38 e39 e40 e41 e42 e43 e44 e45 e46 e47 e48 e49 e50 e51 e52 e53 e54 hR hF
    have HE := Lib.hid hb
    clear hb
    simp only [wpOp, List.getElem?_toArray, List.getElem?_cons_succ, List.getElem?_cons_zero, Region.wanted, if_true]
    refine Or.inl ?_
    simp only [Oper.wp, execOp]
    go_simp
    try simp only [wpOps]
    go_wp2
    go_ret
    exact ⟨rfl, KN.out.trans (HE.out.mono KN.out.size)⟩
set_option maxHeartbeats 16000000 in
set_option maxRecDepth 100000 in
theorem bytes_yn (lf : Bool) (A : Option Addr) (c : Nat) (ks : List (List UInt8)) (B : Option Addr) (d : Nat) (ds : List Int) (S : List UInt8) (w : World) (h : Rl sv w A c ks) (h2 : Rl nv w B d ds) (zs : List (List UInt8)) (hz : ks.take 12 = zs) (ys : List Int) (hy : ds.take 13 = ys) (hsz : sizeN zs ys < 4611686018427387904)
    (t : ByteArray) (l2 : Bool) (K2 : List (List UInt8)) (D2 : List Int) (l2_ : K2.length ≤ 4000000 ∧ D2.length ≤ 4000001)
    (hE1 : ∀ A c B d V, Rl sv V A c zs → Rl nv V B d ys → Calls Try.prog 12 #[.agg #[.bool lf, .slice A zs.length c, .slice B ys.length d]] V fun e w' => e = .returned (.tuple #[.string t, .int .i64 0]) ∧ Below V.heap.size V w')
    (hE2 : ∀ A c B d V, Rl sv V A c zs → Rl nv V B d ys → Calls Try.prog 13 #[.agg #[.bool lf, .slice A zs.length c, .slice B ys.length d]] V fun e w' => e = .returned (.tuple #[.string t, .bool true]) ∧ Below V.heap.size V w')
    (hD1 : ∀ V, Calls Try.prog 15 #[.string ⟨S.toArray⟩] V fun e w' => ∃ A' c' B' d', e = .returned (.tuple #[.agg #[.bool l2, .slice A' K2.length c', .slice B' D2.length d'], .int .i64 2]) ∧ Rl sv w' A' c' K2 ∧ Rl nv w' B' d' D2 ∧ Below V.heap.size V w')
    (hD2 : ∀ V, Calls Try.prog 16 #[.string ⟨S.toArray⟩] V fun e w' => ∃ A' c' B' d', e = .returned (.tuple #[.agg #[.bool l2, .slice A' K2.length c', .slice B' D2.length d'], .bool false]) ∧ Rl sv w' A' c' K2 ∧ Rl nv w' B' d' D2 ∧ Below V.heap.size V w') :
    Calls Try.prog 3 #[.agg #[.bool lf, .slice A ks.length c, .slice B ds.length d], .string ⟨S.toArray⟩] w fun e w' => e = .returned (.bool true) ∧ Below w.heap.size w w' := by
  obtain ⟨W, hW⟩ : ∃ W : World, W = w.alloc (.cells #[.bool lf, .slice A ks.length c, .slice B ds.length d] 25) := ⟨_, rfl⟩
  have RN := Lib.hid (show W.heap[w.heap.size]? = some (.cells #[.bool lf, .slice A ks.length c, .slice B ds.length d] 25 (0, 0)) by rw [hW]; exact heap_alloc_new _ _)
  have KN := Lib.hid (show Below w.heap.size w W by rw [hW]; exact bda _ _)
  have HW := Lib.hid hW
  have H1 := Lib.hid (And.intro h h2)
  have EN1 := Lib.hid hE1
  have EN2 := Lib.hid hE2
  have DE1 := Lib.hid hD1
  have DE2 := Lib.hid hD2
  have L2 := Lib.hid l2_
  obtain ⟨rb, hrb⟩ : ∃ b, rightB lf zs ys = b := ⟨_, rfl⟩
  obtain ⟨SN, hSN⟩ : ∃ b, sizeN zs ys = b := ⟨_, rfl⟩
  have lz : zs.length ≤ 12 := by rw [← hz, List.length_take]; omega
  have ly : ys.length ≤ 13 := by rw [← hy, List.length_take]; omega
  have RGx := fun (A : Option Addr) (c : Nat) (B : Option Addr) (d : Nat) V (h1 : Rl sv V A c zs) (h3 : Rl nv V B d ys) => right_any lf A c zs B d ys V h1 h3 (by omega) (by omega) hsz
  have RGy := fun (A : Option Addr) (c : Nat) (B : Option Addr) (d : Nat) V (h1 : Rl sv V A c zs) (h3 : Rl nv V B d ys) => rright_any lf A c zs B d ys V h1 h3 (by omega) (by omega) hsz
  rw [hrb] at RGx RGy
  have SZx := fun (A : Option Addr) (c : Nat) (B : Option Addr) (d : Nat) V (h1 : Rl sv V A c zs) => size_any lf A c zs B d ys V h1 (by omega) hsz
  have SZy := fun (A : Option Addr) (c : Nat) (B : Option Addr) (d : Nat) V (h1 : Rl sv V A c zs) => rsize_any lf A c zs B d ys V h1 (by omega) hsz
  rw [hSN] at SZx SZy
  have G1 := Lib.hid RGx
  have G2 := Lib.hid RGy
  have S1 := Lib.hid SZx
  have S2 := Lib.hid SZy
  have HZ := Lib.hid (And.intro hz hy)
  clear hW h h2 hE1 hE2 hD1 hD2 l2_ hrb hSN lz ly RGx RGy SZx SZy hsz hz hy
  go_enter Try.func3, Try.ntmps3
  go_wp2_with fail
  rw [← HW.out]
  clear HW
  refine (examples_any _).mono ?_
  rintro e w1 ⟨rfl, hb⟩
  have RNx := Lib.hid (row_on RN.out hb)
  have KNx := Lib.hid (KN.out.trans (hb.mono KN.out.size))
  clear RN KN
  have RN := RNx
  have KN := KNx
  clear RNx KNx
  clear hb
  have f0 := row_c RN.out (i := 0) rfl
  have f1 := row_c RN.out (i := 1) rfl
  have f2 := row_c RN.out (i := 2) rfl
  go_wp2_with fail
  refine (few_any lf A c ks B d ds _ (H1.out.1.below KN.out) (H1.out.2.below KN.out)).mono ?_
  rw [HZ.out.1, HZ.out.2]
  rintro e w2 ⟨An, cn, Bn, dn, rfl, g1, g2, hb⟩
  have RNx := Lib.hid (row_on RN.out hb)
  have KNx := Lib.hid (KN.out.trans (hb.mono KN.out.size))
  clear RN KN
  have RN := RNx
  have KN := KNx
  clear RNx KNx
  have VF := Lib.hid (And.intro g1 g2)
  clear hb g1 g2 f0 f1 f2 H1
  have p0 := row_c RN.out (i := 0) rfl
  have p1 := row_c RN.out (i := 1) rfl
  have p2 := row_c RN.out (i := 2) rfl
  have y0 := frozen_of_row _ _ 0 _ _ RN.out
  have y1 := frozen_of_row _ _ 1 _ _ RN.out
  have y2 := frozen_of_row _ _ 2 _ _ RN.out
  obtain ⟨V1, hV⟩ : ∃ V : World, V = ((w2.setCell ⟨w.heap.size, 0, none⟩ (.bool lf)).setCell ⟨w.heap.size, 1, none⟩ (.slice An zs.length cn)).setCell ⟨w.heap.size, 2, none⟩ (.slice Bn ys.length dn) := ⟨_, rfl⟩
  have RNx := Lib.hid (show V1.heap[w.heap.size]? = some (.cells #[.bool lf, .slice An zs.length cn, .slice Bn ys.length dn] 25 (0, 0)) by rw [hV]; have := row_set (i := 2) (row_set (i := 1) (row_set (i := 0) RN.out (.bool lf)) (.slice An zs.length cn)) (.slice Bn ys.length dn); simpa using this)
  have VRN := Lib.hid (show Rl sv V1 An cn zs ∧ Rl nv V1 Bn dn ys by rw [hV]; exact ⟨rl_off3 VF.out.1 RN.out (fun z i h => off_s h) _ _ _, rl_off3 VF.out.2 RN.out (fun z i h => off_n h) _ _ _⟩)
  have KNx := Lib.hid (show Below w.heap.size w V1 by rw [hV]; exact ((KN.out.setCell (by simp) _).setCell (by simp) _).setCell (by simp) _)
  have HV := Lib.hid hV
  clear hV VF KN RN
  have RN := RNx
  have KN := KNx
  clear RNx KNx
  go_upto_region 5 with (fail)
  rw [← HV.out]
  clear HV p0 p1 p2 y0 y1 y2
  have f0 := row_c RN.out (i := 0) rfl
  have f1 := row_c RN.out (i := 1) rfl
  have f2 := row_c RN.out (i := 2) rfl
  go_wp2_with fail
  refine (EN1.out An cn Bn dn _ VRN.out.1 VRN.out.2).mono ?_
  rintro e w4 ⟨rfl, hb⟩
  have RNx := Lib.hid (row_on RN.out hb)
  have VRNx := Lib.hid (And.intro (VRN.out.1.below hb) (VRN.out.2.below hb))
  have KNx := Lib.hid (KN.out.trans (hb.mono KN.out.size))
  clear RN VRN KN
  have RN := RNx
  have VRN := VRNx
  have KN := KNx
  clear RNx VRNx KNx
  clear hb f0 f1 f2
  have f0 := row_c RN.out (i := 0) rfl
  have f1 := row_c RN.out (i := 1) rfl
  have f2 := row_c RN.out (i := 2) rfl
  go_wp2_with fail
  refine (ref_any lf An cn zs Bn dn ys _ VRN.out.1 VRN.out.2).mono ?_
  rintro e w5 ⟨rfl, hb⟩
  have RNx := Lib.hid (row_on RN.out hb)
  have VRNx := Lib.hid (And.intro (VRN.out.1.below hb) (VRN.out.2.below hb))
  have KNx := Lib.hid (KN.out.trans (hb.mono KN.out.size))
  clear RN VRN KN
  have RN := RNx
  have VRN := VRNx
  have KN := KNx
  clear RNx VRNx KNx
  clear hb f0 f1 f2
  go_wp2_with fail
  refine (EN2.out An cn Bn dn _ VRN.out.1 VRN.out.2).mono ?_
  rintro e w6 ⟨rfl, hb⟩
  have RNx := Lib.hid (row_on RN.out hb)
  have VRNx := Lib.hid (And.intro (VRN.out.1.below hb) (VRN.out.2.below hb))
  have KNx := Lib.hid (KN.out.trans (hb.mono KN.out.size))
  clear RN VRN KN
  have RN := RNx
  have VRN := VRNx
  have KN := KNx
  clear RNx VRNx KNx
  clear hb
  go_wp2_with fail
  refine (DE1.out _).mono ?_
  rintro e w7 ⟨A5, c5, B5, d5, rfl, g1, g2, hb⟩
  have RNx := Lib.hid (row_on RN.out hb)
  have VRNx := Lib.hid (And.intro (VRN.out.1.below hb) (VRN.out.2.below hb))
  have KNx := Lib.hid (KN.out.trans (hb.mono KN.out.size))
  clear RN VRN KN
  have RN := RNx
  have VRN := VRNx
  have KN := KNx
  clear RNx VRNx KNx
  have VD := Lib.hid (And.intro g1 g2)
  clear hb g1 g2
  go_upto_region 8 with (fail)
  obtain ⟨V7, hV⟩ : ∃ V : World, V = w7.alloc (.cells #[.bool l2, .slice A5 K2.length c5, .slice B5 D2.length d5] 25) := ⟨_, rfl⟩
  obtain ⟨g7, hg7⟩ : ∃ g : Nat, w7.heap.size = g := ⟨_, rfl⟩
  have RD := Lib.hid (show V7.heap[g7]? = some (.cells #[.bool l2, .slice A5 K2.length c5, .slice B5 D2.length d5] 25 (0, 0)) by rw [← hg7, hV]; exact heap_alloc_new _ _)
  have BV := Lib.hid (show Below w7.heap.size w7 V7 by rw [hV]; exact bda _ _)
  have RNx := Lib.hid (row_on RN.out BV.out)
  have VRNx := Lib.hid (And.intro (VRN.out.1.below BV.out) (VRN.out.2.below BV.out))
  have VDx := Lib.hid (And.intro (VD.out.1.below BV.out) (VD.out.2.below BV.out))
  have KNx := Lib.hid (KN.out.trans (BV.out.mono KN.out.size))
  clear RN VRN VD KN
  have RN := RNx
  have VRN := VRNx
  have VD := VDx
  have KN := KNx
  clear RNx VRNx VDx KNx
  rw [← hV]
  clear hV BV
  go_wp2_with fail
  refine (DE2.out _).mono ?_
  rintro e w8 ⟨A6, c6, B6, d6, rfl, g1, g2, hb⟩
  have RNx := Lib.hid (row_on RN.out hb)
  have RDx := Lib.hid (row_on RD.out hb)
  have VRNx := Lib.hid (And.intro (VRN.out.1.below hb) (VRN.out.2.below hb))
  have VDx := Lib.hid (And.intro (VD.out.1.below hb) (VD.out.2.below hb))
  have KNx := Lib.hid (KN.out.trans (hb.mono KN.out.size))
  clear RN RD VRN VD KN
  have RN := RNx
  have RD := RDx
  have VRN := VRNx
  have VD := VDx
  have KN := KNx
  clear RNx RDx VRNx VDx KNx
  have VE := Lib.hid (And.intro g1 g2)
  clear hb g1 g2
  go_upto_region 9 with (fail)
  obtain ⟨V8, hV⟩ : ∃ V : World, V = w8.alloc (.cells #[.bool l2, .slice A6 K2.length c6, .slice B6 D2.length d6] 33) := ⟨_, rfl⟩
  obtain ⟨g8, hg8⟩ : ∃ g : Nat, w8.heap.size = g := ⟨_, rfl⟩
  have RE := Lib.hid (show V8.heap[g8]? = some (.cells #[.bool l2, .slice A6 K2.length c6, .slice B6 D2.length d6] 33 (0, 0)) by rw [← hg8, hV]; exact heap_alloc_new _ _)
  have BV := Lib.hid (show Below w8.heap.size w8 V8 by rw [hV]; exact bda _ _)
  have RNx := Lib.hid (row_on RN.out BV.out)
  have RDx := Lib.hid (row_on RD.out BV.out)
  have VRNx := Lib.hid (And.intro (VRN.out.1.below BV.out) (VRN.out.2.below BV.out))
  have VDx := Lib.hid (And.intro (VD.out.1.below BV.out) (VD.out.2.below BV.out))
  have VEx := Lib.hid (And.intro (VE.out.1.below BV.out) (VE.out.2.below BV.out))
  have KNx := Lib.hid (KN.out.trans (BV.out.mono KN.out.size))
  clear RN RD VRN VD VE KN
  have RN := RNx
  have RD := RDx
  have VRN := VRNx
  have VD := VDx
  have VE := VEx
  have KN := KNx
  clear RNx RDx VRNx VDx VEx KNx
  rw [← hV]
  clear hV BV
  have f0 := row_c RD.out (i := 0) rfl
  have f1 := row_c RD.out (i := 1) rfl
  have f2 := row_c RD.out (i := 2) rfl
  have k0 := row_c RE.out (i := 0) rfl
  have k1 := row_c RE.out (i := 1) rfl
  have k2 := row_c RE.out (i := 2) rfl
  try rw [hg7]
  try rw [hg8]
  go_wp2_with fail
  refine (nodes_any l2 _ _ _ _ _ _ _ _ K2 D2 _ VD.out.1 VD.out.2 VE.out.1 VE.out.2 L2.out.1 L2.out.2).mono ?_
  rintro e w9 ⟨rfl, hb⟩
  have RNx := Lib.hid (row_on RN.out hb)
  have RDx := Lib.hid (row_on RD.out hb)
  have REx := Lib.hid (row_on RE.out hb)
  have VRNx := Lib.hid (And.intro (VRN.out.1.below hb) (VRN.out.2.below hb))
  have VDx := Lib.hid (And.intro (VD.out.1.below hb) (VD.out.2.below hb))
  have VEx := Lib.hid (And.intro (VE.out.1.below hb) (VE.out.2.below hb))
  have KNx := Lib.hid (KN.out.trans (hb.mono KN.out.size))
  clear RN RD RE VRN VD VE KN
  have RN := RNx
  have RD := RDx
  have RE := REx
  have VRN := VRNx
  have VD := VDx
  have VE := VEx
  have KN := KNx
  clear RNx RDx REx VRNx VDx VEx KNx
  clear hb f0 f1 f2 k0 k1 k2
  go_upto_region 10 with (fail)
  have RG := Lib.hid (fun V h1 h3 => G1.out An cn Bn dn V h1 h3)
  have RG2 := Lib.hid (fun V h1 h3 => G2.out An cn Bn dn V h1 h3)
  have SZ1 := Lib.hid (fun V h1 => S1.out An cn Bn dn V h1)
  have SZ2 := Lib.hid (fun V h1 => S2.out An cn Bn dn V h1)
  have FN := Lib.hid (fun x (K : Below w9.heap.size w9 x) => And.intro (row_c (row_on RN.out K) (i := 0) rfl) (And.intro (row_c (row_on RN.out K) (i := 1) rfl) (row_c (row_on RN.out K) (i := 2) rfl)))
  refine wp_operands (W := w9) rfl 55 [44, 45, 46, 47, 48, 49, 50, 51, 52, 53, 54, 55, 56, 57, 58, 59, 60, 61, 62, 63, 64, 65, 66, 67, 68, 69, 70, 71, 72, 73, 74, 75, 76, 77, 78, 79, 80, 81, 82, 83, 84, 85, 86, 87, 88, 89, 90, 91, 92, 93, 94, 95, 96, 97, 98] (fun i u x => match i with | 0 => u = .bool true | 1 => u = .bool true | 2 => u = .string t | 3 => u = .string t | 4 => u = .bool true | 5 => u = .bool true | 6 => u = .bool true | 7 => u = .bool true | 8 => u = .bool true | 9 => u = .int .i64 0 | 10 => u = .bool true | 11 => u = .bool true | 12 => u = .bool true | 13 => u = undef | 14 => u = undef | 15 => u = undef | 16 => u = undef | 17 => u = undef | 18 => u = undef | 19 => u = .bool true | 20 => u = .bool true | 21 => u = .bool true | 22 => u = .bool true | 23 => u = .bool true | 24 => u = .bool true | 25 => u = .bool false | 26 => u = .bool false | 27 => u = undef | 28 => u = undef | 29 => u = .bool false | 30 => u = .bool false | 31 => u = .bool false | 32 => u = .bool true | 33 => u = .bool true | 34 => u = .int .i64 2 | 35 => u = .bool true | 36 => u = .bool true | 37 => u = .bool true | 38 => u = .bool true | 39 => u = .bool true | 40 => u = .agg #[.bool lf, .slice An zs.length cn, .slice Bn ys.length dn] | 41 => u = .bool rb | 42 => u = .agg #[.bool lf, .slice An zs.length cn, .slice Bn ys.length dn] | 43 => u = .agg #[.bool lf, .slice An zs.length cn, .slice Bn ys.length dn] | 44 => u = .bool rb | 45 => u = .bool true | 46 => u = .bool true | 47 => u = .bool true | 48 => u = .agg #[.bool lf, .slice An zs.length cn, .slice Bn ys.length dn] | 49 => u = .int .i64 (SN : Int) | 50 => u = .agg #[.bool lf, .slice An zs.length cn, .slice Bn ys.length dn] | 51 => u = .agg #[.bool lf, .slice An zs.length cn, .slice Bn ys.length dn] | 52 => u = .int .i64 (SN : Int) | 53 => u = .bool true | 54 => u = .bool true | _ => True) (fun _ => false)
    (by decide) rfl (by kernel_rfl) (by kernel_rfl) (by decide) (by kernel_rfl) ?_ (fun _ _ _ h => by cases h) ?_ ?_
  · intro i u x x' hi hR hb'
    have hi' : i = 0 ∨ i = 1 ∨ i = 2 ∨ i = 3 ∨ i = 4 ∨ i = 5 ∨ i = 6 ∨ i = 7 ∨ i = 8 ∨ i = 9 ∨ i = 10 ∨ i = 11 ∨ i = 12 ∨ i = 13 ∨ i = 14 ∨ i = 15 ∨ i = 16 ∨ i = 17 ∨ i = 18 ∨ i = 19 ∨ i = 20 ∨ i = 21 ∨ i = 22 ∨ i = 23 ∨ i = 24 ∨ i = 25 ∨ i = 26 ∨ i = 27 ∨ i = 28 ∨ i = 29 ∨ i = 30 ∨ i = 31 ∨ i = 32 ∨ i = 33 ∨ i = 34 ∨ i = 35 ∨ i = 36 ∨ i = 37 ∨ i = 38 ∨ i = 39 ∨ i = 40 ∨ i = 41 ∨ i = 42 ∨ i = 43 ∨ i = 44 ∨ i = 45 ∨ i = 46 ∨ i = 47 ∨ i = 48 ∨ i = 49 ∨ i = 50 ∨ i = 51 ∨ i = 52 ∨ i = 53 ∨ i = 54 := by omega
    rcases hi' with rfl | rfl | rfl | rfl | rfl | rfl | rfl | rfl | rfl | rfl | rfl | rfl | rfl | rfl | rfl | rfl | rfl | rfl | rfl | rfl | rfl | rfl | rfl | rfl | rfl | rfl | rfl | rfl | rfl | rfl | rfl | rfl | rfl | rfl | rfl | rfl | rfl | rfl | rfl | rfl | rfl | rfl | rfl | rfl | rfl | rfl | rfl | rfl | rfl | rfl | rfl | rfl | rfl | rfl | rfl
    all_goals exact hR
  · intro i av x K hi hF hb hw hK
    have hi' : i = 0 ∨ i = 1 ∨ i = 2 ∨ i = 3 ∨ i = 4 ∨ i = 5 ∨ i = 6 ∨ i = 7 ∨ i = 8 ∨ i = 9 ∨ i = 10 ∨ i = 11 ∨ i = 12 ∨ i = 13 ∨ i = 14 ∨ i = 15 ∨ i = 16 ∨ i = 17 ∨ i = 18 ∨ i = 19 ∨ i = 20 ∨ i = 21 ∨ i = 22 ∨ i = 23 ∨ i = 24 ∨ i = 25 ∨ i = 26 ∨ i = 27 ∨ i = 28 ∨ i = 29 ∨ i = 30 ∨ i = 31 ∨ i = 32 ∨ i = 33 ∨ i = 34 ∨ i = 35 ∨ i = 36 ∨ i = 37 ∨ i = 38 ∨ i = 39 ∨ i = 40 ∨ i = 41 ∨ i = 42 ∨ i = 43 ∨ i = 44 ∨ i = 45 ∨ i = 46 ∨ i = 47 ∨ i = 48 ∨ i = 49 ∨ i = 50 ∨ i = 51 ∨ i = 52 ∨ i = 53 ∨ i = 54 := by omega
    rcases hi' with rfl | rfl | rfl | rfl | rfl | rfl | rfl | rfl | rfl | rfl | rfl | rfl | rfl | rfl | rfl | rfl | rfl | rfl | rfl | rfl | rfl | rfl | rfl | rfl | rfl | rfl | rfl | rfl | rfl | rfl | rfl | rfl | rfl | rfl | rfl | rfl | rfl | rfl | rfl | rfl | rfl | rfl | rfl | rfl | rfl | rfl | rfl | rfl | rfl | rfl | rfl | rfl | rfl | rfl | rfl
    · simp only [wpOp, List.getElem?_toArray, List.getElem?_cons_zero, Region.wanted, if_true]
      refine Or.inl ?_
      have e0 : av.eval (.tmp 5) = .bool true := hF.2.2 5 (by decide)
      clear hw hF
      simp only [Oper.wp, execOp]
      rw [e0]
      go_simp
      exact hK _ x (by first | rfl | simp) (Below.refl _ _) (fun h => by cases h)
    · simp only [wpOp, List.getElem?_toArray, List.getElem?_cons_succ, List.getElem?_cons_zero, Region.wanted, if_true]
      refine Or.inl ?_
      have e0 : av.tmps.getD 44 undef = .bool true := hw 0 (by kernel_rfl)
      clear hw hF
      simp only [Oper.wp, execOp]
      go_simp
      exact hK _ x (by first | rfl | simp) (Below.refl _ _) (fun h => by cases h)
    · simp only [wpOp, List.getElem?_toArray, List.getElem?_cons_succ, List.getElem?_cons_zero]
      have eg : av.tmps.getD 45 undef = .bool true := hw 1 (by kernel_rfl)
      refine ite_yes (wanted_yes rfl (yielded_of (t := 45) (by kernel_rfl) eg)) ?_
      clear eg
      refine Or.inl ?_
      have e0 : av.eval (.tmp 6) = .string t := hF.2.2 6 (by decide)
      clear hw hF
      simp only [Oper.wp, execOp]
      rw [e0]
      go_simp
      exact hK _ x (by first | rfl | simp) (Below.refl _ _) (fun h => by cases h)
    · simp only [wpOp, List.getElem?_toArray, List.getElem?_cons_succ, List.getElem?_cons_zero]
      have eg : av.tmps.getD 45 undef = .bool true := hw 1 (by kernel_rfl)
      refine ite_yes (wanted_yes rfl (yielded_of (t := 45) (by kernel_rfl) eg)) ?_
      clear eg
      refine Or.inl ?_
      have e0 : av.eval (.tmp 8) = .string t := hF.2.2 8 (by decide)
      clear hw hF
      simp only [Oper.wp, execOp]
      rw [e0]
      go_simp
      exact hK _ x (by first | rfl | simp) (Below.refl _ _) (fun h => by cases h)
    · simp only [wpOp, List.getElem?_toArray, List.getElem?_cons_succ, List.getElem?_cons_zero]
      have eg : av.tmps.getD 45 undef = .bool true := hw 1 (by kernel_rfl)
      refine ite_yes (wanted_yes rfl (yielded_of (t := 45) (by kernel_rfl) eg)) ?_
      clear eg
      refine Or.inl ?_
      have e0 : av.tmps.getD 46 undef = .string t := hw 2 (by kernel_rfl)
      have e1 : av.tmps.getD 47 undef = .string t := hw 3 (by kernel_rfl)
      clear hw hF
      simp only [Oper.wp, execOp]
      go_simp
      exact hK _ x (by first | rfl | simp) (Below.refl _ _) (fun h => by cases h)
    · simp only [wpOp, List.getElem?_toArray, List.getElem?_cons_succ, List.getElem?_cons_zero, Region.wanted, if_true]
      refine Or.inl ?_
      have e0 : av.tmps.getD 45 undef = .bool true := hw 1 (by kernel_rfl)
      have e1 : av.tmps.getD 48 undef = .bool true := hw 4 (by kernel_rfl)
      clear hw hF
      simp only [Oper.wp, execOp]
      go_simp
      exact hK _ x (by first | rfl | simp) (Below.refl _ _) (fun h => by cases h)
    · simp only [wpOp, List.getElem?_toArray, List.getElem?_cons_succ, List.getElem?_cons_zero, Region.wanted, if_true]
      refine Or.inl ?_
      have e0 : av.tmps.getD 49 undef = .bool true := hw 5 (by kernel_rfl)
      clear hw hF
      simp only [Oper.wp, execOp]
      go_simp
      exact hK _ x (by first | rfl | simp) (Below.refl _ _) (fun h => by cases h)
    · simp only [wpOp, List.getElem?_toArray, List.getElem?_cons_succ, List.getElem?_cons_zero]
      have eg : av.tmps.getD 50 undef = .bool true := hw 6 (by kernel_rfl)
      refine ite_yes (wanted_yes rfl (yielded_of (t := 50) (by kernel_rfl) eg)) ?_
      clear eg
      refine Or.inl ?_
      have e0 : av.eval (.tmp 9) = .bool true := hF.2.2 9 (by decide)
      clear hw hF
      simp only [Oper.wp, execOp]
      rw [e0]
      go_simp
      exact hK _ x (by first | rfl | simp) (Below.refl _ _) (fun h => by cases h)
    · simp only [wpOp, List.getElem?_toArray, List.getElem?_cons_succ, List.getElem?_cons_zero]
      have eg : av.tmps.getD 50 undef = .bool true := hw 6 (by kernel_rfl)
      refine ite_yes (wanted_yes rfl (yielded_of (t := 50) (by kernel_rfl) eg)) ?_
      clear eg
      refine Or.inl ?_
      have e0 : av.tmps.getD 51 undef = .bool true := hw 7 (by kernel_rfl)
      clear hw hF
      simp only [Oper.wp, execOp]
      go_simp
      exact hK _ x (by first | rfl | simp) (Below.refl _ _) (fun h => by cases h)
    · simp only [wpOp, List.getElem?_toArray, List.getElem?_cons_succ, List.getElem?_cons_zero]
      have eg : av.tmps.getD 52 undef = .bool true := hw 8 (by kernel_rfl)
      refine ite_yes (wanted_yes rfl (yielded_of (t := 52) (by kernel_rfl) eg)) ?_
      clear eg
      refine Or.inl ?_
      have e0 : av.eval (.tmp 7) = .int .i64 0 := hF.2.2 7 (by decide)
      clear hw hF
      simp only [Oper.wp, execOp]
      rw [e0]
      go_simp
      exact hK _ x (by first | rfl | simp) (Below.refl _ _) (fun h => by cases h)
    · simp only [wpOp, List.getElem?_toArray, List.getElem?_cons_succ, List.getElem?_cons_zero]
      have eg : av.tmps.getD 52 undef = .bool true := hw 8 (by kernel_rfl)
      refine ite_yes (wanted_yes rfl (yielded_of (t := 52) (by kernel_rfl) eg)) ?_
      clear eg
      refine Or.inl ?_
      have e0 : av.tmps.getD 53 undef = .int .i64 0 := hw 9 (by kernel_rfl)
      clear hw hF
      simp only [Oper.wp, execOp]
      go_simp
      exact hK _ x (by first | rfl | simp) (Below.refl _ _) (fun h => by cases h)
    · simp only [wpOp, List.getElem?_toArray, List.getElem?_cons_succ, List.getElem?_cons_zero]
      have eg : av.tmps.getD 50 undef = .bool true := hw 6 (by kernel_rfl)
      refine ite_yes (wanted_yes rfl (yielded_of (t := 50) (by kernel_rfl) eg)) ?_
      clear eg
      refine Or.inl ?_
      have e0 : av.tmps.getD 52 undef = .bool true := hw 8 (by kernel_rfl)
      have e1 : av.tmps.getD 54 undef = .bool true := hw 10 (by kernel_rfl)
      clear hw hF
      simp only [Oper.wp, execOp]
      go_simp
      exact hK _ x (by first | rfl | simp) (Below.refl _ _) (fun h => by cases h)
    · simp only [wpOp, List.getElem?_toArray, List.getElem?_cons_succ, List.getElem?_cons_zero]
      have eg : av.tmps.getD 50 undef = .bool true := hw 6 (by kernel_rfl)
      refine ite_yes (wanted_yes rfl (yielded_of (t := 50) (by kernel_rfl) eg)) ?_
      clear eg
      refine Or.inl ?_
      have e0 : av.tmps.getD 55 undef = .bool true := hw 11 (by kernel_rfl)
      clear hw hF
      simp only [Oper.wp, execOp]
      go_simp
      exact hK _ x (by first | rfl | simp) (Below.refl _ _) (fun h => by cases h)
    · simp only [wpOp, List.getElem?_toArray, List.getElem?_cons_succ, List.getElem?_cons_zero]
      have eg : av.tmps.getD 56 undef = .bool true := hw 12 (by kernel_rfl)
      refine ite_not (wanted_not rfl (yielded_of (t := 56) (by kernel_rfl) eg)) ?_
      exact hK _ x rfl (Below.refl _ _) (fun h => by cases h)
    · simp only [wpOp, List.getElem?_toArray, List.getElem?_cons_succ, List.getElem?_cons_zero]
      have eg : av.tmps.getD 56 undef = .bool true := hw 12 (by kernel_rfl)
      refine ite_not (wanted_not rfl (yielded_of (t := 56) (by kernel_rfl) eg)) ?_
      exact hK _ x rfl (Below.refl _ _) (fun h => by cases h)
    · simp only [wpOp, List.getElem?_toArray, List.getElem?_cons_succ, List.getElem?_cons_zero]
      have eg : av.tmps.getD 56 undef = .bool true := hw 12 (by kernel_rfl)
      refine ite_not (wanted_not rfl (yielded_of (t := 56) (by kernel_rfl) eg)) ?_
      exact hK _ x rfl (Below.refl _ _) (fun h => by cases h)
    · simp only [wpOp, List.getElem?_toArray, List.getElem?_cons_succ, List.getElem?_cons_zero]
      have eg : av.tmps.getD 59 undef = undef := hw 15 (by kernel_rfl)
      refine ite_not (wanted_none rfl (yielded_none (t := 59) (by kernel_rfl) eg)) ?_
      exact hK _ x rfl (Below.refl _ _) (fun h => by cases h)
    · simp only [wpOp, List.getElem?_toArray, List.getElem?_cons_succ, List.getElem?_cons_zero]
      have eg : av.tmps.getD 59 undef = undef := hw 15 (by kernel_rfl)
      refine ite_not (wanted_none rfl (yielded_none (t := 59) (by kernel_rfl) eg)) ?_
      exact hK _ x rfl (Below.refl _ _) (fun h => by cases h)
    · simp only [wpOp, List.getElem?_toArray, List.getElem?_cons_succ, List.getElem?_cons_zero]
      have eg : av.tmps.getD 56 undef = .bool true := hw 12 (by kernel_rfl)
      refine ite_not (wanted_not rfl (yielded_of (t := 56) (by kernel_rfl) eg)) ?_
      exact hK _ x rfl (Below.refl _ _) (fun h => by cases h)
    · simp only [wpOp, List.getElem?_toArray, List.getElem?_cons_succ, List.getElem?_cons_zero]
      have eg : av.tmps.getD 50 undef = .bool true := hw 6 (by kernel_rfl)
      refine ite_yes (wanted_yes rfl (yielded_of (t := 50) (by kernel_rfl) eg)) ?_
      clear eg
      refine Or.inl ?_
      have e0 : av.tmps.getD 56 undef = .bool true := hw 12 (by kernel_rfl)
      have e1 : av.tmps.getD 62 undef = undef := hw 18 (by kernel_rfl)
      clear hw hF
      simp only [Oper.wp, execOp]
      go_simp
      exact hK _ x (by first | rfl | simp) (Below.refl _ _) (fun h => by cases h)
    · simp only [wpOp, List.getElem?_toArray, List.getElem?_cons_succ, List.getElem?_cons_zero, Region.wanted, if_true]
      refine Or.inl ?_
      have e0 : av.tmps.getD 50 undef = .bool true := hw 6 (by kernel_rfl)
      have e1 : av.tmps.getD 63 undef = .bool true := hw 19 (by kernel_rfl)
      clear hw hF
      simp only [Oper.wp, execOp]
      go_simp
      exact hK _ x (by first | rfl | simp) (Below.refl _ _) (fun h => by cases h)
    · simp only [wpOp, List.getElem?_toArray, List.getElem?_cons_succ, List.getElem?_cons_zero, Region.wanted, if_true]
      refine Or.inl ?_
      have e0 : av.tmps.getD 64 undef = .bool true := hw 20 (by kernel_rfl)
      clear hw hF
      simp only [Oper.wp, execOp]
      go_simp
      exact hK _ x (by first | rfl | simp) (Below.refl _ _) (fun h => by cases h)
    · simp only [wpOp, List.getElem?_toArray, List.getElem?_cons_succ, List.getElem?_cons_zero]
      have eg : av.tmps.getD 65 undef = .bool true := hw 21 (by kernel_rfl)
      refine ite_yes (wanted_yes rfl (yielded_of (t := 65) (by kernel_rfl) eg)) ?_
      clear eg
      refine Or.inl ?_
      have e0 : av.eval (.tmp 14) = .bool true := hF.2.2 14 (by decide)
      clear hw hF
      simp only [Oper.wp, execOp]
      rw [e0]
      go_simp
      exact hK _ x (by first | rfl | simp) (Below.refl _ _) (fun h => by cases h)
    · simp only [wpOp, List.getElem?_toArray, List.getElem?_cons_succ, List.getElem?_cons_zero, Region.wanted, if_true]
      refine Or.inl ?_
      have e0 : av.tmps.getD 65 undef = .bool true := hw 21 (by kernel_rfl)
      have e1 : av.tmps.getD 66 undef = .bool true := hw 22 (by kernel_rfl)
      clear hw hF
      simp only [Oper.wp, execOp]
      go_simp
      exact hK _ x (by first | rfl | simp) (Below.refl _ _) (fun h => by cases h)
    · simp only [wpOp, List.getElem?_toArray, List.getElem?_cons_succ, List.getElem?_cons_zero, Region.wanted, if_true]
      refine Or.inl ?_
      have e0 : av.tmps.getD 67 undef = .bool true := hw 23 (by kernel_rfl)
      clear hw hF
      simp only [Oper.wp, execOp]
      go_simp
      exact hK _ x (by first | rfl | simp) (Below.refl _ _) (fun h => by cases h)
    · simp only [wpOp, List.getElem?_toArray, List.getElem?_cons_succ, List.getElem?_cons_zero]
      have eg : av.tmps.getD 68 undef = .bool true := hw 24 (by kernel_rfl)
      refine ite_yes (wanted_yes rfl (yielded_of (t := 68) (by kernel_rfl) eg)) ?_
      clear eg
      refine Or.inl ?_
      have e0 : av.eval (.tmp 13) = .bool false := hF.2.2 13 (by decide)
      clear hw hF
      simp only [Oper.wp, execOp]
      rw [e0]
      go_simp
      exact hK _ x (by first | rfl | simp) (Below.refl _ _) (fun h => by cases h)
    · simp only [wpOp, List.getElem?_toArray, List.getElem?_cons_succ, List.getElem?_cons_zero]
      have eg : av.tmps.getD 68 undef = .bool true := hw 24 (by kernel_rfl)
      refine ite_yes (wanted_yes rfl (yielded_of (t := 68) (by kernel_rfl) eg)) ?_
      clear eg
      refine Or.inl ?_
      have e0 : av.tmps.getD 69 undef = .bool false := hw 25 (by kernel_rfl)
      clear hw hF
      simp only [Oper.wp, execOp]
      go_simp
      exact hK _ x (by first | rfl | simp) (Below.refl _ _) (fun h => by cases h)
    · simp only [wpOp, List.getElem?_toArray, List.getElem?_cons_succ, List.getElem?_cons_zero]
      have eg : av.tmps.getD 70 undef = .bool false := hw 26 (by kernel_rfl)
      refine ite_not (wanted_not rfl (yielded_of (t := 70) (by kernel_rfl) eg)) ?_
      exact hK _ x rfl (Below.refl _ _) (fun h => by cases h)
    · simp only [wpOp, List.getElem?_toArray, List.getElem?_cons_succ, List.getElem?_cons_zero]
      have eg : av.tmps.getD 70 undef = .bool false := hw 26 (by kernel_rfl)
      refine ite_not (wanted_not rfl (yielded_of (t := 70) (by kernel_rfl) eg)) ?_
      exact hK _ x rfl (Below.refl _ _) (fun h => by cases h)
    · simp only [wpOp, List.getElem?_toArray, List.getElem?_cons_succ, List.getElem?_cons_zero]
      have eg : av.tmps.getD 68 undef = .bool true := hw 24 (by kernel_rfl)
      refine ite_yes (wanted_yes rfl (yielded_of (t := 68) (by kernel_rfl) eg)) ?_
      clear eg
      refine Or.inl ?_
      have e0 : av.tmps.getD 70 undef = .bool false := hw 26 (by kernel_rfl)
      have e1 : av.tmps.getD 72 undef = undef := hw 28 (by kernel_rfl)
      clear hw hF
      simp only [Oper.wp, execOp]
      go_simp
      exact hK _ x (by first | rfl | simp) (Below.refl _ _) (fun h => by cases h)
    · simp only [wpOp, List.getElem?_toArray, List.getElem?_cons_succ, List.getElem?_cons_zero]
      have eg : av.tmps.getD 68 undef = .bool true := hw 24 (by kernel_rfl)
      refine ite_yes (wanted_yes rfl (yielded_of (t := 68) (by kernel_rfl) eg)) ?_
      clear eg
      refine Or.inl ?_
      have e0 : av.tmps.getD 73 undef = .bool false := hw 29 (by kernel_rfl)
      clear hw hF
      simp only [Oper.wp, execOp]
      go_simp
      exact hK _ x (by first | rfl | simp) (Below.refl _ _) (fun h => by cases h)
    · simp only [wpOp, List.getElem?_toArray, List.getElem?_cons_succ, List.getElem?_cons_zero]
      have eg : av.tmps.getD 74 undef = .bool false := hw 30 (by kernel_rfl)
      refine ite_yes (wanted_yes rfl (yielded_of (t := 74) (by kernel_rfl) eg)) ?_
      clear eg
      refine Or.inl ?_
      have e0 : av.eval (.tmp 13) = .bool false := hF.2.2 13 (by decide)
      clear hw hF
      simp only [Oper.wp, execOp]
      rw [e0]
      go_simp
      exact hK _ x (by first | rfl | simp) (Below.refl _ _) (fun h => by cases h)
    · simp only [wpOp, List.getElem?_toArray, List.getElem?_cons_succ, List.getElem?_cons_zero]
      have eg : av.tmps.getD 74 undef = .bool false := hw 30 (by kernel_rfl)
      refine ite_yes (wanted_yes rfl (yielded_of (t := 74) (by kernel_rfl) eg)) ?_
      clear eg
      refine Or.inl ?_
      have e0 : av.tmps.getD 75 undef = .bool false := hw 31 (by kernel_rfl)
      clear hw hF
      simp only [Oper.wp, execOp]
      go_simp
      exact hK _ x (by first | rfl | simp) (Below.refl _ _) (fun h => by cases h)
    · simp only [wpOp, List.getElem?_toArray, List.getElem?_cons_succ, List.getElem?_cons_zero]
      have eg : av.tmps.getD 74 undef = .bool false := hw 30 (by kernel_rfl)
      refine ite_yes (wanted_yes rfl (yielded_of (t := 74) (by kernel_rfl) eg)) ?_
      clear eg
      refine Or.inl ?_
      have e0 : av.tmps.getD 76 undef = .bool true := hw 32 (by kernel_rfl)
      clear hw hF
      simp only [Oper.wp, execOp]
      go_simp
      exact hK _ x (by first | rfl | simp) (Below.refl _ _) (fun h => by cases h)
    · simp only [wpOp, List.getElem?_toArray, List.getElem?_cons_succ, List.getElem?_cons_zero]
      have eg : av.tmps.getD 77 undef = .bool true := hw 33 (by kernel_rfl)
      refine ite_yes (wanted_yes rfl (yielded_of (t := 77) (by kernel_rfl) eg)) ?_
      clear eg
      refine Or.inl ?_
      have e0 : av.eval (.tmp 11) = .int .i64 2 := hF.2.2 11 (by decide)
      clear hw hF
      simp only [Oper.wp, execOp]
      rw [e0]
      go_simp
      exact hK _ x (by first | rfl | simp) (Below.refl _ _) (fun h => by cases h)
    · simp only [wpOp, List.getElem?_toArray, List.getElem?_cons_succ, List.getElem?_cons_zero]
      have eg : av.tmps.getD 77 undef = .bool true := hw 33 (by kernel_rfl)
      refine ite_yes (wanted_yes rfl (yielded_of (t := 77) (by kernel_rfl) eg)) ?_
      clear eg
      refine Or.inl ?_
      have e0 : av.tmps.getD 78 undef = .int .i64 2 := hw 34 (by kernel_rfl)
      clear hw hF
      simp only [Oper.wp, execOp]
      go_simp
      exact hK _ x (by first | rfl | simp) (Below.refl _ _) (fun h => by cases h)
    · simp only [wpOp, List.getElem?_toArray, List.getElem?_cons_succ, List.getElem?_cons_zero]
      have eg : av.tmps.getD 74 undef = .bool false := hw 30 (by kernel_rfl)
      refine ite_yes (wanted_yes rfl (yielded_of (t := 74) (by kernel_rfl) eg)) ?_
      clear eg
      refine Or.inl ?_
      have e0 : av.tmps.getD 77 undef = .bool true := hw 33 (by kernel_rfl)
      have e1 : av.tmps.getD 79 undef = .bool true := hw 35 (by kernel_rfl)
      clear hw hF
      simp only [Oper.wp, execOp]
      go_simp
      exact hK _ x (by first | rfl | simp) (Below.refl _ _) (fun h => by cases h)
    · simp only [wpOp, List.getElem?_toArray, List.getElem?_cons_succ, List.getElem?_cons_zero]
      have eg : av.tmps.getD 68 undef = .bool true := hw 24 (by kernel_rfl)
      refine ite_yes (wanted_yes rfl (yielded_of (t := 68) (by kernel_rfl) eg)) ?_
      clear eg
      refine Or.inl ?_
      have e0 : av.tmps.getD 74 undef = .bool false := hw 30 (by kernel_rfl)
      have e1 : av.tmps.getD 80 undef = .bool true := hw 36 (by kernel_rfl)
      clear hw hF
      simp only [Oper.wp, execOp]
      go_simp
      exact hK _ x (by first | rfl | simp) (Below.refl _ _) (fun h => by cases h)
    · simp only [wpOp, List.getElem?_toArray, List.getElem?_cons_succ, List.getElem?_cons_zero, Region.wanted, if_true]
      refine Or.inl ?_
      have e0 : av.tmps.getD 68 undef = .bool true := hw 24 (by kernel_rfl)
      have e1 : av.tmps.getD 81 undef = .bool true := hw 37 (by kernel_rfl)
      clear hw hF
      simp only [Oper.wp, execOp]
      go_simp
      exact hK _ x (by first | rfl | simp) (Below.refl _ _) (fun h => by cases h)
    · simp only [wpOp, List.getElem?_toArray, List.getElem?_cons_succ, List.getElem?_cons_zero, Region.wanted, if_true]
      refine Or.inl ?_
      have e0 : av.tmps.getD 82 undef = .bool true := hw 38 (by kernel_rfl)
      clear hw hF
      simp only [Oper.wp, execOp]
      go_simp
      exact hK _ x (by first | rfl | simp) (Below.refl _ _) (fun h => by cases h)
    · simp only [wpOp, List.getElem?_toArray, List.getElem?_cons_succ, List.getElem?_cons_zero]
      have eg : av.tmps.getD 83 undef = .bool true := hw 39 (by kernel_rfl)
      refine ite_yes (wanted_yes rfl (yielded_of (t := 83) (by kernel_rfl) eg)) ?_
      clear eg
      refine Or.inl ?_
      have e0 : av.eval (.tmp 2) = .pointer (some ⟨w.heap.size, 0, none⟩) := hF.2.2 2 (by decide)
      obtain ⟨f0, f1, f2⟩ := FN.out x hb
      clear hw hF
      simp only [Oper.wp, execOp]
      rw [e0]
      go_simp
      exact hK _ x (by first | rfl | simp) (Below.refl _ _) (fun h => by cases h)
    · simp only [wpOp, List.getElem?_toArray, List.getElem?_cons_succ, List.getElem?_cons_zero]
      have eg : av.tmps.getD 83 undef = .bool true := hw 39 (by kernel_rfl)
      refine ite_yes (wanted_yes rfl (yielded_of (t := 83) (by kernel_rfl) eg)) ?_
      clear eg
      refine Or.inl ?_
      have e0 : av.tmps.getD 84 undef = .agg #[.bool lf, .slice An zs.length cn, .slice Bn ys.length dn] := hw 40 (by kernel_rfl)
      clear hw hF
      simp only [Oper.wp, execOp]
      go_simp
      refine (RG.out x (VRN.out.1.below hb) (VRN.out.2.below hb)).mono ?_
      rintro e y ⟨rfl, hbb⟩
      exact hK _ y rfl hbb (fun h => by cases h)
    · simp only [wpOp, List.getElem?_toArray, List.getElem?_cons_succ, List.getElem?_cons_zero]
      have eg : av.tmps.getD 83 undef = .bool true := hw 39 (by kernel_rfl)
      refine ite_yes (wanted_yes rfl (yielded_of (t := 83) (by kernel_rfl) eg)) ?_
      clear eg
      refine Or.inl ?_
      have e0 : av.eval (.tmp 2) = .pointer (some ⟨w.heap.size, 0, none⟩) := hF.2.2 2 (by decide)
      obtain ⟨f0, f1, f2⟩ := FN.out x hb
      clear hw hF
      simp only [Oper.wp, execOp]
      rw [e0]
      go_simp
      exact hK _ x (by first | rfl | simp) (Below.refl _ _) (fun h => by cases h)
    · simp only [wpOp, List.getElem?_toArray, List.getElem?_cons_succ, List.getElem?_cons_zero]
      have eg : av.tmps.getD 83 undef = .bool true := hw 39 (by kernel_rfl)
      refine ite_yes (wanted_yes rfl (yielded_of (t := 83) (by kernel_rfl) eg)) ?_
      clear eg
      refine Or.inl ?_
      have e0 : av.tmps.getD 86 undef = .agg #[.bool lf, .slice An zs.length cn, .slice Bn ys.length dn] := hw 42 (by kernel_rfl)
      clear hw hF
      simp only [Oper.wp, execOp]
      go_simp
      refine (ref_any lf An cn zs Bn dn ys x (VRN.out.1.below hb) (VRN.out.2.below hb)).mono ?_
      rintro e y ⟨rfl, hbb⟩
      exact hK _ y rfl hbb (fun h => by cases h)
    · simp only [wpOp, List.getElem?_toArray, List.getElem?_cons_succ, List.getElem?_cons_zero]
      have eg : av.tmps.getD 83 undef = .bool true := hw 39 (by kernel_rfl)
      refine ite_yes (wanted_yes rfl (yielded_of (t := 83) (by kernel_rfl) eg)) ?_
      clear eg
      refine Or.inl ?_
      have e0 : av.tmps.getD 87 undef = .agg #[.bool lf, .slice An zs.length cn, .slice Bn ys.length dn] := hw 43 (by kernel_rfl)
      clear hw hF
      simp only [Oper.wp, execOp]
      go_simp
      refine (RG2.out x (VRN.out.1.below hb) (VRN.out.2.below hb)).mono ?_
      rintro e y ⟨rfl, hbb⟩
      exact hK _ y rfl hbb (fun h => by cases h)
    · simp only [wpOp, List.getElem?_toArray, List.getElem?_cons_succ, List.getElem?_cons_zero]
      have eg : av.tmps.getD 83 undef = .bool true := hw 39 (by kernel_rfl)
      refine ite_yes (wanted_yes rfl (yielded_of (t := 83) (by kernel_rfl) eg)) ?_
      clear eg
      refine Or.inl ?_
      have e0 : av.tmps.getD 85 undef = .bool rb := hw 41 (by kernel_rfl)
      have e1 : av.tmps.getD 88 undef = .bool rb := hw 44 (by kernel_rfl)
      clear hw hF
      simp only [Oper.wp, execOp]
      go_simp
      exact hK _ x (by first | rfl | simp) (Below.refl _ _) (fun h => by cases h)
    · simp only [wpOp, List.getElem?_toArray, List.getElem?_cons_succ, List.getElem?_cons_zero, Region.wanted, if_true]
      refine Or.inl ?_
      have e0 : av.tmps.getD 83 undef = .bool true := hw 39 (by kernel_rfl)
      have e1 : av.tmps.getD 89 undef = .bool true := hw 45 (by kernel_rfl)
      clear hw hF
      simp only [Oper.wp, execOp]
      go_simp
      exact hK _ x (by first | rfl | simp) (Below.refl _ _) (fun h => by cases h)
    · simp only [wpOp, List.getElem?_toArray, List.getElem?_cons_succ, List.getElem?_cons_zero, Region.wanted, if_true]
      refine Or.inl ?_
      have e0 : av.tmps.getD 90 undef = .bool true := hw 46 (by kernel_rfl)
      clear hw hF
      simp only [Oper.wp, execOp]
      go_simp
      exact hK _ x (by first | rfl | simp) (Below.refl _ _) (fun h => by cases h)
    · simp only [wpOp, List.getElem?_toArray, List.getElem?_cons_succ, List.getElem?_cons_zero]
      have eg : av.tmps.getD 91 undef = .bool true := hw 47 (by kernel_rfl)
      refine ite_yes (wanted_yes rfl (yielded_of (t := 91) (by kernel_rfl) eg)) ?_
      clear eg
      refine Or.inl ?_
      have e0 : av.eval (.tmp 2) = .pointer (some ⟨w.heap.size, 0, none⟩) := hF.2.2 2 (by decide)
      obtain ⟨f0, f1, f2⟩ := FN.out x hb
      clear hw hF
      simp only [Oper.wp, execOp]
      rw [e0]
      go_simp
      exact hK _ x (by first | rfl | simp) (Below.refl _ _) (fun h => by cases h)
    · simp only [wpOp, List.getElem?_toArray, List.getElem?_cons_succ, List.getElem?_cons_zero]
      have eg : av.tmps.getD 91 undef = .bool true := hw 47 (by kernel_rfl)
      refine ite_yes (wanted_yes rfl (yielded_of (t := 91) (by kernel_rfl) eg)) ?_
      clear eg
      refine Or.inl ?_
      have e0 : av.tmps.getD 92 undef = .agg #[.bool lf, .slice An zs.length cn, .slice Bn ys.length dn] := hw 48 (by kernel_rfl)
      clear hw hF
      simp only [Oper.wp, execOp]
      go_simp
      refine (SZ1.out x (VRN.out.1.below hb)).mono ?_
      rintro e y ⟨rfl, hbb⟩
      exact hK _ y rfl hbb (fun h => by cases h)
    · simp only [wpOp, List.getElem?_toArray, List.getElem?_cons_succ, List.getElem?_cons_zero]
      have eg : av.tmps.getD 91 undef = .bool true := hw 47 (by kernel_rfl)
      refine ite_yes (wanted_yes rfl (yielded_of (t := 91) (by kernel_rfl) eg)) ?_
      clear eg
      refine Or.inl ?_
      have e0 : av.eval (.tmp 2) = .pointer (some ⟨w.heap.size, 0, none⟩) := hF.2.2 2 (by decide)
      obtain ⟨f0, f1, f2⟩ := FN.out x hb
      clear hw hF
      simp only [Oper.wp, execOp]
      rw [e0]
      go_simp
      exact hK _ x (by first | rfl | simp) (Below.refl _ _) (fun h => by cases h)
    · simp only [wpOp, List.getElem?_toArray, List.getElem?_cons_succ, List.getElem?_cons_zero]
      have eg : av.tmps.getD 91 undef = .bool true := hw 47 (by kernel_rfl)
      refine ite_yes (wanted_yes rfl (yielded_of (t := 91) (by kernel_rfl) eg)) ?_
      clear eg
      refine Or.inl ?_
      have e0 : av.tmps.getD 94 undef = .agg #[.bool lf, .slice An zs.length cn, .slice Bn ys.length dn] := hw 50 (by kernel_rfl)
      clear hw hF
      simp only [Oper.wp, execOp]
      go_simp
      refine (ref_any lf An cn zs Bn dn ys x (VRN.out.1.below hb) (VRN.out.2.below hb)).mono ?_
      rintro e y ⟨rfl, hbb⟩
      exact hK _ y rfl hbb (fun h => by cases h)
    · simp only [wpOp, List.getElem?_toArray, List.getElem?_cons_succ, List.getElem?_cons_zero]
      have eg : av.tmps.getD 91 undef = .bool true := hw 47 (by kernel_rfl)
      refine ite_yes (wanted_yes rfl (yielded_of (t := 91) (by kernel_rfl) eg)) ?_
      clear eg
      refine Or.inl ?_
      have e0 : av.tmps.getD 95 undef = .agg #[.bool lf, .slice An zs.length cn, .slice Bn ys.length dn] := hw 51 (by kernel_rfl)
      clear hw hF
      simp only [Oper.wp, execOp]
      go_simp
      refine (SZ2.out x (VRN.out.1.below hb)).mono ?_
      rintro e y ⟨rfl, hbb⟩
      exact hK _ y rfl hbb (fun h => by cases h)
    · simp only [wpOp, List.getElem?_toArray, List.getElem?_cons_succ, List.getElem?_cons_zero]
      have eg : av.tmps.getD 91 undef = .bool true := hw 47 (by kernel_rfl)
      refine ite_yes (wanted_yes rfl (yielded_of (t := 91) (by kernel_rfl) eg)) ?_
      clear eg
      refine Or.inl ?_
      have e0 : av.tmps.getD 93 undef = .int .i64 (SN : Int) := hw 49 (by kernel_rfl)
      have e1 : av.tmps.getD 96 undef = .int .i64 (SN : Int) := hw 52 (by kernel_rfl)
      clear hw hF
      simp only [Oper.wp, execOp]
      go_simp
      exact hK _ x (by first | rfl | simp) (Below.refl _ _) (fun h => by cases h)
    · simp only [wpOp, List.getElem?_toArray, List.getElem?_cons_succ, List.getElem?_cons_zero, Region.wanted, if_true]
      refine Or.inl ?_
      have e0 : av.tmps.getD 91 undef = .bool true := hw 47 (by kernel_rfl)
      have e1 : av.tmps.getD 97 undef = .bool true := hw 53 (by kernel_rfl)
      clear hw hF
      simp only [Oper.wp, execOp]
      go_simp
      exact hK _ x (by first | rfl | simp) (Below.refl _ _) (fun h => by cases h)
  · intro av x hF hb hR _
    have e0 : av.tmps.getD 44 undef = .bool true := hR 0 (by decide)
    have e1 : av.tmps.getD 45 undef = .bool true := hR 1 (by decide)
    have e2 : av.tmps.getD 46 undef = .string t := hR 2 (by decide)
    have e3 : av.tmps.getD 47 undef = .string t := hR 3 (by decide)
    have e4 : av.tmps.getD 48 undef = .bool true := hR 4 (by decide)
    have e5 : av.tmps.getD 49 undef = .bool true := hR 5 (by decide)
    have e6 : av.tmps.getD 50 undef = .bool true := hR 6 (by decide)
    have e7 : av.tmps.getD 51 undef = .bool true := hR 7 (by decide)
    have e8 : av.tmps.getD 52 undef = .bool true := hR 8 (by decide)
    have e9 : av.tmps.getD 53 undef = .int .i64 0 := hR 9 (by decide)
    have e10 : av.tmps.getD 54 undef = .bool true := hR 10 (by decide)
    have e11 : av.tmps.getD 55 undef = .bool true := hR 11 (by decide)
    have e12 : av.tmps.getD 56 undef = .bool true := hR 12 (by decide)
    have e13 : av.tmps.getD 57 undef = undef := hR 13 (by decide)
    have e14 : av.tmps.getD 58 undef = undef := hR 14 (by decide)
    have e15 : av.tmps.getD 59 undef = undef := hR 15 (by decide)
    have e16 : av.tmps.getD 60 undef = undef := hR 16 (by decide)
    have e17 : av.tmps.getD 61 undef = undef := hR 17 (by decide)
    have e18 : av.tmps.getD 62 undef = undef := hR 18 (by decide)
    have e19 : av.tmps.getD 63 undef = .bool true := hR 19 (by decide)
    have e20 : av.tmps.getD 64 undef = .bool true := hR 20 (by decide)
    have e21 : av.tmps.getD 65 undef = .bool true := hR 21 (by decide)
    have e22 : av.tmps.getD 66 undef = .bool true := hR 22 (by decide)
    have e23 : av.tmps.getD 67 undef = .bool true := hR 23 (by decide)
    have e24 : av.tmps.getD 68 undef = .bool true := hR 24 (by decide)
    have e25 : av.tmps.getD 69 undef = .bool false := hR 25 (by decide)
    have e26 : av.tmps.getD 70 undef = .bool false := hR 26 (by decide)
    have e27 : av.tmps.getD 71 undef = undef := hR 27 (by decide)
    have e28 : av.tmps.getD 72 undef = undef := hR 28 (by decide)
    have e29 : av.tmps.getD 73 undef = .bool false := hR 29 (by decide)
    have e30 : av.tmps.getD 74 undef = .bool false := hR 30 (by decide)
    have e31 : av.tmps.getD 75 undef = .bool false := hR 31 (by decide)
    have e32 : av.tmps.getD 76 undef = .bool true := hR 32 (by decide)
    have e33 : av.tmps.getD 77 undef = .bool true := hR 33 (by decide)
    have e34 : av.tmps.getD 78 undef = .int .i64 2 := hR 34 (by decide)
    have e35 : av.tmps.getD 79 undef = .bool true := hR 35 (by decide)
    have e36 : av.tmps.getD 80 undef = .bool true := hR 36 (by decide)
    have e37 : av.tmps.getD 81 undef = .bool true := hR 37 (by decide)
    have e38 : av.tmps.getD 82 undef = .bool true := hR 38 (by decide)
    have e39 : av.tmps.getD 83 undef = .bool true := hR 39 (by decide)
    have e40 : av.tmps.getD 84 undef = .agg #[.bool lf, .slice An zs.length cn, .slice Bn ys.length dn] := hR 40 (by decide)
    have e41 : av.tmps.getD 85 undef = .bool rb := hR 41 (by decide)
    have e42 : av.tmps.getD 86 undef = .agg #[.bool lf, .slice An zs.length cn, .slice Bn ys.length dn] := hR 42 (by decide)
    have e43 : av.tmps.getD 87 undef = .agg #[.bool lf, .slice An zs.length cn, .slice Bn ys.length dn] := hR 43 (by decide)
    have e44 : av.tmps.getD 88 undef = .bool rb := hR 44 (by decide)
    have e45 : av.tmps.getD 89 undef = .bool true := hR 45 (by decide)
    have e46 : av.tmps.getD 90 undef = .bool true := hR 46 (by decide)
    have e47 : av.tmps.getD 91 undef = .bool true := hR 47 (by decide)
    have e48 : av.tmps.getD 92 undef = .agg #[.bool lf, .slice An zs.length cn, .slice Bn ys.length dn] := hR 48 (by decide)
    have e49 : av.tmps.getD 93 undef = .int .i64 (SN : Int) := hR 49 (by decide)
    have e50 : av.tmps.getD 94 undef = .agg #[.bool lf, .slice An zs.length cn, .slice Bn ys.length dn] := hR 50 (by decide)
    have e51 : av.tmps.getD 95 undef = .agg #[.bool lf, .slice An zs.length cn, .slice Bn ys.length dn] := hR 51 (by decide)
    have e52 : av.tmps.getD 96 undef = .int .i64 (SN : Int) := hR 52 (by decide)
    have e53 : av.tmps.getD 97 undef = .bool true := hR 53 (by decide)
    have e54 : av.tmps.getD 98 undef = .bool true := hR 54 (by decide)
    rw [hF.fold (by kernel_rfl)]
    simp only [List.foldl_cons, List.foldl_nil, e0, e1, e2, e3, e4, e5, e6, e7, e8, e9, e10, e11, e12, e13, e14, e15, e16, e17, e18, e19, e20, e21, e22, e23, e24, e25, e26, e27, e28, e29, e30, e31, e32, e33, e34, e35, e36, e37, e38, e39, e40, e41, e42, e43, e44, e45, e46, e47, e48, e49, e50, e51, e52, e53, e54]
    simp only [Act.put, List.setIfInBounds_toArray, List.set_cons_zero, List.set_cons_succ]
    change wpOps _ _ _ [55] _ _
    simp only [wpOps_cons]
    clear e0 e1 e2 e3 e4 e5 e6 e7 e8 e9 e10 e11 e12 e13 e14 e15 e16 e17 e18 e19 e20 e21 e22 e23 e24 e25 e26 e27 e28 e29 e30 e31 e32 e33 e34 e35 e36 e37 e38 e39 e40 e41 e42 e43 e44 e45 e46 e47 e48 e49 e50 e51 e52 e53 e54 hR hF
    have HE := Lib.hid hb
    clear hb
    simp only [wpOp, List.getElem?_toArray, List.getElem?_cons_succ, List.getElem?_cons_zero, Region.wanted, if_true]
    refine Or.inl ?_
    simp only [Oper.wp, execOp]
    go_simp
    try simp only [wpOps]
    go_wp2
    go_ret
    exact ⟨rfl, KN.out.trans (HE.out.mono KN.out.size)⟩
set_option maxHeartbeats 16000000 in
set_option maxRecDepth 100000 in
theorem bytes_ny (lf : Bool) (A : Option Addr) (c : Nat) (ks : List (List UInt8)) (B : Option Addr) (d : Nat) (ds : List Int) (S : List UInt8) (w : World) (h : Rl sv w A c ks) (h2 : Rl nv w B d ds) (zs : List (List UInt8)) (hz : ks.take 12 = zs) (ys : List Int) (hy : ds.take 13 = ys) (hsz : sizeN zs ys < 4611686018427387904)
    (t : ByteArray) (l2 : Bool) (K2 : List (List UInt8)) (D2 : List Int) (l2_ : K2.length ≤ 4000000 ∧ D2.length ≤ 4000001)
    (hE1 : ∀ A c B d V, Rl sv V A c zs → Rl nv V B d ys → Calls Try.prog 12 #[.agg #[.bool lf, .slice A zs.length c, .slice B ys.length d]] V fun e w' => e = .returned (.tuple #[.string t, .int .i64 1]) ∧ Below V.heap.size V w')
    (hE2 : ∀ A c B d V, Rl sv V A c zs → Rl nv V B d ys → Calls Try.prog 13 #[.agg #[.bool lf, .slice A zs.length c, .slice B ys.length d]] V fun e w' => e = .returned (.tuple #[.string t, .bool false]) ∧ Below V.heap.size V w')
    (hD1 : ∀ V, Calls Try.prog 15 #[.string ⟨S.toArray⟩] V fun e w' => ∃ A' c' B' d', e = .returned (.tuple #[.agg #[.bool l2, .slice A' K2.length c', .slice B' D2.length d'], .int .i64 0]) ∧ Rl sv w' A' c' K2 ∧ Rl nv w' B' d' D2 ∧ Below V.heap.size V w')
    (hD2 : ∀ V, Calls Try.prog 16 #[.string ⟨S.toArray⟩] V fun e w' => ∃ A' c' B' d', e = .returned (.tuple #[.agg #[.bool l2, .slice A' K2.length c', .slice B' D2.length d'], .bool true]) ∧ Rl sv w' A' c' K2 ∧ Rl nv w' B' d' D2 ∧ Below V.heap.size V w') :
    Calls Try.prog 3 #[.agg #[.bool lf, .slice A ks.length c, .slice B ds.length d], .string ⟨S.toArray⟩] w fun e w' => e = .returned (.bool true) ∧ Below w.heap.size w w' := by
  obtain ⟨W, hW⟩ : ∃ W : World, W = w.alloc (.cells #[.bool lf, .slice A ks.length c, .slice B ds.length d] 25) := ⟨_, rfl⟩
  have RN := Lib.hid (show W.heap[w.heap.size]? = some (.cells #[.bool lf, .slice A ks.length c, .slice B ds.length d] 25 (0, 0)) by rw [hW]; exact heap_alloc_new _ _)
  have KN := Lib.hid (show Below w.heap.size w W by rw [hW]; exact bda _ _)
  have HW := Lib.hid hW
  have H1 := Lib.hid (And.intro h h2)
  have EN1 := Lib.hid hE1
  have EN2 := Lib.hid hE2
  have DE1 := Lib.hid hD1
  have DE2 := Lib.hid hD2
  have L2 := Lib.hid l2_
  obtain ⟨rb, hrb⟩ : ∃ b, rightB lf zs ys = b := ⟨_, rfl⟩
  obtain ⟨SN, hSN⟩ : ∃ b, sizeN zs ys = b := ⟨_, rfl⟩
  have lz : zs.length ≤ 12 := by rw [← hz, List.length_take]; omega
  have ly : ys.length ≤ 13 := by rw [← hy, List.length_take]; omega
  have RGx := fun (A : Option Addr) (c : Nat) (B : Option Addr) (d : Nat) V (h1 : Rl sv V A c zs) (h3 : Rl nv V B d ys) => right_any lf A c zs B d ys V h1 h3 (by omega) (by omega) hsz
  have RGy := fun (A : Option Addr) (c : Nat) (B : Option Addr) (d : Nat) V (h1 : Rl sv V A c zs) (h3 : Rl nv V B d ys) => rright_any lf A c zs B d ys V h1 h3 (by omega) (by omega) hsz
  rw [hrb] at RGx RGy
  have SZx := fun (A : Option Addr) (c : Nat) (B : Option Addr) (d : Nat) V (h1 : Rl sv V A c zs) => size_any lf A c zs B d ys V h1 (by omega) hsz
  have SZy := fun (A : Option Addr) (c : Nat) (B : Option Addr) (d : Nat) V (h1 : Rl sv V A c zs) => rsize_any lf A c zs B d ys V h1 (by omega) hsz
  rw [hSN] at SZx SZy
  have G1 := Lib.hid RGx
  have G2 := Lib.hid RGy
  have S1 := Lib.hid SZx
  have S2 := Lib.hid SZy
  have HZ := Lib.hid (And.intro hz hy)
  clear hW h h2 hE1 hE2 hD1 hD2 l2_ hrb hSN lz ly RGx RGy SZx SZy hsz hz hy
  go_enter Try.func3, Try.ntmps3
  go_wp2_with fail
  rw [← HW.out]
  clear HW
  refine (examples_any _).mono ?_
  rintro e w1 ⟨rfl, hb⟩
  have RNx := Lib.hid (row_on RN.out hb)
  have KNx := Lib.hid (KN.out.trans (hb.mono KN.out.size))
  clear RN KN
  have RN := RNx
  have KN := KNx
  clear RNx KNx
  clear hb
  have f0 := row_c RN.out (i := 0) rfl
  have f1 := row_c RN.out (i := 1) rfl
  have f2 := row_c RN.out (i := 2) rfl
  go_wp2_with fail
  refine (few_any lf A c ks B d ds _ (H1.out.1.below KN.out) (H1.out.2.below KN.out)).mono ?_
  rw [HZ.out.1, HZ.out.2]
  rintro e w2 ⟨An, cn, Bn, dn, rfl, g1, g2, hb⟩
  have RNx := Lib.hid (row_on RN.out hb)
  have KNx := Lib.hid (KN.out.trans (hb.mono KN.out.size))
  clear RN KN
  have RN := RNx
  have KN := KNx
  clear RNx KNx
  have VF := Lib.hid (And.intro g1 g2)
  clear hb g1 g2 f0 f1 f2 H1
  have p0 := row_c RN.out (i := 0) rfl
  have p1 := row_c RN.out (i := 1) rfl
  have p2 := row_c RN.out (i := 2) rfl
  have y0 := frozen_of_row _ _ 0 _ _ RN.out
  have y1 := frozen_of_row _ _ 1 _ _ RN.out
  have y2 := frozen_of_row _ _ 2 _ _ RN.out
  obtain ⟨V1, hV⟩ : ∃ V : World, V = ((w2.setCell ⟨w.heap.size, 0, none⟩ (.bool lf)).setCell ⟨w.heap.size, 1, none⟩ (.slice An zs.length cn)).setCell ⟨w.heap.size, 2, none⟩ (.slice Bn ys.length dn) := ⟨_, rfl⟩
  have RNx := Lib.hid (show V1.heap[w.heap.size]? = some (.cells #[.bool lf, .slice An zs.length cn, .slice Bn ys.length dn] 25 (0, 0)) by rw [hV]; have := row_set (i := 2) (row_set (i := 1) (row_set (i := 0) RN.out (.bool lf)) (.slice An zs.length cn)) (.slice Bn ys.length dn); simpa using this)
  have VRN := Lib.hid (show Rl sv V1 An cn zs ∧ Rl nv V1 Bn dn ys by rw [hV]; exact ⟨rl_off3 VF.out.1 RN.out (fun z i h => off_s h) _ _ _, rl_off3 VF.out.2 RN.out (fun z i h => off_n h) _ _ _⟩)
  have KNx := Lib.hid (show Below w.heap.size w V1 by rw [hV]; exact ((KN.out.setCell (by simp) _).setCell (by simp) _).setCell (by simp) _)
  have HV := Lib.hid hV
  clear hV VF KN RN
  have RN := RNx
  have KN := KNx
  clear RNx KNx
  go_upto_region 5 with (fail)
  rw [← HV.out]
  clear HV p0 p1 p2 y0 y1 y2
  have f0 := row_c RN.out (i := 0) rfl
  have f1 := row_c RN.out (i := 1) rfl
  have f2 := row_c RN.out (i := 2) rfl
  go_wp2_with fail
  refine (EN1.out An cn Bn dn _ VRN.out.1 VRN.out.2).mono ?_
  rintro e w4 ⟨rfl, hb⟩
  have RNx := Lib.hid (row_on RN.out hb)
  have VRNx := Lib.hid (And.intro (VRN.out.1.below hb) (VRN.out.2.below hb))
  have KNx := Lib.hid (KN.out.trans (hb.mono KN.out.size))
  clear RN VRN KN
  have RN := RNx
  have VRN := VRNx
  have KN := KNx
  clear RNx VRNx KNx
  clear hb f0 f1 f2
  have f0 := row_c RN.out (i := 0) rfl
  have f1 := row_c RN.out (i := 1) rfl
  have f2 := row_c RN.out (i := 2) rfl
  go_wp2_with fail
  refine (ref_any lf An cn zs Bn dn ys _ VRN.out.1 VRN.out.2).mono ?_
  rintro e w5 ⟨rfl, hb⟩
  have RNx := Lib.hid (row_on RN.out hb)
  have VRNx := Lib.hid (And.intro (VRN.out.1.below hb) (VRN.out.2.below hb))
  have KNx := Lib.hid (KN.out.trans (hb.mono KN.out.size))
  clear RN VRN KN
  have RN := RNx
  have VRN := VRNx
  have KN := KNx
  clear RNx VRNx KNx
  clear hb f0 f1 f2
  go_wp2_with fail
  refine (EN2.out An cn Bn dn _ VRN.out.1 VRN.out.2).mono ?_
  rintro e w6 ⟨rfl, hb⟩
  have RNx := Lib.hid (row_on RN.out hb)
  have VRNx := Lib.hid (And.intro (VRN.out.1.below hb) (VRN.out.2.below hb))
  have KNx := Lib.hid (KN.out.trans (hb.mono KN.out.size))
  clear RN VRN KN
  have RN := RNx
  have VRN := VRNx
  have KN := KNx
  clear RNx VRNx KNx
  clear hb
  go_wp2_with fail
  refine (DE1.out _).mono ?_
  rintro e w7 ⟨A5, c5, B5, d5, rfl, g1, g2, hb⟩
  have RNx := Lib.hid (row_on RN.out hb)
  have VRNx := Lib.hid (And.intro (VRN.out.1.below hb) (VRN.out.2.below hb))
  have KNx := Lib.hid (KN.out.trans (hb.mono KN.out.size))
  clear RN VRN KN
  have RN := RNx
  have VRN := VRNx
  have KN := KNx
  clear RNx VRNx KNx
  have VD := Lib.hid (And.intro g1 g2)
  clear hb g1 g2
  go_upto_region 8 with (fail)
  obtain ⟨V7, hV⟩ : ∃ V : World, V = w7.alloc (.cells #[.bool l2, .slice A5 K2.length c5, .slice B5 D2.length d5] 25) := ⟨_, rfl⟩
  obtain ⟨g7, hg7⟩ : ∃ g : Nat, w7.heap.size = g := ⟨_, rfl⟩
  have RD := Lib.hid (show V7.heap[g7]? = some (.cells #[.bool l2, .slice A5 K2.length c5, .slice B5 D2.length d5] 25 (0, 0)) by rw [← hg7, hV]; exact heap_alloc_new _ _)
  have BV := Lib.hid (show Below w7.heap.size w7 V7 by rw [hV]; exact bda _ _)
  have RNx := Lib.hid (row_on RN.out BV.out)
  have VRNx := Lib.hid (And.intro (VRN.out.1.below BV.out) (VRN.out.2.below BV.out))
  have VDx := Lib.hid (And.intro (VD.out.1.below BV.out) (VD.out.2.below BV.out))
  have KNx := Lib.hid (KN.out.trans (BV.out.mono KN.out.size))
  clear RN VRN VD KN
  have RN := RNx
  have VRN := VRNx
  have VD := VDx
  have KN := KNx
  clear RNx VRNx VDx KNx
  rw [← hV]
  clear hV BV
  go_wp2_with fail
  refine (DE2.out _).mono ?_
  rintro e w8 ⟨A6, c6, B6, d6, rfl, g1, g2, hb⟩
  have RNx := Lib.hid (row_on RN.out hb)
  have RDx := Lib.hid (row_on RD.out hb)
  have VRNx := Lib.hid (And.intro (VRN.out.1.below hb) (VRN.out.2.below hb))
  have VDx := Lib.hid (And.intro (VD.out.1.below hb) (VD.out.2.below hb))
  have KNx := Lib.hid (KN.out.trans (hb.mono KN.out.size))
  clear RN RD VRN VD KN
  have RN := RNx
  have RD := RDx
  have VRN := VRNx
  have VD := VDx
  have KN := KNx
  clear RNx RDx VRNx VDx KNx
  have VE := Lib.hid (And.intro g1 g2)
  clear hb g1 g2
  go_upto_region 9 with (fail)
  obtain ⟨V8, hV⟩ : ∃ V : World, V = w8.alloc (.cells #[.bool l2, .slice A6 K2.length c6, .slice B6 D2.length d6] 33) := ⟨_, rfl⟩
  obtain ⟨g8, hg8⟩ : ∃ g : Nat, w8.heap.size = g := ⟨_, rfl⟩
  have RE := Lib.hid (show V8.heap[g8]? = some (.cells #[.bool l2, .slice A6 K2.length c6, .slice B6 D2.length d6] 33 (0, 0)) by rw [← hg8, hV]; exact heap_alloc_new _ _)
  have BV := Lib.hid (show Below w8.heap.size w8 V8 by rw [hV]; exact bda _ _)
  have RNx := Lib.hid (row_on RN.out BV.out)
  have RDx := Lib.hid (row_on RD.out BV.out)
  have VRNx := Lib.hid (And.intro (VRN.out.1.below BV.out) (VRN.out.2.below BV.out))
  have VDx := Lib.hid (And.intro (VD.out.1.below BV.out) (VD.out.2.below BV.out))
  have VEx := Lib.hid (And.intro (VE.out.1.below BV.out) (VE.out.2.below BV.out))
  have KNx := Lib.hid (KN.out.trans (BV.out.mono KN.out.size))
  clear RN RD VRN VD VE KN
  have RN := RNx
  have RD := RDx
  have VRN := VRNx
  have VD := VDx
  have VE := VEx
  have KN := KNx
  clear RNx RDx VRNx VDx VEx KNx
  rw [← hV]
  clear hV BV
  have f0 := row_c RD.out (i := 0) rfl
  have f1 := row_c RD.out (i := 1) rfl
  have f2 := row_c RD.out (i := 2) rfl
  have k0 := row_c RE.out (i := 0) rfl
  have k1 := row_c RE.out (i := 1) rfl
  have k2 := row_c RE.out (i := 2) rfl
  try rw [hg7]
  try rw [hg8]
  go_wp2_with fail
  refine (nodes_any l2 _ _ _ _ _ _ _ _ K2 D2 _ VD.out.1 VD.out.2 VE.out.1 VE.out.2 L2.out.1 L2.out.2).mono ?_
  rintro e w9 ⟨rfl, hb⟩
  have RNx := Lib.hid (row_on RN.out hb)
  have RDx := Lib.hid (row_on RD.out hb)
  have REx := Lib.hid (row_on RE.out hb)
  have VRNx := Lib.hid (And.intro (VRN.out.1.below hb) (VRN.out.2.below hb))
  have VDx := Lib.hid (And.intro (VD.out.1.below hb) (VD.out.2.below hb))
  have VEx := Lib.hid (And.intro (VE.out.1.below hb) (VE.out.2.below hb))
  have KNx := Lib.hid (KN.out.trans (hb.mono KN.out.size))
  clear RN RD RE VRN VD VE KN
  have RN := RNx
  have RD := RDx
  have RE := REx
  have VRN := VRNx
  have VD := VDx
  have VE := VEx
  have KN := KNx
  clear RNx RDx REx VRNx VDx VEx KNx
  clear hb f0 f1 f2 k0 k1 k2
  go_upto_region 10 with (fail)
  have RG := Lib.hid (fun V h1 h3 => G1.out An cn Bn dn V h1 h3)
  have RG2 := Lib.hid (fun V h1 h3 => G2.out An cn Bn dn V h1 h3)
  have SZ1 := Lib.hid (fun V h1 => S1.out An cn Bn dn V h1)
  have SZ2 := Lib.hid (fun V h1 => S2.out An cn Bn dn V h1)
  have FN := Lib.hid (fun x (K : Below w9.heap.size w9 x) => And.intro (row_c (row_on RN.out K) (i := 0) rfl) (And.intro (row_c (row_on RN.out K) (i := 1) rfl) (row_c (row_on RN.out K) (i := 2) rfl)))
  refine wp_operands (W := w9) rfl 55 [44, 45, 46, 47, 48, 49, 50, 51, 52, 53, 54, 55, 56, 57, 58, 59, 60, 61, 62, 63, 64, 65, 66, 67, 68, 69, 70, 71, 72, 73, 74, 75, 76, 77, 78, 79, 80, 81, 82, 83, 84, 85, 86, 87, 88, 89, 90, 91, 92, 93, 94, 95, 96, 97, 98] (fun i u x => match i with | 0 => u = .bool true | 1 => u = .bool true | 2 => u = .string t | 3 => u = .string t | 4 => u = .bool true | 5 => u = .bool true | 6 => u = .bool true | 7 => u = .bool false | 8 => u = .bool false | 9 => u = undef | 10 => u = undef | 11 => u = .bool false | 12 => u = .bool false | 13 => u = .bool false | 14 => u = .bool true | 15 => u = .bool true | 16 => u = .int .i64 1 | 17 => u = .bool true | 18 => u = .bool true | 19 => u = .bool true | 20 => u = .bool true | 21 => u = .bool true | 22 => u = .bool true | 23 => u = .bool true | 24 => u = .bool true | 25 => u = .bool true | 26 => u = .bool true | 27 => u = .int .i64 0 | 28 => u = .bool true | 29 => u = .bool true | 30 => u = .bool true | 31 => u = undef | 32 => u = undef | 33 => u = undef | 34 => u = undef | 35 => u = undef | 36 => u = undef | 37 => u = .bool true | 38 => u = .bool true | 39 => u = .bool true | 40 => u = .agg #[.bool lf, .slice An zs.length cn, .slice Bn ys.length dn] | 41 => u = .bool rb | 42 => u = .agg #[.bool lf, .slice An zs.length cn, .slice Bn ys.length dn] | 43 => u = .agg #[.bool lf, .slice An zs.length cn, .slice Bn ys.length dn] | 44 => u = .bool rb | 45 => u = .bool true | 46 => u = .bool true | 47 => u = .bool true | 48 => u = .agg #[.bool lf, .slice An zs.length cn, .slice Bn ys.length dn] | 49 => u = .int .i64 (SN : Int) | 50 => u = .agg #[.bool lf, .slice An zs.length cn, .slice Bn ys.length dn] | 51 => u = .agg #[.bool lf, .slice An zs.length cn, .slice Bn ys.length dn] | 52 => u = .int .i64 (SN : Int) | 53 => u = .bool true | 54 => u = .bool true | _ => True) (fun _ => false)
    (by decide) rfl (by kernel_rfl) (by kernel_rfl) (by decide) (by kernel_rfl) ?_ (fun _ _ _ h => by cases h) ?_ ?_
  · intro i u x x' hi hR hb'
    have hi' : i = 0 ∨ i = 1 ∨ i = 2 ∨ i = 3 ∨ i = 4 ∨ i = 5 ∨ i = 6 ∨ i = 7 ∨ i = 8 ∨ i = 9 ∨ i = 10 ∨ i = 11 ∨ i = 12 ∨ i = 13 ∨ i = 14 ∨ i = 15 ∨ i = 16 ∨ i = 17 ∨ i = 18 ∨ i = 19 ∨ i = 20 ∨ i = 21 ∨ i = 22 ∨ i = 23 ∨ i = 24 ∨ i = 25 ∨ i = 26 ∨ i = 27 ∨ i = 28 ∨ i = 29 ∨ i = 30 ∨ i = 31 ∨ i = 32 ∨ i = 33 ∨ i = 34 ∨ i = 35 ∨ i = 36 ∨ i = 37 ∨ i = 38 ∨ i = 39 ∨ i = 40 ∨ i = 41 ∨ i = 42 ∨ i = 43 ∨ i = 44 ∨ i = 45 ∨ i = 46 ∨ i = 47 ∨ i = 48 ∨ i = 49 ∨ i = 50 ∨ i = 51 ∨ i = 52 ∨ i = 53 ∨ i = 54 := by omega
    rcases hi' with rfl | rfl | rfl | rfl | rfl | rfl | rfl | rfl | rfl | rfl | rfl | rfl | rfl | rfl | rfl | rfl | rfl | rfl | rfl | rfl | rfl | rfl | rfl | rfl | rfl | rfl | rfl | rfl | rfl | rfl | rfl | rfl | rfl | rfl | rfl | rfl | rfl | rfl | rfl | rfl | rfl | rfl | rfl | rfl | rfl | rfl | rfl | rfl | rfl | rfl | rfl | rfl | rfl | rfl | rfl
    all_goals exact hR
  · intro i av x K hi hF hb hw hK
    have hi' : i = 0 ∨ i = 1 ∨ i = 2 ∨ i = 3 ∨ i = 4 ∨ i = 5 ∨ i = 6 ∨ i = 7 ∨ i = 8 ∨ i = 9 ∨ i = 10 ∨ i = 11 ∨ i = 12 ∨ i = 13 ∨ i = 14 ∨ i = 15 ∨ i = 16 ∨ i = 17 ∨ i = 18 ∨ i = 19 ∨ i = 20 ∨ i = 21 ∨ i = 22 ∨ i = 23 ∨ i = 24 ∨ i = 25 ∨ i = 26 ∨ i = 27 ∨ i = 28 ∨ i = 29 ∨ i = 30 ∨ i = 31 ∨ i = 32 ∨ i = 33 ∨ i = 34 ∨ i = 35 ∨ i = 36 ∨ i = 37 ∨ i = 38 ∨ i = 39 ∨ i = 40 ∨ i = 41 ∨ i = 42 ∨ i = 43 ∨ i = 44 ∨ i = 45 ∨ i = 46 ∨ i = 47 ∨ i = 48 ∨ i = 49 ∨ i = 50 ∨ i = 51 ∨ i = 52 ∨ i = 53 ∨ i = 54 := by omega
    rcases hi' with rfl | rfl | rfl | rfl | rfl | rfl | rfl | rfl | rfl | rfl | rfl | rfl | rfl | rfl | rfl | rfl | rfl | rfl | rfl | rfl | rfl | rfl | rfl | rfl | rfl | rfl | rfl | rfl | rfl | rfl | rfl | rfl | rfl | rfl | rfl | rfl | rfl | rfl | rfl | rfl | rfl | rfl | rfl | rfl | rfl | rfl | rfl | rfl | rfl | rfl | rfl | rfl | rfl | rfl | rfl
    · simp only [wpOp, List.getElem?_toArray, List.getElem?_cons_zero, Region.wanted, if_true]
      refine Or.inl ?_
      have e0 : av.eval (.tmp 5) = .bool true := hF.2.2 5 (by decide)
      clear hw hF
      simp only [Oper.wp, execOp]
      rw [e0]
      go_simp
      exact hK _ x (by first | rfl | simp) (Below.refl _ _) (fun h => by cases h)
    · simp only [wpOp, List.getElem?_toArray, List.getElem?_cons_succ, List.getElem?_cons_zero, Region.wanted, if_true]
      refine Or.inl ?_
      have e0 : av.tmps.getD 44 undef = .bool true := hw 0 (by kernel_rfl)
      clear hw hF
      simp only [Oper.wp, execOp]
      go_simp
      exact hK _ x (by first | rfl | simp) (Below.refl _ _) (fun h => by cases h)
    · simp only [wpOp, List.getElem?_toArray, List.getElem?_cons_succ, List.getElem?_cons_zero]
      have eg : av.tmps.getD 45 undef = .bool true := hw 1 (by kernel_rfl)
      refine ite_yes (wanted_yes rfl (yielded_of (t := 45) (by kernel_rfl) eg)) ?_
      clear eg
      refine Or.inl ?_
      have e0 : av.eval (.tmp 6) = .string t := hF.2.2 6 (by decide)
      clear hw hF
      simp only [Oper.wp, execOp]
      rw [e0]
      go_simp
      exact hK _ x (by first | rfl | simp) (Below.refl _ _) (fun h => by cases h)
    · simp only [wpOp, List.getElem?_toArray, List.getElem?_cons_succ, List.getElem?_cons_zero]
      have eg : av.tmps.getD 45 undef = .bool true := hw 1 (by kernel_rfl)
      refine ite_yes (wanted_yes rfl (yielded_of (t := 45) (by kernel_rfl) eg)) ?_
      clear eg
      refine Or.inl ?_
      have e0 : av.eval (.tmp 8) = .string t := hF.2.2 8 (by decide)
      clear hw hF
      simp only [Oper.wp, execOp]
      rw [e0]
      go_simp
      exact hK _ x (by first | rfl | simp) (Below.refl _ _) (fun h => by cases h)
    · simp only [wpOp, List.getElem?_toArray, List.getElem?_cons_succ, List.getElem?_cons_zero]
      have eg : av.tmps.getD 45 undef = .bool true := hw 1 (by kernel_rfl)
      refine ite_yes (wanted_yes rfl (yielded_of (t := 45) (by kernel_rfl) eg)) ?_
      clear eg
      refine Or.inl ?_
      have e0 : av.tmps.getD 46 undef = .string t := hw 2 (by kernel_rfl)
      have e1 : av.tmps.getD 47 undef = .string t := hw 3 (by kernel_rfl)
      clear hw hF
      simp only [Oper.wp, execOp]
      go_simp
      exact hK _ x (by first | rfl | simp) (Below.refl _ _) (fun h => by cases h)
    · simp only [wpOp, List.getElem?_toArray, List.getElem?_cons_succ, List.getElem?_cons_zero, Region.wanted, if_true]
      refine Or.inl ?_
      have e0 : av.tmps.getD 45 undef = .bool true := hw 1 (by kernel_rfl)
      have e1 : av.tmps.getD 48 undef = .bool true := hw 4 (by kernel_rfl)
      clear hw hF
      simp only [Oper.wp, execOp]
      go_simp
      exact hK _ x (by first | rfl | simp) (Below.refl _ _) (fun h => by cases h)
    · simp only [wpOp, List.getElem?_toArray, List.getElem?_cons_succ, List.getElem?_cons_zero, Region.wanted, if_true]
      refine Or.inl ?_
      have e0 : av.tmps.getD 49 undef = .bool true := hw 5 (by kernel_rfl)
      clear hw hF
      simp only [Oper.wp, execOp]
      go_simp
      exact hK _ x (by first | rfl | simp) (Below.refl _ _) (fun h => by cases h)
    · simp only [wpOp, List.getElem?_toArray, List.getElem?_cons_succ, List.getElem?_cons_zero]
      have eg : av.tmps.getD 50 undef = .bool true := hw 6 (by kernel_rfl)
      refine ite_yes (wanted_yes rfl (yielded_of (t := 50) (by kernel_rfl) eg)) ?_
      clear eg
      refine Or.inl ?_
      have e0 : av.eval (.tmp 9) = .bool false := hF.2.2 9 (by decide)
      clear hw hF
      simp only [Oper.wp, execOp]
      rw [e0]
      go_simp
      exact hK _ x (by first | rfl | simp) (Below.refl _ _) (fun h => by cases h)
    · simp only [wpOp, List.getElem?_toArray, List.getElem?_cons_succ, List.getElem?_cons_zero]
      have eg : av.tmps.getD 50 undef = .bool true := hw 6 (by kernel_rfl)
      refine ite_yes (wanted_yes rfl (yielded_of (t := 50) (by kernel_rfl) eg)) ?_
      clear eg
      refine Or.inl ?_
      have e0 : av.tmps.getD 51 undef = .bool false := hw 7 (by kernel_rfl)
      clear hw hF
      simp only [Oper.wp, execOp]
      go_simp
      exact hK _ x (by first | rfl | simp) (Below.refl _ _) (fun h => by cases h)
    · simp only [wpOp, List.getElem?_toArray, List.getElem?_cons_succ, List.getElem?_cons_zero]
      have eg : av.tmps.getD 52 undef = .bool false := hw 8 (by kernel_rfl)
      refine ite_not (wanted_not rfl (yielded_of (t := 52) (by kernel_rfl) eg)) ?_
      exact hK _ x rfl (Below.refl _ _) (fun h => by cases h)
    · simp only [wpOp, List.getElem?_toArray, List.getElem?_cons_succ, List.getElem?_cons_zero]
      have eg : av.tmps.getD 52 undef = .bool false := hw 8 (by kernel_rfl)
      refine ite_not (wanted_not rfl (yielded_of (t := 52) (by kernel_rfl) eg)) ?_
      exact hK _ x rfl (Below.refl _ _) (fun h => by cases h)
    · simp only [wpOp, List.getElem?_toArray, List.getElem?_cons_succ, List.getElem?_cons_zero]
      have eg : av.tmps.getD 50 undef = .bool true := hw 6 (by kernel_rfl)
      refine ite_yes (wanted_yes rfl (yielded_of (t := 50) (by kernel_rfl) eg)) ?_
      clear eg
      refine Or.inl ?_
      have e0 : av.tmps.getD 52 undef = .bool false := hw 8 (by kernel_rfl)
      have e1 : av.tmps.getD 54 undef = undef := hw 10 (by kernel_rfl)
      clear hw hF
      simp only [Oper.wp, execOp]
      go_simp
      exact hK _ x (by first | rfl | simp) (Below.refl _ _) (fun h => by cases h)
    · simp only [wpOp, List.getElem?_toArray, List.getElem?_cons_succ, List.getElem?_cons_zero]
      have eg : av.tmps.getD 50 undef = .bool true := hw 6 (by kernel_rfl)
      refine ite_yes (wanted_yes rfl (yielded_of (t := 50) (by kernel_rfl) eg)) ?_
      clear eg
      refine Or.inl ?_
      have e0 : av.tmps.getD 55 undef = .bool false := hw 11 (by kernel_rfl)
      clear hw hF
      simp only [Oper.wp, execOp]
      go_simp
      exact hK _ x (by first | rfl | simp) (Below.refl _ _) (fun h => by cases h)
    · simp only [wpOp, List.getElem?_toArray, List.getElem?_cons_succ, List.getElem?_cons_zero]
      have eg : av.tmps.getD 56 undef = .bool false := hw 12 (by kernel_rfl)
      refine ite_yes (wanted_yes rfl (yielded_of (t := 56) (by kernel_rfl) eg)) ?_
      clear eg
      refine Or.inl ?_
      have e0 : av.eval (.tmp 9) = .bool false := hF.2.2 9 (by decide)
      clear hw hF
      simp only [Oper.wp, execOp]
      rw [e0]
      go_simp
      exact hK _ x (by first | rfl | simp) (Below.refl _ _) (fun h => by cases h)
    · simp only [wpOp, List.getElem?_toArray, List.getElem?_cons_succ, List.getElem?_cons_zero]
      have eg : av.tmps.getD 56 undef = .bool false := hw 12 (by kernel_rfl)
      refine ite_yes (wanted_yes rfl (yielded_of (t := 56) (by kernel_rfl) eg)) ?_
      clear eg
      refine Or.inl ?_
      have e0 : av.tmps.getD 57 undef = .bool false := hw 13 (by kernel_rfl)
      clear hw hF
      simp only [Oper.wp, execOp]
      go_simp
      exact hK _ x (by first | rfl | simp) (Below.refl _ _) (fun h => by cases h)
    · simp only [wpOp, List.getElem?_toArray, List.getElem?_cons_succ, List.getElem?_cons_zero]
      have eg : av.tmps.getD 56 undef = .bool false := hw 12 (by kernel_rfl)
      refine ite_yes (wanted_yes rfl (yielded_of (t := 56) (by kernel_rfl) eg)) ?_
      clear eg
      refine Or.inl ?_
      have e0 : av.tmps.getD 58 undef = .bool true := hw 14 (by kernel_rfl)
      clear hw hF
      simp only [Oper.wp, execOp]
      go_simp
      exact hK _ x (by first | rfl | simp) (Below.refl _ _) (fun h => by cases h)
    · simp only [wpOp, List.getElem?_toArray, List.getElem?_cons_succ, List.getElem?_cons_zero]
      have eg : av.tmps.getD 59 undef = .bool true := hw 15 (by kernel_rfl)
      refine ite_yes (wanted_yes rfl (yielded_of (t := 59) (by kernel_rfl) eg)) ?_
      clear eg
      refine Or.inl ?_
      have e0 : av.eval (.tmp 7) = .int .i64 1 := hF.2.2 7 (by decide)
      clear hw hF
      simp only [Oper.wp, execOp]
      rw [e0]
      go_simp
      exact hK _ x (by first | rfl | simp) (Below.refl _ _) (fun h => by cases h)
    · simp only [wpOp, List.getElem?_toArray, List.getElem?_cons_succ, List.getElem?_cons_zero]
      have eg : av.tmps.getD 59 undef = .bool true := hw 15 (by kernel_rfl)
      refine ite_yes (wanted_yes rfl (yielded_of (t := 59) (by kernel_rfl) eg)) ?_
      clear eg
      refine Or.inl ?_
      have e0 : av.tmps.getD 60 undef = .int .i64 1 := hw 16 (by kernel_rfl)
      clear hw hF
      simp only [Oper.wp, execOp]
      go_simp
      exact hK _ x (by first | rfl | simp) (Below.refl _ _) (fun h => by cases h)
    · simp only [wpOp, List.getElem?_toArray, List.getElem?_cons_succ, List.getElem?_cons_zero]
      have eg : av.tmps.getD 56 undef = .bool false := hw 12 (by kernel_rfl)
      refine ite_yes (wanted_yes rfl (yielded_of (t := 56) (by kernel_rfl) eg)) ?_
      clear eg
      refine Or.inl ?_
      have e0 : av.tmps.getD 59 undef = .bool true := hw 15 (by kernel_rfl)
      have e1 : av.tmps.getD 61 undef = .bool true := hw 17 (by kernel_rfl)
      clear hw hF
      simp only [Oper.wp, execOp]
      go_simp
      exact hK _ x (by first | rfl | simp) (Below.refl _ _) (fun h => by cases h)
    · simp only [wpOp, List.getElem?_toArray, List.getElem?_cons_succ, List.getElem?_cons_zero]
      have eg : av.tmps.getD 50 undef = .bool true := hw 6 (by kernel_rfl)
      refine ite_yes (wanted_yes rfl (yielded_of (t := 50) (by kernel_rfl) eg)) ?_
      clear eg
      refine Or.inl ?_
      have e0 : av.tmps.getD 56 undef = .bool false := hw 12 (by kernel_rfl)
      have e1 : av.tmps.getD 62 undef = .bool true := hw 18 (by kernel_rfl)
      clear hw hF
      simp only [Oper.wp, execOp]
      go_simp
      exact hK _ x (by first | rfl | simp) (Below.refl _ _) (fun h => by cases h)
    · simp only [wpOp, List.getElem?_toArray, List.getElem?_cons_succ, List.getElem?_cons_zero, Region.wanted, if_true]
      refine Or.inl ?_
      have e0 : av.tmps.getD 50 undef = .bool true := hw 6 (by kernel_rfl)
      have e1 : av.tmps.getD 63 undef = .bool true := hw 19 (by kernel_rfl)
      clear hw hF
      simp only [Oper.wp, execOp]
      go_simp
      exact hK _ x (by first | rfl | simp) (Below.refl _ _) (fun h => by cases h)
    · simp only [wpOp, List.getElem?_toArray, List.getElem?_cons_succ, List.getElem?_cons_zero, Region.wanted, if_true]
      refine Or.inl ?_
      have e0 : av.tmps.getD 64 undef = .bool true := hw 20 (by kernel_rfl)
      clear hw hF
      simp only [Oper.wp, execOp]
      go_simp
      exact hK _ x (by first | rfl | simp) (Below.refl _ _) (fun h => by cases h)
    · simp only [wpOp, List.getElem?_toArray, List.getElem?_cons_succ, List.getElem?_cons_zero]
      have eg : av.tmps.getD 65 undef = .bool true := hw 21 (by kernel_rfl)
      refine ite_yes (wanted_yes rfl (yielded_of (t := 65) (by kernel_rfl) eg)) ?_
      clear eg
      refine Or.inl ?_
      have e0 : av.eval (.tmp 14) = .bool true := hF.2.2 14 (by decide)
      clear hw hF
      simp only [Oper.wp, execOp]
      rw [e0]
      go_simp
      exact hK _ x (by first | rfl | simp) (Below.refl _ _) (fun h => by cases h)
    · simp only [wpOp, List.getElem?_toArray, List.getElem?_cons_succ, List.getElem?_cons_zero, Region.wanted, if_true]
      refine Or.inl ?_
      have e0 : av.tmps.getD 65 undef = .bool true := hw 21 (by kernel_rfl)
      have e1 : av.tmps.getD 66 undef = .bool true := hw 22 (by kernel_rfl)
      clear hw hF
      simp only [Oper.wp, execOp]
      go_simp
      exact hK _ x (by first | rfl | simp) (Below.refl _ _) (fun h => by cases h)
    · simp only [wpOp, List.getElem?_toArray, List.getElem?_cons_succ, List.getElem?_cons_zero, Region.wanted, if_true]
      refine Or.inl ?_
      have e0 : av.tmps.getD 67 undef = .bool true := hw 23 (by kernel_rfl)
      clear hw hF
      simp only [Oper.wp, execOp]
      go_simp
      exact hK _ x (by first | rfl | simp) (Below.refl _ _) (fun h => by cases h)
    · simp only [wpOp, List.getElem?_toArray, List.getElem?_cons_succ, List.getElem?_cons_zero]
      have eg : av.tmps.getD 68 undef = .bool true := hw 24 (by kernel_rfl)
      refine ite_yes (wanted_yes rfl (yielded_of (t := 68) (by kernel_rfl) eg)) ?_
      clear eg
      refine Or.inl ?_
      have e0 : av.eval (.tmp 13) = .bool true := hF.2.2 13 (by decide)
      clear hw hF
      simp only [Oper.wp, execOp]
      rw [e0]
      go_simp
      exact hK _ x (by first | rfl | simp) (Below.refl _ _) (fun h => by cases h)
    · simp only [wpOp, List.getElem?_toArray, List.getElem?_cons_succ, List.getElem?_cons_zero]
      have eg : av.tmps.getD 68 undef = .bool true := hw 24 (by kernel_rfl)
      refine ite_yes (wanted_yes rfl (yielded_of (t := 68) (by kernel_rfl) eg)) ?_
      clear eg
      refine Or.inl ?_
      have e0 : av.tmps.getD 69 undef = .bool true := hw 25 (by kernel_rfl)
      clear hw hF
      simp only [Oper.wp, execOp]
      go_simp
      exact hK _ x (by first | rfl | simp) (Below.refl _ _) (fun h => by cases h)
    · simp only [wpOp, List.getElem?_toArray, List.getElem?_cons_succ, List.getElem?_cons_zero]
      have eg : av.tmps.getD 70 undef = .bool true := hw 26 (by kernel_rfl)
      refine ite_yes (wanted_yes rfl (yielded_of (t := 70) (by kernel_rfl) eg)) ?_
      clear eg
      refine Or.inl ?_
      have e0 : av.eval (.tmp 11) = .int .i64 0 := hF.2.2 11 (by decide)
      clear hw hF
      simp only [Oper.wp, execOp]
      rw [e0]
      go_simp
      exact hK _ x (by first | rfl | simp) (Below.refl _ _) (fun h => by cases h)
    · simp only [wpOp, List.getElem?_toArray, List.getElem?_cons_succ, List.getElem?_cons_zero]
      have eg : av.tmps.getD 70 undef = .bool true := hw 26 (by kernel_rfl)
      refine ite_yes (wanted_yes rfl (yielded_of (t := 70) (by kernel_rfl) eg)) ?_
      clear eg
      refine Or.inl ?_
      have e0 : av.tmps.getD 71 undef = .int .i64 0 := hw 27 (by kernel_rfl)
      clear hw hF
      simp only [Oper.wp, execOp]
      go_simp
      exact hK _ x (by first | rfl | simp) (Below.refl _ _) (fun h => by cases h)
    · simp only [wpOp, List.getElem?_toArray, List.getElem?_cons_succ, List.getElem?_cons_zero]
      have eg : av.tmps.getD 68 undef = .bool true := hw 24 (by kernel_rfl)
      refine ite_yes (wanted_yes rfl (yielded_of (t := 68) (by kernel_rfl) eg)) ?_
      clear eg
      refine Or.inl ?_
      have e0 : av.tmps.getD 70 undef = .bool true := hw 26 (by kernel_rfl)
      have e1 : av.tmps.getD 72 undef = .bool true := hw 28 (by kernel_rfl)
      clear hw hF
      simp only [Oper.wp, execOp]
      go_simp
      exact hK _ x (by first | rfl | simp) (Below.refl _ _) (fun h => by cases h)
    · simp only [wpOp, List.getElem?_toArray, List.getElem?_cons_succ, List.getElem?_cons_zero]
      have eg : av.tmps.getD 68 undef = .bool true := hw 24 (by kernel_rfl)
      refine ite_yes (wanted_yes rfl (yielded_of (t := 68) (by kernel_rfl) eg)) ?_
      clear eg
      refine Or.inl ?_
      have e0 : av.tmps.getD 73 undef = .bool true := hw 29 (by kernel_rfl)
      clear hw hF
      simp only [Oper.wp, execOp]
      go_simp
      exact hK _ x (by first | rfl | simp) (Below.refl _ _) (fun h => by cases h)
    · simp only [wpOp, List.getElem?_toArray, List.getElem?_cons_succ, List.getElem?_cons_zero]
      have eg : av.tmps.getD 74 undef = .bool true := hw 30 (by kernel_rfl)
      refine ite_not (wanted_not rfl (yielded_of (t := 74) (by kernel_rfl) eg)) ?_
      exact hK _ x rfl (Below.refl _ _) (fun h => by cases h)
    · simp only [wpOp, List.getElem?_toArray, List.getElem?_cons_succ, List.getElem?_cons_zero]
      have eg : av.tmps.getD 74 undef = .bool true := hw 30 (by kernel_rfl)
      refine ite_not (wanted_not rfl (yielded_of (t := 74) (by kernel_rfl) eg)) ?_
      exact hK _ x rfl (Below.refl _ _) (fun h => by cases h)
    · simp only [wpOp, List.getElem?_toArray, List.getElem?_cons_succ, List.getElem?_cons_zero]
      have eg : av.tmps.getD 74 undef = .bool true := hw 30 (by kernel_rfl)
      refine ite_not (wanted_not rfl (yielded_of (t := 74) (by kernel_rfl) eg)) ?_
      exact hK _ x rfl (Below.refl _ _) (fun h => by cases h)
    · simp only [wpOp, List.getElem?_toArray, List.getElem?_cons_succ, List.getElem?_cons_zero]
      have eg : av.tmps.getD 77 undef = undef := hw 33 (by kernel_rfl)
      refine ite_not (wanted_none rfl (yielded_none (t := 77) (by kernel_rfl) eg)) ?_
      exact hK _ x rfl (Below.refl _ _) (fun h => by cases h)
    · simp only [wpOp, List.getElem?_toArray, List.getElem?_cons_succ, List.getElem?_cons_zero]
      have eg : av.tmps.getD 77 undef = undef := hw 33 (by kernel_rfl)
      refine ite_not (wanted_none rfl (yielded_none (t := 77) (by kernel_rfl) eg)) ?_
      exact hK _ x rfl (Below.refl _ _) (fun h => by cases h)
    · simp only [wpOp, List.getElem?_toArray, List.getElem?_cons_succ, List.getElem?_cons_zero]
      have eg : av.tmps.getD 74 undef = .bool true := hw 30 (by kernel_rfl)
      refine ite_not (wanted_not rfl (yielded_of (t := 74) (by kernel_rfl) eg)) ?_
      exact hK _ x rfl (Below.refl _ _) (fun h => by cases h)
    · simp only [wpOp, List.getElem?_toArray, List.getElem?_cons_succ, List.getElem?_cons_zero]
      have eg : av.tmps.getD 68 undef = .bool true := hw 24 (by kernel_rfl)
      refine ite_yes (wanted_yes rfl (yielded_of (t := 68) (by kernel_rfl) eg)) ?_
      clear eg
      refine Or.inl ?_
      have e0 : av.tmps.getD 74 undef = .bool true := hw 30 (by kernel_rfl)
      have e1 : av.tmps.getD 80 undef = undef := hw 36 (by kernel_rfl)
      clear hw hF
      simp only [Oper.wp, execOp]
      go_simp
      exact hK _ x (by first | rfl | simp) (Below.refl _ _) (fun h => by cases h)
    · simp only [wpOp, List.getElem?_toArray, List.getElem?_cons_succ, List.getElem?_cons_zero, Region.wanted, if_true]
      refine Or.inl ?_
      have e0 : av.tmps.getD 68 undef = .bool true := hw 24 (by kernel_rfl)
      have e1 : av.tmps.getD 81 undef = .bool true := hw 37 (by kernel_rfl)
      clear hw hF
      simp only [Oper.wp, execOp]
      go_simp
      exact hK _ x (by first | rfl | simp) (Below.refl _ _) (fun h => by cases h)
    · simp only [wpOp, List.getElem?_toArray, List.getElem?_cons_succ, List.getElem?_cons_zero, Region.wanted, if_true]
      refine Or.inl ?_
      have e0 : av.tmps.getD 82 undef = .bool true := hw 38 (by kernel_rfl)
      clear hw hF
      simp only [Oper.wp, execOp]
      go_simp
      exact hK _ x (by first | rfl | simp) (Below.refl _ _) (fun h => by cases h)
    · simp only [wpOp, List.getElem?_toArray, List.getElem?_cons_succ, List.getElem?_cons_zero]
      have eg : av.tmps.getD 83 undef = .bool true := hw 39 (by kernel_rfl)
      refine ite_yes (wanted_yes rfl (yielded_of (t := 83) (by kernel_rfl) eg)) ?_
      clear eg
      refine Or.inl ?_
      have e0 : av.eval (.tmp 2) = .pointer (some ⟨w.heap.size, 0, none⟩) := hF.2.2 2 (by decide)
      obtain ⟨f0, f1, f2⟩ := FN.out x hb
      clear hw hF
      simp only [Oper.wp, execOp]
      rw [e0]
      go_simp
      exact hK _ x (by first | rfl | simp) (Below.refl _ _) (fun h => by cases h)
    · simp only [wpOp, List.getElem?_toArray, List.getElem?_cons_succ, List.getElem?_cons_zero]
      have eg : av.tmps.getD 83 undef = .bool true := hw 39 (by kernel_rfl)
      refine ite_yes (wanted_yes rfl (yielded_of (t := 83) (by kernel_rfl) eg)) ?_
      clear eg
      refine Or.inl ?_
      have e0 : av.tmps.getD 84 undef = .agg #[.bool lf, .slice An zs.length cn, .slice Bn ys.length dn] := hw 40 (by kernel_rfl)
      clear hw hF
      simp only [Oper.wp, execOp]
      go_simp
      refine (RG.out x (VRN.out.1.below hb) (VRN.out.2.below hb)).mono ?_
      rintro e y ⟨rfl, hbb⟩
      exact hK _ y rfl hbb (fun h => by cases h)
    · simp only [wpOp, List.getElem?_toArray, List.getElem?_cons_succ, List.getElem?_cons_zero]
      have eg : av.tmps.getD 83 undef = .bool true := hw 39 (by kernel_rfl)
      refine ite_yes (wanted_yes rfl (yielded_of (t := 83) (by kernel_rfl) eg)) ?_
      clear eg
      refine Or.inl ?_
      have e0 : av.eval (.tmp 2) = .pointer (some ⟨w.heap.size, 0, none⟩) := hF.2.2 2 (by decide)
      obtain ⟨f0, f1, f2⟩ := FN.out x hb
      clear hw hF
      simp only [Oper.wp, execOp]
      rw [e0]
      go_simp
      exact hK _ x (by first | rfl | simp) (Below.refl _ _) (fun h => by cases h)
    · simp only [wpOp, List.getElem?_toArray, List.getElem?_cons_succ, List.getElem?_cons_zero]
      have eg : av.tmps.getD 83 undef = .bool true := hw 39 (by kernel_rfl)
      refine ite_yes (wanted_yes rfl (yielded_of (t := 83) (by kernel_rfl) eg)) ?_
      clear eg
      refine Or.inl ?_
      have e0 : av.tmps.getD 86 undef = .agg #[.bool lf, .slice An zs.length cn, .slice Bn ys.length dn] := hw 42 (by kernel_rfl)
      clear hw hF
      simp only [Oper.wp, execOp]
      go_simp
      refine (ref_any lf An cn zs Bn dn ys x (VRN.out.1.below hb) (VRN.out.2.below hb)).mono ?_
      rintro e y ⟨rfl, hbb⟩
      exact hK _ y rfl hbb (fun h => by cases h)
    · simp only [wpOp, List.getElem?_toArray, List.getElem?_cons_succ, List.getElem?_cons_zero]
      have eg : av.tmps.getD 83 undef = .bool true := hw 39 (by kernel_rfl)
      refine ite_yes (wanted_yes rfl (yielded_of (t := 83) (by kernel_rfl) eg)) ?_
      clear eg
      refine Or.inl ?_
      have e0 : av.tmps.getD 87 undef = .agg #[.bool lf, .slice An zs.length cn, .slice Bn ys.length dn] := hw 43 (by kernel_rfl)
      clear hw hF
      simp only [Oper.wp, execOp]
      go_simp
      refine (RG2.out x (VRN.out.1.below hb) (VRN.out.2.below hb)).mono ?_
      rintro e y ⟨rfl, hbb⟩
      exact hK _ y rfl hbb (fun h => by cases h)
    · simp only [wpOp, List.getElem?_toArray, List.getElem?_cons_succ, List.getElem?_cons_zero]
      have eg : av.tmps.getD 83 undef = .bool true := hw 39 (by kernel_rfl)
      refine ite_yes (wanted_yes rfl (yielded_of (t := 83) (by kernel_rfl) eg)) ?_
      clear eg
      refine Or.inl ?_
      have e0 : av.tmps.getD 85 undef = .bool rb := hw 41 (by kernel_rfl)
      have e1 : av.tmps.getD 88 undef = .bool rb := hw 44 (by kernel_rfl)
      clear hw hF
      simp only [Oper.wp, execOp]
      go_simp
      exact hK _ x (by first | rfl | simp) (Below.refl _ _) (fun h => by cases h)
    · simp only [wpOp, List.getElem?_toArray, List.getElem?_cons_succ, List.getElem?_cons_zero, Region.wanted, if_true]
      refine Or.inl ?_
      have e0 : av.tmps.getD 83 undef = .bool true := hw 39 (by kernel_rfl)
      have e1 : av.tmps.getD 89 undef = .bool true := hw 45 (by kernel_rfl)
      clear hw hF
      simp only [Oper.wp, execOp]
      go_simp
      exact hK _ x (by first | rfl | simp) (Below.refl _ _) (fun h => by cases h)
    · simp only [wpOp, List.getElem?_toArray, List.getElem?_cons_succ, List.getElem?_cons_zero, Region.wanted, if_true]
      refine Or.inl ?_
      have e0 : av.tmps.getD 90 undef = .bool true := hw 46 (by kernel_rfl)
      clear hw hF
      simp only [Oper.wp, execOp]
      go_simp
      exact hK _ x (by first | rfl | simp) (Below.refl _ _) (fun h => by cases h)
    · simp only [wpOp, List.getElem?_toArray, List.getElem?_cons_succ, List.getElem?_cons_zero]
      have eg : av.tmps.getD 91 undef = .bool true := hw 47 (by kernel_rfl)
      refine ite_yes (wanted_yes rfl (yielded_of (t := 91) (by kernel_rfl) eg)) ?_
      clear eg
      refine Or.inl ?_
      have e0 : av.eval (.tmp 2) = .pointer (some ⟨w.heap.size, 0, none⟩) := hF.2.2 2 (by decide)
      obtain ⟨f0, f1, f2⟩ := FN.out x hb
      clear hw hF
      simp only [Oper.wp, execOp]
      rw [e0]
      go_simp
      exact hK _ x (by first | rfl | simp) (Below.refl _ _) (fun h => by cases h)
    · simp only [wpOp, List.getElem?_toArray, List.getElem?_cons_succ, List.getElem?_cons_zero]
      have eg : av.tmps.getD 91 undef = .bool true := hw 47 (by kernel_rfl)
      refine ite_yes (wanted_yes rfl (yielded_of (t := 91) (by kernel_rfl) eg)) ?_
      clear eg
      refine Or.inl ?_
      have e0 : av.tmps.getD 92 undef = .agg #[.bool lf, .slice An zs.length cn, .slice Bn ys.length dn] := hw 48 (by kernel_rfl)
      clear hw hF
      simp only [Oper.wp, execOp]
      go_simp
      refine (SZ1.out x (VRN.out.1.below hb)).mono ?_
      rintro e y ⟨rfl, hbb⟩
      exact hK _ y rfl hbb (fun h => by cases h)
    · simp only [wpOp, List.getElem?_toArray, List.getElem?_cons_succ, List.getElem?_cons_zero]
      have eg : av.tmps.getD 91 undef = .bool true := hw 47 (by kernel_rfl)
      refine ite_yes (wanted_yes rfl (yielded_of (t := 91) (by kernel_rfl) eg)) ?_
      clear eg
      refine Or.inl ?_
      have e0 : av.eval (.tmp 2) = .pointer (some ⟨w.heap.size, 0, none⟩) := hF.2.2 2 (by decide)
      obtain ⟨f0, f1, f2⟩ := FN.out x hb
      clear hw hF
      simp only [Oper.wp, execOp]
      rw [e0]
      go_simp
      exact hK _ x (by first | rfl | simp) (Below.refl _ _) (fun h => by cases h)
    · simp only [wpOp, List.getElem?_toArray, List.getElem?_cons_succ, List.getElem?_cons_zero]
      have eg : av.tmps.getD 91 undef = .bool true := hw 47 (by kernel_rfl)
      refine ite_yes (wanted_yes rfl (yielded_of (t := 91) (by kernel_rfl) eg)) ?_
      clear eg
      refine Or.inl ?_
      have e0 : av.tmps.getD 94 undef = .agg #[.bool lf, .slice An zs.length cn, .slice Bn ys.length dn] := hw 50 (by kernel_rfl)
      clear hw hF
      simp only [Oper.wp, execOp]
      go_simp
      refine (ref_any lf An cn zs Bn dn ys x (VRN.out.1.below hb) (VRN.out.2.below hb)).mono ?_
      rintro e y ⟨rfl, hbb⟩
      exact hK _ y rfl hbb (fun h => by cases h)
    · simp only [wpOp, List.getElem?_toArray, List.getElem?_cons_succ, List.getElem?_cons_zero]
      have eg : av.tmps.getD 91 undef = .bool true := hw 47 (by kernel_rfl)
      refine ite_yes (wanted_yes rfl (yielded_of (t := 91) (by kernel_rfl) eg)) ?_
      clear eg
      refine Or.inl ?_
      have e0 : av.tmps.getD 95 undef = .agg #[.bool lf, .slice An zs.length cn, .slice Bn ys.length dn] := hw 51 (by kernel_rfl)
      clear hw hF
      simp only [Oper.wp, execOp]
      go_simp
      refine (SZ2.out x (VRN.out.1.below hb)).mono ?_
      rintro e y ⟨rfl, hbb⟩
      exact hK _ y rfl hbb (fun h => by cases h)
    · simp only [wpOp, List.getElem?_toArray, List.getElem?_cons_succ, List.getElem?_cons_zero]
      have eg : av.tmps.getD 91 undef = .bool true := hw 47 (by kernel_rfl)
      refine ite_yes (wanted_yes rfl (yielded_of (t := 91) (by kernel_rfl) eg)) ?_
      clear eg
      refine Or.inl ?_
      have e0 : av.tmps.getD 93 undef = .int .i64 (SN : Int) := hw 49 (by kernel_rfl)
      have e1 : av.tmps.getD 96 undef = .int .i64 (SN : Int) := hw 52 (by kernel_rfl)
      clear hw hF
      simp only [Oper.wp, execOp]
      go_simp
      exact hK _ x (by first | rfl | simp) (Below.refl _ _) (fun h => by cases h)
    · simp only [wpOp, List.getElem?_toArray, List.getElem?_cons_succ, List.getElem?_cons_zero, Region.wanted, if_true]
      refine Or.inl ?_
      have e0 : av.tmps.getD 91 undef = .bool true := hw 47 (by kernel_rfl)
      have e1 : av.tmps.getD 97 undef = .bool true := hw 53 (by kernel_rfl)
      clear hw hF
      simp only [Oper.wp, execOp]
      go_simp
      exact hK _ x (by first | rfl | simp) (Below.refl _ _) (fun h => by cases h)
  · intro av x hF hb hR _
    have e0 : av.tmps.getD 44 undef = .bool true := hR 0 (by decide)
    have e1 : av.tmps.getD 45 undef = .bool true := hR 1 (by decide)
    have e2 : av.tmps.getD 46 undef = .string t := hR 2 (by decide)
    have e3 : av.tmps.getD 47 undef = .string t := hR 3 (by decide)
    have e4 : av.tmps.getD 48 undef = .bool true := hR 4 (by decide)
    have e5 : av.tmps.getD 49 undef = .bool true := hR 5 (by decide)
    have e6 : av.tmps.getD 50 undef = .bool true := hR 6 (by decide)
    have e7 : av.tmps.getD 51 undef = .bool false := hR 7 (by decide)
    have e8 : av.tmps.getD 52 undef = .bool false := hR 8 (by decide)
    have e9 : av.tmps.getD 53 undef = undef := hR 9 (by decide)
    have e10 : av.tmps.getD 54 undef = undef := hR 10 (by decide)
    have e11 : av.tmps.getD 55 undef = .bool false := hR 11 (by decide)
    have e12 : av.tmps.getD 56 undef = .bool false := hR 12 (by decide)
    have e13 : av.tmps.getD 57 undef = .bool false := hR 13 (by decide)
    have e14 : av.tmps.getD 58 undef = .bool true := hR 14 (by decide)
    have e15 : av.tmps.getD 59 undef = .bool true := hR 15 (by decide)
    have e16 : av.tmps.getD 60 undef = .int .i64 1 := hR 16 (by decide)
    have e17 : av.tmps.getD 61 undef = .bool true := hR 17 (by decide)
    have e18 : av.tmps.getD 62 undef = .bool true := hR 18 (by decide)
    have e19 : av.tmps.getD 63 undef = .bool true := hR 19 (by decide)
    have e20 : av.tmps.getD 64 undef = .bool true := hR 20 (by decide)
    have e21 : av.tmps.getD 65 undef = .bool true := hR 21 (by decide)
    have e22 : av.tmps.getD 66 undef = .bool true := hR 22 (by decide)
    have e23 : av.tmps.getD 67 undef = .bool true := hR 23 (by decide)
    have e24 : av.tmps.getD 68 undef = .bool true := hR 24 (by decide)
    have e25 : av.tmps.getD 69 undef = .bool true := hR 25 (by decide)
    have e26 : av.tmps.getD 70 undef = .bool true := hR 26 (by decide)
    have e27 : av.tmps.getD 71 undef = .int .i64 0 := hR 27 (by decide)
    have e28 : av.tmps.getD 72 undef = .bool true := hR 28 (by decide)
    have e29 : av.tmps.getD 73 undef = .bool true := hR 29 (by decide)
    have e30 : av.tmps.getD 74 undef = .bool true := hR 30 (by decide)
    have e31 : av.tmps.getD 75 undef = undef := hR 31 (by decide)
    have e32 : av.tmps.getD 76 undef = undef := hR 32 (by decide)
    have e33 : av.tmps.getD 77 undef = undef := hR 33 (by decide)
    have e34 : av.tmps.getD 78 undef = undef := hR 34 (by decide)
    have e35 : av.tmps.getD 79 undef = undef := hR 35 (by decide)
    have e36 : av.tmps.getD 80 undef = undef := hR 36 (by decide)
    have e37 : av.tmps.getD 81 undef = .bool true := hR 37 (by decide)
    have e38 : av.tmps.getD 82 undef = .bool true := hR 38 (by decide)
    have e39 : av.tmps.getD 83 undef = .bool true := hR 39 (by decide)
    have e40 : av.tmps.getD 84 undef = .agg #[.bool lf, .slice An zs.length cn, .slice Bn ys.length dn] := hR 40 (by decide)
    have e41 : av.tmps.getD 85 undef = .bool rb := hR 41 (by decide)
    have e42 : av.tmps.getD 86 undef = .agg #[.bool lf, .slice An zs.length cn, .slice Bn ys.length dn] := hR 42 (by decide)
    have e43 : av.tmps.getD 87 undef = .agg #[.bool lf, .slice An zs.length cn, .slice Bn ys.length dn] := hR 43 (by decide)
    have e44 : av.tmps.getD 88 undef = .bool rb := hR 44 (by decide)
    have e45 : av.tmps.getD 89 undef = .bool true := hR 45 (by decide)
    have e46 : av.tmps.getD 90 undef = .bool true := hR 46 (by decide)
    have e47 : av.tmps.getD 91 undef = .bool true := hR 47 (by decide)
    have e48 : av.tmps.getD 92 undef = .agg #[.bool lf, .slice An zs.length cn, .slice Bn ys.length dn] := hR 48 (by decide)
    have e49 : av.tmps.getD 93 undef = .int .i64 (SN : Int) := hR 49 (by decide)
    have e50 : av.tmps.getD 94 undef = .agg #[.bool lf, .slice An zs.length cn, .slice Bn ys.length dn] := hR 50 (by decide)
    have e51 : av.tmps.getD 95 undef = .agg #[.bool lf, .slice An zs.length cn, .slice Bn ys.length dn] := hR 51 (by decide)
    have e52 : av.tmps.getD 96 undef = .int .i64 (SN : Int) := hR 52 (by decide)
    have e53 : av.tmps.getD 97 undef = .bool true := hR 53 (by decide)
    have e54 : av.tmps.getD 98 undef = .bool true := hR 54 (by decide)
    rw [hF.fold (by kernel_rfl)]
    simp only [List.foldl_cons, List.foldl_nil, e0, e1, e2, e3, e4, e5, e6, e7, e8, e9, e10, e11, e12, e13, e14, e15, e16, e17, e18, e19, e20, e21, e22, e23, e24, e25, e26, e27, e28, e29, e30, e31, e32, e33, e34, e35, e36, e37, e38, e39, e40, e41, e42, e43, e44, e45, e46, e47, e48, e49, e50, e51, e52, e53, e54]
    simp only [Act.put, List.setIfInBounds_toArray, List.set_cons_zero, List.set_cons_succ]
    change wpOps _ _ _ [55] _ _
    simp only [wpOps_cons]
    clear e0 e1 e2 e3 e4 e5 e6 e7 e8 e9 e10 e11 e12 e13 e14 e15 e16 e17 e18 e19 e20 e21 e22 e23 e24 e25 e26 e27 e28 e29 e30 e31 e32 e33 e34 e35 e36 e37 e38 e39 e40 e41 e42 e43 e44 e45 e46 e47 e48 e49 e50 e51 e52 e53 e54 hR hF
    have HE := Lib.hid hb
    clear hb
    simp only [wpOp, List.getElem?_toArray, List.getElem?_cons_succ, List.getElem?_cons_zero, Region.wanted, if_true]
    refine Or.inl ?_
    simp only [Oper.wp, execOp]
    go_simp
    try simp only [wpOps]
    go_wp2
    go_ret
    exact ⟨rfl, KN.out.trans (HE.out.mono KN.out.size)⟩
set_option maxHeartbeats 16000000 in
set_option maxRecDepth 100000 in
theorem bytes_nn (lf : Bool) (A : Option Addr) (c : Nat) (ks : List (List UInt8)) (B : Option Addr) (d : Nat) (ds : List Int) (S : List UInt8) (w : World) (h : Rl sv w A c ks) (h2 : Rl nv w B d ds) (zs : List (List UInt8)) (hz : ks.take 12 = zs) (ys : List Int) (hy : ds.take 13 = ys) (hsz : sizeN zs ys < 4611686018427387904)
    (t : ByteArray) (l2 : Bool) (K2 : List (List UInt8)) (D2 : List Int) (l2_ : K2.length ≤ 4000000 ∧ D2.length ≤ 4000001)
    (hE1 : ∀ A c B d V, Rl sv V A c zs → Rl nv V B d ys → Calls Try.prog 12 #[.agg #[.bool lf, .slice A zs.length c, .slice B ys.length d]] V fun e w' => e = .returned (.tuple #[.string t, .int .i64 1]) ∧ Below V.heap.size V w')
    (hE2 : ∀ A c B d V, Rl sv V A c zs → Rl nv V B d ys → Calls Try.prog 13 #[.agg #[.bool lf, .slice A zs.length c, .slice B ys.length d]] V fun e w' => e = .returned (.tuple #[.string t, .bool false]) ∧ Below V.heap.size V w')
    (hD1 : ∀ V, Calls Try.prog 15 #[.string ⟨S.toArray⟩] V fun e w' => ∃ A' c' B' d', e = .returned (.tuple #[.agg #[.bool l2, .slice A' K2.length c', .slice B' D2.length d'], .int .i64 2]) ∧ Rl sv w' A' c' K2 ∧ Rl nv w' B' d' D2 ∧ Below V.heap.size V w')
    (hD2 : ∀ V, Calls Try.prog 16 #[.string ⟨S.toArray⟩] V fun e w' => ∃ A' c' B' d', e = .returned (.tuple #[.agg #[.bool l2, .slice A' K2.length c', .slice B' D2.length d'], .bool false]) ∧ Rl sv w' A' c' K2 ∧ Rl nv w' B' d' D2 ∧ Below V.heap.size V w') :
    Calls Try.prog 3 #[.agg #[.bool lf, .slice A ks.length c, .slice B ds.length d], .string ⟨S.toArray⟩] w fun e w' => e = .returned (.bool true) ∧ Below w.heap.size w w' := by
  obtain ⟨W, hW⟩ : ∃ W : World, W = w.alloc (.cells #[.bool lf, .slice A ks.length c, .slice B ds.length d] 25) := ⟨_, rfl⟩
  have RN := Lib.hid (show W.heap[w.heap.size]? = some (.cells #[.bool lf, .slice A ks.length c, .slice B ds.length d] 25 (0, 0)) by rw [hW]; exact heap_alloc_new _ _)
  have KN := Lib.hid (show Below w.heap.size w W by rw [hW]; exact bda _ _)
  have HW := Lib.hid hW
  have H1 := Lib.hid (And.intro h h2)
  have EN1 := Lib.hid hE1
  have EN2 := Lib.hid hE2
  have DE1 := Lib.hid hD1
  have DE2 := Lib.hid hD2
  have L2 := Lib.hid l2_
  obtain ⟨rb, hrb⟩ : ∃ b, rightB lf zs ys = b := ⟨_, rfl⟩
  obtain ⟨SN, hSN⟩ : ∃ b, sizeN zs ys = b := ⟨_, rfl⟩
  have lz : zs.length ≤ 12 := by rw [← hz, List.length_take]; omega
  have ly : ys.length ≤ 13 := by rw [← hy, List.length_take]; omega
  have RGx := fun (A : Option Addr) (c : Nat) (B : Option Addr) (d : Nat) V (h1 : Rl sv V A c zs) (h3 : Rl nv V B d ys) => right_any lf A c zs B d ys V h1 h3 (by omega) (by omega) hsz
  have RGy := fun (A : Option Addr) (c : Nat) (B : Option Addr) (d : Nat) V (h1 : Rl sv V A c zs) (h3 : Rl nv V B d ys) => rright_any lf A c zs B d ys V h1 h3 (by omega) (by omega) hsz
  rw [hrb] at RGx RGy
  have SZx := fun (A : Option Addr) (c : Nat) (B : Option Addr) (d : Nat) V (h1 : Rl sv V A c zs) => size_any lf A c zs B d ys V h1 (by omega) hsz
  have SZy := fun (A : Option Addr) (c : Nat) (B : Option Addr) (d : Nat) V (h1 : Rl sv V A c zs) => rsize_any lf A c zs B d ys V h1 (by omega) hsz
  rw [hSN] at SZx SZy
  have G1 := Lib.hid RGx
  have G2 := Lib.hid RGy
  have S1 := Lib.hid SZx
  have S2 := Lib.hid SZy
  have HZ := Lib.hid (And.intro hz hy)
  clear hW h h2 hE1 hE2 hD1 hD2 l2_ hrb hSN lz ly RGx RGy SZx SZy hsz hz hy
  go_enter Try.func3, Try.ntmps3
  go_wp2_with fail
  rw [← HW.out]
  clear HW
  refine (examples_any _).mono ?_
  rintro e w1 ⟨rfl, hb⟩
  have RNx := Lib.hid (row_on RN.out hb)
  have KNx := Lib.hid (KN.out.trans (hb.mono KN.out.size))
  clear RN KN
  have RN := RNx
  have KN := KNx
  clear RNx KNx
  clear hb
  have f0 := row_c RN.out (i := 0) rfl
  have f1 := row_c RN.out (i := 1) rfl
  have f2 := row_c RN.out (i := 2) rfl
  go_wp2_with fail
  refine (few_any lf A c ks B d ds _ (H1.out.1.below KN.out) (H1.out.2.below KN.out)).mono ?_
  rw [HZ.out.1, HZ.out.2]
  rintro e w2 ⟨An, cn, Bn, dn, rfl, g1, g2, hb⟩
  have RNx := Lib.hid (row_on RN.out hb)
  have KNx := Lib.hid (KN.out.trans (hb.mono KN.out.size))
  clear RN KN
  have RN := RNx
  have KN := KNx
  clear RNx KNx
  have VF := Lib.hid (And.intro g1 g2)
  clear hb g1 g2 f0 f1 f2 H1
  have p0 := row_c RN.out (i := 0) rfl
  have p1 := row_c RN.out (i := 1) rfl
  have p2 := row_c RN.out (i := 2) rfl
  have y0 := frozen_of_row _ _ 0 _ _ RN.out
  have y1 := frozen_of_row _ _ 1 _ _ RN.out
  have y2 := frozen_of_row _ _ 2 _ _ RN.out
  obtain ⟨V1, hV⟩ : ∃ V : World, V = ((w2.setCell ⟨w.heap.size, 0, none⟩ (.bool lf)).setCell ⟨w.heap.size, 1, none⟩ (.slice An zs.length cn)).setCell ⟨w.heap.size, 2, none⟩ (.slice Bn ys.length dn) := ⟨_, rfl⟩
  have RNx := Lib.hid (show V1.heap[w.heap.size]? = some (.cells #[.bool lf, .slice An zs.length cn, .slice Bn ys.length dn] 25 (0, 0)) by rw [hV]; have := row_set (i := 2) (row_set (i := 1) (row_set (i := 0) RN.out (.bool lf)) (.slice An zs.length cn)) (.slice Bn ys.length dn); simpa using this)
  have VRN := Lib.hid (show Rl sv V1 An cn zs ∧ Rl nv V1 Bn dn ys by rw [hV]; exact ⟨rl_off3 VF.out.1 RN.out (fun z i h => off_s h) _ _ _, rl_off3 VF.out.2 RN.out (fun z i h => off_n h) _ _ _⟩)
  have KNx := Lib.hid (show Below w.heap.size w V1 by rw [hV]; exact ((KN.out.setCell (by simp) _).setCell (by simp) _).setCell (by simp) _)
  have HV := Lib.hid hV
  clear hV VF KN RN
  have RN := RNx
  have KN := KNx
  clear RNx KNx
  go_upto_region 5 with (fail)
  rw [← HV.out]
  clear HV p0 p1 p2 y0 y1 y2
  have f0 := row_c RN.out (i := 0) rfl
  have f1 := row_c RN.out (i := 1) rfl
  have f2 := row_c RN.out (i := 2) rfl
  go_wp2_with fail
  refine (EN1.out An cn Bn dn _ VRN.out.1 VRN.out.2).mono ?_
  rintro e w4 ⟨rfl, hb⟩
  have RNx := Lib.hid (row_on RN.out hb)
  have VRNx := Lib.hid (And.intro (VRN.out.1.below hb) (VRN.out.2.below hb))
  have KNx := Lib.hid (KN.out.trans (hb.mono KN.out.size))
  clear RN VRN KN
  have RN := RNx
  have VRN := VRNx
  have KN := KNx
  clear RNx VRNx KNx
  clear hb f0 f1 f2
  have f0 := row_c RN.out (i := 0) rfl
  have f1 := row_c RN.out (i := 1) rfl
  have f2 := row_c RN.out (i := 2) rfl
  go_wp2_with fail
  refine (ref_any lf An cn zs Bn dn ys _ VRN.out.1 VRN.out.2).mono ?_
  rintro e w5 ⟨rfl, hb⟩
  have RNx := Lib.hid (row_on RN.out hb)
  have VRNx := Lib.hid (And.intro (VRN.out.1.below hb) (VRN.out.2.below hb))
  have KNx := Lib.hid (KN.out.trans (hb.mono KN.out.size))
  clear RN VRN KN
  have RN := RNx
  have VRN := VRNx
  have KN := KNx
  clear RNx VRNx KNx
  clear hb f0 f1 f2
  go_wp2_with fail
  refine (EN2.out An cn Bn dn _ VRN.out.1 VRN.out.2).mono ?_
  rintro e w6 ⟨rfl, hb⟩
  have RNx := Lib.hid (row_on RN.out hb)
  have VRNx := Lib.hid (And.intro (VRN.out.1.below hb) (VRN.out.2.below hb))
  have KNx := Lib.hid (KN.out.trans (hb.mono KN.out.size))
  clear RN VRN KN
  have RN := RNx
  have VRN := VRNx
  have KN := KNx
  clear RNx VRNx KNx
  clear hb
  go_wp2_with fail
  refine (DE1.out _).mono ?_
  rintro e w7 ⟨A5, c5, B5, d5, rfl, g1, g2, hb⟩
  have RNx := Lib.hid (row_on RN.out hb)
  have VRNx := Lib.hid (And.intro (VRN.out.1.below hb) (VRN.out.2.below hb))
  have KNx := Lib.hid (KN.out.trans (hb.mono KN.out.size))
  clear RN VRN KN
  have RN := RNx
  have VRN := VRNx
  have KN := KNx
  clear RNx VRNx KNx
  have VD := Lib.hid (And.intro g1 g2)
  clear hb g1 g2
  go_upto_region 8 with (fail)
  obtain ⟨V7, hV⟩ : ∃ V : World, V = w7.alloc (.cells #[.bool l2, .slice A5 K2.length c5, .slice B5 D2.length d5] 25) := ⟨_, rfl⟩
  obtain ⟨g7, hg7⟩ : ∃ g : Nat, w7.heap.size = g := ⟨_, rfl⟩
  have RD := Lib.hid (show V7.heap[g7]? = some (.cells #[.bool l2, .slice A5 K2.length c5, .slice B5 D2.length d5] 25 (0, 0)) by rw [← hg7, hV]; exact heap_alloc_new _ _)
  have BV := Lib.hid (show Below w7.heap.size w7 V7 by rw [hV]; exact bda _ _)
  have RNx := Lib.hid (row_on RN.out BV.out)
  have VRNx := Lib.hid (And.intro (VRN.out.1.below BV.out) (VRN.out.2.below BV.out))
  have VDx := Lib.hid (And.intro (VD.out.1.below BV.out) (VD.out.2.below BV.out))
  have KNx := Lib.hid (KN.out.trans (BV.out.mono KN.out.size))
  clear RN VRN VD KN
  have RN := RNx
  have VRN := VRNx
  have VD := VDx
  have KN := KNx
  clear RNx VRNx VDx KNx
  rw [← hV]
  clear hV BV
  go_wp2_with fail
  refine (DE2.out _).mono ?_
  rintro e w8 ⟨A6, c6, B6, d6, rfl, g1, g2, hb⟩
  have RNx := Lib.hid (row_on RN.out hb)
  have RDx := Lib.hid (row_on RD.out hb)
  have VRNx := Lib.hid (And.intro (VRN.out.1.below hb) (VRN.out.2.below hb))
  have VDx := Lib.hid (And.intro (VD.out.1.below hb) (VD.out.2.below hb))
  have KNx := Lib.hid (KN.out.trans (hb.mono KN.out.size))
  clear RN RD VRN VD KN
  have RN := RNx
  have RD := RDx
  have VRN := VRNx
  have VD := VDx
  have KN := KNx
  clear RNx RDx VRNx VDx KNx
  have VE := Lib.hid (And.intro g1 g2)
  clear hb g1 g2
  go_upto_region 9 with (fail)
  obtain ⟨V8, hV⟩ : ∃ V : World, V = w8.alloc (.cells #[.bool l2, .slice A6 K2.length c6, .slice B6 D2.length d6] 33) := ⟨_, rfl⟩
  obtain ⟨g8, hg8⟩ : ∃ g : Nat, w8.heap.size = g := ⟨_, rfl⟩
  have RE := Lib.hid (show V8.heap[g8]? = some (.cells #[.bool l2, .slice A6 K2.length c6, .slice B6 D2.length d6] 33 (0, 0)) by rw [← hg8, hV]; exact heap_alloc_new _ _)
  have BV := Lib.hid (show Below w8.heap.size w8 V8 by rw [hV]; exact bda _ _)
  have RNx := Lib.hid (row_on RN.out BV.out)
  have RDx := Lib.hid (row_on RD.out BV.out)
  have VRNx := Lib.hid (And.intro (VRN.out.1.below BV.out) (VRN.out.2.below BV.out))
  have VDx := Lib.hid (And.intro (VD.out.1.below BV.out) (VD.out.2.below BV.out))
  have VEx := Lib.hid (And.intro (VE.out.1.below BV.out) (VE.out.2.below BV.out))
  have KNx := Lib.hid (KN.out.trans (BV.out.mono KN.out.size))
  clear RN RD VRN VD VE KN
  have RN := RNx
  have RD := RDx
  have VRN := VRNx
  have VD := VDx
  have VE := VEx
  have KN := KNx
  clear RNx RDx VRNx VDx VEx KNx
  rw [← hV]
  clear hV BV
  have f0 := row_c RD.out (i := 0) rfl
  have f1 := row_c RD.out (i := 1) rfl
  have f2 := row_c RD.out (i := 2) rfl
  have k0 := row_c RE.out (i := 0) rfl
  have k1 := row_c RE.out (i := 1) rfl
  have k2 := row_c RE.out (i := 2) rfl
  try rw [hg7]
  try rw [hg8]
  go_wp2_with fail
  refine (nodes_any l2 _ _ _ _ _ _ _ _ K2 D2 _ VD.out.1 VD.out.2 VE.out.1 VE.out.2 L2.out.1 L2.out.2).mono ?_
  rintro e w9 ⟨rfl, hb⟩
  have RNx := Lib.hid (row_on RN.out hb)
  have RDx := Lib.hid (row_on RD.out hb)
  have REx := Lib.hid (row_on RE.out hb)
  have VRNx := Lib.hid (And.intro (VRN.out.1.below hb) (VRN.out.2.below hb))
  have VDx := Lib.hid (And.intro (VD.out.1.below hb) (VD.out.2.below hb))
  have VEx := Lib.hid (And.intro (VE.out.1.below hb) (VE.out.2.below hb))
  have KNx := Lib.hid (KN.out.trans (hb.mono KN.out.size))
  clear RN RD RE VRN VD VE KN
  have RN := RNx
  have RD := RDx
  have RE := REx
  have VRN := VRNx
  have VD := VDx
  have VE := VEx
  have KN := KNx
  clear RNx RDx REx VRNx VDx VEx KNx
  clear hb f0 f1 f2 k0 k1 k2
  go_upto_region 10 with (fail)
  have RG := Lib.hid (fun V h1 h3 => G1.out An cn Bn dn V h1 h3)
  have RG2 := Lib.hid (fun V h1 h3 => G2.out An cn Bn dn V h1 h3)
  have SZ1 := Lib.hid (fun V h1 => S1.out An cn Bn dn V h1)
  have SZ2 := Lib.hid (fun V h1 => S2.out An cn Bn dn V h1)
  have FN := Lib.hid (fun x (K : Below w9.heap.size w9 x) => And.intro (row_c (row_on RN.out K) (i := 0) rfl) (And.intro (row_c (row_on RN.out K) (i := 1) rfl) (row_c (row_on RN.out K) (i := 2) rfl)))
  refine wp_operands (W := w9) rfl 55 [44, 45, 46, 47, 48, 49, 50, 51, 52, 53, 54, 55, 56, 57, 58, 59, 60, 61, 62, 63, 64, 65, 66, 67, 68, 69, 70, 71, 72, 73, 74, 75, 76, 77, 78, 79, 80, 81, 82, 83, 84, 85, 86, 87, 88, 89, 90, 91, 92, 93, 94, 95, 96, 97, 98] (fun i u x => match i with | 0 => u = .bool true | 1 => u = .bool true | 2 => u = .string t | 3 => u = .string t | 4 => u = .bool true | 5 => u = .bool true | 6 => u = .bool true | 7 => u = .bool false | 8 => u = .bool false | 9 => u = undef | 10 => u = undef | 11 => u = .bool false | 12 => u = .bool false | 13 => u = .bool false | 14 => u = .bool true | 15 => u = .bool true | 16 => u = .int .i64 1 | 17 => u = .bool true | 18 => u = .bool true | 19 => u = .bool true | 20 => u = .bool true | 21 => u = .bool true | 22 => u = .bool true | 23 => u = .bool true | 24 => u = .bool true | 25 => u = .bool false | 26 => u = .bool false | 27 => u = undef | 28 => u = undef | 29 => u = .bool false | 30 => u = .bool false | 31 => u = .bool false | 32 => u = .bool true | 33 => u = .bool true | 34 => u = .int .i64 2 | 35 => u = .bool true | 36 => u = .bool true | 37 => u = .bool true | 38 => u = .bool true | 39 => u = .bool true | 40 => u = .agg #[.bool lf, .slice An zs.length cn, .slice Bn ys.length dn] | 41 => u = .bool rb | 42 => u = .agg #[.bool lf, .slice An zs.length cn, .slice Bn ys.length dn] | 43 => u = .agg #[.bool lf, .slice An zs.length cn, .slice Bn ys.length dn] | 44 => u = .bool rb | 45 => u = .bool true | 46 => u = .bool true | 47 => u = .bool true | 48 => u = .agg #[.bool lf, .slice An zs.length cn, .slice Bn ys.length dn] | 49 => u = .int .i64 (SN : Int) | 50 => u = .agg #[.bool lf, .slice An zs.length cn, .slice Bn ys.length dn] | 51 => u = .agg #[.bool lf, .slice An zs.length cn, .slice Bn ys.length dn] | 52 => u = .int .i64 (SN : Int) | 53 => u = .bool true | 54 => u = .bool true | _ => True) (fun _ => false)
    (by decide) rfl (by kernel_rfl) (by kernel_rfl) (by decide) (by kernel_rfl) ?_ (fun _ _ _ h => by cases h) ?_ ?_
  · intro i u x x' hi hR hb'
    have hi' : i = 0 ∨ i = 1 ∨ i = 2 ∨ i = 3 ∨ i = 4 ∨ i = 5 ∨ i = 6 ∨ i = 7 ∨ i = 8 ∨ i = 9 ∨ i = 10 ∨ i = 11 ∨ i = 12 ∨ i = 13 ∨ i = 14 ∨ i = 15 ∨ i = 16 ∨ i = 17 ∨ i = 18 ∨ i = 19 ∨ i = 20 ∨ i = 21 ∨ i = 22 ∨ i = 23 ∨ i = 24 ∨ i = 25 ∨ i = 26 ∨ i = 27 ∨ i = 28 ∨ i = 29 ∨ i = 30 ∨ i = 31 ∨ i = 32 ∨ i = 33 ∨ i = 34 ∨ i = 35 ∨ i = 36 ∨ i = 37 ∨ i = 38 ∨ i = 39 ∨ i = 40 ∨ i = 41 ∨ i = 42 ∨ i = 43 ∨ i = 44 ∨ i = 45 ∨ i = 46 ∨ i = 47 ∨ i = 48 ∨ i = 49 ∨ i = 50 ∨ i = 51 ∨ i = 52 ∨ i = 53 ∨ i = 54 := by omega
    rcases hi' with rfl | rfl | rfl | rfl | rfl | rfl | rfl | rfl | rfl | rfl | rfl | rfl | rfl | rfl | rfl | rfl | rfl | rfl | rfl | rfl | rfl | rfl | rfl | rfl | rfl | rfl | rfl | rfl | rfl | rfl | rfl | rfl | rfl | rfl | rfl | rfl | rfl | rfl | rfl | rfl | rfl | rfl | rfl | rfl | rfl | rfl | rfl | rfl | rfl | rfl | rfl | rfl | rfl | rfl | rfl
    all_goals exact hR
  · intro i av x K hi hF hb hw hK
    have hi' : i = 0 ∨ i = 1 ∨ i = 2 ∨ i = 3 ∨ i = 4 ∨ i = 5 ∨ i = 6 ∨ i = 7 ∨ i = 8 ∨ i = 9 ∨ i = 10 ∨ i = 11 ∨ i = 12 ∨ i = 13 ∨ i = 14 ∨ i = 15 ∨ i = 16 ∨ i = 17 ∨ i = 18 ∨ i = 19 ∨ i = 20 ∨ i = 21 ∨ i = 22 ∨ i = 23 ∨ i = 24 ∨ i = 25 ∨ i = 26 ∨ i = 27 ∨ i = 28 ∨ i = 29 ∨ i = 30 ∨ i = 31 ∨ i = 32 ∨ i = 33 ∨ i = 34 ∨ i = 35 ∨ i = 36 ∨ i = 37 ∨ i = 38 ∨ i = 39 ∨ i = 40 ∨ i = 41 ∨ i = 42 ∨ i = 43 ∨ i = 44 ∨ i = 45 ∨ i = 46 ∨ i = 47 ∨ i = 48 ∨ i = 49 ∨ i = 50 ∨ i = 51 ∨ i = 52 ∨ i = 53 ∨ i = 54 := by omega
    rcases hi' with rfl | rfl | rfl | rfl | rfl | rfl | rfl | rfl | rfl | rfl | rfl | rfl | rfl | rfl | rfl | rfl | rfl | rfl | rfl | rfl | rfl | rfl | rfl | rfl | rfl | rfl | rfl | rfl | rfl | rfl | rfl | rfl | rfl | rfl | rfl | rfl | rfl | rfl | rfl | rfl | rfl | rfl | rfl | rfl | rfl | rfl | rfl | rfl | rfl | rfl | rfl | rfl | rfl | rfl | rfl
    · simp only [wpOp, List.getElem?_toArray, List.getElem?_cons_zero, Region.wanted, if_true]
      refine Or.inl ?_
      have e0 : av.eval (.tmp 5) = .bool true := hF.2.2 5 (by decide)
      clear hw hF
      simp only [Oper.wp, execOp]
      rw [e0]
      go_simp
      exact hK _ x (by first | rfl | simp) (Below.refl _ _) (fun h => by cases h)
    · simp only [wpOp, List.getElem?_toArray, List.getElem?_cons_succ, List.getElem?_cons_zero, Region.wanted, if_true]
      refine Or.inl ?_
      have e0 : av.tmps.getD 44 undef = .bool true := hw 0 (by kernel_rfl)
      clear hw hF
      simp only [Oper.wp, execOp]
      go_simp
      exact hK _ x (by first | rfl | simp) (Below.refl _ _) (fun h => by cases h)
    · simp only [wpOp, List.getElem?_toArray, List.getElem?_cons_succ, List.getElem?_cons_zero]
      have eg : av.tmps.getD 45 undef = .bool true := hw 1 (by kernel_rfl)
      refine ite_yes (wanted_yes rfl (yielded_of (t := 45) (by kernel_rfl) eg)) ?_
      clear eg
      refine Or.inl ?_
      have e0 : av.eval (.tmp 6) = .string t := hF.2.2 6 (by decide)
      clear hw hF
      simp only [Oper.wp, execOp]
      rw [e0]
      go_simp
      exact hK _ x (by first | rfl | simp) (Below.refl _ _) (fun h => by cases h)
    · simp only [wpOp, List.getElem?_toArray, List.getElem?_cons_succ, List.getElem?_cons_zero]
      have eg : av.tmps.getD 45 undef = .bool true := hw 1 (by kernel_rfl)
      refine ite_yes (wanted_yes rfl (yielded_of (t := 45) (by kernel_rfl) eg)) ?_
      clear eg
      refine Or.inl ?_
      have e0 : av.eval (.tmp 8) = .string t := hF.2.2 8 (by decide)
      clear hw hF
      simp only [Oper.wp, execOp]
      rw [e0]
      go_simp
      exact hK _ x (by first | rfl | simp) (Below.refl _ _) (fun h => by cases h)
    · simp only [wpOp, List.getElem?_toArray, List.getElem?_cons_succ, List.getElem?_cons_zero]
      have eg : av.tmps.getD 45 undef = .bool true := hw 1 (by kernel_rfl)
      refine ite_yes (wanted_yes rfl (yielded_of (t := 45) (by kernel_rfl) eg)) ?_
      clear eg
      refine Or.inl ?_
      have e0 : av.tmps.getD 46 undef = .string t := hw 2 (by kernel_rfl)
      have e1 : av.tmps.getD 47 undef = .string t := hw 3 (by kernel_rfl)
      clear hw hF
      simp only [Oper.wp, execOp]
      go_simp
      exact hK _ x (by first | rfl | simp) (Below.refl _ _) (fun h => by cases h)
    · simp only [wpOp, List.getElem?_toArray, List.getElem?_cons_succ, List.getElem?_cons_zero, Region.wanted, if_true]
      refine Or.inl ?_
      have e0 : av.tmps.getD 45 undef = .bool true := hw 1 (by kernel_rfl)
      have e1 : av.tmps.getD 48 undef = .bool true := hw 4 (by kernel_rfl)
      clear hw hF
      simp only [Oper.wp, execOp]
      go_simp
      exact hK _ x (by first | rfl | simp) (Below.refl _ _) (fun h => by cases h)
    · simp only [wpOp, List.getElem?_toArray, List.getElem?_cons_succ, List.getElem?_cons_zero, Region.wanted, if_true]
      refine Or.inl ?_
      have e0 : av.tmps.getD 49 undef = .bool true := hw 5 (by kernel_rfl)
      clear hw hF
      simp only [Oper.wp, execOp]
      go_simp
      exact hK _ x (by first | rfl | simp) (Below.refl _ _) (fun h => by cases h)
    · simp only [wpOp, List.getElem?_toArray, List.getElem?_cons_succ, List.getElem?_cons_zero]
      have eg : av.tmps.getD 50 undef = .bool true := hw 6 (by kernel_rfl)
      refine ite_yes (wanted_yes rfl (yielded_of (t := 50) (by kernel_rfl) eg)) ?_
      clear eg
      refine Or.inl ?_
      have e0 : av.eval (.tmp 9) = .bool false := hF.2.2 9 (by decide)
      clear hw hF
      simp only [Oper.wp, execOp]
      rw [e0]
      go_simp
      exact hK _ x (by first | rfl | simp) (Below.refl _ _) (fun h => by cases h)
    · simp only [wpOp, List.getElem?_toArray, List.getElem?_cons_succ, List.getElem?_cons_zero]
      have eg : av.tmps.getD 50 undef = .bool true := hw 6 (by kernel_rfl)
      refine ite_yes (wanted_yes rfl (yielded_of (t := 50) (by kernel_rfl) eg)) ?_
      clear eg
      refine Or.inl ?_
      have e0 : av.tmps.getD 51 undef = .bool false := hw 7 (by kernel_rfl)
      clear hw hF
      simp only [Oper.wp, execOp]
      go_simp
      exact hK _ x (by first | rfl | simp) (Below.refl _ _) (fun h => by cases h)
    · simp only [wpOp, List.getElem?_toArray, List.getElem?_cons_succ, List.getElem?_cons_zero]
      have eg : av.tmps.getD 52 undef = .bool false := hw 8 (by kernel_rfl)
      refine ite_not (wanted_not rfl (yielded_of (t := 52) (by kernel_rfl) eg)) ?_
      exact hK _ x rfl (Below.refl _ _) (fun h => by cases h)
    · simp only [wpOp, List.getElem?_toArray, List.getElem?_cons_succ, List.getElem?_cons_zero]
      have eg : av.tmps.getD 52 undef = .bool false := hw 8 (by kernel_rfl)
      refine ite_not (wanted_not rfl (yielded_of (t := 52) (by kernel_rfl) eg)) ?_
      exact hK _ x rfl (Below.refl _ _) (fun h => by cases h)
    · simp only [wpOp, List.getElem?_toArray, List.getElem?_cons_succ, List.getElem?_cons_zero]
      have eg : av.tmps.getD 50 undef = .bool true := hw 6 (by kernel_rfl)
      refine ite_yes (wanted_yes rfl (yielded_of (t := 50) (by kernel_rfl) eg)) ?_
      clear eg
      refine Or.inl ?_
      have e0 : av.tmps.getD 52 undef = .bool false := hw 8 (by kernel_rfl)
      have e1 : av.tmps.getD 54 undef = undef := hw 10 (by kernel_rfl)
      clear hw hF
      simp only [Oper.wp, execOp]
      go_simp
      exact hK _ x (by first | rfl | simp) (Below.refl _ _) (fun h => by cases h)
    · simp only [wpOp, List.getElem?_toArray, List.getElem?_cons_succ, List.getElem?_cons_zero]
      have eg : av.tmps.getD 50 undef = .bool true := hw 6 (by kernel_rfl)
      refine ite_yes (wanted_yes rfl (yielded_of (t := 50) (by kernel_rfl) eg)) ?_
      clear eg
      refine Or.inl ?_
      have e0 : av.tmps.getD 55 undef = .bool false := hw 11 (by kernel_rfl)
      clear hw hF
      simp only [Oper.wp, execOp]
      go_simp
      exact hK _ x (by first | rfl | simp) (Below.refl _ _) (fun h => by cases h)
    · simp only [wpOp, List.getElem?_toArray, List.getElem?_cons_succ, List.getElem?_cons_zero]
      have eg : av.tmps.getD 56 undef = .bool false := hw 12 (by kernel_rfl)
      refine ite_yes (wanted_yes rfl (yielded_of (t := 56) (by kernel_rfl) eg)) ?_
      clear eg
      refine Or.inl ?_
      have e0 : av.eval (.tmp 9) = .bool false := hF.2.2 9 (by decide)
      clear hw hF
      simp only [Oper.wp, execOp]
      rw [e0]
      go_simp
      exact hK _ x (by first | rfl | simp) (Below.refl _ _) (fun h => by cases h)
    · simp only [wpOp, List.getElem?_toArray, List.getElem?_cons_succ, List.getElem?_cons_zero]
      have eg : av.tmps.getD 56 undef = .bool false := hw 12 (by kernel_rfl)
      refine ite_yes (wanted_yes rfl (yielded_of (t := 56) (by kernel_rfl) eg)) ?_
      clear eg
      refine Or.inl ?_
      have e0 : av.tmps.getD 57 undef = .bool false := hw 13 (by kernel_rfl)
      clear hw hF
      simp only [Oper.wp, execOp]
      go_simp
      exact hK _ x (by first | rfl | simp) (Below.refl _ _) (fun h => by cases h)
    · simp only [wpOp, List.getElem?_toArray, List.getElem?_cons_succ, List.getElem?_cons_zero]
      have eg : av.tmps.getD 56 undef = .bool false := hw 12 (by kernel_rfl)
      refine ite_yes (wanted_yes rfl (yielded_of (t := 56) (by kernel_rfl) eg)) ?_
      clear eg
      refine Or.inl ?_
      have e0 : av.tmps.getD 58 undef = .bool true := hw 14 (by kernel_rfl)
      clear hw hF
      simp only [Oper.wp, execOp]
      go_simp
      exact hK _ x (by first | rfl | simp) (Below.refl _ _) (fun h => by cases h)
    · simp only [wpOp, List.getElem?_toArray, List.getElem?_cons_succ, List.getElem?_cons_zero]
      have eg : av.tmps.getD 59 undef = .bool true := hw 15 (by kernel_rfl)
      refine ite_yes (wanted_yes rfl (yielded_of (t := 59) (by kernel_rfl) eg)) ?_
      clear eg
      refine Or.inl ?_
      have e0 : av.eval (.tmp 7) = .int .i64 1 := hF.2.2 7 (by decide)
      clear hw hF
      simp only [Oper.wp, execOp]
      rw [e0]
      go_simp
      exact hK _ x (by first | rfl | simp) (Below.refl _ _) (fun h => by cases h)
    · simp only [wpOp, List.getElem?_toArray, List.getElem?_cons_succ, List.getElem?_cons_zero]
      have eg : av.tmps.getD 59 undef = .bool true := hw 15 (by kernel_rfl)
      refine ite_yes (wanted_yes rfl (yielded_of (t := 59) (by kernel_rfl) eg)) ?_
      clear eg
      refine Or.inl ?_
      have e0 : av.tmps.getD 60 undef = .int .i64 1 := hw 16 (by kernel_rfl)
      clear hw hF
      simp only [Oper.wp, execOp]
      go_simp
      exact hK _ x (by first | rfl | simp) (Below.refl _ _) (fun h => by cases h)
    · simp only [wpOp, List.getElem?_toArray, List.getElem?_cons_succ, List.getElem?_cons_zero]
      have eg : av.tmps.getD 56 undef = .bool false := hw 12 (by kernel_rfl)
      refine ite_yes (wanted_yes rfl (yielded_of (t := 56) (by kernel_rfl) eg)) ?_
      clear eg
      refine Or.inl ?_
      have e0 : av.tmps.getD 59 undef = .bool true := hw 15 (by kernel_rfl)
      have e1 : av.tmps.getD 61 undef = .bool true := hw 17 (by kernel_rfl)
      clear hw hF
      simp only [Oper.wp, execOp]
      go_simp
      exact hK _ x (by first | rfl | simp) (Below.refl _ _) (fun h => by cases h)
    · simp only [wpOp, List.getElem?_toArray, List.getElem?_cons_succ, List.getElem?_cons_zero]
      have eg : av.tmps.getD 50 undef = .bool true := hw 6 (by kernel_rfl)
      refine ite_yes (wanted_yes rfl (yielded_of (t := 50) (by kernel_rfl) eg)) ?_
      clear eg
      refine Or.inl ?_
      have e0 : av.tmps.getD 56 undef = .bool false := hw 12 (by kernel_rfl)
      have e1 : av.tmps.getD 62 undef = .bool true := hw 18 (by kernel_rfl)
      clear hw hF
      simp only [Oper.wp, execOp]
      go_simp
      exact hK _ x (by first | rfl | simp) (Below.refl _ _) (fun h => by cases h)
    · simp only [wpOp, List.getElem?_toArray, List.getElem?_cons_succ, List.getElem?_cons_zero, Region.wanted, if_true]
      refine Or.inl ?_
      have e0 : av.tmps.getD 50 undef = .bool true := hw 6 (by kernel_rfl)
      have e1 : av.tmps.getD 63 undef = .bool true := hw 19 (by kernel_rfl)
      clear hw hF
      simp only [Oper.wp, execOp]
      go_simp
      exact hK _ x (by first | rfl | simp) (Below.refl _ _) (fun h => by cases h)
    · simp only [wpOp, List.getElem?_toArray, List.getElem?_cons_succ, List.getElem?_cons_zero, Region.wanted, if_true]
      refine Or.inl ?_
      have e0 : av.tmps.getD 64 undef = .bool true := hw 20 (by kernel_rfl)
      clear hw hF
      simp only [Oper.wp, execOp]
      go_simp
      exact hK _ x (by first | rfl | simp) (Below.refl _ _) (fun h => by cases h)
    · simp only [wpOp, List.getElem?_toArray, List.getElem?_cons_succ, List.getElem?_cons_zero]
      have eg : av.tmps.getD 65 undef = .bool true := hw 21 (by kernel_rfl)
      refine ite_yes (wanted_yes rfl (yielded_of (t := 65) (by kernel_rfl) eg)) ?_
      clear eg
      refine Or.inl ?_
      have e0 : av.eval (.tmp 14) = .bool true := hF.2.2 14 (by decide)
      clear hw hF
      simp only [Oper.wp, execOp]
      rw [e0]
      go_simp
      exact hK _ x (by first | rfl | simp) (Below.refl _ _) (fun h => by cases h)
    · simp only [wpOp, List.getElem?_toArray, List.getElem?_cons_succ, List.getElem?_cons_zero, Region.wanted, if_true]
      refine Or.inl ?_
      have e0 : av.tmps.getD 65 undef = .bool true := hw 21 (by kernel_rfl)
      have e1 : av.tmps.getD 66 undef = .bool true := hw 22 (by kernel_rfl)
      clear hw hF
      simp only [Oper.wp, execOp]
      go_simp
      exact hK _ x (by first | rfl | simp) (Below.refl _ _) (fun h => by cases h)
    · simp only [wpOp, List.getElem?_toArray, List.getElem?_cons_succ, List.getElem?_cons_zero, Region.wanted, if_true]
      refine Or.inl ?_
      have e0 : av.tmps.getD 67 undef = .bool true := hw 23 (by kernel_rfl)
      clear hw hF
      simp only [Oper.wp, execOp]
      go_simp
      exact hK _ x (by first | rfl | simp) (Below.refl _ _) (fun h => by cases h)
    · simp only [wpOp, List.getElem?_toArray, List.getElem?_cons_succ, List.getElem?_cons_zero]
      have eg : av.tmps.getD 68 undef = .bool true := hw 24 (by kernel_rfl)
      refine ite_yes (wanted_yes rfl (yielded_of (t := 68) (by kernel_rfl) eg)) ?_
      clear eg
      refine Or.inl ?_
      have e0 : av.eval (.tmp 13) = .bool false := hF.2.2 13 (by decide)
      clear hw hF
      simp only [Oper.wp, execOp]
      rw [e0]
      go_simp
      exact hK _ x (by first | rfl | simp) (Below.refl _ _) (fun h => by cases h)
    · simp only [wpOp, List.getElem?_toArray, List.getElem?_cons_succ, List.getElem?_cons_zero]
      have eg : av.tmps.getD 68 undef = .bool true := hw 24 (by kernel_rfl)
      refine ite_yes (wanted_yes rfl (yielded_of (t := 68) (by kernel_rfl) eg)) ?_
      clear eg
      refine Or.inl ?_
      have e0 : av.tmps.getD 69 undef = .bool false := hw 25 (by kernel_rfl)
      clear hw hF
      simp only [Oper.wp, execOp]
      go_simp
      exact hK _ x (by first | rfl | simp) (Below.refl _ _) (fun h => by cases h)
    · simp only [wpOp, List.getElem?_toArray, List.getElem?_cons_succ, List.getElem?_cons_zero]
      have eg : av.tmps.getD 70 undef = .bool false := hw 26 (by kernel_rfl)
      refine ite_not (wanted_not rfl (yielded_of (t := 70) (by kernel_rfl) eg)) ?_
      exact hK _ x rfl (Below.refl _ _) (fun h => by cases h)
    · simp only [wpOp, List.getElem?_toArray, List.getElem?_cons_succ, List.getElem?_cons_zero]
      have eg : av.tmps.getD 70 undef = .bool false := hw 26 (by kernel_rfl)
      refine ite_not (wanted_not rfl (yielded_of (t := 70) (by kernel_rfl) eg)) ?_
      exact hK _ x rfl (Below.refl _ _) (fun h => by cases h)
    · simp only [wpOp, List.getElem?_toArray, List.getElem?_cons_succ, List.getElem?_cons_zero]
      have eg : av.tmps.getD 68 undef = .bool true := hw 24 (by kernel_rfl)
      refine ite_yes (wanted_yes rfl (yielded_of (t := 68) (by kernel_rfl) eg)) ?_
      clear eg
      refine Or.inl ?_
      have e0 : av.tmps.getD 70 undef = .bool false := hw 26 (by kernel_rfl)
      have e1 : av.tmps.getD 72 undef = undef := hw 28 (by kernel_rfl)
      clear hw hF
      simp only [Oper.wp, execOp]
      go_simp
      exact hK _ x (by first | rfl | simp) (Below.refl _ _) (fun h => by cases h)
    · simp only [wpOp, List.getElem?_toArray, List.getElem?_cons_succ, List.getElem?_cons_zero]
      have eg : av.tmps.getD 68 undef = .bool true := hw 24 (by kernel_rfl)
      refine ite_yes (wanted_yes rfl (yielded_of (t := 68) (by kernel_rfl) eg)) ?_
      clear eg
      refine Or.inl ?_
      have e0 : av.tmps.getD 73 undef = .bool false := hw 29 (by kernel_rfl)
      clear hw hF
      simp only [Oper.wp, execOp]
      go_simp
      exact hK _ x (by first | rfl | simp) (Below.refl _ _) (fun h => by cases h)
    · simp only [wpOp, List.getElem?_toArray, List.getElem?_cons_succ, List.getElem?_cons_zero]
      have eg : av.tmps.getD 74 undef = .bool false := hw 30 (by kernel_rfl)
      refine ite_yes (wanted_yes rfl (yielded_of (t := 74) (by kernel_rfl) eg)) ?_
      clear eg
      refine Or.inl ?_
      have e0 : av.eval (.tmp 13) = .bool false := hF.2.2 13 (by decide)
      clear hw hF
      simp only [Oper.wp, execOp]
      rw [e0]
      go_simp
      exact hK _ x (by first | rfl | simp) (Below.refl _ _) (fun h => by cases h)
    · simp only [wpOp, List.getElem?_toArray, List.getElem?_cons_succ, List.getElem?_cons_zero]
      have eg : av.tmps.getD 74 undef = .bool false := hw 30 (by kernel_rfl)
      refine ite_yes (wanted_yes rfl (yielded_of (t := 74) (by kernel_rfl) eg)) ?_
      clear eg
      refine Or.inl ?_
      have e0 : av.tmps.getD 75 undef = .bool false := hw 31 (by kernel_rfl)
      clear hw hF
      simp only [Oper.wp, execOp]
      go_simp
      exact hK _ x (by first | rfl | simp) (Below.refl _ _) (fun h => by cases h)
    · simp only [wpOp, List.getElem?_toArray, List.getElem?_cons_succ, List.getElem?_cons_zero]
      have eg : av.tmps.getD 74 undef = .bool false := hw 30 (by kernel_rfl)
      refine ite_yes (wanted_yes rfl (yielded_of (t := 74) (by kernel_rfl) eg)) ?_
      clear eg
      refine Or.inl ?_
      have e0 : av.tmps.getD 76 undef = .bool true := hw 32 (by kernel_rfl)
      clear hw hF
      simp only [Oper.wp, execOp]
      go_simp
      exact hK _ x (by first | rfl | simp) (Below.refl _ _) (fun h => by cases h)
    · simp only [wpOp, List.getElem?_toArray, List.getElem?_cons_succ, List.getElem?_cons_zero]
      have eg : av.tmps.getD 77 undef = .bool true := hw 33 (by kernel_rfl)
      refine ite_yes (wanted_yes rfl (yielded_of (t := 77) (by kernel_rfl) eg)) ?_
      clear eg
      refine Or.inl ?_
      have e0 : av.eval (.tmp 11) = .int .i64 2 := hF.2.2 11 (by decide)
      clear hw hF
      simp only [Oper.wp, execOp]
      rw [e0]
      go_simp
      exact hK _ x (by first | rfl | simp) (Below.refl _ _) (fun h => by cases h)
    · simp only [wpOp, List.getElem?_toArray, List.getElem?_cons_succ, List.getElem?_cons_zero]
      have eg : av.tmps.getD 77 undef = .bool true := hw 33 (by kernel_rfl)
      refine ite_yes (wanted_yes rfl (yielded_of (t := 77) (by kernel_rfl) eg)) ?_
      clear eg
      refine Or.inl ?_
      have e0 : av.tmps.getD 78 undef = .int .i64 2 := hw 34 (by kernel_rfl)
      clear hw hF
      simp only [Oper.wp, execOp]
      go_simp
      exact hK _ x (by first | rfl | simp) (Below.refl _ _) (fun h => by cases h)
    · simp only [wpOp, List.getElem?_toArray, List.getElem?_cons_succ, List.getElem?_cons_zero]
      have eg : av.tmps.getD 74 undef = .bool false := hw 30 (by kernel_rfl)
      refine ite_yes (wanted_yes rfl (yielded_of (t := 74) (by kernel_rfl) eg)) ?_
      clear eg
      refine Or.inl ?_
      have e0 : av.tmps.getD 77 undef = .bool true := hw 33 (by kernel_rfl)
      have e1 : av.tmps.getD 79 undef = .bool true := hw 35 (by kernel_rfl)
      clear hw hF
      simp only [Oper.wp, execOp]
      go_simp
      exact hK _ x (by first | rfl | simp) (Below.refl _ _) (fun h => by cases h)
    · simp only [wpOp, List.getElem?_toArray, List.getElem?_cons_succ, List.getElem?_cons_zero]
      have eg : av.tmps.getD 68 undef = .bool true := hw 24 (by kernel_rfl)
      refine ite_yes (wanted_yes rfl (yielded_of (t := 68) (by kernel_rfl) eg)) ?_
      clear eg
      refine Or.inl ?_
      have e0 : av.tmps.getD 74 undef = .bool false := hw 30 (by kernel_rfl)
      have e1 : av.tmps.getD 80 undef = .bool true := hw 36 (by kernel_rfl)
      clear hw hF
      simp only [Oper.wp, execOp]
      go_simp
      exact hK _ x (by first | rfl | simp) (Below.refl _ _) (fun h => by cases h)
    · simp only [wpOp, List.getElem?_toArray, List.getElem?_cons_succ, List.getElem?_cons_zero, Region.wanted, if_true]
      refine Or.inl ?_
      have e0 : av.tmps.getD 68 undef = .bool true := hw 24 (by kernel_rfl)
      have e1 : av.tmps.getD 81 undef = .bool true := hw 37 (by kernel_rfl)
      clear hw hF
      simp only [Oper.wp, execOp]
      go_simp
      exact hK _ x (by first | rfl | simp) (Below.refl _ _) (fun h => by cases h)
    · simp only [wpOp, List.getElem?_toArray, List.getElem?_cons_succ, List.getElem?_cons_zero, Region.wanted, if_true]
      refine Or.inl ?_
      have e0 : av.tmps.getD 82 undef = .bool true := hw 38 (by kernel_rfl)
      clear hw hF
      simp only [Oper.wp, execOp]
      go_simp
      exact hK _ x (by first | rfl | simp) (Below.refl _ _) (fun h => by cases h)
    · simp only [wpOp, List.getElem?_toArray, List.getElem?_cons_succ, List.getElem?_cons_zero]
      have eg : av.tmps.getD 83 undef = .bool true := hw 39 (by kernel_rfl)
      refine ite_yes (wanted_yes rfl (yielded_of (t := 83) (by kernel_rfl) eg)) ?_
      clear eg
      refine Or.inl ?_
      have e0 : av.eval (.tmp 2) = .pointer (some ⟨w.heap.size, 0, none⟩) := hF.2.2 2 (by decide)
      obtain ⟨f0, f1, f2⟩ := FN.out x hb
      clear hw hF
      simp only [Oper.wp, execOp]
      rw [e0]
      go_simp
      exact hK _ x (by first | rfl | simp) (Below.refl _ _) (fun h => by cases h)
    · simp only [wpOp, List.getElem?_toArray, List.getElem?_cons_succ, List.getElem?_cons_zero]
      have eg : av.tmps.getD 83 undef = .bool true := hw 39 (by kernel_rfl)
      refine ite_yes (wanted_yes rfl (yielded_of (t := 83) (by kernel_rfl) eg)) ?_
      clear eg
      refine Or.inl ?_
      have e0 : av.tmps.getD 84 undef = .agg #[.bool lf, .slice An zs.length cn, .slice Bn ys.length dn] := hw 40 (by kernel_rfl)
      clear hw hF
      simp only [Oper.wp, execOp]
      go_simp
      refine (RG.out x (VRN.out.1.below hb) (VRN.out.2.below hb)).mono ?_
      rintro e y ⟨rfl, hbb⟩
      exact hK _ y rfl hbb (fun h => by cases h)
    · simp only [wpOp, List.getElem?_toArray, List.getElem?_cons_succ, List.getElem?_cons_zero]
      have eg : av.tmps.getD 83 undef = .bool true := hw 39 (by kernel_rfl)
      refine ite_yes (wanted_yes rfl (yielded_of (t := 83) (by kernel_rfl) eg)) ?_
      clear eg
      refine Or.inl ?_
      have e0 : av.eval (.tmp 2) = .pointer (some ⟨w.heap.size, 0, none⟩) := hF.2.2 2 (by decide)
      obtain ⟨f0, f1, f2⟩ := FN.out x hb
      clear hw hF
      simp only [Oper.wp, execOp]
      rw [e0]
      go_simp
      exact hK _ x (by first | rfl | simp) (Below.refl _ _) (fun h => by cases h)
    · simp only [wpOp, List.getElem?_toArray, List.getElem?_cons_succ, List.getElem?_cons_zero]
      have eg : av.tmps.getD 83 undef = .bool true := hw 39 (by kernel_rfl)
      refine ite_yes (wanted_yes rfl (yielded_of (t := 83) (by kernel_rfl) eg)) ?_
      clear eg
      refine Or.inl ?_
      have e0 : av.tmps.getD 86 undef = .agg #[.bool lf, .slice An zs.length cn, .slice Bn ys.length dn] := hw 42 (by kernel_rfl)
      clear hw hF
      simp only [Oper.wp, execOp]
      go_simp
      refine (ref_any lf An cn zs Bn dn ys x (VRN.out.1.below hb) (VRN.out.2.below hb)).mono ?_
      rintro e y ⟨rfl, hbb⟩
      exact hK _ y rfl hbb (fun h => by cases h)
    · simp only [wpOp, List.getElem?_toArray, List.getElem?_cons_succ, List.getElem?_cons_zero]
      have eg : av.tmps.getD 83 undef = .bool true := hw 39 (by kernel_rfl)
      refine ite_yes (wanted_yes rfl (yielded_of (t := 83) (by kernel_rfl) eg)) ?_
      clear eg
      refine Or.inl ?_
      have e0 : av.tmps.getD 87 undef = .agg #[.bool lf, .slice An zs.length cn, .slice Bn ys.length dn] := hw 43 (by kernel_rfl)
      clear hw hF
      simp only [Oper.wp, execOp]
      go_simp
      refine (RG2.out x (VRN.out.1.below hb) (VRN.out.2.below hb)).mono ?_
      rintro e y ⟨rfl, hbb⟩
      exact hK _ y rfl hbb (fun h => by cases h)
    · simp only [wpOp, List.getElem?_toArray, List.getElem?_cons_succ, List.getElem?_cons_zero]
      have eg : av.tmps.getD 83 undef = .bool true := hw 39 (by kernel_rfl)
      refine ite_yes (wanted_yes rfl (yielded_of (t := 83) (by kernel_rfl) eg)) ?_
      clear eg
      refine Or.inl ?_
      have e0 : av.tmps.getD 85 undef = .bool rb := hw 41 (by kernel_rfl)
      have e1 : av.tmps.getD 88 undef = .bool rb := hw 44 (by kernel_rfl)
      clear hw hF
      simp only [Oper.wp, execOp]
      go_simp
      exact hK _ x (by first | rfl | simp) (Below.refl _ _) (fun h => by cases h)
    · simp only [wpOp, List.getElem?_toArray, List.getElem?_cons_succ, List.getElem?_cons_zero, Region.wanted, if_true]
      refine Or.inl ?_
      have e0 : av.tmps.getD 83 undef = .bool true := hw 39 (by kernel_rfl)
      have e1 : av.tmps.getD 89 undef = .bool true := hw 45 (by kernel_rfl)
      clear hw hF
      simp only [Oper.wp, execOp]
      go_simp
      exact hK _ x (by first | rfl | simp) (Below.refl _ _) (fun h => by cases h)
    · simp only [wpOp, List.getElem?_toArray, List.getElem?_cons_succ, List.getElem?_cons_zero, Region.wanted, if_true]
      refine Or.inl ?_
      have e0 : av.tmps.getD 90 undef = .bool true := hw 46 (by kernel_rfl)
      clear hw hF
      simp only [Oper.wp, execOp]
      go_simp
      exact hK _ x (by first | rfl | simp) (Below.refl _ _) (fun h => by cases h)
    · simp only [wpOp, List.getElem?_toArray, List.getElem?_cons_succ, List.getElem?_cons_zero]
      have eg : av.tmps.getD 91 undef = .bool true := hw 47 (by kernel_rfl)
      refine ite_yes (wanted_yes rfl (yielded_of (t := 91) (by kernel_rfl) eg)) ?_
      clear eg
      refine Or.inl ?_
      have e0 : av.eval (.tmp 2) = .pointer (some ⟨w.heap.size, 0, none⟩) := hF.2.2 2 (by decide)
      obtain ⟨f0, f1, f2⟩ := FN.out x hb
      clear hw hF
      simp only [Oper.wp, execOp]
      rw [e0]
      go_simp
      exact hK _ x (by first | rfl | simp) (Below.refl _ _) (fun h => by cases h)
    · simp only [wpOp, List.getElem?_toArray, List.getElem?_cons_succ, List.getElem?_cons_zero]
      have eg : av.tmps.getD 91 undef = .bool true := hw 47 (by kernel_rfl)
      refine ite_yes (wanted_yes rfl (yielded_of (t := 91) (by kernel_rfl) eg)) ?_
      clear eg
      refine Or.inl ?_
      have e0 : av.tmps.getD 92 undef = .agg #[.bool lf, .slice An zs.length cn, .slice Bn ys.length dn] := hw 48 (by kernel_rfl)
      clear hw hF
      simp only [Oper.wp, execOp]
      go_simp
      refine (SZ1.out x (VRN.out.1.below hb)).mono ?_
      rintro e y ⟨rfl, hbb⟩
      exact hK _ y rfl hbb (fun h => by cases h)
    · simp only [wpOp, List.getElem?_toArray, List.getElem?_cons_succ, List.getElem?_cons_zero]
      have eg : av.tmps.getD 91 undef = .bool true := hw 47 (by kernel_rfl)
      refine ite_yes (wanted_yes rfl (yielded_of (t := 91) (by kernel_rfl) eg)) ?_
      clear eg
      refine Or.inl ?_
      have e0 : av.eval (.tmp 2) = .pointer (some ⟨w.heap.size, 0, none⟩) := hF.2.2 2 (by decide)
      obtain ⟨f0, f1, f2⟩ := FN.out x hb
      clear hw hF
      simp only [Oper.wp, execOp]
      rw [e0]
      go_simp
      exact hK _ x (by first | rfl | simp) (Below.refl _ _) (fun h => by cases h)
    · simp only [wpOp, List.getElem?_toArray, List.getElem?_cons_succ, List.getElem?_cons_zero]
      have eg : av.tmps.getD 91 undef = .bool true := hw 47 (by kernel_rfl)
      refine ite_yes (wanted_yes rfl (yielded_of (t := 91) (by kernel_rfl) eg)) ?_
      clear eg
      refine Or.inl ?_
      have e0 : av.tmps.getD 94 undef = .agg #[.bool lf, .slice An zs.length cn, .slice Bn ys.length dn] := hw 50 (by kernel_rfl)
      clear hw hF
      simp only [Oper.wp, execOp]
      go_simp
      refine (ref_any lf An cn zs Bn dn ys x (VRN.out.1.below hb) (VRN.out.2.below hb)).mono ?_
      rintro e y ⟨rfl, hbb⟩
      exact hK _ y rfl hbb (fun h => by cases h)
    · simp only [wpOp, List.getElem?_toArray, List.getElem?_cons_succ, List.getElem?_cons_zero]
      have eg : av.tmps.getD 91 undef = .bool true := hw 47 (by kernel_rfl)
      refine ite_yes (wanted_yes rfl (yielded_of (t := 91) (by kernel_rfl) eg)) ?_
      clear eg
      refine Or.inl ?_
      have e0 : av.tmps.getD 95 undef = .agg #[.bool lf, .slice An zs.length cn, .slice Bn ys.length dn] := hw 51 (by kernel_rfl)
      clear hw hF
      simp only [Oper.wp, execOp]
      go_simp
      refine (SZ2.out x (VRN.out.1.below hb)).mono ?_
      rintro e y ⟨rfl, hbb⟩
      exact hK _ y rfl hbb (fun h => by cases h)
    · simp only [wpOp, List.getElem?_toArray, List.getElem?_cons_succ, List.getElem?_cons_zero]
      have eg : av.tmps.getD 91 undef = .bool true := hw 47 (by kernel_rfl)
      refine ite_yes (wanted_yes rfl (yielded_of (t := 91) (by kernel_rfl) eg)) ?_
      clear eg
      refine Or.inl ?_
      have e0 : av.tmps.getD 93 undef = .int .i64 (SN : Int) := hw 49 (by kernel_rfl)
      have e1 : av.tmps.getD 96 undef = .int .i64 (SN : Int) := hw 52 (by kernel_rfl)
      clear hw hF
      simp only [Oper.wp, execOp]
      go_simp
      exact hK _ x (by first | rfl | simp) (Below.refl _ _) (fun h => by cases h)
    · simp only [wpOp, List.getElem?_toArray, List.getElem?_cons_succ, List.getElem?_cons_zero, Region.wanted, if_true]
      refine Or.inl ?_
      have e0 : av.tmps.getD 91 undef = .bool true := hw 47 (by kernel_rfl)
      have e1 : av.tmps.getD 97 undef = .bool true := hw 53 (by kernel_rfl)
      clear hw hF
      simp only [Oper.wp, execOp]
      go_simp
      exact hK _ x (by first | rfl | simp) (Below.refl _ _) (fun h => by cases h)
  · intro av x hF hb hR _
    have e0 : av.tmps.getD 44 undef = .bool true := hR 0 (by decide)
    have e1 : av.tmps.getD 45 undef = .bool true := hR 1 (by decide)
    have e2 : av.tmps.getD 46 undef = .string t := hR 2 (by decide)
    have e3 : av.tmps.getD 47 undef = .string t := hR 3 (by decide)
    have e4 : av.tmps.getD 48 undef = .bool true := hR 4 (by decide)
    have e5 : av.tmps.getD 49 undef = .bool true := hR 5 (by decide)
    have e6 : av.tmps.getD 50 undef = .bool true := hR 6 (by decide)
    have e7 : av.tmps.getD 51 undef = .bool false := hR 7 (by decide)
    have e8 : av.tmps.getD 52 undef = .bool false := hR 8 (by decide)
    have e9 : av.tmps.getD 53 undef = undef := hR 9 (by decide)
    have e10 : av.tmps.getD 54 undef = undef := hR 10 (by decide)
    have e11 : av.tmps.getD 55 undef = .bool false := hR 11 (by decide)
    have e12 : av.tmps.getD 56 undef = .bool false := hR 12 (by decide)
    have e13 : av.tmps.getD 57 undef = .bool false := hR 13 (by decide)
    have e14 : av.tmps.getD 58 undef = .bool true := hR 14 (by decide)
    have e15 : av.tmps.getD 59 undef = .bool true := hR 15 (by decide)
    have e16 : av.tmps.getD 60 undef = .int .i64 1 := hR 16 (by decide)
    have e17 : av.tmps.getD 61 undef = .bool true := hR 17 (by decide)
    have e18 : av.tmps.getD 62 undef = .bool true := hR 18 (by decide)
    have e19 : av.tmps.getD 63 undef = .bool true := hR 19 (by decide)
    have e20 : av.tmps.getD 64 undef = .bool true := hR 20 (by decide)
    have e21 : av.tmps.getD 65 undef = .bool true := hR 21 (by decide)
    have e22 : av.tmps.getD 66 undef = .bool true := hR 22 (by decide)
    have e23 : av.tmps.getD 67 undef = .bool true := hR 23 (by decide)
    have e24 : av.tmps.getD 68 undef = .bool true := hR 24 (by decide)
    have e25 : av.tmps.getD 69 undef = .bool false := hR 25 (by decide)
    have e26 : av.tmps.getD 70 undef = .bool false := hR 26 (by decide)
    have e27 : av.tmps.getD 71 undef = undef := hR 27 (by decide)
    have e28 : av.tmps.getD 72 undef = undef := hR 28 (by decide)
    have e29 : av.tmps.getD 73 undef = .bool false := hR 29 (by decide)
    have e30 : av.tmps.getD 74 undef = .bool false := hR 30 (by decide)
    have e31 : av.tmps.getD 75 undef = .bool false := hR 31 (by decide)
    have e32 : av.tmps.getD 76 undef = .bool true := hR 32 (by decide)
    have e33 : av.tmps.getD 77 undef = .bool true := hR 33 (by decide)
    have e34 : av.tmps.getD 78 undef = .int .i64 2 := hR 34 (by decide)
    have e35 : av.tmps.getD 79 undef = .bool true := hR 35 (by decide)
    have e36 : av.tmps.getD 80 undef = .bool true := hR 36 (by decide)
    have e37 : av.tmps.getD 81 undef = .bool true := hR 37 (by decide)
    have e38 : av.tmps.getD 82 undef = .bool true := hR 38 (by decide)
    have e39 : av.tmps.getD 83 undef = .bool true := hR 39 (by decide)
    have e40 : av.tmps.getD 84 undef = .agg #[.bool lf, .slice An zs.length cn, .slice Bn ys.length dn] := hR 40 (by decide)
    have e41 : av.tmps.getD 85 undef = .bool rb := hR 41 (by decide)
    have e42 : av.tmps.getD 86 undef = .agg #[.bool lf, .slice An zs.length cn, .slice Bn ys.length dn] := hR 42 (by decide)
    have e43 : av.tmps.getD 87 undef = .agg #[.bool lf, .slice An zs.length cn, .slice Bn ys.length dn] := hR 43 (by decide)
    have e44 : av.tmps.getD 88 undef = .bool rb := hR 44 (by decide)
    have e45 : av.tmps.getD 89 undef = .bool true := hR 45 (by decide)
    have e46 : av.tmps.getD 90 undef = .bool true := hR 46 (by decide)
    have e47 : av.tmps.getD 91 undef = .bool true := hR 47 (by decide)
    have e48 : av.tmps.getD 92 undef = .agg #[.bool lf, .slice An zs.length cn, .slice Bn ys.length dn] := hR 48 (by decide)
    have e49 : av.tmps.getD 93 undef = .int .i64 (SN : Int) := hR 49 (by decide)
    have e50 : av.tmps.getD 94 undef = .agg #[.bool lf, .slice An zs.length cn, .slice Bn ys.length dn] := hR 50 (by decide)
    have e51 : av.tmps.getD 95 undef = .agg #[.bool lf, .slice An zs.length cn, .slice Bn ys.length dn] := hR 51 (by decide)
    have e52 : av.tmps.getD 96 undef = .int .i64 (SN : Int) := hR 52 (by decide)
    have e53 : av.tmps.getD 97 undef = .bool true := hR 53 (by decide)
    have e54 : av.tmps.getD 98 undef = .bool true := hR 54 (by decide)
    rw [hF.fold (by kernel_rfl)]
    simp only [List.foldl_cons, List.foldl_nil, e0, e1, e2, e3, e4, e5, e6, e7, e8, e9, e10, e11, e12, e13, e14, e15, e16, e17, e18, e19, e20, e21, e22, e23, e24, e25, e26, e27, e28, e29, e30, e31, e32, e33, e34, e35, e36, e37, e38, e39, e40, e41, e42, e43, e44, e45, e46, e47, e48, e49, e50, e51, e52, e53, e54]
    simp only [Act.put, List.setIfInBounds_toArray, List.set_cons_zero, List.set_cons_succ]
    change wpOps _ _ _ [55] _ _
    simp only [wpOps_cons]
    clear e0 e1 e2 e3 e4 e5 e6 e7 e8 e9 e10 e11 e12 e13 e14 e15 e16 e17 e18 e19 e20 e21 e22 e23 e24 e25 e26 e27 e28 e29 e30 e31 e32 e33 e34 e35 e36 e37 e38 e39 e40 e41 e42 e43 e44 e45 e46 e47 e48 e49 e50 e51 e52 e53 e54 hR hF
    have HE := Lib.hid hb
    clear hb
    simp only [wpOp, List.getElem?_toArray, List.getElem?_cons_succ, List.getElem?_cons_zero, Region.wanted, if_true]
    refine Or.inl ?_
    simp only [Oper.wp, execOp]
    go_simp
    try simp only [wpOps]
    go_wp2
    go_ret
    exact ⟨rfl, KN.out.trans (HE.out.mono KN.out.size)⟩
theorem bytes_any (lf : Bool) (A : Option Addr) (c : Nat) (ks : List (List UInt8)) (B : Option Addr) (d : Nat) (ds : List Int) (S : List UInt8) (w : World) (h : Rl sv w A c ks) (h2 : Rl nv w B d ds) (hkl : ∀ x ∈ ks, x.length ≤ 1048576) (hS : S.length ≤ 1048576) :
    Calls Try.prog 3 #[.agg #[.bool lf, .slice A ks.length c, .slice B ds.length d], .string ⟨S.toArray⟩] w fun e w' => e = .returned (.bool true) ∧ Below w.heap.size w w' := by
  have hsz := few_size (ds := ds) hkl
  obtain ⟨t, eb, ee, he, hE1, hE2⟩ := enc_both lf (ks.take 12) (ds.take 13) (by rw [List.length_take]; omega) (by rw [List.length_take]; omega) hsz
  obtain ⟨l2, K2, D2, db, de, hd, l2_, hD1, hD2⟩ := dec_both S hS
  rcases he with ⟨rfl, rfl⟩ | ⟨rfl, rfl⟩ <;> rcases hd with ⟨rfl, rfl⟩ | ⟨rfl, rfl⟩
  · exact bytes_yy lf A c ks B d ds S w h h2 _ rfl _ rfl hsz t l2 K2 D2 l2_ hE1 hE2 hD1 hD2
  · exact bytes_yn lf A c ks B d ds S w h h2 _ rfl _ rfl hsz t l2 K2 D2 l2_ hE1 hE2 hD1 hD2
  · exact bytes_ny lf A c ks B d ds S w h h2 _ rfl _ rfl hsz t l2 K2 D2 l2_ hE1 hE2 hD1 hD2
  · exact bytes_nn lf A c ks B d ds S w h h2 _ rfl _ rfl hsz t l2 K2 D2 l2_ hE1 hE2 hD1 hD2
end Go.Proofs.Ytkbdcbcjbgbglaa
