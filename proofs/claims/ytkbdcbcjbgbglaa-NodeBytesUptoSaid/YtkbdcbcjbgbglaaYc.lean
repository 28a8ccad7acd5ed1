/-
  The document's Decode.
-/
import Derived.Test.YtkbdcbcjbgbglaaYb
namespace Go.Proofs.Ytkbdcbcjbgbglaa
open Go.RowKit
set_option linter.unusedVariables false
set_option linter.unusedSimpArgs false
theorem or2' {a b : Nat} (ha : a < 256) (hb : b < 256) : bits .or .i64 ((a : Int) * 256) (b : Int) = ((a * 256 + b : Nat) : Int) := by
  have := or_i64 (a := a * 256) (b := b) (k := 8) (by omega) (by omega) (by omega) (by decide)
  rw [← this]
  congr 1
theorem at8_drop (S : List UInt8) (i j : Nat) : at8 (S.drop i) j = at8 S (i + j) := by unfold at8; rw [List.getElem?_drop]
theorem drop_cons {S : List UInt8} {i : Nat} (h : i < S.length) : ∃ a, S.drop i = a :: S.drop (i + 1) ∧ a.toNat = at8 S i := by
  refine ⟨S[i], List.drop_eq_getElem_cons h, ?_⟩
  unfold at8
  rw [List.getElem?_eq_getElem h]
  rfl
theorem rd_two {L : List UInt8} (h : 2 ≤ L.length) : rdB (L.take 2) = at8 L 0 * 256 + at8 L 1 := by
  match L, h with
  | a :: b :: r, _ => simp [rdB, at8]
theorem pents_step {S : List UInt8} {i y : Nat} (h : i < S.length) (hy : at8 S i = y) (hl : i + 3 + y ≤ S.length) : pents (S.drop i) = (pents (S.drop (i + 3 + y))).map (((S.drop (i + 1)).take y, ((at8 S (i + 1 + y) * 256 + at8 S (i + 2 + y) : Nat) : Int)) :: ·) := by
  obtain ⟨a, e, ha⟩ := drop_cons h
  rw [hy] at ha
  rw [e, pents, ha, if_neg (by rw [List.length_drop]; omega), List.drop_drop, List.drop_drop]
  rw [rd_two (by rw [List.length_drop]; omega), at8_drop, at8_drop]
  rw [show i + 1 + (y + 2) = i + 3 + y by omega, show i + 1 + y + 0 = i + 1 + y by omega, show i + 1 + y + 1 = i + 2 + y by omega]
theorem pents_short {S : List UInt8} {i y : Nat} (h : i < S.length) (hy : at8 S i = y) (hl : ¬ i + 3 + y ≤ S.length) : pents (S.drop i) = none := by
  obtain ⟨a, e, ha⟩ := drop_cons h
  rw [hy] at ha
  rw [e, pents, ha, if_pos (by rw [List.length_drop]; omega)]
theorem decA_none {S : List UInt8} (h : decS S = none) : decA S = none := by unfold decA; rw [h]; rfl
theorem enc_head (lf : Bool) (ks : List (List UInt8)) (ds : List Int) : ∃ r, encL lf ks ds = (if lf then 1 else 0) :: r := by
  cases lf
  · exact ⟨_, rfl⟩
  · exact ⟨_, rfl⟩
theorem decA_big {a : UInt8} {r : List UInt8} (h : 1 < a.toNat) : decA (a :: r) = none := by
  cases hd : decA (a :: r) with
  | none => rfl
  | some n =>
    obtain ⟨lf, ks, ds⟩ := n
    obtain ⟨_, he⟩ := decA_some hd
    obtain ⟨q, hq⟩ := enc_head lf ks ds
    rw [hq] at he
    injection he with h1 h2
    subst h1
    cases lf <;> simp at h
set_option maxHeartbeats 4000000 in
set_option maxRecDepth 100000 in
theorem rdec_nil (w : World) (S : List UInt8) (hS : S = []) : Calls Try.prog 16 #[.string ⟨S.toArray⟩] w fun e w' => (∀ lf ks ds, decA S = some (lf, ks, ds) → ∃ A c B d, e = .returned (.tuple #[.agg #[.bool lf, .slice A ks.length c, .slice B ds.length d], .bool true]) ∧ Rl sv w' A c ks ∧ Rl nv w' B d ds) ∧ (decA S = none → e = .returned (.tuple #[.agg #[.bool false, .slice none 0 0, .slice none 0 0], .bool false])) ∧ Below w.heap.size w w' := by
  have DA := Lib.hid (show decA S = none by rw [hS]; rfl)
  obtain ⟨d, hd⟩ : ∃ d : ByteArray, d = ⟨S.toArray⟩ := ⟨_, rfl⟩
  have e0 : d.toList.isEmpty = true := by rw [hd, ByteArray.toList_eq, hS]; rfl
  rw [← hd]
  clear hd hS
  go_enter Try.func16, Try.ntmps16
  go_wp2
  refine bodyPost_ret (v := .tuple #[.agg #[.bool false, .slice none 0 0, .slice none 0 0], .bool false]) (by simp [results, Try.results16, go_sem]) rfl ⟨fun lf ks ds h => (by rw [DA.out] at h; cases h), fun _ => rfl, ?_⟩
  exact bda _ _
set_option maxHeartbeats 4000000 in
set_option maxRecDepth 100000 in
theorem rdec_big (w : World) (a : UInt8) (r : List UInt8) (S : List UInt8) (hS : S = a :: r) (h1 : 1 < a.toNat) : Calls Try.prog 16 #[.string ⟨S.toArray⟩] w fun e w' => (∀ lf ks ds, decA S = some (lf, ks, ds) → ∃ A c B d, e = .returned (.tuple #[.agg #[.bool lf, .slice A ks.length c, .slice B ds.length d], .bool true]) ∧ Rl sv w' A c ks ∧ Rl nv w' B d ds) ∧ (decA S = none → e = .returned (.tuple #[.agg #[.bool false, .slice none 0 0, .slice none 0 0], .bool false])) ∧ Below w.heap.size w w' := by
  have DA := Lib.hid (show decA S = none by rw [hS]; exact decA_big h1)
  have hz : at8 S 0 = a.toNat := by rw [hS]; rfl
  obtain ⟨y, hy⟩ : ∃ y, a.toNat = y := ⟨_, rfl⟩
  rw [hy] at hz h1
  have hl : 0 < S.length := by rw [hS]; simp
  obtain ⟨d, hd⟩ : ∃ d : ByteArray, d = ⟨S.toArray⟩ := ⟨_, rfl⟩
  have dsz : d.size = S.length := by rw [hd, str_size]
  have e0 : d.toList.isEmpty = false := by rw [hd, ByteArray.toList_eq, hS]; rfl
  have BB : ∀ h' : 0 < d.size, (d[0]'h').toNat = y := by subst hd; intro h'; exact (ba_at S 0 h').trans hz
  have i0 : 0 < d.size := by omega
  have i1 : (0 : Int) < (d.size : Int) := by omega
  have g1 : decide ((1 : Int) < (y : Int)) = true := decide_eq_true (by omega)
  have g2 : decide (1 < y) = true := decide_eq_true h1
  rw [← hd]
  clear hd hS dsz hl hz hy h1
  go_enter Try.func16, Try.ntmps16
  go_wp2
  refine bodyPost_ret (v := .tuple #[.agg #[.bool false, .slice none 0 0, .slice none 0 0], .bool false]) (by simp [results, Try.results16, go_sem]) rfl ⟨fun lf ks ds h => (by rw [DA.out] at h; cases h), fun _ => rfl, ?_⟩
  exact bda _ _
set_option maxHeartbeats 8000000 in
set_option maxRecDepth 100000 in
theorem rdec_t (w : World) (r : List UInt8) (S : List UInt8) (hS : S = 1 :: r) (hL : S.length ≤ 1048576) : Calls Try.prog 16 #[.string ⟨S.toArray⟩] w fun e w' => (∀ lf ks ds, decA S = some (lf, ks, ds) → ∃ A c B d, e = .returned (.tuple #[.agg #[.bool lf, .slice A ks.length c, .slice B ds.length d], .bool true]) ∧ Rl sv w' A c ks ∧ Rl nv w' B d ds) ∧ (decA S = none → e = .returned (.tuple #[.agg #[.bool false, .slice none 0 0, .slice none 0 0], .bool false])) ∧ Below w.heap.size w w' := by
  have hz : at8 S 0 = 1 := by rw [hS]; rfl
  have hl : 0 < S.length := by rw [hS]; simp
  have HS := Lib.hid hS
  have HL := Lib.hid hL
  obtain ⟨d, hd⟩ : ∃ d : ByteArray, d = ⟨S.toArray⟩ := ⟨_, rfl⟩
  have dsz : d.size = S.length := by rw [hd, str_size]
  have HD := Lib.hid hd
  have DS := Lib.hid dsz
  have e0 : d.toList.isEmpty = false := by rw [hd, ByteArray.toList_eq, hS]; rfl
  have BB : ∀ h' : 0 < d.size, (d[0]'h').toNat = 1 := by have := HD.out; subst this; intro h'; exact (ba_at S 0 h').trans hz
  have IX := Lib.hid (fun (i : Nat) (h : i < S.length) => show (∀ h' : i < d.size, (d[i]'h').toNat = at8 S i) ∧ i < d.size ∧ (i : Int) < (d.size : Int) from ⟨by have := HD.out; subst this; intro h'; exact ba_at S i h', by rw [DS.out]; exact h, by rw [DS.out]; omega⟩)
  have i0 : 0 < d.size := by omega
  have i1 : (0 : Int) < (d.size : Int) := by omega
  obtain ⟨W, hW⟩ : ∃ W : World, W = (w.alloc (.cells #[.bool false, .slice none 0 0, .slice none 0 0] 33)).alloc (.cells #[.bool true, .slice none 0 0, .slice none 0 0] 33) := ⟨_, rfl⟩
  have RR := Lib.hid (show W.heap[w.heap.size]? = some (.cells #[.bool false, .slice none 0 0, .slice none 0 0] 33 (0, 0)) by rw [hW]; exact row_on (heap_alloc_new w _) (bda _ _))
  have RO := Lib.hid (show W.heap[w.heap.size + 1]? = some (.cells #[.bool true, .slice none 0 0, .slice none 0 0] 33 (0, 0)) by rw [hW]; have := heap_alloc_new (w.alloc (.cells #[.bool false, .slice none 0 0, .slice none 0 0] 33)) (.cells #[.bool true, .slice none 0 0, .slice none 0 0] 33); simpa using this)
  have BX := Lib.hid (Bx.fresh (w := w) (base := w.heap.size + 2) RO.out (show Below w.heap.size w W by rw [hW]; exact bon (bda _ _) (bda _ _)) (heap_lt RO.out) ⟨by omega, by omega⟩)
  have HW := Lib.hid hW
  rw [← hd]
  clear hd hS dsz hl hz hW hL
  go_enter Try.func16, Try.ntmps16
  have DC := Lib.hid (show decS S = (pents (S.drop 1)).map (fun es => (true, ([] : List (List UInt8)) ++ es.map Prod.fst, ([] : List Int) ++ es.map Prod.snd)) by rw [HS.out]; simp [decS])
  go_wp2_with fail
  rw [← HW.out]
  clear HW e0 BB i0 i1 RO
  go_loopw [5] (fun i wr => ∃ (j : Nat) (A : Option Addr) (c : Nat) (ks : List (List UInt8)) (B : Option Addr) (dd : Nat) (ds : List Int), j ≤ S.length ∧ i = .int .i64 (j : Int) ∧ Hid (Bx w wr (w.heap.size + 2) (w.heap.size + 1) 33 true A c ks B dd ds) ∧ Hid (wr.heap[w.heap.size]? = some (.cells #[.bool false, .slice none 0 0, .slice none 0 0] 33 (0, 0))) ∧ Hid (decS S = (pents (S.drop j)).map (fun es => (true, ks ++ es.map Prod.fst, ds ++ es.map Prod.snd))) ∧ Hid (sumN ks ≤ j ∧ ds.length ≤ ks.length + 1)) (fun i _ => S.length - (intOf i).toNat)
  case atStart => exact ⟨1, none, 0, [], none, 0, [], by have h9 := HS.out; rw [h9]; simp, rfl, BX, RR, DC, Lib.hid ⟨by simp [sumN], by simp⟩⟩
  case round =>
    clear BX RR DC
    obtain ⟨j, A, c, ks, B, dd, ds, hj, rfl, BX, RR, DC, SB⟩ := hrel
    obtain ⟨V, hV⟩ : ∃ z, wr = z := ⟨_, rfl⟩
    rw [hV] at BX RR ⊢
    clear hV
    by_cases hlt : j < S.length
    · have g1 : decide (j < d.size) = true := decide_eq_true (by rw [DS.out]; exact hlt)
      have g2 : decide ((j : Int) < (d.size : Int)) = true := decide_eq_true (by rw [DS.out]; omega)
      obtain ⟨y, hy⟩ : ∃ y, at8 S j = y := ⟨_, rfl⟩
      have ty : y < 256 := by rw [← hy]; exact at8_lt _ _
      obtain ⟨xi, xj, xk⟩ := IX.out j hlt
      rw [hy] at xi
      have xl : (0 : Int) ≤ (j : Int) := by omega
      have u0 : IntKind.i64.wrap (y : Int) = (y : Int) := IntWalk.i64_in _ (by omega)
      obtain ⟨j3, hj3⟩ : ∃ n, j + 3 = n := ⟨_, rfl⟩
      obtain ⟨j4, hj4⟩ : ∃ n, j3 + y = n := ⟨_, rfl⟩
      have hLL := HL.out
      have w1 : IntKind.i64.wrap ((j : Int) + 3) = (j3 : Int) := by rw [IntWalk.i64_in _ (by omega)]; omega
      have w2 : IntKind.i64.wrap ((j3 : Int) + (y : Int)) = (j4 : Int) := by rw [IntWalk.i64_in _ (by omega)]; omega
      have W12 := Lib.hid (And.intro w1 w2)
      by_cases hsh : d.size < j4
      · have g3 : decide (d.size < j4) = true := decide_eq_true hsh
        have g4 : decide ((d.size : Int) < (j4 : Int)) = true := decide_eq_true (by omega)
        have DN := Lib.hid (show decS S = none by rw [DC.out, pents_short hlt hy (by rw [DS.out] at hsh; omega)]; rfl)
        clear hlt hy ty hj3 hj4 hsh hLL hj
        have DA := Lib.hid (show decA S = none from decA_none DN.out)
        have p0 := row_c RR.out (i := 0) rfl
        have p1 := row_c RR.out (i := 1) rfl
        have p2 := row_c RR.out (i := 2) rfl
        have z0 := frozen_of_row _ _ 0 _ _ RR.out
        have z1 := frozen_of_row _ _ 1 _ _ RR.out
        have z2 := frozen_of_row _ _ 2 _ _ RR.out
        go_wp2
        refine bodyPost_ret (v := .tuple #[.agg #[.bool false, .slice none 0 0, .slice none 0 0], .bool false]) (by simp [results, Try.results16, go_sem, p0, p1, p2]) rfl ⟨fun lf ks ds h => (by rw [DA.out] at h; cases h), fun _ => rfl, ?_⟩
        exact ((BX.out.kb.setCell (by simp) _).setCell (by simp) _).setCell (by simp) _
      · have g3 : decide (d.size < j4) = false := decide_eq_false hsh
        have g4 : decide ((d.size : Int) < (j4 : Int)) = false := decide_eq_false (by omega)
        have hle : j + 3 + y ≤ S.length := by rw [DS.out] at hsh; omega
        obtain ⟨k1, hk1⟩ : ∃ n, j + 1 = n := ⟨_, rfl⟩
        obtain ⟨k2, hk2⟩ : ∃ n, k1 + y = n := ⟨_, rfl⟩
        obtain ⟨k3, hk3⟩ : ∃ n, j + 2 = n := ⟨_, rfl⟩
        obtain ⟨k5, hk5⟩ : ∃ n, k3 + y = n := ⟨_, rfl⟩
        obtain ⟨b1, hb1⟩ : ∃ b, at8 S k2 = b := ⟨_, rfl⟩
        obtain ⟨b2_, hb2⟩ : ∃ b, at8 S k5 = b := ⟨_, rfl⟩
        have t1 : b1 < 256 := by rw [← hb1]; exact at8_lt _ _
        have t2 : b2_ < 256 := by rw [← hb2]; exact at8_lt _ _
        obtain ⟨p, hp⟩ : ∃ p, b1 * 256 + b2_ = p := ⟨_, rfl⟩
        obtain ⟨kx, hkx⟩ : ∃ z, (S.drop k1).take y = z := ⟨_, rfl⟩
        have ST := Lib.hid (show pents (S.drop j) = (pents (S.drop j4)).map ((kx, (p : Int)) :: ·) by have := pents_step hlt hy hle; rw [hj3, hj4, hk1, hk2, hk3, hk5, hb1, hb2, hp, hkx] at this; exact this)
        have LKX := Lib.hid (show kx.length = y by rw [← hkx, List.length_take, List.length_drop]; omega)
        obtain ⟨dk, hdk⟩ : ∃ z : ByteArray, z = ⟨kx.toArray⟩ := ⟨_, rfl⟩
        have EX := Lib.hid (show d.extract k1 k2 = dk by rw [hdk, ← hkx, HD.out, Lib.extract_eq]; simp only [List.extract_toArray, List.extract_eq_take_drop]; rw [show k2 - k1 = y by omega])
        have HDK := Lib.hid hdk
        have C1 := Lib.hid (And.intro (show IntKind.i64.wrap ((j : Int) + 1) = (k1 : Int) by rw [IntWalk.i64_in _ (by omega)]; omega) (And.intro (show IntKind.i64.wrap ((k1 : Int) + (y : Int)) = (k2 : Int) by rw [IntWalk.i64_in _ (by omega)]; omega) (And.intro (show IntKind.i64.wrap ((j : Int) + 2) = (k3 : Int) by rw [IntWalk.i64_in _ (by omega)]; omega) (show IntKind.i64.wrap ((k3 : Int) + (y : Int)) = (k5 : Int) by rw [IntWalk.i64_in _ (by omega)]; omega))))
        have BD := Lib.hid (show (k1 : Int) ≤ (k2 : Int) ∧ (k2 : Int) ≤ (d.size : Int) ∧ k1 ≤ k2 ∧ k2 ≤ d.size ∧ (0 : Int) ≤ (k1 : Int) ∧ (0 : Int) ≤ (k2 : Int) ∧ (k1 : Int) ≤ (d.size : Int) from by rw [DS.out]; refine ⟨?_, ?_, ?_, ?_, ?_, ?_, ?_⟩ <;> omega)
        have Y1 := Lib.hid (IX.out k2 (by omega))
        have Y2 := Lib.hid (IX.out k5 (by omega))
        rw [hb1] at Y1
        rw [hb2] at Y2
        have or := or2' t1 t2
        rw [hp] at or
        have OR := Lib.hid or
        have UU := Lib.hid (And.intro (show IntKind.i64.wrap (b1 : Int) = (b1 : Int) from IntWalk.i64_in _ (by omega)) (And.intro (show IntKind.i64.wrap ((b1 : Int) * 256) = (b1 : Int) * 256 from IntWalk.i64_in _ (by omega)) (show IntKind.i64.wrap (b2_ : Int) = (b2_ : Int) from IntWalk.i64_in _ (by omega))))
        have HJ := Lib.hid (show j4 ≤ S.length ∧ j < j4 ∧ j4 = j + 3 + y by omega)
        obtain ⟨kn, hkn⟩ : ∃ z, ks ++ [kx] = z := ⟨_, rfl⟩
        obtain ⟨dn, hdn⟩ : ∃ z, ds ++ [(p : Int)] = z := ⟨_, rfl⟩
        have KN := Lib.hid hkn
        have DN := Lib.hid hdn
        have LB := Lib.hid (show kn.length ≤ 4000000 ∧ dn.length ≤ 4000000 by rw [← hkn, ← hdn]; simp only [List.length_append, List.length_singleton]; have := sumN_ge ks; have := SB.out; omega)
        clear hlt hy ty hj3 hj4 hsh hLL hj hle hk1 hk2 hk3 hk5 hb1 hb2 t1 t2 hp hkx hdk or hkn hdn
        go_upto_region 14 with (fail)
        clear g1 g2 g3 g4 xi xj xk xl u0 w1 w2
        refine wp_operands (W := V) rfl 11 [57, 58, 59, 60, 61, 62, 63, 64, 65, 66, 67] (fun i u x => match i with | 0 => u = .pointer (some ⟨w.heap.size + 1, 1, none⟩) | 1 => u = .slice A ks.length c | 2 => u = .string d | 3 => u = .int .i64 (j : Int) | 4 => u = .int .i64 (k1 : Int) | 5 => u = .int .i64 (j : Int) | 6 => u = .int .i64 (k1 : Int) | 7 => u = .int .i64 (y : Int) | 8 => u = .int .i64 (k2 : Int) | 9 => u = .string dk | 10 => ∃ g, u = .slice (some ⟨g, 0, none⟩) 1 1 ∧ x.heap[g]? = some (.cells #[.string dk] 9 (0, 0)) | _ => True) (fun _ => false)
          (by decide) rfl (by kernel_rfl) (by kernel_rfl) (by decide) (by kernel_rfl) ?_ (fun _ _ _ h => by cases h) ?_ ?_
        · intro i u x x' hi hR hb'
          have hi' : i = 0 ∨ i = 1 ∨ i = 2 ∨ i = 3 ∨ i = 4 ∨ i = 5 ∨ i = 6 ∨ i = 7 ∨ i = 8 ∨ i = 9 ∨ i = 10 := by omega
          rcases hi' with rfl | rfl | rfl | rfl | rfl | rfl | rfl | rfl | rfl | rfl | rfl
          · exact hR
          · exact hR
          · exact hR
          · exact hR
          · exact hR
          · exact hR
          · exact hR
          · exact hR
          · exact hR
          · exact hR
          · obtain ⟨g, e, hg⟩ := hR; exact ⟨g, e, (hb'.block g (heap_lt hg)).trans hg⟩
        · intro i av x K hi hF hb' hw hK
          have hi' : i = 0 ∨ i = 1 ∨ i = 2 ∨ i = 3 ∨ i = 4 ∨ i = 5 ∨ i = 6 ∨ i = 7 ∨ i = 8 ∨ i = 9 ∨ i = 10 := by omega
          rcases hi' with rfl | rfl | rfl | rfl | rfl | rfl | rfl | rfl | rfl | rfl | rfl
          · simp only [wpOp, List.getElem?_toArray, List.getElem?_cons_zero, Region.wanted, if_true]
            refine Or.inl ?_
            have e0 : av.tmps.getD 4 undef = .pointer (some ⟨w.heap.size + 1, 0, none⟩) := hF.2.2 4 (by decide)
            have e0e : av.eval (.tmp 4) = .pointer (some ⟨w.heap.size + 1, 0, none⟩) := e0
            have e0g : av.tmps[4]?.getD undef = .pointer (some ⟨w.heap.size + 1, 0, none⟩) := by have := e0; simp only [Array.getD_eq_getD_getElem?] at this; exact this
            clear hw hF
            simp only [Oper.wp, execOp]
            try simp only [e0e]
            go_simp
            exact hK _ x (by first | rfl | (simp only [Nat.add_zero]; done) | (congr 1; omega)) (Below.refl _ _) (fun h => by cases h)
          · simp only [wpOp, List.getElem?_toArray, List.getElem?_cons_succ, List.getElem?_cons_zero, Region.wanted, if_true]
            refine Or.inl ?_
            have e0 : av.tmps.getD 57 undef = .pointer (some ⟨w.heap.size + 1, 1, none⟩) := (hw 0 (by kernel_rfl))
            have e0e : av.eval (.tmp 57) = .pointer (some ⟨w.heap.size + 1, 1, none⟩) := e0
            have e0g : av.tmps[57]?.getD undef = .pointer (some ⟨w.heap.size + 1, 1, none⟩) := by have := e0; simp only [Array.getD_eq_getD_getElem?] at this; exact this
            obtain ⟨fo0, fo1, fo2⟩ := BX.out.f hb'
            clear hw hF
            simp only [Oper.wp, execOp]
            try simp only [e0e]
            go_simp
            exact hK _ x (by first | rfl | (simp only [Nat.add_zero]; done) | (congr 1; omega)) (Below.refl _ _) (fun h => by cases h)
          · simp only [wpOp, List.getElem?_toArray, List.getElem?_cons_succ, List.getElem?_cons_zero, Region.wanted, if_true]
            refine Or.inl ?_
            have e0 : av.tmps.getD 0 undef = .string d := hF.2.2 0 (by decide)
            have e0e : av.eval (.tmp 0) = .string d := e0
            have e0g : av.tmps[0]?.getD undef = .string d := by have := e0; simp only [Array.getD_eq_getD_getElem?] at this; exact this
            clear hw hF
            simp only [Oper.wp, execOp]
            try simp only [e0e]
            go_simp
            exact hK _ x (by first | rfl | (simp only [Nat.add_zero]; done) | (congr 1; omega)) (Below.refl _ _) (fun h => by cases h)
          · simp only [wpOp, List.getElem?_toArray, List.getElem?_cons_succ, List.getElem?_cons_zero, Region.wanted, if_true]
            refine Or.inl ?_
            have e0 : av.tmps.getD 5 undef = .int .i64 (j : Int) := hF.2.2 5 (by decide)
            have e0e : av.eval (.tmp 5) = .int .i64 (j : Int) := e0
            have e0g : av.tmps[5]?.getD undef = .int .i64 (j : Int) := by have := e0; simp only [Array.getD_eq_getD_getElem?] at this; exact this
            clear hw hF
            simp only [Oper.wp, execOp]
            try simp only [e0e]
            go_simp
            exact hK _ x (by first | rfl | (simp only [Nat.add_zero]; done) | (congr 1; omega)) (Below.refl _ _) (fun h => by cases h)
          · simp only [wpOp, List.getElem?_toArray, List.getElem?_cons_succ, List.getElem?_cons_zero, Region.wanted, if_true]
            refine Or.inl ?_
            have e0 : av.tmps.getD 60 undef = .int .i64 (j : Int) := (hw 3 (by kernel_rfl))
            have e0e : av.eval (.tmp 60) = .int .i64 (j : Int) := e0
            have e0g : av.tmps[60]?.getD undef = .int .i64 (j : Int) := by have := e0; simp only [Array.getD_eq_getD_getElem?] at this; exact this
            have c1 := C1.out.1
            clear hw hF
            simp only [Oper.wp, execOp]
            try simp only [e0e]
            go_simp
            exact hK _ x (by first | rfl | (simp only [Nat.add_zero]; done) | (congr 1; omega)) (Below.refl _ _) (fun h => by cases h)
          · simp only [wpOp, List.getElem?_toArray, List.getElem?_cons_succ, List.getElem?_cons_zero, Region.wanted, if_true]
            refine Or.inl ?_
            have e0 : av.tmps.getD 5 undef = .int .i64 (j : Int) := hF.2.2 5 (by decide)
            have e0e : av.eval (.tmp 5) = .int .i64 (j : Int) := e0
            have e0g : av.tmps[5]?.getD undef = .int .i64 (j : Int) := by have := e0; simp only [Array.getD_eq_getD_getElem?] at this; exact this
            clear hw hF
            simp only [Oper.wp, execOp]
            try simp only [e0e]
            go_simp
            exact hK _ x (by first | rfl | (simp only [Nat.add_zero]; done) | (congr 1; omega)) (Below.refl _ _) (fun h => by cases h)
          · simp only [wpOp, List.getElem?_toArray, List.getElem?_cons_succ, List.getElem?_cons_zero, Region.wanted, if_true]
            refine Or.inl ?_
            have e0 : av.tmps.getD 62 undef = .int .i64 (j : Int) := (hw 5 (by kernel_rfl))
            have e0e : av.eval (.tmp 62) = .int .i64 (j : Int) := e0
            have e0g : av.tmps[62]?.getD undef = .int .i64 (j : Int) := by have := e0; simp only [Array.getD_eq_getD_getElem?] at this; exact this
            have c1 := C1.out.1
            clear hw hF
            simp only [Oper.wp, execOp]
            try simp only [e0e]
            go_simp
            exact hK _ x (by first | rfl | (simp only [Nat.add_zero]; done) | (congr 1; omega)) (Below.refl _ _) (fun h => by cases h)
          · simp only [wpOp, List.getElem?_toArray, List.getElem?_cons_succ, List.getElem?_cons_zero, Region.wanted, if_true]
            refine Or.inl ?_
            have e0 : av.tmps.getD 6 undef = .int .i64 (y : Int) := hF.2.2 6 (by decide)
            have e0e : av.eval (.tmp 6) = .int .i64 (y : Int) := e0
            have e0g : av.tmps[6]?.getD undef = .int .i64 (y : Int) := by have := e0; simp only [Array.getD_eq_getD_getElem?] at this; exact this
            clear hw hF
            simp only [Oper.wp, execOp]
            try simp only [e0e]
            go_simp
            exact hK _ x (by first | rfl | (simp only [Nat.add_zero]; done) | (congr 1; omega)) (Below.refl _ _) (fun h => by cases h)
          · simp only [wpOp, List.getElem?_toArray, List.getElem?_cons_succ, List.getElem?_cons_zero, Region.wanted, if_true]
            refine Or.inl ?_
            have e0 : av.tmps.getD 63 undef = .int .i64 (k1 : Int) := (hw 6 (by kernel_rfl))
            have e0e : av.eval (.tmp 63) = .int .i64 (k1 : Int) := e0
            have e0g : av.tmps[63]?.getD undef = .int .i64 (k1 : Int) := by have := e0; simp only [Array.getD_eq_getD_getElem?] at this; exact this
            have e1 : av.tmps.getD 64 undef = .int .i64 (y : Int) := (hw 7 (by kernel_rfl))
            have e1e : av.eval (.tmp 64) = .int .i64 (y : Int) := e1
            have e1g : av.tmps[64]?.getD undef = .int .i64 (y : Int) := by have := e1; simp only [Array.getD_eq_getD_getElem?] at this; exact this
            have c1 := C1.out.2.1
            clear hw hF
            simp only [Oper.wp, execOp]
            try simp only [e0e, e1e]
            go_simp
            exact hK _ x (by first | rfl | (simp only [Nat.add_zero]; done) | (congr 1; omega)) (Below.refl _ _) (fun h => by cases h)
          · simp only [wpOp, List.getElem?_toArray, List.getElem?_cons_succ, List.getElem?_cons_zero, Region.wanted, if_true]
            refine Or.inl ?_
            have e0 : av.tmps.getD 59 undef = .string d := (hw 2 (by kernel_rfl))
            have e0e : av.eval (.tmp 59) = .string d := e0
            have e0g : av.tmps[59]?.getD undef = .string d := by have := e0; simp only [Array.getD_eq_getD_getElem?] at this; exact this
            have e1 : av.tmps.getD 61 undef = .int .i64 (k1 : Int) := (hw 4 (by kernel_rfl))
            have e1e : av.eval (.tmp 61) = .int .i64 (k1 : Int) := e1
            have e1g : av.tmps[61]?.getD undef = .int .i64 (k1 : Int) := by have := e1; simp only [Array.getD_eq_getD_getElem?] at this; exact this
            have e2 : av.tmps.getD 65 undef = .int .i64 (k2 : Int) := (hw 8 (by kernel_rfl))
            have e2e : av.eval (.tmp 65) = .int .i64 (k2 : Int) := e2
            have e2g : av.tmps[65]?.getD undef = .int .i64 (k2 : Int) := by have := e2; simp only [Array.getD_eq_getD_getElem?] at this; exact this
            have ex := EX.out
            obtain ⟨bd1, bd2, bd3, bd4, bd5, bd6, bd7⟩ := BD.out
            clear hw hF
            simp only [Oper.wp, execOp]
            try simp only [e0e, e1e, e2e]
            go_simp
            exact hK _ x (by first | rfl | (simp only [Nat.add_zero]; done) | (congr 1; omega)) (Below.refl _ _) (fun h => by cases h)
          · simp only [wpOp, List.getElem?_toArray, List.getElem?_cons_succ, List.getElem?_cons_zero, Region.wanted, if_true]
            refine Or.inl ?_
            have e0 : av.tmps.getD 66 undef = .string dk := (hw 9 (by kernel_rfl))
            have e0e : av.eval (.tmp 66) = .string dk := e0
            have e0g : av.tmps[66]?.getD undef = .string dk := by have := e0; simp only [Array.getD_eq_getD_getElem?] at this; exact this
            clear hw hF
            simp only [Oper.wp, execOp]
            try simp only [e0e]
            go_simp
            exact hK _ _ ⟨_, rfl, heap_alloc_new _ _⟩ ((Below.refl _ _).alloc (Nat.le_refl _) _) (fun h => by cases h)
        intro av x hF hb' hR _
        have e0 : av.tmps.getD 57 undef = .pointer (some ⟨w.heap.size + 1, 1, none⟩) := hR 0 (by decide)
        have e1 : av.tmps.getD 58 undef = .slice A ks.length c := hR 1 (by decide)
        have e2 : av.tmps.getD 59 undef = .string d := hR 2 (by decide)
        have e3 : av.tmps.getD 60 undef = .int .i64 (j : Int) := hR 3 (by decide)
        have e4 : av.tmps.getD 61 undef = .int .i64 (k1 : Int) := hR 4 (by decide)
        have e5 : av.tmps.getD 62 undef = .int .i64 (j : Int) := hR 5 (by decide)
        have e6 : av.tmps.getD 63 undef = .int .i64 (k1 : Int) := hR 6 (by decide)
        have e7 : av.tmps.getD 64 undef = .int .i64 (y : Int) := hR 7 (by decide)
        have e8 : av.tmps.getD 65 undef = .int .i64 (k2 : Int) := hR 8 (by decide)
        have e9 : av.tmps.getD 66 undef = .string dk := hR 9 (by decide)
        obtain ⟨gg10, e10, hg10⟩ := hR 10 (by decide)
        replace e10 : av.tmps.getD 67 undef = .slice (some ⟨gg10, 0, none⟩) 1 1 := e10
        rw [hF.fold (by kernel_rfl)]
        simp only [List.foldl_cons, List.foldl_nil, e0, e1, e2, e3, e4, e5, e6, e7, e8, e9, e10]
        simp only [Act.put, List.setIfInBounds_toArray, List.set_cons_zero, List.set_cons_succ]
        change wpOps _ _ _ [11, 12, 13] _ _
        simp only [wpOps_cons]
        clear e0 e1 e2 e3 e4 e5 e6 e7 e8 e9 e10 hR hF
        have BY := Lib.hid (BX.out.below hb')
        have RR := Lib.hid (row_on RR.out hb')
        have RK := Lib.hid (rl_of_row (w := x) (b := gg10) (T := 9) (fr := (0, 0)) (g := sv) (xs := [kx]) (by have h := hg10; rw [HDK.out] at h; exact h) 1 (Nat.le_refl _))
        clear hb' hg10
        simp only [wpOp, List.getElem?_toArray, List.getElem?_cons_succ, List.getElem?_cons_zero, Region.wanted, if_true]
        refine Or.inl ?_
        refine wp_append2 sv_one et_s (.tmp 58) (.tmp 67) rfl (w.heap.size + 2) (.slice A ks.length c) ks [kx] kn _ _ 1 rfl BY.out.o1 RK.out rfl rfl KN.out LB.out.1 BY.out.bz ?_
        intro A9 c9 x9 ho9 hg9 hn9
        obtain ⟨ABX1, hA2⟩ : ∃ z, A9 = z := ⟨_, rfl⟩
        obtain ⟨cBX1, hc2⟩ : ∃ z, c9 = z := ⟨_, rfl⟩
        rw [hA2, hc2] at ho9 hn9 ⊢
        have BN := Lib.hid (BY.out.push1 ho9 hg9 hn9)
        have N9 := Lib.hid (BY.out.row1 hg9 BY.out.lt.2 BY.out.row)
        obtain ⟨VBX1, hU⟩ : ∃ U : World, U = x9.setCell ⟨w.heap.size + 1, 1, none⟩ (.slice ABX1 kn.length cBX1) := ⟨_, rfl⟩
        rw [← hU] at BN
        have RRz := Lib.hid (show VBX1.heap[w.heap.size]? = some _ by rw [hU]; exact row_far (BY.out.row1 hg9 (by omega) RR.out) (by omega) _)
        have f9 := row_c N9.out (i := 1) rfl
        have q9 := frozen_of_row _ _ 1 _ _ N9.out
        clear ho9 hg9 hn9 hA2 hc2 BY N9 BX RR
        have BX := BN
        clear BN
        have RR := RRz
        clear RRz
        go_simp
        try rw [wpOps_cons]
        simp only [wpOp, List.getElem?_toArray, List.getElem?_cons_succ, List.getElem?_cons_zero, Region.wanted, if_true]
        refine Or.inl ?_
        simp only [Oper.wp, execOp]
        go_simp
        try rw [wpOps_cons]
        simp only [wpOp, List.getElem?_toArray, List.getElem?_cons_succ, List.getElem?_cons_zero, Region.wanted, if_true]
        refine Or.inl ?_
        simp only [Oper.wp, execOp]
        go_simp
        try simp only [wpOps]
        rw [← hU]
        clear hU f9 q9 RK
        go_upto_region 15 with (fail)
        refine wp_operands (W := VBX1) rfl 19 [70, 71, 72, 73, 74, 75, 76, 77, 78, 79, 80, 81, 82, 83, 84, 85, 86, 87, 88] (fun i u x => match i with | 0 => u = .pointer (some ⟨w.heap.size + 1, 2, none⟩) | 1 => u = .slice B ds.length dd | 2 => u = .string d | 3 => u = .int .i64 (j : Int) | 4 => u = .int .i64 (k1 : Int) | 5 => u = .int .i64 (y : Int) | 6 => u = .int .i64 (k2 : Int) | 7 => u = .int .u8 (b1 : Int) | 8 => u = .int .i64 (b1 : Int) | 9 => u = .int .i64 ((b1 : Int) * 256) | 10 => u = .string d | 11 => u = .int .i64 (j : Int) | 12 => u = .int .i64 (k3 : Int) | 13 => u = .int .i64 (y : Int) | 14 => u = .int .i64 (k5 : Int) | 15 => u = .int .u8 (b2_ : Int) | 16 => u = .int .i64 (b2_ : Int) | 17 => u = .int .i64 (p : Int) | 18 => ∃ g, u = .slice (some ⟨g, 0, none⟩) 1 1 ∧ x.heap[g]? = some (.cells #[.int .i64 (p : Int)] 3 (0, 0)) | _ => True) (fun _ => false)
          (by decide) rfl (by kernel_rfl) (by kernel_rfl) (by decide) (by kernel_rfl) ?_ (fun _ _ _ h => by cases h) ?_ ?_
        · intro i u x x' hi hR hb'
          have hi' : i = 0 ∨ i = 1 ∨ i = 2 ∨ i = 3 ∨ i = 4 ∨ i = 5 ∨ i = 6 ∨ i = 7 ∨ i = 8 ∨ i = 9 ∨ i = 10 ∨ i = 11 ∨ i = 12 ∨ i = 13 ∨ i = 14 ∨ i = 15 ∨ i = 16 ∨ i = 17 ∨ i = 18 := by omega
          rcases hi' with rfl | rfl | rfl | rfl | rfl | rfl | rfl | rfl | rfl | rfl | rfl | rfl | rfl | rfl | rfl | rfl | rfl | rfl | rfl
          · exact hR
          · exact hR
          · exact hR
          · exact hR
          · exact hR
          · exact hR
          · exact hR
          · exact hR
          · exact hR
          · exact hR
          · exact hR
          · exact hR
          · exact hR
          · exact hR
          · exact hR
          · exact hR
          · exact hR
          · exact hR
          · obtain ⟨g, e, hg⟩ := hR; exact ⟨g, e, (hb'.block g (heap_lt hg)).trans hg⟩
        · intro i av x K hi hF hb' hw hK
          have hi' : i = 0 ∨ i = 1 ∨ i = 2 ∨ i = 3 ∨ i = 4 ∨ i = 5 ∨ i = 6 ∨ i = 7 ∨ i = 8 ∨ i = 9 ∨ i = 10 ∨ i = 11 ∨ i = 12 ∨ i = 13 ∨ i = 14 ∨ i = 15 ∨ i = 16 ∨ i = 17 ∨ i = 18 := by omega
          rcases hi' with rfl | rfl | rfl | rfl | rfl | rfl | rfl | rfl | rfl | rfl | rfl | rfl | rfl | rfl | rfl | rfl | rfl | rfl | rfl
          · simp only [wpOp, List.getElem?_toArray, List.getElem?_cons_zero, Region.wanted, if_true]
            refine Or.inl ?_
            have e0 : av.tmps.getD 4 undef = .pointer (some ⟨w.heap.size + 1, 0, none⟩) := hF.2.2 4 (by decide)
            have e0e : av.eval (.tmp 4) = .pointer (some ⟨w.heap.size + 1, 0, none⟩) := e0
            have e0g : av.tmps[4]?.getD undef = .pointer (some ⟨w.heap.size + 1, 0, none⟩) := by have := e0; simp only [Array.getD_eq_getD_getElem?] at this; exact this
            clear hw hF
            simp only [Oper.wp, execOp]
            try simp only [e0e]
            go_simp
            exact hK _ x (by first | rfl | (simp only [Nat.add_zero]; done) | (congr 1; omega)) (Below.refl _ _) (fun h => by cases h)
          · simp only [wpOp, List.getElem?_toArray, List.getElem?_cons_succ, List.getElem?_cons_zero, Region.wanted, if_true]
            refine Or.inl ?_
            have e0 : av.tmps.getD 70 undef = .pointer (some ⟨w.heap.size + 1, 2, none⟩) := (hw 0 (by kernel_rfl))
            have e0e : av.eval (.tmp 70) = .pointer (some ⟨w.heap.size + 1, 2, none⟩) := e0
            have e0g : av.tmps[70]?.getD undef = .pointer (some ⟨w.heap.size + 1, 2, none⟩) := by have := e0; simp only [Array.getD_eq_getD_getElem?] at this; exact this
            obtain ⟨fo0, fo1, fo2⟩ := BX.out.f hb'
            clear hw hF
            simp only [Oper.wp, execOp]
            try simp only [e0e]
            go_simp
            exact hK _ x (by first | rfl | (simp only [Nat.add_zero]; done) | (congr 1; omega)) (Below.refl _ _) (fun h => by cases h)
          · simp only [wpOp, List.getElem?_toArray, List.getElem?_cons_succ, List.getElem?_cons_zero, Region.wanted, if_true]
            refine Or.inl ?_
            have e0 : av.tmps.getD 0 undef = .string d := hF.2.2 0 (by decide)
            have e0e : av.eval (.tmp 0) = .string d := e0
            have e0g : av.tmps[0]?.getD undef = .string d := by have := e0; simp only [Array.getD_eq_getD_getElem?] at this; exact this
            clear hw hF
            simp only [Oper.wp, execOp]
            try simp only [e0e]
            go_simp
            exact hK _ x (by first | rfl | (simp only [Nat.add_zero]; done) | (congr 1; omega)) (Below.refl _ _) (fun h => by cases h)
          · simp only [wpOp, List.getElem?_toArray, List.getElem?_cons_succ, List.getElem?_cons_zero, Region.wanted, if_true]
            refine Or.inl ?_
            have e0 : av.tmps.getD 5 undef = .int .i64 (j : Int) := hF.2.2 5 (by decide)
            have e0e : av.eval (.tmp 5) = .int .i64 (j : Int) := e0
            have e0g : av.tmps[5]?.getD undef = .int .i64 (j : Int) := by have := e0; simp only [Array.getD_eq_getD_getElem?] at this; exact this
            clear hw hF
            simp only [Oper.wp, execOp]
            try simp only [e0e]
            go_simp
            exact hK _ x (by first | rfl | (simp only [Nat.add_zero]; done) | (congr 1; omega)) (Below.refl _ _) (fun h => by cases h)
          · simp only [wpOp, List.getElem?_toArray, List.getElem?_cons_succ, List.getElem?_cons_zero, Region.wanted, if_true]
            refine Or.inl ?_
            have e0 : av.tmps.getD 73 undef = .int .i64 (j : Int) := (hw 3 (by kernel_rfl))
            have e0e : av.eval (.tmp 73) = .int .i64 (j : Int) := e0
            have e0g : av.tmps[73]?.getD undef = .int .i64 (j : Int) := by have := e0; simp only [Array.getD_eq_getD_getElem?] at this; exact this
            have c1 := C1.out.1
            clear hw hF
            simp only [Oper.wp, execOp]
            try simp only [e0e]
            go_simp
            exact hK _ x (by first | rfl | (simp only [Nat.add_zero]; done) | (congr 1; omega)) (Below.refl _ _) (fun h => by cases h)
          · simp only [wpOp, List.getElem?_toArray, List.getElem?_cons_succ, List.getElem?_cons_zero, Region.wanted, if_true]
            refine Or.inl ?_
            have e0 : av.tmps.getD 6 undef = .int .i64 (y : Int) := hF.2.2 6 (by decide)
            have e0e : av.eval (.tmp 6) = .int .i64 (y : Int) := e0
            have e0g : av.tmps[6]?.getD undef = .int .i64 (y : Int) := by have := e0; simp only [Array.getD_eq_getD_getElem?] at this; exact this
            clear hw hF
            simp only [Oper.wp, execOp]
            try simp only [e0e]
            go_simp
            exact hK _ x (by first | rfl | (simp only [Nat.add_zero]; done) | (congr 1; omega)) (Below.refl _ _) (fun h => by cases h)
          · simp only [wpOp, List.getElem?_toArray, List.getElem?_cons_succ, List.getElem?_cons_zero, Region.wanted, if_true]
            refine Or.inl ?_
            have e0 : av.tmps.getD 74 undef = .int .i64 (k1 : Int) := (hw 4 (by kernel_rfl))
            have e0e : av.eval (.tmp 74) = .int .i64 (k1 : Int) := e0
            have e0g : av.tmps[74]?.getD undef = .int .i64 (k1 : Int) := by have := e0; simp only [Array.getD_eq_getD_getElem?] at this; exact this
            have e1 : av.tmps.getD 75 undef = .int .i64 (y : Int) := (hw 5 (by kernel_rfl))
            have e1e : av.eval (.tmp 75) = .int .i64 (y : Int) := e1
            have e1g : av.tmps[75]?.getD undef = .int .i64 (y : Int) := by have := e1; simp only [Array.getD_eq_getD_getElem?] at this; exact this
            have c1 := C1.out.2.1
            clear hw hF
            simp only [Oper.wp, execOp]
            try simp only [e0e, e1e]
            go_simp
            exact hK _ x (by first | rfl | (simp only [Nat.add_zero]; done) | (congr 1; omega)) (Below.refl _ _) (fun h => by cases h)
          · simp only [wpOp, List.getElem?_toArray, List.getElem?_cons_succ, List.getElem?_cons_zero, Region.wanted, if_true]
            refine Or.inl ?_
            have e0 : av.tmps.getD 72 undef = .string d := (hw 2 (by kernel_rfl))
            have e0e : av.eval (.tmp 72) = .string d := e0
            have e0g : av.tmps[72]?.getD undef = .string d := by have := e0; simp only [Array.getD_eq_getD_getElem?] at this; exact this
            have e1 : av.tmps.getD 76 undef = .int .i64 (k2 : Int) := (hw 6 (by kernel_rfl))
            have e1e : av.eval (.tmp 76) = .int .i64 (k2 : Int) := e1
            have e1g : av.tmps[76]?.getD undef = .int .i64 (k2 : Int) := by have := e1; simp only [Array.getD_eq_getD_getElem?] at this; exact this
            obtain ⟨xi, xj, xk⟩ := Y1.out
            clear hw hF
            simp only [Oper.wp, execOp]
            try simp only [e0e, e1e]
            go_simp
            exact hK _ x (by first | rfl | (simp only [Nat.add_zero]; done) | (congr 1; omega)) (Below.refl _ _) (fun h => by cases h)
          · simp only [wpOp, List.getElem?_toArray, List.getElem?_cons_succ, List.getElem?_cons_zero, Region.wanted, if_true]
            refine Or.inl ?_
            have e0 : av.tmps.getD 77 undef = .int .u8 (b1 : Int) := (hw 7 (by kernel_rfl))
            have e0e : av.eval (.tmp 77) = .int .u8 (b1 : Int) := e0
            have e0g : av.tmps[77]?.getD undef = .int .u8 (b1 : Int) := by have := e0; simp only [Array.getD_eq_getD_getElem?] at this; exact this
            have uu := UU.out.1
            clear hw hF
            simp only [Oper.wp, execOp]
            try simp only [e0e]
            go_simp
            exact hK _ x (by first | rfl | (simp only [Nat.add_zero]; done) | (congr 1; omega)) (Below.refl _ _) (fun h => by cases h)
          · simp only [wpOp, List.getElem?_toArray, List.getElem?_cons_succ, List.getElem?_cons_zero, Region.wanted, if_true]
            refine Or.inl ?_
            have e0 : av.tmps.getD 78 undef = .int .i64 (b1 : Int) := (hw 8 (by kernel_rfl))
            have e0e : av.eval (.tmp 78) = .int .i64 (b1 : Int) := e0
            have e0g : av.tmps[78]?.getD undef = .int .i64 (b1 : Int) := by have := e0; simp only [Array.getD_eq_getD_getElem?] at this; exact this
            have uu := UU.out.2.1
            clear hw hF
            simp only [Oper.wp, execOp]
            try simp only [e0e]
            go_simp
            exact hK _ x (by first | rfl | (simp only [Nat.add_zero]; done) | (congr 1; omega)) (Below.refl _ _) (fun h => by cases h)
          · simp only [wpOp, List.getElem?_toArray, List.getElem?_cons_succ, List.getElem?_cons_zero, Region.wanted, if_true]
            refine Or.inl ?_
            have e0 : av.tmps.getD 0 undef = .string d := hF.2.2 0 (by decide)
            have e0e : av.eval (.tmp 0) = .string d := e0
            have e0g : av.tmps[0]?.getD undef = .string d := by have := e0; simp only [Array.getD_eq_getD_getElem?] at this; exact this
            clear hw hF
            simp only [Oper.wp, execOp]
            try simp only [e0e]
            go_simp
            exact hK _ x (by first | rfl | (simp only [Nat.add_zero]; done) | (congr 1; omega)) (Below.refl _ _) (fun h => by cases h)
          · simp only [wpOp, List.getElem?_toArray, List.getElem?_cons_succ, List.getElem?_cons_zero, Region.wanted, if_true]
            refine Or.inl ?_
            have e0 : av.tmps.getD 5 undef = .int .i64 (j : Int) := hF.2.2 5 (by decide)
            have e0e : av.eval (.tmp 5) = .int .i64 (j : Int) := e0
            have e0g : av.tmps[5]?.getD undef = .int .i64 (j : Int) := by have := e0; simp only [Array.getD_eq_getD_getElem?] at this; exact this
            clear hw hF
            simp only [Oper.wp, execOp]
            try simp only [e0e]
            go_simp
            exact hK _ x (by first | rfl | (simp only [Nat.add_zero]; done) | (congr 1; omega)) (Below.refl _ _) (fun h => by cases h)
          · simp only [wpOp, List.getElem?_toArray, List.getElem?_cons_succ, List.getElem?_cons_zero, Region.wanted, if_true]
            refine Or.inl ?_
            have e0 : av.tmps.getD 81 undef = .int .i64 (j : Int) := (hw 11 (by kernel_rfl))
            have e0e : av.eval (.tmp 81) = .int .i64 (j : Int) := e0
            have e0g : av.tmps[81]?.getD undef = .int .i64 (j : Int) := by have := e0; simp only [Array.getD_eq_getD_getElem?] at this; exact this
            have c1 := C1.out.2.2.1
            clear hw hF
            simp only [Oper.wp, execOp]
            try simp only [e0e]
            go_simp
            exact hK _ x (by first | rfl | (simp only [Nat.add_zero]; done) | (congr 1; omega)) (Below.refl _ _) (fun h => by cases h)
          · simp only [wpOp, List.getElem?_toArray, List.getElem?_cons_succ, List.getElem?_cons_zero, Region.wanted, if_true]
            refine Or.inl ?_
            have e0 : av.tmps.getD 6 undef = .int .i64 (y : Int) := hF.2.2 6 (by decide)
            have e0e : av.eval (.tmp 6) = .int .i64 (y : Int) := e0
            have e0g : av.tmps[6]?.getD undef = .int .i64 (y : Int) := by have := e0; simp only [Array.getD_eq_getD_getElem?] at this; exact this
            clear hw hF
            simp only [Oper.wp, execOp]
            try simp only [e0e]
            go_simp
            exact hK _ x (by first | rfl | (simp only [Nat.add_zero]; done) | (congr 1; omega)) (Below.refl _ _) (fun h => by cases h)
          · simp only [wpOp, List.getElem?_toArray, List.getElem?_cons_succ, List.getElem?_cons_zero, Region.wanted, if_true]
            refine Or.inl ?_
            have e0 : av.tmps.getD 82 undef = .int .i64 (k3 : Int) := (hw 12 (by kernel_rfl))
            have e0e : av.eval (.tmp 82) = .int .i64 (k3 : Int) := e0
            have e0g : av.tmps[82]?.getD undef = .int .i64 (k3 : Int) := by have := e0; simp only [Array.getD_eq_getD_getElem?] at this; exact this
            have e1 : av.tmps.getD 83 undef = .int .i64 (y : Int) := (hw 13 (by kernel_rfl))
            have e1e : av.eval (.tmp 83) = .int .i64 (y : Int) := e1
            have e1g : av.tmps[83]?.getD undef = .int .i64 (y : Int) := by have := e1; simp only [Array.getD_eq_getD_getElem?] at this; exact this
            have c1 := C1.out.2.2.2
            clear hw hF
            simp only [Oper.wp, execOp]
            try simp only [e0e, e1e]
            go_simp
            exact hK _ x (by first | rfl | (simp only [Nat.add_zero]; done) | (congr 1; omega)) (Below.refl _ _) (fun h => by cases h)
          · simp only [wpOp, List.getElem?_toArray, List.getElem?_cons_succ, List.getElem?_cons_zero, Region.wanted, if_true]
            refine Or.inl ?_
            have e0 : av.tmps.getD 80 undef = .string d := (hw 10 (by kernel_rfl))
            have e0e : av.eval (.tmp 80) = .string d := e0
            have e0g : av.tmps[80]?.getD undef = .string d := by have := e0; simp only [Array.getD_eq_getD_getElem?] at this; exact this
            have e1 : av.tmps.getD 84 undef = .int .i64 (k5 : Int) := (hw 14 (by kernel_rfl))
            have e1e : av.eval (.tmp 84) = .int .i64 (k5 : Int) := e1
            have e1g : av.tmps[84]?.getD undef = .int .i64 (k5 : Int) := by have := e1; simp only [Array.getD_eq_getD_getElem?] at this; exact this
            obtain ⟨xi, xj, xk⟩ := Y2.out
            clear hw hF
            simp only [Oper.wp, execOp]
            try simp only [e0e, e1e]
            go_simp
            exact hK _ x (by first | rfl | (simp only [Nat.add_zero]; done) | (congr 1; omega)) (Below.refl _ _) (fun h => by cases h)
          · simp only [wpOp, List.getElem?_toArray, List.getElem?_cons_succ, List.getElem?_cons_zero, Region.wanted, if_true]
            refine Or.inl ?_
            have e0 : av.tmps.getD 85 undef = .int .u8 (b2_ : Int) := (hw 15 (by kernel_rfl))
            have e0e : av.eval (.tmp 85) = .int .u8 (b2_ : Int) := e0
            have e0g : av.tmps[85]?.getD undef = .int .u8 (b2_ : Int) := by have := e0; simp only [Array.getD_eq_getD_getElem?] at this; exact this
            have uu := UU.out.2.2
            clear hw hF
            simp only [Oper.wp, execOp]
            try simp only [e0e]
            go_simp
            exact hK _ x (by first | rfl | (simp only [Nat.add_zero]; done) | (congr 1; omega)) (Below.refl _ _) (fun h => by cases h)
          · simp only [wpOp, List.getElem?_toArray, List.getElem?_cons_succ, List.getElem?_cons_zero, Region.wanted, if_true]
            refine Or.inl ?_
            have e0 : av.tmps.getD 79 undef = .int .i64 ((b1 : Int) * 256) := (hw 9 (by kernel_rfl))
            have e0e : av.eval (.tmp 79) = .int .i64 ((b1 : Int) * 256) := e0
            have e0g : av.tmps[79]?.getD undef = .int .i64 ((b1 : Int) * 256) := by have := e0; simp only [Array.getD_eq_getD_getElem?] at this; exact this
            have e1 : av.tmps.getD 86 undef = .int .i64 (b2_ : Int) := (hw 16 (by kernel_rfl))
            have e1e : av.eval (.tmp 86) = .int .i64 (b2_ : Int) := e1
            have e1g : av.tmps[86]?.getD undef = .int .i64 (b2_ : Int) := by have := e1; simp only [Array.getD_eq_getD_getElem?] at this; exact this
            have oo := OR.out
            clear hw hF
            simp only [Oper.wp, execOp]
            try simp only [e0e, e1e]
            go_simp
            exact hK _ x (by first | rfl | (simp only [Nat.add_zero]; done) | (congr 1; omega)) (Below.refl _ _) (fun h => by cases h)
          · simp only [wpOp, List.getElem?_toArray, List.getElem?_cons_succ, List.getElem?_cons_zero, Region.wanted, if_true]
            refine Or.inl ?_
            have e0 : av.tmps.getD 87 undef = .int .i64 (p : Int) := (hw 17 (by kernel_rfl))
            have e0e : av.eval (.tmp 87) = .int .i64 (p : Int) := e0
            have e0g : av.tmps[87]?.getD undef = .int .i64 (p : Int) := by have := e0; simp only [Array.getD_eq_getD_getElem?] at this; exact this
            clear hw hF
            simp only [Oper.wp, execOp]
            try simp only [e0e]
            go_simp
            exact hK _ _ ⟨_, rfl, heap_alloc_new _ _⟩ ((Below.refl _ _).alloc (Nat.le_refl _) _) (fun h => by cases h)
        intro av x hF hb' hR _
        have e0 : av.tmps.getD 70 undef = .pointer (some ⟨w.heap.size + 1, 2, none⟩) := hR 0 (by decide)
        have e1 : av.tmps.getD 71 undef = .slice B ds.length dd := hR 1 (by decide)
        have e2 : av.tmps.getD 72 undef = .string d := hR 2 (by decide)
        have e3 : av.tmps.getD 73 undef = .int .i64 (j : Int) := hR 3 (by decide)
        have e4 : av.tmps.getD 74 undef = .int .i64 (k1 : Int) := hR 4 (by decide)
        have e5 : av.tmps.getD 75 undef = .int .i64 (y : Int) := hR 5 (by decide)
        have e6 : av.tmps.getD 76 undef = .int .i64 (k2 : Int) := hR 6 (by decide)
        have e7 : av.tmps.getD 77 undef = .int .u8 (b1 : Int) := hR 7 (by decide)
        have e8 : av.tmps.getD 78 undef = .int .i64 (b1 : Int) := hR 8 (by decide)
        have e9 : av.tmps.getD 79 undef = .int .i64 ((b1 : Int) * 256) := hR 9 (by decide)
        have e10 : av.tmps.getD 80 undef = .string d := hR 10 (by decide)
        have e11 : av.tmps.getD 81 undef = .int .i64 (j : Int) := hR 11 (by decide)
        have e12 : av.tmps.getD 82 undef = .int .i64 (k3 : Int) := hR 12 (by decide)
        have e13 : av.tmps.getD 83 undef = .int .i64 (y : Int) := hR 13 (by decide)
        have e14 : av.tmps.getD 84 undef = .int .i64 (k5 : Int) := hR 14 (by decide)
        have e15 : av.tmps.getD 85 undef = .int .u8 (b2_ : Int) := hR 15 (by decide)
        have e16 : av.tmps.getD 86 undef = .int .i64 (b2_ : Int) := hR 16 (by decide)
        have e17 : av.tmps.getD 87 undef = .int .i64 (p : Int) := hR 17 (by decide)
        obtain ⟨gg18, e18, hg18⟩ := hR 18 (by decide)
        replace e18 : av.tmps.getD 88 undef = .slice (some ⟨gg18, 0, none⟩) 1 1 := e18
        rw [hF.fold (by kernel_rfl)]
        simp only [List.foldl_cons, List.foldl_nil, e0, e1, e2, e3, e4, e5, e6, e7, e8, e9, e10, e11, e12, e13, e14, e15, e16, e17, e18]
        simp only [Act.put, List.setIfInBounds_toArray, List.set_cons_zero, List.set_cons_succ]
        change wpOps _ _ _ [19, 20, 21] _ _
        simp only [wpOps_cons]
        clear e0 e1 e2 e3 e4 e5 e6 e7 e8 e9 e10 e11 e12 e13 e14 e15 e16 e17 e18 hR hF
        have BY := Lib.hid (BX.out.below hb')
        have RR := Lib.hid (row_on RR.out hb')
        have RK := Lib.hid (rl_of_row (g := nv) (xs := [(p : Int)]) hg18 1 (Nat.le_refl _))
        clear hb' hg18
        simp only [wpOp, List.getElem?_toArray, List.getElem?_cons_succ, List.getElem?_cons_zero, Region.wanted, if_true]
        refine Or.inl ?_
        refine wp_append2 nv_one et_i (.tmp 71) (.tmp 88) rfl (w.heap.size + 2) (.slice B ds.length dd) ds [(p : Int)] dn _ _ 1 rfl BY.out.o2 RK.out rfl rfl DN.out LB.out.2 BY.out.bz ?_
        intro A9 c9 x9 ho9 hg9 hn9
        obtain ⟨ABX2, hA2⟩ : ∃ z, A9 = z := ⟨_, rfl⟩
        obtain ⟨cBX2, hc2⟩ : ∃ z, c9 = z := ⟨_, rfl⟩
        rw [hA2, hc2] at ho9 hn9 ⊢
        have BN := Lib.hid (BY.out.push2 ho9 hg9 hn9)
        have N9 := Lib.hid (BY.out.row2 hg9 BY.out.lt.2 BY.out.row)
        obtain ⟨VBX2, hU⟩ : ∃ U : World, U = x9.setCell ⟨w.heap.size + 1, 2, none⟩ (.slice ABX2 dn.length cBX2) := ⟨_, rfl⟩
        rw [← hU] at BN
        have RRz := Lib.hid (show VBX2.heap[w.heap.size]? = some _ by rw [hU]; exact row_far (BY.out.row2 hg9 (by omega) RR.out) (by omega) _)
        have f9 := row_c N9.out (i := 2) rfl
        have q9 := frozen_of_row _ _ 2 _ _ N9.out
        clear ho9 hg9 hn9 hA2 hc2 BY N9 BX RR
        have BX := BN
        clear BN
        have RR := RRz
        clear RRz
        go_simp
        try rw [wpOps_cons]
        simp only [wpOp, List.getElem?_toArray, List.getElem?_cons_succ, List.getElem?_cons_zero, Region.wanted, if_true]
        refine Or.inl ?_
        simp only [Oper.wp, execOp]
        go_simp
        try rw [wpOps_cons]
        simp only [wpOp, List.getElem?_toArray, List.getElem?_cons_succ, List.getElem?_cons_zero, Region.wanted, if_true]
        refine Or.inl ?_
        simp only [Oper.wp, execOp]
        go_simp
        try simp only [wpOps]
        rw [← hU]
        clear hU f9 q9 RK
        obtain ⟨w1, w2⟩ := W12.out
        go_wp2
        go_roundw
        case rel => exact ⟨j4, ABX1, cBX1, kn, ABX2, cBX2, dn, HJ.out.1, rfl, BX, RR, Lib.hid (by rw [DC.out, ST.out, ← KN.out, ← DN.out]; cases pents (S.drop j4) with | none => rfl | some es => simp), Lib.hid (by rw [← KN.out, ← DN.out, sumN_app]; have h1 := SB.out; have h2 := HJ.out; have h3 := LKX.out; have h4 : sumN [kx] = kx.length + 1 := (by simp [sumN]); rw [h4]; simp only [List.length_append, List.length_singleton]; omega)⟩
        case measure =>
          clear w1 w2
          simp [intOf]
          have := HJ.out
          omega
    · obtain rfl : j = S.length := by omega
      have k9 : decide (S.length < d.size) = false := decide_eq_false (by rw [DS.out]; exact Nat.lt_irrefl _)
      have k8 : decide ((S.length : Int) < (d.size : Int)) = false := decide_eq_false (by rw [DS.out]; omega)
      have DE := Lib.hid (show decS S = some (true, ks, ds) by rw [DC.out, List.drop_length]; simp [pents])
      have lk : ks.length ≤ 4000000 := by have := sumN_ge ks; have := SB.out; have := HL.out; omega
      have ld : ds.length ≤ 4000001 := by have := SB.out; omega
      have lz : sizeN ks ds < 4611686018427387904 := by have := SB.out; have := HL.out; have := sumN_ge ks; unfold sizeN; omega
      obtain ⟨fo0, fo1, fo2⟩ := BX.out.f (Below.refl _ _)
      clear hlt hj
      go_wp2_with fail
      clear k9 k8 fo0 fo1 fo2
      cases hrb : rightB true ks ds
      · have DA := Lib.hid (show decA S = none by unfold decA; rw [DE.out]; simp [okB, hrb])
        refine (rencode_no true A c ks B dd ds V BX.out.rl.1 BX.out.rl.2.1 lk ld lz hrb).mono ?_
        rintro e x ⟨rfl, hx⟩
        have BY := Lib.hid (BX.out.below hx)
        have RRx := Lib.hid (row_on RR.out hx)
        clear BX RR hx lk ld lz hrb
        have BX := BY
        have RR := RRx
        have p0 := row_c RR.out (i := 0) rfl
        have p1 := row_c RR.out (i := 1) rfl
        have p2 := row_c RR.out (i := 2) rfl
        have z0 := frozen_of_row _ _ 0 _ _ RR.out
        have z1 := frozen_of_row _ _ 1 _ _ RR.out
        have z2 := frozen_of_row _ _ 2 _ _ RR.out
        go_wp2
        refine bodyPost_ret (v := .tuple #[.agg #[.bool false, .slice none 0 0, .slice none 0 0], .bool false]) (by simp [results, Try.results16, go_sem, p0, p1, p2]) rfl ⟨fun lf ks ds h => (by rw [DA.out] at h; cases h), fun _ => rfl, ?_⟩
        exact ((BX.out.kb.setCell (by simp) _).setCell (by simp) _).setCell (by simp) _
      · by_cases hen : encL true ks ds = S
        · have DA := Lib.hid (show decA S = some (true, ks, ds) by unfold decA; rw [DE.out]; simp [okB, hrb, hen])
          refine (rencode_yes true A c ks B dd ds V BX.out.rl.1 BX.out.rl.2.1 hrb).mono ?_
          rintro e x ⟨rfl, hx⟩
          have BY := Lib.hid (BX.out.below hx)
          have RRx := Lib.hid (row_on RR.out hx)
          clear BX RR hx lk ld lz
          have BX := BY
          have RR := RRx
          clear BY RRx
          rw [hen, ← HD.out]
          clear hrb hen
          obtain ⟨fo0, fo1, fo2⟩ := BX.out.f (Below.refl _ _)
          have p0 := row_c RR.out (i := 0) rfl
          have p1 := row_c RR.out (i := 1) rfl
          have p2 := row_c RR.out (i := 2) rfl
          have z0 := frozen_of_row _ _ 0 _ _ RR.out
          have z1 := frozen_of_row _ _ 1 _ _ RR.out
          have z2 := frozen_of_row _ _ 2 _ _ RR.out
          go_wp2
          refine bodyPost_ret (v := .tuple #[.agg #[.bool true, .slice A ks.length c, .slice B ds.length dd], .bool true]) (by simp [results, Try.results16, go_sem, p0, p1, p2]) rfl ⟨fun lf_ ks_ ds_ h => ?_, fun h => (by rw [DA.out] at h; cases h), ?_⟩
          · rw [DA.out] at h
            injection h with h
            injection h with h1 h2
            injection h2 with h2 h3
            subst h1 h2 h3
            exact ⟨A, c, B, dd, rfl, ((BX.out.rl.1.set BX.out.rl.2.2.1 (by omega) _ _).set BX.out.rl.2.2.1 (by omega) _ _).set BX.out.rl.2.2.1 (by omega) _ _, ((BX.out.rl.2.1.set BX.out.rl.2.2.2 (by omega) _ _).set BX.out.rl.2.2.2 (by omega) _ _).set BX.out.rl.2.2.2 (by omega) _ _⟩
          · exact ((BX.out.kb.setCell (by simp) _).setCell (by simp) _).setCell (by simp) _
        · have DA := Lib.hid (show decA S = none by unfold decA; rw [DE.out]; simp [okB, hrb, hen])
          refine (rencode_yes true A c ks B dd ds V BX.out.rl.1 BX.out.rl.2.1 hrb).mono ?_
          rintro e x ⟨rfl, hx⟩
          have BY := Lib.hid (BX.out.below hx)
          have RRx := Lib.hid (row_on RR.out hx)
          clear BX RR hx lk ld lz
          have BX := BY
          have RR := RRx
          clear BY RRx
          obtain ⟨dz, hdz⟩ : ∃ z : ByteArray, z = ⟨(encL true ks ds).toArray⟩ := ⟨_, rfl⟩
          have hne : dz ≠ d := by rw [hdz, HD.out]; intro h; injection h with h; exact hen (by simpa using h)
          have e7 : (dz.toList == d.toList) = false := by rw [ByteArray.toList_eq, ByteArray.toList_eq]; simp only [beq_eq_false_iff_ne, ne_eq]; exact fun h => hne (Go.WideShapes.bytes_inj h)
          have e6 : decide (dz = d) = false := decide_eq_false hne
          rw [← hdz]
          clear hrb hen hdz hne
          have p0 := row_c RR.out (i := 0) rfl
          have p1 := row_c RR.out (i := 1) rfl
          have p2 := row_c RR.out (i := 2) rfl
          have z0 := frozen_of_row _ _ 0 _ _ RR.out
          have z1 := frozen_of_row _ _ 1 _ _ RR.out
          have z2 := frozen_of_row _ _ 2 _ _ RR.out
          go_wp2
          refine bodyPost_ret (v := .tuple #[.agg #[.bool false, .slice none 0 0, .slice none 0 0], .bool false]) (by simp [results, Try.results16, go_sem, p0, p1, p2]) rfl ⟨fun lf ks ds h => (by rw [DA.out] at h; cases h), fun _ => rfl, ?_⟩
          exact ((BX.out.kb.setCell (by simp) _).setCell (by simp) _).setCell (by simp) _
set_option maxHeartbeats 8000000 in
set_option maxRecDepth 100000 in
theorem rdec_f (w : World) (r : List UInt8) (S : List UInt8) (hS : S = 0 :: r) (hL : S.length ≤ 1048576) : Calls Try.prog 16 #[.string ⟨S.toArray⟩] w fun e w' => (∀ lf ks ds, decA S = some (lf, ks, ds) → ∃ A c B d, e = .returned (.tuple #[.agg #[.bool lf, .slice A ks.length c, .slice B ds.length d], .bool true]) ∧ Rl sv w' A c ks ∧ Rl nv w' B d ds) ∧ (decA S = none → e = .returned (.tuple #[.agg #[.bool false, .slice none 0 0, .slice none 0 0], .bool false])) ∧ Below w.heap.size w w' := by
  have hz : at8 S 0 = 0 := by rw [hS]; rfl
  have hl : 0 < S.length := by rw [hS]; simp
  have HS := Lib.hid hS
  have HL := Lib.hid hL
  obtain ⟨d, hd⟩ : ∃ d : ByteArray, d = ⟨S.toArray⟩ := ⟨_, rfl⟩
  have dsz : d.size = S.length := by rw [hd, str_size]
  have HD := Lib.hid hd
  have DS := Lib.hid dsz
  have e0 : d.toList.isEmpty = false := by rw [hd, ByteArray.toList_eq, hS]; rfl
  have BB : ∀ h' : 0 < d.size, (d[0]'h').toNat = 0 := by have := HD.out; subst this; intro h'; exact (ba_at S 0 h').trans hz
  have IX := Lib.hid (fun (i : Nat) (h : i < S.length) => show (∀ h' : i < d.size, (d[i]'h').toNat = at8 S i) ∧ i < d.size ∧ (i : Int) < (d.size : Int) from ⟨by have := HD.out; subst this; intro h'; exact ba_at S i h', by rw [DS.out]; exact h, by rw [DS.out]; omega⟩)
  have i0 : 0 < d.size := by omega
  have i1 : (0 : Int) < (d.size : Int) := by omega
  obtain ⟨W, hW⟩ : ∃ W : World, W = (w.alloc (.cells #[.bool false, .slice none 0 0, .slice none 0 0] 33)).alloc (.cells #[.bool false, .slice none 0 0, .slice none 0 0] 33) := ⟨_, rfl⟩
  have RR := Lib.hid (show W.heap[w.heap.size]? = some (.cells #[.bool false, .slice none 0 0, .slice none 0 0] 33 (0, 0)) by rw [hW]; exact row_on (heap_alloc_new w _) (bda _ _))
  have RO := Lib.hid (show W.heap[w.heap.size + 1]? = some (.cells #[.bool false, .slice none 0 0, .slice none 0 0] 33 (0, 0)) by rw [hW]; have := heap_alloc_new (w.alloc (.cells #[.bool false, .slice none 0 0, .slice none 0 0] 33)) (.cells #[.bool false, .slice none 0 0, .slice none 0 0] 33); simpa using this)
  have BX := Lib.hid (Bx.fresh (w := w) (base := w.heap.size + 2) RO.out (show Below w.heap.size w W by rw [hW]; exact bon (bda _ _) (bda _ _)) (heap_lt RO.out) ⟨by omega, by omega⟩)
  have HW := Lib.hid hW
  rw [← hd]
  clear hd hS dsz hl hz hW hL
  go_enter Try.func16, Try.ntmps16
  have FA := Lib.hid (fun V (hV : Below W.heap.size W V) => BX.out.f hV)
  have f0 := (BX.out.f (Below.refl _ _)).1
  rw [HW.out] at f0
  by_cases h3 : S.length < 3
  · have g1 : decide (d.size < 3) = true := decide_eq_true (by rw [DS.out]; exact h3)
    have g2 : decide ((d.size : Int) < 3) = true := decide_eq_true (by rw [DS.out]; omega)
    have DA := Lib.hid (show decA S = none from decA_none (by rw [HS.out]; have h9 := h3; rw [HS.out] at h9; simp only [decS]; rw [if_neg (by decide), if_pos (by simp at h9; omega)]))
    clear h3
    go_wp2
    refine bodyPost_ret (v := .tuple #[.agg #[.bool false, .slice none 0 0, .slice none 0 0], .bool false]) (by simp [results, Try.results16, go_sem]) rfl ⟨fun lf ks ds h => (by rw [DA.out] at h; cases h), fun _ => rfl, ?_⟩
    rw [← HW.out]
    exact BX.out.kb
  have g1 : decide (d.size < 3) = false := decide_eq_false (by rw [DS.out]; exact h3)
  have g2 : decide ((d.size : Int) < 3) = false := decide_eq_false (by rw [DS.out]; omega)
  obtain ⟨y1, hy1⟩ : ∃ y, at8 S 1 = y := ⟨_, rfl⟩
  obtain ⟨y2, hy2⟩ : ∃ y, at8 S 2 = y := ⟨_, rfl⟩
  obtain ⟨p0, hp0⟩ : ∃ p, y1 * 256 + y2 = p := ⟨_, rfl⟩
  have t1 : y1 < 256 := by rw [← hy1]; exact at8_lt _ _
  have t2 : y2 < 256 := by rw [← hy2]; exact at8_lt _ _
  have X1 := Lib.hid (IX.out 1 (by omega))
  have X2 := Lib.hid (IX.out 2 (by omega))
  rw [hy1] at X1
  rw [hy2] at X2
  have or := or2' t1 t2
  rw [hp0] at or
  have OR := Lib.hid or
  have UU := Lib.hid (And.intro (show IntKind.i64.wrap (y1 : Int) = (y1 : Int) from IntWalk.i64_in _ (by omega)) (And.intro (show IntKind.i64.wrap ((y1 : Int) * 256) = (y1 : Int) * 256 from IntWalk.i64_in _ (by omega)) (show IntKind.i64.wrap (y2 : Int) = (y2 : Int) from IntWalk.i64_in _ (by omega))))
  have DC := Lib.hid (show decS S = (pents (S.drop 3)).map (fun es => (false, ([] : List (List UInt8)) ++ es.map Prod.fst, ([(p0 : Int)] : List Int) ++ es.map Prod.snd)) by
    have h9 := h3
    have e2 := rd_two (L := r) (by rw [HS.out] at h9; simp at h9; omega)
    have e3 : at8 r 0 = y1 := by rw [← hy1, HS.out]; rfl
    have e4 : at8 r 1 = y2 := by rw [← hy2, HS.out]; rfl
    rw [e3, e4, hp0] at e2
    rw [HS.out] at h9 ⊢
    simp only [decS]
    rw [if_neg (by decide), if_neg (by simp at h9; omega), e2]
    rfl)
  have LP := Lib.hid (show 3 ≤ S.length by omega)
  clear h3 hy1 hy2 hp0 t1 t2 or
  go_upto_region 8 with (fail)
  rw [← HW.out]
  clear HW e0 BB i0 i1 RO f0 g1 g2 FA
  obtain ⟨dn0, hdn0⟩ : ∃ z, ([] : List Int) ++ [(p0 : Int)] = z := ⟨_, rfl⟩
  have EQ1 := Lib.hid hdn0
  rw [show [(p0 : Int)] = dn0 from hdn0] at DC
  clear hdn0
  refine wp_operands (W := W) rfl 11 [28, 29, 30, 31, 32, 33, 34, 35, 36, 37, 38] (fun i u x => match i with | 0 => u = .pointer (some ⟨w.heap.size + 1, 2, none⟩) | 1 => u = .slice none 0 0 | 2 => u = .string d | 3 => u = .int .u8 (y1 : Int) | 4 => u = .int .i64 (y1 : Int) | 5 => u = .int .i64 ((y1 : Int) * 256) | 6 => u = .string d | 7 => u = .int .u8 (y2 : Int) | 8 => u = .int .i64 (y2 : Int) | 9 => u = .int .i64 (p0 : Int) | 10 => ∃ g, u = .slice (some ⟨g, 0, none⟩) 1 1 ∧ x.heap[g]? = some (.cells #[.int .i64 (p0 : Int)] 3 (0, 0)) | _ => True) (fun _ => false)
    (by decide) rfl (by kernel_rfl) (by kernel_rfl) (by decide) (by kernel_rfl) ?_ (fun _ _ _ h => by cases h) ?_ ?_
  · intro i u x x' hi hR hb'
    have hi' : i = 0 ∨ i = 1 ∨ i = 2 ∨ i = 3 ∨ i = 4 ∨ i = 5 ∨ i = 6 ∨ i = 7 ∨ i = 8 ∨ i = 9 ∨ i = 10 := by omega
    rcases hi' with rfl | rfl | rfl | rfl | rfl | rfl | rfl | rfl | rfl | rfl | rfl
    · exact hR
    · exact hR
    · exact hR
    · exact hR
    · exact hR
    · exact hR
    · exact hR
    · exact hR
    · exact hR
    · exact hR
    · obtain ⟨g, e, hg⟩ := hR; exact ⟨g, e, (hb'.block g (heap_lt hg)).trans hg⟩
  · intro i av x K hi hF hb' hw hK
    have hi' : i = 0 ∨ i = 1 ∨ i = 2 ∨ i = 3 ∨ i = 4 ∨ i = 5 ∨ i = 6 ∨ i = 7 ∨ i = 8 ∨ i = 9 ∨ i = 10 := by omega
    rcases hi' with rfl | rfl | rfl | rfl | rfl | rfl | rfl | rfl | rfl | rfl | rfl
    · simp only [wpOp, List.getElem?_toArray, List.getElem?_cons_zero, Region.wanted, if_true]
      refine Or.inl ?_
      have e0 : av.tmps.getD 4 undef = .pointer (some ⟨w.heap.size + 1, 0, none⟩) := hF.2.2 4 (by decide)
      have e0e : av.eval (.tmp 4) = .pointer (some ⟨w.heap.size + 1, 0, none⟩) := e0
      have e0g : av.tmps[4]?.getD undef = .pointer (some ⟨w.heap.size + 1, 0, none⟩) := by have := e0; simp only [Array.getD_eq_getD_getElem?] at this; exact this
      clear hw hF
      simp only [Oper.wp, execOp]
      try simp only [e0e]
      go_simp
      exact hK _ x (by first | rfl | (simp only [Nat.add_zero]; done) | (congr 1; omega)) (Below.refl _ _) (fun h => by cases h)
    · simp only [wpOp, List.getElem?_toArray, List.getElem?_cons_succ, List.getElem?_cons_zero, Region.wanted, if_true]
      refine Or.inl ?_
      have e0 : av.tmps.getD 28 undef = .pointer (some ⟨w.heap.size + 1, 2, none⟩) := (hw 0 (by kernel_rfl))
      have e0e : av.eval (.tmp 28) = .pointer (some ⟨w.heap.size + 1, 2, none⟩) := e0
      have e0g : av.tmps[28]?.getD undef = .pointer (some ⟨w.heap.size + 1, 2, none⟩) := by have := e0; simp only [Array.getD_eq_getD_getElem?] at this; exact this
      obtain ⟨fo0, fo1, fo2⟩ := BX.out.f hb'
      clear hw hF
      simp only [Oper.wp, execOp]
      try simp only [e0e]
      go_simp
      exact hK _ x (by first | rfl | (simp only [Nat.add_zero]; done) | (congr 1; omega)) (Below.refl _ _) (fun h => by cases h)
    · simp only [wpOp, List.getElem?_toArray, List.getElem?_cons_succ, List.getElem?_cons_zero, Region.wanted, if_true]
      refine Or.inl ?_
      have e0 : av.tmps.getD 0 undef = .string d := hF.2.2 0 (by decide)
      have e0e : av.eval (.tmp 0) = .string d := e0
      have e0g : av.tmps[0]?.getD undef = .string d := by have := e0; simp only [Array.getD_eq_getD_getElem?] at this; exact this
      clear hw hF
      simp only [Oper.wp, execOp]
      try simp only [e0e]
      go_simp
      exact hK _ x (by first | rfl | (simp only [Nat.add_zero]; done) | (congr 1; omega)) (Below.refl _ _) (fun h => by cases h)
    · simp only [wpOp, List.getElem?_toArray, List.getElem?_cons_succ, List.getElem?_cons_zero, Region.wanted, if_true]
      refine Or.inl ?_
      have e0 : av.tmps.getD 30 undef = .string d := (hw 2 (by kernel_rfl))
      have e0e : av.eval (.tmp 30) = .string d := e0
      have e0g : av.tmps[30]?.getD undef = .string d := by have := e0; simp only [Array.getD_eq_getD_getElem?] at this; exact this
      obtain ⟨xi, xj, xk⟩ := X1.out
      have xm : (1 : Int) < (d.size : Int) := by omega
      clear hw hF
      simp only [Oper.wp, execOp]
      try simp only [e0e]
      go_simp
      exact hK _ x (by first | rfl | (simp only [Nat.add_zero]; done) | (congr 1; omega)) (Below.refl _ _) (fun h => by cases h)
    · simp only [wpOp, List.getElem?_toArray, List.getElem?_cons_succ, List.getElem?_cons_zero, Region.wanted, if_true]
      refine Or.inl ?_
      have e0 : av.tmps.getD 31 undef = .int .u8 (y1 : Int) := (hw 3 (by kernel_rfl))
      have e0e : av.eval (.tmp 31) = .int .u8 (y1 : Int) := e0
      have e0g : av.tmps[31]?.getD undef = .int .u8 (y1 : Int) := by have := e0; simp only [Array.getD_eq_getD_getElem?] at this; exact this
      have uu := UU.out.1
      clear hw hF
      simp only [Oper.wp, execOp]
      try simp only [e0e]
      go_simp
      exact hK _ x (by first | rfl | (simp only [Nat.add_zero]; done) | (congr 1; omega)) (Below.refl _ _) (fun h => by cases h)
    · simp only [wpOp, List.getElem?_toArray, List.getElem?_cons_succ, List.getElem?_cons_zero, Region.wanted, if_true]
      refine Or.inl ?_
      have e0 : av.tmps.getD 32 undef = .int .i64 (y1 : Int) := (hw 4 (by kernel_rfl))
      have e0e : av.eval (.tmp 32) = .int .i64 (y1 : Int) := e0
      have e0g : av.tmps[32]?.getD undef = .int .i64 (y1 : Int) := by have := e0; simp only [Array.getD_eq_getD_getElem?] at this; exact this
      have uu := UU.out.2.1
      clear hw hF
      simp only [Oper.wp, execOp]
      try simp only [e0e]
      go_simp
      exact hK _ x (by first | rfl | (simp only [Nat.add_zero]; done) | (congr 1; omega)) (Below.refl _ _) (fun h => by cases h)
    · simp only [wpOp, List.getElem?_toArray, List.getElem?_cons_succ, List.getElem?_cons_zero, Region.wanted, if_true]
      refine Or.inl ?_
      have e0 : av.tmps.getD 0 undef = .string d := hF.2.2 0 (by decide)
      have e0e : av.eval (.tmp 0) = .string d := e0
      have e0g : av.tmps[0]?.getD undef = .string d := by have := e0; simp only [Array.getD_eq_getD_getElem?] at this; exact this
      clear hw hF
      simp only [Oper.wp, execOp]
      try simp only [e0e]
      go_simp
      exact hK _ x (by first | rfl | (simp only [Nat.add_zero]; done) | (congr 1; omega)) (Below.refl _ _) (fun h => by cases h)
    · simp only [wpOp, List.getElem?_toArray, List.getElem?_cons_succ, List.getElem?_cons_zero, Region.wanted, if_true]
      refine Or.inl ?_
      have e0 : av.tmps.getD 34 undef = .string d := (hw 6 (by kernel_rfl))
      have e0e : av.eval (.tmp 34) = .string d := e0
      have e0g : av.tmps[34]?.getD undef = .string d := by have := e0; simp only [Array.getD_eq_getD_getElem?] at this; exact this
      obtain ⟨xi, xj, xk⟩ := X2.out
      have xm : (2 : Int) < (d.size : Int) := by omega
      clear hw hF
      simp only [Oper.wp, execOp]
      try simp only [e0e]
      go_simp
      exact hK _ x (by first | rfl | (simp only [Nat.add_zero]; done) | (congr 1; omega)) (Below.refl _ _) (fun h => by cases h)
    · simp only [wpOp, List.getElem?_toArray, List.getElem?_cons_succ, List.getElem?_cons_zero, Region.wanted, if_true]
      refine Or.inl ?_
      have e0 : av.tmps.getD 35 undef = .int .u8 (y2 : Int) := (hw 7 (by kernel_rfl))
      have e0e : av.eval (.tmp 35) = .int .u8 (y2 : Int) := e0
      have e0g : av.tmps[35]?.getD undef = .int .u8 (y2 : Int) := by have := e0; simp only [Array.getD_eq_getD_getElem?] at this; exact this
      have uu := UU.out.2.2
      clear hw hF
      simp only [Oper.wp, execOp]
      try simp only [e0e]
      go_simp
      exact hK _ x (by first | rfl | (simp only [Nat.add_zero]; done) | (congr 1; omega)) (Below.refl _ _) (fun h => by cases h)
    · simp only [wpOp, List.getElem?_toArray, List.getElem?_cons_succ, List.getElem?_cons_zero, Region.wanted, if_true]
      refine Or.inl ?_
      have e0 : av.tmps.getD 33 undef = .int .i64 ((y1 : Int) * 256) := (hw 5 (by kernel_rfl))
      have e0e : av.eval (.tmp 33) = .int .i64 ((y1 : Int) * 256) := e0
      have e0g : av.tmps[33]?.getD undef = .int .i64 ((y1 : Int) * 256) := by have := e0; simp only [Array.getD_eq_getD_getElem?] at this; exact this
      have e1 : av.tmps.getD 36 undef = .int .i64 (y2 : Int) := (hw 8 (by kernel_rfl))
      have e1e : av.eval (.tmp 36) = .int .i64 (y2 : Int) := e1
      have e1g : av.tmps[36]?.getD undef = .int .i64 (y2 : Int) := by have := e1; simp only [Array.getD_eq_getD_getElem?] at this; exact this
      have oo := OR.out
      clear hw hF
      simp only [Oper.wp, execOp]
      try simp only [e0e, e1e]
      go_simp
      exact hK _ x (by first | rfl | (simp only [Nat.add_zero]; done) | (congr 1; omega)) (Below.refl _ _) (fun h => by cases h)
    · simp only [wpOp, List.getElem?_toArray, List.getElem?_cons_succ, List.getElem?_cons_zero, Region.wanted, if_true]
      refine Or.inl ?_
      have e0 : av.tmps.getD 37 undef = .int .i64 (p0 : Int) := (hw 9 (by kernel_rfl))
      have e0e : av.eval (.tmp 37) = .int .i64 (p0 : Int) := e0
      have e0g : av.tmps[37]?.getD undef = .int .i64 (p0 : Int) := by have := e0; simp only [Array.getD_eq_getD_getElem?] at this; exact this
      clear hw hF
      simp only [Oper.wp, execOp]
      try simp only [e0e]
      go_simp
      exact hK _ _ ⟨_, rfl, heap_alloc_new _ _⟩ ((Below.refl _ _).alloc (Nat.le_refl _) _) (fun h => by cases h)
  intro av x hF hb' hR _
  have e0 : av.tmps.getD 28 undef = .pointer (some ⟨w.heap.size + 1, 2, none⟩) := hR 0 (by decide)
  have e1 : av.tmps.getD 29 undef = .slice none 0 0 := hR 1 (by decide)
  have e2 : av.tmps.getD 30 undef = .string d := hR 2 (by decide)
  have e3 : av.tmps.getD 31 undef = .int .u8 (y1 : Int) := hR 3 (by decide)
  have e4 : av.tmps.getD 32 undef = .int .i64 (y1 : Int) := hR 4 (by decide)
  have e5 : av.tmps.getD 33 undef = .int .i64 ((y1 : Int) * 256) := hR 5 (by decide)
  have e6 : av.tmps.getD 34 undef = .string d := hR 6 (by decide)
  have e7 : av.tmps.getD 35 undef = .int .u8 (y2 : Int) := hR 7 (by decide)
  have e8 : av.tmps.getD 36 undef = .int .i64 (y2 : Int) := hR 8 (by decide)
  have e9 : av.tmps.getD 37 undef = .int .i64 (p0 : Int) := hR 9 (by decide)
  obtain ⟨gg10, e10, hg10⟩ := hR 10 (by decide)
  replace e10 : av.tmps.getD 38 undef = .slice (some ⟨gg10, 0, none⟩) 1 1 := e10
  rw [hF.fold (by kernel_rfl)]
  simp only [List.foldl_cons, List.foldl_nil, e0, e1, e2, e3, e4, e5, e6, e7, e8, e9, e10]
  simp only [Act.put, List.setIfInBounds_toArray, List.set_cons_zero, List.set_cons_succ]
  change wpOps _ _ _ [11, 12, 13] _ _
  simp only [wpOps_cons]
  clear e0 e1 e2 e3 e4 e5 e6 e7 e8 e9 e10 hR hF
  have BY := Lib.hid (BX.out.below hb')
  have RR := Lib.hid (row_on RR.out hb')
  have RK := Lib.hid (rl_of_row (g := nv) (xs := [(p0 : Int)]) hg10 1 (Nat.le_refl _))
  clear hb' hg10
  simp only [wpOp, List.getElem?_toArray, List.getElem?_cons_succ, List.getElem?_cons_zero, Region.wanted, if_true]
  refine Or.inl ?_
  refine wp_append2 nv_one et_i (.tmp 29) (.tmp 38) rfl (w.heap.size + 2) (.slice none 0 0) ([] : List Int) [(p0 : Int)] dn0 _ _ 1 rfl BY.out.o2 RK.out rfl rfl EQ1.out (by rw [← EQ1.out]; simp) BY.out.bz ?_
  intro A9 c9 x9 ho9 hg9 hn9
  obtain ⟨ABX1, hA2⟩ : ∃ z, A9 = z := ⟨_, rfl⟩
  obtain ⟨cBX1, hc2⟩ : ∃ z, c9 = z := ⟨_, rfl⟩
  rw [hA2, hc2] at ho9 hn9 ⊢
  have BN := Lib.hid (BY.out.push2 ho9 hg9 hn9)
  have N9 := Lib.hid (BY.out.row2 hg9 BY.out.lt.2 BY.out.row)
  obtain ⟨VBX1, hU⟩ : ∃ U : World, U = x9.setCell ⟨w.heap.size + 1, 2, none⟩ (.slice ABX1 dn0.length cBX1) := ⟨_, rfl⟩
  rw [← hU] at BN
  have RRz := Lib.hid (show VBX1.heap[w.heap.size]? = some _ by rw [hU]; exact row_far (BY.out.row2 hg9 (by omega) RR.out) (by omega) _)
  have f9 := row_c N9.out (i := 2) rfl
  have q9 := frozen_of_row _ _ 2 _ _ N9.out
  clear ho9 hg9 hn9 hA2 hc2 BY N9 BX RR
  have BX := BN
  clear BN
  have RR := RRz
  clear RRz
  go_simp
  try rw [wpOps_cons]
  simp only [wpOp, List.getElem?_toArray, List.getElem?_cons_succ, List.getElem?_cons_zero, Region.wanted, if_true]
  refine Or.inl ?_
  simp only [Oper.wp, execOp]
  go_simp
  try rw [wpOps_cons]
  simp only [wpOp, List.getElem?_toArray, List.getElem?_cons_succ, List.getElem?_cons_zero, Region.wanted, if_true]
  refine Or.inl ?_
  simp only [Oper.wp, execOp]
  go_simp
  try simp only [wpOps]
  rw [← hU]
  clear hU f9 q9 RK
  clear OR UU X1 X2
  go_wp2_with fail
  go_loopw [5] (fun i wr => ∃ (j : Nat) (A : Option Addr) (c : Nat) (ks : List (List UInt8)) (B : Option Addr) (dd : Nat) (ds : List Int), j ≤ S.length ∧ i = .int .i64 (j : Int) ∧ Hid (Bx w wr (w.heap.size + 2) (w.heap.size + 1) 33 false A c ks B dd ds) ∧ Hid (wr.heap[w.heap.size]? = some (.cells #[.bool false, .slice none 0 0, .slice none 0 0] 33 (0, 0))) ∧ Hid (decS S = (pents (S.drop j)).map (fun es => (false, ks ++ es.map Prod.fst, ds ++ es.map Prod.snd))) ∧ Hid (sumN ks ≤ j ∧ ds.length ≤ ks.length + 1)) (fun i _ => S.length - (intOf i).toNat)
  case atStart => exact ⟨3, none, 0, [], ABX1, cBX1, dn0, LP.out, rfl, BX, RR, DC, Lib.hid ⟨by simp [sumN], by rw [← EQ1.out]; simp⟩⟩
  case round =>
    clear BX RR DC
    obtain ⟨j, A, c, ks, B, dd, ds, hj, rfl, BX, RR, DC, SB⟩ := hrel
    obtain ⟨V, hV⟩ : ∃ z, wr = z := ⟨_, rfl⟩
    rw [hV] at BX RR ⊢
    clear hV
    by_cases hlt : j < S.length
    · have g1 : decide (j < d.size) = true := decide_eq_true (by rw [DS.out]; exact hlt)
      have g2 : decide ((j : Int) < (d.size : Int)) = true := decide_eq_true (by rw [DS.out]; omega)
      obtain ⟨y, hy⟩ : ∃ y, at8 S j = y := ⟨_, rfl⟩
      have ty : y < 256 := by rw [← hy]; exact at8_lt _ _
      obtain ⟨xi, xj, xk⟩ := IX.out j hlt
      rw [hy] at xi
      have xl : (0 : Int) ≤ (j : Int) := by omega
      have u0 : IntKind.i64.wrap (y : Int) = (y : Int) := IntWalk.i64_in _ (by omega)
      obtain ⟨j3, hj3⟩ : ∃ n, j + 3 = n := ⟨_, rfl⟩
      obtain ⟨j4, hj4⟩ : ∃ n, j3 + y = n := ⟨_, rfl⟩
      have hLL := HL.out
      have w1 : IntKind.i64.wrap ((j : Int) + 3) = (j3 : Int) := by rw [IntWalk.i64_in _ (by omega)]; omega
      have w2 : IntKind.i64.wrap ((j3 : Int) + (y : Int)) = (j4 : Int) := by rw [IntWalk.i64_in _ (by omega)]; omega
      have W12 := Lib.hid (And.intro w1 w2)
      by_cases hsh : d.size < j4
      · have g3 : decide (d.size < j4) = true := decide_eq_true hsh
        have g4 : decide ((d.size : Int) < (j4 : Int)) = true := decide_eq_true (by omega)
        have DN := Lib.hid (show decS S = none by rw [DC.out, pents_short hlt hy (by rw [DS.out] at hsh; omega)]; rfl)
        clear hlt hy ty hj3 hj4 hsh hLL hj
        have DA := Lib.hid (show decA S = none from decA_none DN.out)
        have p0 := row_c RR.out (i := 0) rfl
        have p1 := row_c RR.out (i := 1) rfl
        have p2 := row_c RR.out (i := 2) rfl
        have z0 := frozen_of_row _ _ 0 _ _ RR.out
        have z1 := frozen_of_row _ _ 1 _ _ RR.out
        have z2 := frozen_of_row _ _ 2 _ _ RR.out
        go_wp2
        refine bodyPost_ret (v := .tuple #[.agg #[.bool false, .slice none 0 0, .slice none 0 0], .bool false]) (by simp [results, Try.results16, go_sem, p0, p1, p2]) rfl ⟨fun lf ks ds h => (by rw [DA.out] at h; cases h), fun _ => rfl, ?_⟩
        exact ((BX.out.kb.setCell (by simp) _).setCell (by simp) _).setCell (by simp) _
      · have g3 : decide (d.size < j4) = false := decide_eq_false hsh
        have g4 : decide ((d.size : Int) < (j4 : Int)) = false := decide_eq_false (by omega)
        have hle : j + 3 + y ≤ S.length := by rw [DS.out] at hsh; omega
        obtain ⟨k1, hk1⟩ : ∃ n, j + 1 = n := ⟨_, rfl⟩
        obtain ⟨k2, hk2⟩ : ∃ n, k1 + y = n := ⟨_, rfl⟩
        obtain ⟨k3, hk3⟩ : ∃ n, j + 2 = n := ⟨_, rfl⟩
        obtain ⟨k5, hk5⟩ : ∃ n, k3 + y = n := ⟨_, rfl⟩
        obtain ⟨b1, hb1⟩ : ∃ b, at8 S k2 = b := ⟨_, rfl⟩
        obtain ⟨b2_, hb2⟩ : ∃ b, at8 S k5 = b := ⟨_, rfl⟩
        have t1 : b1 < 256 := by rw [← hb1]; exact at8_lt _ _
        have t2 : b2_ < 256 := by rw [← hb2]; exact at8_lt _ _
        obtain ⟨p, hp⟩ : ∃ p, b1 * 256 + b2_ = p := ⟨_, rfl⟩
        obtain ⟨kx, hkx⟩ : ∃ z, (S.drop k1).take y = z := ⟨_, rfl⟩
        have ST := Lib.hid (show pents (S.drop j) = (pents (S.drop j4)).map ((kx, (p : Int)) :: ·) by have := pents_step hlt hy hle; rw [hj3, hj4, hk1, hk2, hk3, hk5, hb1, hb2, hp, hkx] at this; exact this)
        have LKX := Lib.hid (show kx.length = y by rw [← hkx, List.length_take, List.length_drop]; omega)
        obtain ⟨dk, hdk⟩ : ∃ z : ByteArray, z = ⟨kx.toArray⟩ := ⟨_, rfl⟩
        have EX := Lib.hid (show d.extract k1 k2 = dk by rw [hdk, ← hkx, HD.out, Lib.extract_eq]; simp only [List.extract_toArray, List.extract_eq_take_drop]; rw [show k2 - k1 = y by omega])
        have HDK := Lib.hid hdk
        have C1 := Lib.hid (And.intro (show IntKind.i64.wrap ((j : Int) + 1) = (k1 : Int) by rw [IntWalk.i64_in _ (by omega)]; omega) (And.intro (show IntKind.i64.wrap ((k1 : Int) + (y : Int)) = (k2 : Int) by rw [IntWalk.i64_in _ (by omega)]; omega) (And.intro (show IntKind.i64.wrap ((j : Int) + 2) = (k3 : Int) by rw [IntWalk.i64_in _ (by omega)]; omega) (show IntKind.i64.wrap ((k3 : Int) + (y : Int)) = (k5 : Int) by rw [IntWalk.i64_in _ (by omega)]; omega))))
        have BD := Lib.hid (show (k1 : Int) ≤ (k2 : Int) ∧ (k2 : Int) ≤ (d.size : Int) ∧ k1 ≤ k2 ∧ k2 ≤ d.size ∧ (0 : Int) ≤ (k1 : Int) ∧ (0 : Int) ≤ (k2 : Int) ∧ (k1 : Int) ≤ (d.size : Int) from by rw [DS.out]; refine ⟨?_, ?_, ?_, ?_, ?_, ?_, ?_⟩ <;> omega)
        have Y1 := Lib.hid (IX.out k2 (by omega))
        have Y2 := Lib.hid (IX.out k5 (by omega))
        rw [hb1] at Y1
        rw [hb2] at Y2
        have or := or2' t1 t2
        rw [hp] at or
        have OR := Lib.hid or
        have UU := Lib.hid (And.intro (show IntKind.i64.wrap (b1 : Int) = (b1 : Int) from IntWalk.i64_in _ (by omega)) (And.intro (show IntKind.i64.wrap ((b1 : Int) * 256) = (b1 : Int) * 256 from IntWalk.i64_in _ (by omega)) (show IntKind.i64.wrap (b2_ : Int) = (b2_ : Int) from IntWalk.i64_in _ (by omega))))
        have HJ := Lib.hid (show j4 ≤ S.length ∧ j < j4 ∧ j4 = j + 3 + y by omega)
        obtain ⟨kn, hkn⟩ : ∃ z, ks ++ [kx] = z := ⟨_, rfl⟩
        obtain ⟨dn, hdn⟩ : ∃ z, ds ++ [(p : Int)] = z := ⟨_, rfl⟩
        have KN := Lib.hid hkn
        have DN := Lib.hid hdn
        have LB := Lib.hid (show kn.length ≤ 4000000 ∧ dn.length ≤ 4000000 by rw [← hkn, ← hdn]; simp only [List.length_append, List.length_singleton]; have := sumN_ge ks; have := SB.out; omega)
        clear hlt hy ty hj3 hj4 hsh hLL hj hle hk1 hk2 hk3 hk5 hb1 hb2 t1 t2 hp hkx hdk or hkn hdn
        go_upto_region 14 with (fail)
        clear g1 g2 g3 g4 xi xj xk xl u0 w1 w2
        refine wp_operands (W := V) rfl 11 [57, 58, 59, 60, 61, 62, 63, 64, 65, 66, 67] (fun i u x => match i with | 0 => u = .pointer (some ⟨w.heap.size + 1, 1, none⟩) | 1 => u = .slice A ks.length c | 2 => u = .string d | 3 => u = .int .i64 (j : Int) | 4 => u = .int .i64 (k1 : Int) | 5 => u = .int .i64 (j : Int) | 6 => u = .int .i64 (k1 : Int) | 7 => u = .int .i64 (y : Int) | 8 => u = .int .i64 (k2 : Int) | 9 => u = .string dk | 10 => ∃ g, u = .slice (some ⟨g, 0, none⟩) 1 1 ∧ x.heap[g]? = some (.cells #[.string dk] 9 (0, 0)) | _ => True) (fun _ => false)
          (by decide) rfl (by kernel_rfl) (by kernel_rfl) (by decide) (by kernel_rfl) ?_ (fun _ _ _ h => by cases h) ?_ ?_
        · intro i u x x' hi hR hb'
          have hi' : i = 0 ∨ i = 1 ∨ i = 2 ∨ i = 3 ∨ i = 4 ∨ i = 5 ∨ i = 6 ∨ i = 7 ∨ i = 8 ∨ i = 9 ∨ i = 10 := by omega
          rcases hi' with rfl | rfl | rfl | rfl | rfl | rfl | rfl | rfl | rfl | rfl | rfl
          · exact hR
          · exact hR
          · exact hR
          · exact hR
          · exact hR
          · exact hR
          · exact hR
          · exact hR
          · exact hR
          · exact hR
          · obtain ⟨g, e, hg⟩ := hR; exact ⟨g, e, (hb'.block g (heap_lt hg)).trans hg⟩
        · intro i av x K hi hF hb' hw hK
          have hi' : i = 0 ∨ i = 1 ∨ i = 2 ∨ i = 3 ∨ i = 4 ∨ i = 5 ∨ i = 6 ∨ i = 7 ∨ i = 8 ∨ i = 9 ∨ i = 10 := by omega
          rcases hi' with rfl | rfl | rfl | rfl | rfl | rfl | rfl | rfl | rfl | rfl | rfl
          · simp only [wpOp, List.getElem?_toArray, List.getElem?_cons_zero, Region.wanted, if_true]
            refine Or.inl ?_
            have e0 : av.tmps.getD 4 undef = .pointer (some ⟨w.heap.size + 1, 0, none⟩) := hF.2.2 4 (by decide)
            have e0e : av.eval (.tmp 4) = .pointer (some ⟨w.heap.size + 1, 0, none⟩) := e0
            have e0g : av.tmps[4]?.getD undef = .pointer (some ⟨w.heap.size + 1, 0, none⟩) := by have := e0; simp only [Array.getD_eq_getD_getElem?] at this; exact this
            clear hw hF
            simp only [Oper.wp, execOp]
            try simp only [e0e]
            go_simp
            exact hK _ x (by first | rfl | (simp only [Nat.add_zero]; done) | (congr 1; omega)) (Below.refl _ _) (fun h => by cases h)
          · simp only [wpOp, List.getElem?_toArray, List.getElem?_cons_succ, List.getElem?_cons_zero, Region.wanted, if_true]
            refine Or.inl ?_
            have e0 : av.tmps.getD 57 undef = .pointer (some ⟨w.heap.size + 1, 1, none⟩) := (hw 0 (by kernel_rfl))
            have e0e : av.eval (.tmp 57) = .pointer (some ⟨w.heap.size + 1, 1, none⟩) := e0
            have e0g : av.tmps[57]?.getD undef = .pointer (some ⟨w.heap.size + 1, 1, none⟩) := by have := e0; simp only [Array.getD_eq_getD_getElem?] at this; exact this
            obtain ⟨fo0, fo1, fo2⟩ := BX.out.f hb'
            clear hw hF
            simp only [Oper.wp, execOp]
            try simp only [e0e]
            go_simp
            exact hK _ x (by first | rfl | (simp only [Nat.add_zero]; done) | (congr 1; omega)) (Below.refl _ _) (fun h => by cases h)
          · simp only [wpOp, List.getElem?_toArray, List.getElem?_cons_succ, List.getElem?_cons_zero, Region.wanted, if_true]
            refine Or.inl ?_
            have e0 : av.tmps.getD 0 undef = .string d := hF.2.2 0 (by decide)
            have e0e : av.eval (.tmp 0) = .string d := e0
            have e0g : av.tmps[0]?.getD undef = .string d := by have := e0; simp only [Array.getD_eq_getD_getElem?] at this; exact this
            clear hw hF
            simp only [Oper.wp, execOp]
            try simp only [e0e]
            go_simp
            exact hK _ x (by first | rfl | (simp only [Nat.add_zero]; done) | (congr 1; omega)) (Below.refl _ _) (fun h => by cases h)
          · simp only [wpOp, List.getElem?_toArray, List.getElem?_cons_succ, List.getElem?_cons_zero, Region.wanted, if_true]
            refine Or.inl ?_
            have e0 : av.tmps.getD 5 undef = .int .i64 (j : Int) := hF.2.2 5 (by decide)
            have e0e : av.eval (.tmp 5) = .int .i64 (j : Int) := e0
            have e0g : av.tmps[5]?.getD undef = .int .i64 (j : Int) := by have := e0; simp only [Array.getD_eq_getD_getElem?] at this; exact this
            clear hw hF
            simp only [Oper.wp, execOp]
            try simp only [e0e]
            go_simp
            exact hK _ x (by first | rfl | (simp only [Nat.add_zero]; done) | (congr 1; omega)) (Below.refl _ _) (fun h => by cases h)
          · simp only [wpOp, List.getElem?_toArray, List.getElem?_cons_succ, List.getElem?_cons_zero, Region.wanted, if_true]
            refine Or.inl ?_
            have e0 : av.tmps.getD 60 undef = .int .i64 (j : Int) := (hw 3 (by kernel_rfl))
            have e0e : av.eval (.tmp 60) = .int .i64 (j : Int) := e0
            have e0g : av.tmps[60]?.getD undef = .int .i64 (j : Int) := by have := e0; simp only [Array.getD_eq_getD_getElem?] at this; exact this
            have c1 := C1.out.1
            clear hw hF
            simp only [Oper.wp, execOp]
            try simp only [e0e]
            go_simp
            exact hK _ x (by first | rfl | (simp only [Nat.add_zero]; done) | (congr 1; omega)) (Below.refl _ _) (fun h => by cases h)
          · simp only [wpOp, List.getElem?_toArray, List.getElem?_cons_succ, List.getElem?_cons_zero, Region.wanted, if_true]
            refine Or.inl ?_
            have e0 : av.tmps.getD 5 undef = .int .i64 (j : Int) := hF.2.2 5 (by decide)
            have e0e : av.eval (.tmp 5) = .int .i64 (j : Int) := e0
            have e0g : av.tmps[5]?.getD undef = .int .i64 (j : Int) := by have := e0; simp only [Array.getD_eq_getD_getElem?] at this; exact this
            clear hw hF
            simp only [Oper.wp, execOp]
            try simp only [e0e]
            go_simp
            exact hK _ x (by first | rfl | (simp only [Nat.add_zero]; done) | (congr 1; omega)) (Below.refl _ _) (fun h => by cases h)
          · simp only [wpOp, List.getElem?_toArray, List.getElem?_cons_succ, List.getElem?_cons_zero, Region.wanted, if_true]
            refine Or.inl ?_
            have e0 : av.tmps.getD 62 undef = .int .i64 (j : Int) := (hw 5 (by kernel_rfl))
            have e0e : av.eval (.tmp 62) = .int .i64 (j : Int) := e0
            have e0g : av.tmps[62]?.getD undef = .int .i64 (j : Int) := by have := e0; simp only [Array.getD_eq_getD_getElem?] at this; exact this
            have c1 := C1.out.1
            clear hw hF
            simp only [Oper.wp, execOp]
            try simp only [e0e]
            go_simp
            exact hK _ x (by first | rfl | (simp only [Nat.add_zero]; done) | (congr 1; omega)) (Below.refl _ _) (fun h => by cases h)
          · simp only [wpOp, List.getElem?_toArray, List.getElem?_cons_succ, List.getElem?_cons_zero, Region.wanted, if_true]
            refine Or.inl ?_
            have e0 : av.tmps.getD 6 undef = .int .i64 (y : Int) := hF.2.2 6 (by decide)
            have e0e : av.eval (.tmp 6) = .int .i64 (y : Int) := e0
            have e0g : av.tmps[6]?.getD undef = .int .i64 (y : Int) := by have := e0; simp only [Array.getD_eq_getD_getElem?] at this; exact this
            clear hw hF
            simp only [Oper.wp, execOp]
            try simp only [e0e]
            go_simp
            exact hK _ x (by first | rfl | (simp only [Nat.add_zero]; done) | (congr 1; omega)) (Below.refl _ _) (fun h => by cases h)
          · simp only [wpOp, List.getElem?_toArray, List.getElem?_cons_succ, List.getElem?_cons_zero, Region.wanted, if_true]
            refine Or.inl ?_
            have e0 : av.tmps.getD 63 undef = .int .i64 (k1 : Int) := (hw 6 (by kernel_rfl))
            have e0e : av.eval (.tmp 63) = .int .i64 (k1 : Int) := e0
            have e0g : av.tmps[63]?.getD undef = .int .i64 (k1 : Int) := by have := e0; simp only [Array.getD_eq_getD_getElem?] at this; exact this
            have e1 : av.tmps.getD 64 undef = .int .i64 (y : Int) := (hw 7 (by kernel_rfl))
            have e1e : av.eval (.tmp 64) = .int .i64 (y : Int) := e1
            have e1g : av.tmps[64]?.getD undef = .int .i64 (y : Int) := by have := e1; simp only [Array.getD_eq_getD_getElem?] at this; exact this
            have c1 := C1.out.2.1
            clear hw hF
            simp only [Oper.wp, execOp]
            try simp only [e0e, e1e]
            go_simp
            exact hK _ x (by first | rfl | (simp only [Nat.add_zero]; done) | (congr 1; omega)) (Below.refl _ _) (fun h => by cases h)
          · simp only [wpOp, List.getElem?_toArray, List.getElem?_cons_succ, List.getElem?_cons_zero, Region.wanted, if_true]
            refine Or.inl ?_
            have e0 : av.tmps.getD 59 undef = .string d := (hw 2 (by kernel_rfl))
            have e0e : av.eval (.tmp 59) = .string d := e0
            have e0g : av.tmps[59]?.getD undef = .string d := by have := e0; simp only [Array.getD_eq_getD_getElem?] at this; exact this
            have e1 : av.tmps.getD 61 undef = .int .i64 (k1 : Int) := (hw 4 (by kernel_rfl))
            have e1e : av.eval (.tmp 61) = .int .i64 (k1 : Int) := e1
            have e1g : av.tmps[61]?.getD undef = .int .i64 (k1 : Int) := by have := e1; simp only [Array.getD_eq_getD_getElem?] at this; exact this
            have e2 : av.tmps.getD 65 undef = .int .i64 (k2 : Int) := (hw 8 (by kernel_rfl))
            have e2e : av.eval (.tmp 65) = .int .i64 (k2 : Int) := e2
            have e2g : av.tmps[65]?.getD undef = .int .i64 (k2 : Int) := by have := e2; simp only [Array.getD_eq_getD_getElem?] at this; exact this
            have ex := EX.out
            obtain ⟨bd1, bd2, bd3, bd4, bd5, bd6, bd7⟩ := BD.out
            clear hw hF
            simp only [Oper.wp, execOp]
            try simp only [e0e, e1e, e2e]
            go_simp
            exact hK _ x (by first | rfl | (simp only [Nat.add_zero]; done) | (congr 1; omega)) (Below.refl _ _) (fun h => by cases h)
          · simp only [wpOp, List.getElem?_toArray, List.getElem?_cons_succ, List.getElem?_cons_zero, Region.wanted, if_true]
            refine Or.inl ?_
            have e0 : av.tmps.getD 66 undef = .string dk := (hw 9 (by kernel_rfl))
            have e0e : av.eval (.tmp 66) = .string dk := e0
            have e0g : av.tmps[66]?.getD undef = .string dk := by have := e0; simp only [Array.getD_eq_getD_getElem?] at this; exact this
            clear hw hF
            simp only [Oper.wp, execOp]
            try simp only [e0e]
            go_simp
            exact hK _ _ ⟨_, rfl, heap_alloc_new _ _⟩ ((Below.refl _ _).alloc (Nat.le_refl _) _) (fun h => by cases h)
        intro av x hF hb' hR _
        have e0 : av.tmps.getD 57 undef = .pointer (some ⟨w.heap.size + 1, 1, none⟩) := hR 0 (by decide)
        have e1 : av.tmps.getD 58 undef = .slice A ks.length c := hR 1 (by decide)
        have e2 : av.tmps.getD 59 undef = .string d := hR 2 (by decide)
        have e3 : av.tmps.getD 60 undef = .int .i64 (j : Int) := hR 3 (by decide)
        have e4 : av.tmps.getD 61 undef = .int .i64 (k1 : Int) := hR 4 (by decide)
        have e5 : av.tmps.getD 62 undef = .int .i64 (j : Int) := hR 5 (by decide)
        have e6 : av.tmps.getD 63 undef = .int .i64 (k1 : Int) := hR 6 (by decide)
        have e7 : av.tmps.getD 64 undef = .int .i64 (y : Int) := hR 7 (by decide)
        have e8 : av.tmps.getD 65 undef = .int .i64 (k2 : Int) := hR 8 (by decide)
        have e9 : av.tmps.getD 66 undef = .string dk := hR 9 (by decide)
        obtain ⟨gg10, e10, hg10⟩ := hR 10 (by decide)
        replace e10 : av.tmps.getD 67 undef = .slice (some ⟨gg10, 0, none⟩) 1 1 := e10
        rw [hF.fold (by kernel_rfl)]
        simp only [List.foldl_cons, List.foldl_nil, e0, e1, e2, e3, e4, e5, e6, e7, e8, e9, e10]
        simp only [Act.put, List.setIfInBounds_toArray, List.set_cons_zero, List.set_cons_succ]
        change wpOps _ _ _ [11, 12, 13] _ _
        simp only [wpOps_cons]
        clear e0 e1 e2 e3 e4 e5 e6 e7 e8 e9 e10 hR hF
        have BY := Lib.hid (BX.out.below hb')
        have RR := Lib.hid (row_on RR.out hb')
        have RK := Lib.hid (rl_of_row (w := x) (b := gg10) (T := 9) (fr := (0, 0)) (g := sv) (xs := [kx]) (by have h := hg10; rw [HDK.out] at h; exact h) 1 (Nat.le_refl _))
        clear hb' hg10
        simp only [wpOp, List.getElem?_toArray, List.getElem?_cons_succ, List.getElem?_cons_zero, Region.wanted, if_true]
        refine Or.inl ?_
        refine wp_append2 sv_one et_s (.tmp 58) (.tmp 67) rfl (w.heap.size + 2) (.slice A ks.length c) ks [kx] kn _ _ 1 rfl BY.out.o1 RK.out rfl rfl KN.out LB.out.1 BY.out.bz ?_
        intro A9 c9 x9 ho9 hg9 hn9
        obtain ⟨ABX2, hA2⟩ : ∃ z, A9 = z := ⟨_, rfl⟩
        obtain ⟨cBX2, hc2⟩ : ∃ z, c9 = z := ⟨_, rfl⟩
        rw [hA2, hc2] at ho9 hn9 ⊢
        have BN := Lib.hid (BY.out.push1 ho9 hg9 hn9)
        have N9 := Lib.hid (BY.out.row1 hg9 BY.out.lt.2 BY.out.row)
        obtain ⟨VBX2, hU⟩ : ∃ U : World, U = x9.setCell ⟨w.heap.size + 1, 1, none⟩ (.slice ABX2 kn.length cBX2) := ⟨_, rfl⟩
        rw [← hU] at BN
        have RRz := Lib.hid (show VBX2.heap[w.heap.size]? = some _ by rw [hU]; exact row_far (BY.out.row1 hg9 (by omega) RR.out) (by omega) _)
        have f9 := row_c N9.out (i := 1) rfl
        have q9 := frozen_of_row _ _ 1 _ _ N9.out
        clear ho9 hg9 hn9 hA2 hc2 BY N9 BX RR
        have BX := BN
        clear BN
        have RR := RRz
        clear RRz
        go_simp
        try rw [wpOps_cons]
        simp only [wpOp, List.getElem?_toArray, List.getElem?_cons_succ, List.getElem?_cons_zero, Region.wanted, if_true]
        refine Or.inl ?_
        simp only [Oper.wp, execOp]
        go_simp
        try rw [wpOps_cons]
        simp only [wpOp, List.getElem?_toArray, List.getElem?_cons_succ, List.getElem?_cons_zero, Region.wanted, if_true]
        refine Or.inl ?_
        simp only [Oper.wp, execOp]
        go_simp
        try simp only [wpOps]
        rw [← hU]
        clear hU f9 q9 RK
        go_upto_region 15 with (fail)
        refine wp_operands (W := VBX2) rfl 19 [70, 71, 72, 73, 74, 75, 76, 77, 78, 79, 80, 81, 82, 83, 84, 85, 86, 87, 88] (fun i u x => match i with | 0 => u = .pointer (some ⟨w.heap.size + 1, 2, none⟩) | 1 => u = .slice B ds.length dd | 2 => u = .string d | 3 => u = .int .i64 (j : Int) | 4 => u = .int .i64 (k1 : Int) | 5 => u = .int .i64 (y : Int) | 6 => u = .int .i64 (k2 : Int) | 7 => u = .int .u8 (b1 : Int) | 8 => u = .int .i64 (b1 : Int) | 9 => u = .int .i64 ((b1 : Int) * 256) | 10 => u = .string d | 11 => u = .int .i64 (j : Int) | 12 => u = .int .i64 (k3 : Int) | 13 => u = .int .i64 (y : Int) | 14 => u = .int .i64 (k5 : Int) | 15 => u = .int .u8 (b2_ : Int) | 16 => u = .int .i64 (b2_ : Int) | 17 => u = .int .i64 (p : Int) | 18 => ∃ g, u = .slice (some ⟨g, 0, none⟩) 1 1 ∧ x.heap[g]? = some (.cells #[.int .i64 (p : Int)] 3 (0, 0)) | _ => True) (fun _ => false)
          (by decide) rfl (by kernel_rfl) (by kernel_rfl) (by decide) (by kernel_rfl) ?_ (fun _ _ _ h => by cases h) ?_ ?_
        · intro i u x x' hi hR hb'
          have hi' : i = 0 ∨ i = 1 ∨ i = 2 ∨ i = 3 ∨ i = 4 ∨ i = 5 ∨ i = 6 ∨ i = 7 ∨ i = 8 ∨ i = 9 ∨ i = 10 ∨ i = 11 ∨ i = 12 ∨ i = 13 ∨ i = 14 ∨ i = 15 ∨ i = 16 ∨ i = 17 ∨ i = 18 := by omega
          rcases hi' with rfl | rfl | rfl | rfl | rfl | rfl | rfl | rfl | rfl | rfl | rfl | rfl | rfl | rfl | rfl | rfl | rfl | rfl | rfl
          · exact hR
          · exact hR
          · exact hR
          · exact hR
          · exact hR
          · exact hR
          · exact hR
          · exact hR
          · exact hR
          · exact hR
          · exact hR
          · exact hR
          · exact hR
          · exact hR
          · exact hR
          · exact hR
          · exact hR
          · exact hR
          · obtain ⟨g, e, hg⟩ := hR; exact ⟨g, e, (hb'.block g (heap_lt hg)).trans hg⟩
        · intro i av x K hi hF hb' hw hK
          have hi' : i = 0 ∨ i = 1 ∨ i = 2 ∨ i = 3 ∨ i = 4 ∨ i = 5 ∨ i = 6 ∨ i = 7 ∨ i = 8 ∨ i = 9 ∨ i = 10 ∨ i = 11 ∨ i = 12 ∨ i = 13 ∨ i = 14 ∨ i = 15 ∨ i = 16 ∨ i = 17 ∨ i = 18 := by omega
          rcases hi' with rfl | rfl | rfl | rfl | rfl | rfl | rfl | rfl | rfl | rfl | rfl | rfl | rfl | rfl | rfl | rfl | rfl | rfl | rfl
          · simp only [wpOp, List.getElem?_toArray, List.getElem?_cons_zero, Region.wanted, if_true]
            refine Or.inl ?_
            have e0 : av.tmps.getD 4 undef = .pointer (some ⟨w.heap.size + 1, 0, none⟩) := hF.2.2 4 (by decide)
            have e0e : av.eval (.tmp 4) = .pointer (some ⟨w.heap.size + 1, 0, none⟩) := e0
            have e0g : av.tmps[4]?.getD undef = .pointer (some ⟨w.heap.size + 1, 0, none⟩) := by have := e0; simp only [Array.getD_eq_getD_getElem?] at this; exact this
            clear hw hF
            simp only [Oper.wp, execOp]
            try simp only [e0e]
            go_simp
            exact hK _ x (by first | rfl | (simp only [Nat.add_zero]; done) | (congr 1; omega)) (Below.refl _ _) (fun h => by cases h)
          · simp only [wpOp, List.getElem?_toArray, List.getElem?_cons_succ, List.getElem?_cons_zero, Region.wanted, if_true]
            refine Or.inl ?_
            have e0 : av.tmps.getD 70 undef = .pointer (some ⟨w.heap.size + 1, 2, none⟩) := (hw 0 (by kernel_rfl))
            have e0e : av.eval (.tmp 70) = .pointer (some ⟨w.heap.size + 1, 2, none⟩) := e0
            have e0g : av.tmps[70]?.getD undef = .pointer (some ⟨w.heap.size + 1, 2, none⟩) := by have := e0; simp only [Array.getD_eq_getD_getElem?] at this; exact this
            obtain ⟨fo0, fo1, fo2⟩ := BX.out.f hb'
            clear hw hF
            simp only [Oper.wp, execOp]
            try simp only [e0e]
            go_simp
            exact hK _ x (by first | rfl | (simp only [Nat.add_zero]; done) | (congr 1; omega)) (Below.refl _ _) (fun h => by cases h)
          · simp only [wpOp, List.getElem?_toArray, List.getElem?_cons_succ, List.getElem?_cons_zero, Region.wanted, if_true]
            refine Or.inl ?_
            have e0 : av.tmps.getD 0 undef = .string d := hF.2.2 0 (by decide)
            have e0e : av.eval (.tmp 0) = .string d := e0
            have e0g : av.tmps[0]?.getD undef = .string d := by have := e0; simp only [Array.getD_eq_getD_getElem?] at this; exact this
            clear hw hF
            simp only [Oper.wp, execOp]
            try simp only [e0e]
            go_simp
            exact hK _ x (by first | rfl | (simp only [Nat.add_zero]; done) | (congr 1; omega)) (Below.refl _ _) (fun h => by cases h)
          · simp only [wpOp, List.getElem?_toArray, List.getElem?_cons_succ, List.getElem?_cons_zero, Region.wanted, if_true]
            refine Or.inl ?_
            have e0 : av.tmps.getD 5 undef = .int .i64 (j : Int) := hF.2.2 5 (by decide)
            have e0e : av.eval (.tmp 5) = .int .i64 (j : Int) := e0
            have e0g : av.tmps[5]?.getD undef = .int .i64 (j : Int) := by have := e0; simp only [Array.getD_eq_getD_getElem?] at this; exact this
            clear hw hF
            simp only [Oper.wp, execOp]
            try simp only [e0e]
            go_simp
            exact hK _ x (by first | rfl | (simp only [Nat.add_zero]; done) | (congr 1; omega)) (Below.refl _ _) (fun h => by cases h)
          · simp only [wpOp, List.getElem?_toArray, List.getElem?_cons_succ, List.getElem?_cons_zero, Region.wanted, if_true]
            refine Or.inl ?_
            have e0 : av.tmps.getD 73 undef = .int .i64 (j : Int) := (hw 3 (by kernel_rfl))
            have e0e : av.eval (.tmp 73) = .int .i64 (j : Int) := e0
            have e0g : av.tmps[73]?.getD undef = .int .i64 (j : Int) := by have := e0; simp only [Array.getD_eq_getD_getElem?] at this; exact this
            have c1 := C1.out.1
            clear hw hF
            simp only [Oper.wp, execOp]
            try simp only [e0e]
            go_simp
            exact hK _ x (by first | rfl | (simp only [Nat.add_zero]; done) | (congr 1; omega)) (Below.refl _ _) (fun h => by cases h)
          · simp only [wpOp, List.getElem?_toArray, List.getElem?_cons_succ, List.getElem?_cons_zero, Region.wanted, if_true]
            refine Or.inl ?_
            have e0 : av.tmps.getD 6 undef = .int .i64 (y : Int) := hF.2.2 6 (by decide)
            have e0e : av.eval (.tmp 6) = .int .i64 (y : Int) := e0
            have e0g : av.tmps[6]?.getD undef = .int .i64 (y : Int) := by have := e0; simp only [Array.getD_eq_getD_getElem?] at this; exact this
            clear hw hF
            simp only [Oper.wp, execOp]
            try simp only [e0e]
            go_simp
            exact hK _ x (by first | rfl | (simp only [Nat.add_zero]; done) | (congr 1; omega)) (Below.refl _ _) (fun h => by cases h)
          · simp only [wpOp, List.getElem?_toArray, List.getElem?_cons_succ, List.getElem?_cons_zero, Region.wanted, if_true]
            refine Or.inl ?_
            have e0 : av.tmps.getD 74 undef = .int .i64 (k1 : Int) := (hw 4 (by kernel_rfl))
            have e0e : av.eval (.tmp 74) = .int .i64 (k1 : Int) := e0
            have e0g : av.tmps[74]?.getD undef = .int .i64 (k1 : Int) := by have := e0; simp only [Array.getD_eq_getD_getElem?] at this; exact this
            have e1 : av.tmps.getD 75 undef = .int .i64 (y : Int) := (hw 5 (by kernel_rfl))
            have e1e : av.eval (.tmp 75) = .int .i64 (y : Int) := e1
            have e1g : av.tmps[75]?.getD undef = .int .i64 (y : Int) := by have := e1; simp only [Array.getD_eq_getD_getElem?] at this; exact this
            have c1 := C1.out.2.1
            clear hw hF
            simp only [Oper.wp, execOp]
            try simp only [e0e, e1e]
            go_simp
            exact hK _ x (by first | rfl | (simp only [Nat.add_zero]; done) | (congr 1; omega)) (Below.refl _ _) (fun h => by cases h)
          · simp only [wpOp, List.getElem?_toArray, List.getElem?_cons_succ, List.getElem?_cons_zero, Region.wanted, if_true]
            refine Or.inl ?_
            have e0 : av.tmps.getD 72 undef = .string d := (hw 2 (by kernel_rfl))
            have e0e : av.eval (.tmp 72) = .string d := e0
            have e0g : av.tmps[72]?.getD undef = .string d := by have := e0; simp only [Array.getD_eq_getD_getElem?] at this; exact this
            have e1 : av.tmps.getD 76 undef = .int .i64 (k2 : Int) := (hw 6 (by kernel_rfl))
            have e1e : av.eval (.tmp 76) = .int .i64 (k2 : Int) := e1
            have e1g : av.tmps[76]?.getD undef = .int .i64 (k2 : Int) := by have := e1; simp only [Array.getD_eq_getD_getElem?] at this; exact this
            obtain ⟨xi, xj, xk⟩ := Y1.out
            clear hw hF
            simp only [Oper.wp, execOp]
            try simp only [e0e, e1e]
            go_simp
            exact hK _ x (by first | rfl | (simp only [Nat.add_zero]; done) | (congr 1; omega)) (Below.refl _ _) (fun h => by cases h)
          · simp only [wpOp, List.getElem?_toArray, List.getElem?_cons_succ, List.getElem?_cons_zero, Region.wanted, if_true]
            refine Or.inl ?_
            have e0 : av.tmps.getD 77 undef = .int .u8 (b1 : Int) := (hw 7 (by kernel_rfl))
            have e0e : av.eval (.tmp 77) = .int .u8 (b1 : Int) := e0
            have e0g : av.tmps[77]?.getD undef = .int .u8 (b1 : Int) := by have := e0; simp only [Array.getD_eq_getD_getElem?] at this; exact this
            have uu := UU.out.1
            clear hw hF
            simp only [Oper.wp, execOp]
            try simp only [e0e]
            go_simp
            exact hK _ x (by first | rfl | (simp only [Nat.add_zero]; done) | (congr 1; omega)) (Below.refl _ _) (fun h => by cases h)
          · simp only [wpOp, List.getElem?_toArray, List.getElem?_cons_succ, List.getElem?_cons_zero, Region.wanted, if_true]
            refine Or.inl ?_
            have e0 : av.tmps.getD 78 undef = .int .i64 (b1 : Int) := (hw 8 (by kernel_rfl))
            have e0e : av.eval (.tmp 78) = .int .i64 (b1 : Int) := e0
            have e0g : av.tmps[78]?.getD undef = .int .i64 (b1 : Int) := by have := e0; simp only [Array.getD_eq_getD_getElem?] at this; exact this
            have uu := UU.out.2.1
            clear hw hF
            simp only [Oper.wp, execOp]
            try simp only [e0e]
            go_simp
            exact hK _ x (by first | rfl | (simp only [Nat.add_zero]; done) | (congr 1; omega)) (Below.refl _ _) (fun h => by cases h)
          · simp only [wpOp, List.getElem?_toArray, List.getElem?_cons_succ, List.getElem?_cons_zero, Region.wanted, if_true]
            refine Or.inl ?_
            have e0 : av.tmps.getD 0 undef = .string d := hF.2.2 0 (by decide)
            have e0e : av.eval (.tmp 0) = .string d := e0
            have e0g : av.tmps[0]?.getD undef = .string d := by have := e0; simp only [Array.getD_eq_getD_getElem?] at this; exact this
            clear hw hF
            simp only [Oper.wp, execOp]
            try simp only [e0e]
            go_simp
            exact hK _ x (by first | rfl | (simp only [Nat.add_zero]; done) | (congr 1; omega)) (Below.refl _ _) (fun h => by cases h)
          · simp only [wpOp, List.getElem?_toArray, List.getElem?_cons_succ, List.getElem?_cons_zero, Region.wanted, if_true]
            refine Or.inl ?_
            have e0 : av.tmps.getD 5 undef = .int .i64 (j : Int) := hF.2.2 5 (by decide)
            have e0e : av.eval (.tmp 5) = .int .i64 (j : Int) := e0
            have e0g : av.tmps[5]?.getD undef = .int .i64 (j : Int) := by have := e0; simp only [Array.getD_eq_getD_getElem?] at this; exact this
            clear hw hF
            simp only [Oper.wp, execOp]
            try simp only [e0e]
            go_simp
            exact hK _ x (by first | rfl | (simp only [Nat.add_zero]; done) | (congr 1; omega)) (Below.refl _ _) (fun h => by cases h)
          · simp only [wpOp, List.getElem?_toArray, List.getElem?_cons_succ, List.getElem?_cons_zero, Region.wanted, if_true]
            refine Or.inl ?_
            have e0 : av.tmps.getD 81 undef = .int .i64 (j : Int) := (hw 11 (by kernel_rfl))
            have e0e : av.eval (.tmp 81) = .int .i64 (j : Int) := e0
            have e0g : av.tmps[81]?.getD undef = .int .i64 (j : Int) := by have := e0; simp only [Array.getD_eq_getD_getElem?] at this; exact this
            have c1 := C1.out.2.2.1
            clear hw hF
            simp only [Oper.wp, execOp]
            try simp only [e0e]
            go_simp
            exact hK _ x (by first | rfl | (simp only [Nat.add_zero]; done) | (congr 1; omega)) (Below.refl _ _) (fun h => by cases h)
          · simp only [wpOp, List.getElem?_toArray, List.getElem?_cons_succ, List.getElem?_cons_zero, Region.wanted, if_true]
            refine Or.inl ?_
            have e0 : av.tmps.getD 6 undef = .int .i64 (y : Int) := hF.2.2 6 (by decide)
            have e0e : av.eval (.tmp 6) = .int .i64 (y : Int) := e0
            have e0g : av.tmps[6]?.getD undef = .int .i64 (y : Int) := by have := e0; simp only [Array.getD_eq_getD_getElem?] at this; exact this
            clear hw hF
            simp only [Oper.wp, execOp]
            try simp only [e0e]
            go_simp
            exact hK _ x (by first | rfl | (simp only [Nat.add_zero]; done) | (congr 1; omega)) (Below.refl _ _) (fun h => by cases h)
          · simp only [wpOp, List.getElem?_toArray, List.getElem?_cons_succ, List.getElem?_cons_zero, Region.wanted, if_true]
            refine Or.inl ?_
            have e0 : av.tmps.getD 82 undef = .int .i64 (k3 : Int) := (hw 12 (by kernel_rfl))
            have e0e : av.eval (.tmp 82) = .int .i64 (k3 : Int) := e0
            have e0g : av.tmps[82]?.getD undef = .int .i64 (k3 : Int) := by have := e0; simp only [Array.getD_eq_getD_getElem?] at this; exact this
            have e1 : av.tmps.getD 83 undef = .int .i64 (y : Int) := (hw 13 (by kernel_rfl))
            have e1e : av.eval (.tmp 83) = .int .i64 (y : Int) := e1
            have e1g : av.tmps[83]?.getD undef = .int .i64 (y : Int) := by have := e1; simp only [Array.getD_eq_getD_getElem?] at this; exact this
            have c1 := C1.out.2.2.2
            clear hw hF
            simp only [Oper.wp, execOp]
            try simp only [e0e, e1e]
            go_simp
            exact hK _ x (by first | rfl | (simp only [Nat.add_zero]; done) | (congr 1; omega)) (Below.refl _ _) (fun h => by cases h)
          · simp only [wpOp, List.getElem?_toArray, List.getElem?_cons_succ, List.getElem?_cons_zero, Region.wanted, if_true]
            refine Or.inl ?_
            have e0 : av.tmps.getD 80 undef = .string d := (hw 10 (by kernel_rfl))
            have e0e : av.eval (.tmp 80) = .string d := e0
            have e0g : av.tmps[80]?.getD undef = .string d := by have := e0; simp only [Array.getD_eq_getD_getElem?] at this; exact this
            have e1 : av.tmps.getD 84 undef = .int .i64 (k5 : Int) := (hw 14 (by kernel_rfl))
            have e1e : av.eval (.tmp 84) = .int .i64 (k5 : Int) := e1
            have e1g : av.tmps[84]?.getD undef = .int .i64 (k5 : Int) := by have := e1; simp only [Array.getD_eq_getD_getElem?] at this; exact this
            obtain ⟨xi, xj, xk⟩ := Y2.out
            clear hw hF
            simp only [Oper.wp, execOp]
            try simp only [e0e, e1e]
            go_simp
            exact hK _ x (by first | rfl | (simp only [Nat.add_zero]; done) | (congr 1; omega)) (Below.refl _ _) (fun h => by cases h)
          · simp only [wpOp, List.getElem?_toArray, List.getElem?_cons_succ, List.getElem?_cons_zero, Region.wanted, if_true]
            refine Or.inl ?_
            have e0 : av.tmps.getD 85 undef = .int .u8 (b2_ : Int) := (hw 15 (by kernel_rfl))
            have e0e : av.eval (.tmp 85) = .int .u8 (b2_ : Int) := e0
            have e0g : av.tmps[85]?.getD undef = .int .u8 (b2_ : Int) := by have := e0; simp only [Array.getD_eq_getD_getElem?] at this; exact this
            have uu := UU.out.2.2
            clear hw hF
            simp only [Oper.wp, execOp]
            try simp only [e0e]
            go_simp
            exact hK _ x (by first | rfl | (simp only [Nat.add_zero]; done) | (congr 1; omega)) (Below.refl _ _) (fun h => by cases h)
          · simp only [wpOp, List.getElem?_toArray, List.getElem?_cons_succ, List.getElem?_cons_zero, Region.wanted, if_true]
            refine Or.inl ?_
            have e0 : av.tmps.getD 79 undef = .int .i64 ((b1 : Int) * 256) := (hw 9 (by kernel_rfl))
            have e0e : av.eval (.tmp 79) = .int .i64 ((b1 : Int) * 256) := e0
            have e0g : av.tmps[79]?.getD undef = .int .i64 ((b1 : Int) * 256) := by have := e0; simp only [Array.getD_eq_getD_getElem?] at this; exact this
            have e1 : av.tmps.getD 86 undef = .int .i64 (b2_ : Int) := (hw 16 (by kernel_rfl))
            have e1e : av.eval (.tmp 86) = .int .i64 (b2_ : Int) := e1
            have e1g : av.tmps[86]?.getD undef = .int .i64 (b2_ : Int) := by have := e1; simp only [Array.getD_eq_getD_getElem?] at this; exact this
            have oo := OR.out
            clear hw hF
            simp only [Oper.wp, execOp]
            try simp only [e0e, e1e]
            go_simp
            exact hK _ x (by first | rfl | (simp only [Nat.add_zero]; done) | (congr 1; omega)) (Below.refl _ _) (fun h => by cases h)
          · simp only [wpOp, List.getElem?_toArray, List.getElem?_cons_succ, List.getElem?_cons_zero, Region.wanted, if_true]
            refine Or.inl ?_
            have e0 : av.tmps.getD 87 undef = .int .i64 (p : Int) := (hw 17 (by kernel_rfl))
            have e0e : av.eval (.tmp 87) = .int .i64 (p : Int) := e0
            have e0g : av.tmps[87]?.getD undef = .int .i64 (p : Int) := by have := e0; simp only [Array.getD_eq_getD_getElem?] at this; exact this
            clear hw hF
            simp only [Oper.wp, execOp]
            try simp only [e0e]
            go_simp
            exact hK _ _ ⟨_, rfl, heap_alloc_new _ _⟩ ((Below.refl _ _).alloc (Nat.le_refl _) _) (fun h => by cases h)
        intro av x hF hb' hR _
        have e0 : av.tmps.getD 70 undef = .pointer (some ⟨w.heap.size + 1, 2, none⟩) := hR 0 (by decide)
        have e1 : av.tmps.getD 71 undef = .slice B ds.length dd := hR 1 (by decide)
        have e2 : av.tmps.getD 72 undef = .string d := hR 2 (by decide)
        have e3 : av.tmps.getD 73 undef = .int .i64 (j : Int) := hR 3 (by decide)
        have e4 : av.tmps.getD 74 undef = .int .i64 (k1 : Int) := hR 4 (by decide)
        have e5 : av.tmps.getD 75 undef = .int .i64 (y : Int) := hR 5 (by decide)
        have e6 : av.tmps.getD 76 undef = .int .i64 (k2 : Int) := hR 6 (by decide)
        have e7 : av.tmps.getD 77 undef = .int .u8 (b1 : Int) := hR 7 (by decide)
        have e8 : av.tmps.getD 78 undef = .int .i64 (b1 : Int) := hR 8 (by decide)
        have e9 : av.tmps.getD 79 undef = .int .i64 ((b1 : Int) * 256) := hR 9 (by decide)
        have e10 : av.tmps.getD 80 undef = .string d := hR 10 (by decide)
        have e11 : av.tmps.getD 81 undef = .int .i64 (j : Int) := hR 11 (by decide)
        have e12 : av.tmps.getD 82 undef = .int .i64 (k3 : Int) := hR 12 (by decide)
        have e13 : av.tmps.getD 83 undef = .int .i64 (y : Int) := hR 13 (by decide)
        have e14 : av.tmps.getD 84 undef = .int .i64 (k5 : Int) := hR 14 (by decide)
        have e15 : av.tmps.getD 85 undef = .int .u8 (b2_ : Int) := hR 15 (by decide)
        have e16 : av.tmps.getD 86 undef = .int .i64 (b2_ : Int) := hR 16 (by decide)
        have e17 : av.tmps.getD 87 undef = .int .i64 (p : Int) := hR 17 (by decide)
        obtain ⟨gg18, e18, hg18⟩ := hR 18 (by decide)
        replace e18 : av.tmps.getD 88 undef = .slice (some ⟨gg18, 0, none⟩) 1 1 := e18
        rw [hF.fold (by kernel_rfl)]
        simp only [List.foldl_cons, List.foldl_nil, e0, e1, e2, e3, e4, e5, e6, e7, e8, e9, e10, e11, e12, e13, e14, e15, e16, e17, e18]
        simp only [Act.put, List.setIfInBounds_toArray, List.set_cons_zero, List.set_cons_succ]
        change wpOps _ _ _ [19, 20, 21] _ _
        simp only [wpOps_cons]
        clear e0 e1 e2 e3 e4 e5 e6 e7 e8 e9 e10 e11 e12 e13 e14 e15 e16 e17 e18 hR hF
        have BY := Lib.hid (BX.out.below hb')
        have RR := Lib.hid (row_on RR.out hb')
        have RK := Lib.hid (rl_of_row (g := nv) (xs := [(p : Int)]) hg18 1 (Nat.le_refl _))
        clear hb' hg18
        simp only [wpOp, List.getElem?_toArray, List.getElem?_cons_succ, List.getElem?_cons_zero, Region.wanted, if_true]
        refine Or.inl ?_
        refine wp_append2 nv_one et_i (.tmp 71) (.tmp 88) rfl (w.heap.size + 2) (.slice B ds.length dd) ds [(p : Int)] dn _ _ 1 rfl BY.out.o2 RK.out rfl rfl DN.out LB.out.2 BY.out.bz ?_
        intro A9 c9 x9 ho9 hg9 hn9
        obtain ⟨ABX3, hA2⟩ : ∃ z, A9 = z := ⟨_, rfl⟩
        obtain ⟨cBX3, hc2⟩ : ∃ z, c9 = z := ⟨_, rfl⟩
        rw [hA2, hc2] at ho9 hn9 ⊢
        have BN := Lib.hid (BY.out.push2 ho9 hg9 hn9)
        have N9 := Lib.hid (BY.out.row2 hg9 BY.out.lt.2 BY.out.row)
        obtain ⟨VBX3, hU⟩ : ∃ U : World, U = x9.setCell ⟨w.heap.size + 1, 2, none⟩ (.slice ABX3 dn.length cBX3) := ⟨_, rfl⟩
        rw [← hU] at BN
        have RRz := Lib.hid (show VBX3.heap[w.heap.size]? = some _ by rw [hU]; exact row_far (BY.out.row2 hg9 (by omega) RR.out) (by omega) _)
        have f9 := row_c N9.out (i := 2) rfl
        have q9 := frozen_of_row _ _ 2 _ _ N9.out
        clear ho9 hg9 hn9 hA2 hc2 BY N9 BX RR
        have BX := BN
        clear BN
        have RR := RRz
        clear RRz
        go_simp
        try rw [wpOps_cons]
        simp only [wpOp, List.getElem?_toArray, List.getElem?_cons_succ, List.getElem?_cons_zero, Region.wanted, if_true]
        refine Or.inl ?_
        simp only [Oper.wp, execOp]
        go_simp
        try rw [wpOps_cons]
        simp only [wpOp, List.getElem?_toArray, List.getElem?_cons_succ, List.getElem?_cons_zero, Region.wanted, if_true]
        refine Or.inl ?_
        simp only [Oper.wp, execOp]
        go_simp
        try simp only [wpOps]
        rw [← hU]
        clear hU f9 q9 RK
        obtain ⟨w1, w2⟩ := W12.out
        go_wp2
        go_roundw
        case rel => exact ⟨j4, ABX2, cBX2, kn, ABX3, cBX3, dn, HJ.out.1, rfl, BX, RR, Lib.hid (by rw [DC.out, ST.out, ← KN.out, ← DN.out]; cases pents (S.drop j4) with | none => rfl | some es => simp), Lib.hid (by rw [← KN.out, ← DN.out, sumN_app]; have h1 := SB.out; have h2 := HJ.out; have h3 := LKX.out; have h4 : sumN [kx] = kx.length + 1 := (by simp [sumN]); rw [h4]; simp only [List.length_append, List.length_singleton]; omega)⟩
        case measure =>
          clear w1 w2
          simp [intOf]
          have := HJ.out
          omega
    · obtain rfl : j = S.length := by omega
      have k9 : decide (S.length < d.size) = false := decide_eq_false (by rw [DS.out]; exact Nat.lt_irrefl _)
      have k8 : decide ((S.length : Int) < (d.size : Int)) = false := decide_eq_false (by rw [DS.out]; omega)
      have DE := Lib.hid (show decS S = some (false, ks, ds) by rw [DC.out, List.drop_length]; simp [pents])
      have lk : ks.length ≤ 4000000 := by have := sumN_ge ks; have := SB.out; have := HL.out; omega
      have ld : ds.length ≤ 4000001 := by have := SB.out; omega
      have lz : sizeN ks ds < 4611686018427387904 := by have := SB.out; have := HL.out; have := sumN_ge ks; unfold sizeN; omega
      obtain ⟨fo0, fo1, fo2⟩ := BX.out.f (Below.refl _ _)
      clear hlt hj
      go_wp2_with fail
      clear k9 k8 fo0 fo1 fo2
      cases hrb : rightB false ks ds
      · have DA := Lib.hid (show decA S = none by unfold decA; rw [DE.out]; simp [okB, hrb])
        refine (rencode_no false A c ks B dd ds V BX.out.rl.1 BX.out.rl.2.1 lk ld lz hrb).mono ?_
        rintro e x ⟨rfl, hx⟩
        have BY := Lib.hid (BX.out.below hx)
        have RRx := Lib.hid (row_on RR.out hx)
        clear BX RR hx lk ld lz hrb
        have BX := BY
        have RR := RRx
        have p0 := row_c RR.out (i := 0) rfl
        have p1 := row_c RR.out (i := 1) rfl
        have p2 := row_c RR.out (i := 2) rfl
        have z0 := frozen_of_row _ _ 0 _ _ RR.out
        have z1 := frozen_of_row _ _ 1 _ _ RR.out
        have z2 := frozen_of_row _ _ 2 _ _ RR.out
        go_wp2
        refine bodyPost_ret (v := .tuple #[.agg #[.bool false, .slice none 0 0, .slice none 0 0], .bool false]) (by simp [results, Try.results16, go_sem, p0, p1, p2]) rfl ⟨fun lf ks ds h => (by rw [DA.out] at h; cases h), fun _ => rfl, ?_⟩
        exact ((BX.out.kb.setCell (by simp) _).setCell (by simp) _).setCell (by simp) _
      · by_cases hen : encL false ks ds = S
        · have DA := Lib.hid (show decA S = some (false, ks, ds) by unfold decA; rw [DE.out]; simp [okB, hrb, hen])
          refine (rencode_yes false A c ks B dd ds V BX.out.rl.1 BX.out.rl.2.1 hrb).mono ?_
          rintro e x ⟨rfl, hx⟩
          have BY := Lib.hid (BX.out.below hx)
          have RRx := Lib.hid (row_on RR.out hx)
          clear BX RR hx lk ld lz
          have BX := BY
          have RR := RRx
          clear BY RRx
          rw [hen, ← HD.out]
          clear hrb hen
          obtain ⟨fo0, fo1, fo2⟩ := BX.out.f (Below.refl _ _)
          have p0 := row_c RR.out (i := 0) rfl
          have p1 := row_c RR.out (i := 1) rfl
          have p2 := row_c RR.out (i := 2) rfl
          have z0 := frozen_of_row _ _ 0 _ _ RR.out
          have z1 := frozen_of_row _ _ 1 _ _ RR.out
          have z2 := frozen_of_row _ _ 2 _ _ RR.out
          go_wp2
          refine bodyPost_ret (v := .tuple #[.agg #[.bool false, .slice A ks.length c, .slice B ds.length dd], .bool true]) (by simp [results, Try.results16, go_sem, p0, p1, p2]) rfl ⟨fun lf_ ks_ ds_ h => ?_, fun h => (by rw [DA.out] at h; cases h), ?_⟩
          · rw [DA.out] at h
            injection h with h
            injection h with h1 h2
            injection h2 with h2 h3
            subst h1 h2 h3
            exact ⟨A, c, B, dd, rfl, ((BX.out.rl.1.set BX.out.rl.2.2.1 (by omega) _ _).set BX.out.rl.2.2.1 (by omega) _ _).set BX.out.rl.2.2.1 (by omega) _ _, ((BX.out.rl.2.1.set BX.out.rl.2.2.2 (by omega) _ _).set BX.out.rl.2.2.2 (by omega) _ _).set BX.out.rl.2.2.2 (by omega) _ _⟩
          · exact ((BX.out.kb.setCell (by simp) _).setCell (by simp) _).setCell (by simp) _
        · have DA := Lib.hid (show decA S = none by unfold decA; rw [DE.out]; simp [okB, hrb, hen])
          refine (rencode_yes false A c ks B dd ds V BX.out.rl.1 BX.out.rl.2.1 hrb).mono ?_
          rintro e x ⟨rfl, hx⟩
          have BY := Lib.hid (BX.out.below hx)
          have RRx := Lib.hid (row_on RR.out hx)
          clear BX RR hx lk ld lz
          have BX := BY
          have RR := RRx
          clear BY RRx
          obtain ⟨dz, hdz⟩ : ∃ z : ByteArray, z = ⟨(encL false ks ds).toArray⟩ := ⟨_, rfl⟩
          have hne : dz ≠ d := by rw [hdz, HD.out]; intro h; injection h with h; exact hen (by simpa using h)
          have e7 : (dz.toList == d.toList) = false := by rw [ByteArray.toList_eq, ByteArray.toList_eq]; simp only [beq_eq_false_iff_ne, ne_eq]; exact fun h => hne (Go.WideShapes.bytes_inj h)
          have e6 : decide (dz = d) = false := decide_eq_false hne
          rw [← hdz]
          clear hrb hen hdz hne
          have p0 := row_c RR.out (i := 0) rfl
          have p1 := row_c RR.out (i := 1) rfl
          have p2 := row_c RR.out (i := 2) rfl
          have z0 := frozen_of_row _ _ 0 _ _ RR.out
          have z1 := frozen_of_row _ _ 1 _ _ RR.out
          have z2 := frozen_of_row _ _ 2 _ _ RR.out
          go_wp2
          refine bodyPost_ret (v := .tuple #[.agg #[.bool false, .slice none 0 0, .slice none 0 0], .bool false]) (by simp [results, Try.results16, go_sem, p0, p1, p2]) rfl ⟨fun lf ks ds h => (by rw [DA.out] at h; cases h), fun _ => rfl, ?_⟩
          exact ((BX.out.kb.setCell (by simp) _).setCell (by simp) _).setCell (by simp) _
theorem rdecode_any (S : List UInt8) (w : World) (hS : S.length ≤ 1048576) : Calls Try.prog 16 #[.string ⟨S.toArray⟩] w fun e w' => (∀ lf ks ds, decA S = some (lf, ks, ds) → ∃ A c B d, e = .returned (.tuple #[.agg #[.bool lf, .slice A ks.length c, .slice B ds.length d], .bool true]) ∧ Rl sv w' A c ks ∧ Rl nv w' B d ds) ∧ (decA S = none → e = .returned (.tuple #[.agg #[.bool false, .slice none 0 0, .slice none 0 0], .bool false])) ∧ Below w.heap.size w w' := by
  cases S with
  | nil => exact rdec_nil w [] rfl
  | cons a r =>
    by_cases h1 : 1 < a.toNat
    · exact rdec_big w a r _ rfl h1
    · have ha : a = 0 ∨ a = 1 := by
        have h2 : a.toNat = 0 ∨ a.toNat = 1 := by omega
        rcases h2 with h2 | h2
        · exact .inl (UInt8.toNat_inj.1 h2)
        · exact .inr (UInt8.toNat_inj.1 h2)
      rcases ha with rfl | rfl
      · exact rdec_f w r _ rfl hS
      · exact rdec_t w r _ rfl hS
end Go.Proofs.Ytkbdcbcjbgbglaa
