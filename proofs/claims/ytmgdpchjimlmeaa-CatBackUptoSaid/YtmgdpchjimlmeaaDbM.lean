/-
  cat.Decode.
-/
import Derived.Test.YtmgdpchjimlmeaaDaM
namespace Go.Proofs.Ytmgdpchjimlmeaa.Cat
open Go.RowKit
theorem ext_take (b : List UInt8) (n : Nat) : (⟨b.toArray⟩ : ByteArray).extract 0 n = ⟨(b.take n).toArray⟩ := by rw [Lib.extract_eq]; simp
theorem ext_drop (b : List UInt8) (n : Nat) : (⟨b.toArray⟩ : ByteArray).extract n b.length = ⟨(b.drop n).toArray⟩ := by
  rw [Lib.extract_eq]
  simp only [List.take_of_length_le (show (b.drop n).length ≤ b.length - n by simp)]
theorem ext_mid (b : List UInt8) (n m : Nat) : (⟨b.toArray⟩ : ByteArray).extract n m = ⟨((b.drop n).take (m - n)).toArray⟩ := by rw [Lib.extract_eq]
theorem ownsRow_later {B : Nat} {e : TypeId} {k : Nat} {v : Value} {n : Nat} {xs : List Value} {w w' : World} (h : w.ownsRow B e k v n xs) (hb : Below w.heap.size w w') : w'.ownsRow B e k v n xs := by
  refine ⟨h.1, ?_⟩
  rcases h.2 with h0 | ⟨g, cap, cur, h1, h2, h3, h4⟩
  · exact .inl h0
  · exact .inr ⟨g, cap, cur, h1, h2, (hb.block g (heap_lt h3)).trans h3, h4⟩
def strLen : Value → Nat
  | .string b => b.size
  | _ => 0
def verL (L : List UInt8) : Int × Int := ((rd4 L : Nat), (at8 L 4 * 256 + at8 L 5 : Nat))
def decL (S : List UInt8) (m : Nat) : List (Int × Int) := (List.range m).map fun j => verL (S.drop (4 + 6 * j))
theorem decL_len (S : List UInt8) (m : Nat) : (decL S m).length = m := by unfold decL; simp
theorem decL_snoc (S : List UInt8) (m : Nat) : decL S (m + 1) = decL S m ++ [verL (S.drop (4 + 6 * m))] := by unfold decL; rw [List.range_succ, List.map_append]; rfl
theorem take_cons4 {L : List UInt8} (h : 4 ≤ L.length) : ∃ a b c d r, L = a :: b :: c :: d :: r := by
  match L, h with
  | a :: b :: c :: d :: r, _ => exact ⟨a, b, c, d, r, rfl⟩
theorem rdB4 {L : List UInt8} (h : 4 ≤ L.length) : rdB (L.take 4) = rd4 L := by
  obtain ⟨a, b, c, d, r, rfl⟩ := take_cons4 h
  simp [rdB, rd4, at8]
  omega
theorem rdB2 {L : List UInt8} (h : 6 ≤ L.length) : rdB ((L.drop 4).take 2) = at8 L 4 * 256 + at8 L 5 := by
  match L, h with
  | _ :: _ :: _ :: _ :: e :: f :: r, _ => simp [rdB, at8]
set_option maxHeartbeats 8000000 in
set_option maxRecDepth 100000 in
theorem decode_any (S : List UInt8) (m : Nat) (w : World) (hS : S.length = 4 + 6 * m) (hm : m ≤ 400000) :
    Calls Try.prog 9 #[.string ⟨S.toArray⟩] w fun e w' => (rightB (rd4 S : Nat) (decL S m) = true → ∃ A c, e = .returned (.tuple #[.agg #[.int .i64 (rd4 S : Nat), .slice A (decL S m).length c], .int .i64 0]) ∧ Vs w' A c (decL S m)) ∧ (rightB (rd4 S : Nat) (decL S m) = false → e = .returned (.tuple #[.agg #[.int .i64 0, .slice none 0 0], .int .i64 2])) ∧ Below w.heap.size w w' := by
  obtain ⟨i0, hi, hz0, hz1, hz2⟩ := info_parts (show (Try.prog.info? 54).map (fun i => (i.zero, i.size, i.bytes)) = some (some (.agg #[.int .i64 0, .int .i64 0]), 2, 16) by kernel_rfl)
  have ss := Lib.hid (str_size S)
  have e1 : decide (S.length < 4) = false := decide_eq_false (by omega)
  have e2 : decide ((S.length : Int) < 4) = false := by simp; omega
  have e3 : (((S.length : Int) - 4).tmod 6 != 0) = false := by
    rw [Int.tmod_eq_emod_of_nonneg (by omega)]
    simp only [bne_eq_false_iff_eq]
    omega
  have e4 : (((S.length : Int) - 4) % 6 != 0) = false := by
    simp only [bne_eq_false_iff_eq]
    omega
  have l4 : 4 ≤ S.length := by omega
  have sl : S.length ≤ 3000000 := by omega
  have l4' : (4 : Int) ≤ (S.length : Int) := by omega
  have x1 := ext_take S 4
  have x2 := ext_drop S 4
  have RD := Lib.hid (fun V => read_any (S.take 4) V (by rw [List.length_take]; omega))
  rw [rdB4 l4] at RD
  obtain ⟨D0, hD0⟩ : ∃ D, D = S.drop 4 := ⟨_, rfl⟩
  obtain ⟨P0, hP0⟩ : ∃ D, D = S.take 4 := ⟨_, rfl⟩
  obtain ⟨xn, hx⟩ : ∃ x, rd4 S = x := ⟨_, rfl⟩
  rw [hx] at RD ⊢
  rw [← hP0] at RD x1
  rw [← hD0] at x2
  have HD0 := Lib.hid hD0
  have HSS := Lib.hid hS
  have HX := Lib.hid hx
  clear hS hD0 hP0 hx
  go_enter Try.func9, Try.ntmps9
  go_wp2_with fail
  refine (RD.out _).mono ?_
  rintro e w2 ⟨rfl, hb⟩
  have K2 := Lib.hid (bon (bda _ (.cells #[.int .i64 0, .slice none 0 0] 24)) hb)
  have R2 := Lib.hid (row_on (heap_alloc_new w (.cells #[.int .i64 0, .slice none 0 0] 24)) hb)
  clear hb e1 e2 e3 e4
  go_wp2_with fail
  obtain ⟨W, hW⟩ : ∃ W : World, W = w2.alloc (.cells #[.int .i64 (xn : Int), .slice none 0 0] 24) := ⟨_, rfl⟩
  have R4 := Lib.hid (show W.heap[w2.heap.size]? = some (.cells #[.int .i64 (xn : Int), .slice none 0 0] 24) by rw [hW]; exact heap_alloc_new _ _)
  have BW := Lib.hid (show Below w2.heap.size w2 W by rw [hW]; exact bda _ _)
  have SW := Lib.hid (show W.heap.size = w2.heap.size + 1 by rw [hW]; simp)
  rw [← hW]
  clear hW
  have Q2 := Lib.hid (row_on R2.out BW.out)
  have KQ := Lib.hid (K2.out.trans (BW.out.mono K2.out.size))
  have GW := Lib.hid (heap_lt R2.out)
  clear R2 BW K2
  obtain ⟨g4, hg4⟩ : ∃ g, w2.heap.size = g := ⟨_, rfl⟩
  rw [hg4] at R4 SW GW ⊢
  clear hg4
  go_loopw [0] (fun s wr => ∃ (k : Nat) (A3 : Option Addr) (c3 : Nat), k ≤ m ∧ s = .string ⟨(S.drop (4 + 6 * k)).toArray⟩ ∧ Hid (wr.ownsRow (g4 + 1) 54 2 (.slice A3 k c3) k (vcells (decL S k))) ∧ Hid (wr.heap[g4]? = some (.cells #[.int .i64 (xn : Int), .slice A3 k c3] 24)) ∧ Hid (Below g4 W wr)) (fun s _ => strLen s)
  case atStart => exact ⟨0, none, 0, Nat.zero_le _, by rw [HD0.out], Lib.hid (World.ownsRow_nil _ _ _ _), R4, Lib.hid (Below.refl _ _)⟩
  case round =>
    obtain ⟨k, A3, c3, hk, rfl, ho, hr4, hb⟩ := hrel
    have KW := Lib.hid (show Below w.heap.size w wr from KQ.out.trans (hb.out.mono (by have := GW.out; omega)))
    have G4 := Lib.hid (heap_lt hr4.out)
    have ZS := Lib.hid (show g4 + 1 ≤ wr.heap.size from G4.out)
    have f1 := row_c hr4.out (i := 1) rfl
    have f0 := row_c hr4.out (i := 0) rfl
    have LL := Lib.hid (show (S.drop (4 + 6 * k)).length = 6 * (m - k) by rw [List.length_drop, HSS.out]; omega)
    by_cases hlt : k < m
    · obtain ⟨L, hL⟩ : ∃ L, S.drop (4 + 6 * k) = L := ⟨_, rfl⟩
      rw [hL] at LL ⊢
      have l6 : 6 ≤ L.length := by have := LL.out; omega
      have RD4 := Lib.hid (fun V => read_any (L.take 4) V (by rw [List.length_take]; omega))
      have RD2 := Lib.hid (fun V => read_any ((L.drop 4).take 2) V (by rw [List.length_take]; omega))
      rw [rdB4 (by omega)] at RD4
      rw [rdB2 l6] at RD2
      obtain ⟨p4, hp4⟩ : ∃ p, rd4 L = p := ⟨_, rfl⟩
      obtain ⟨p2, hp2⟩ : ∃ p, at8 L 4 * 256 + at8 L 5 = p := ⟨_, rfl⟩
      have VL := Lib.hid (show decL S (k + 1) = decL S k ++ [((p4 : Int), (p2 : Int))] by rw [decL_snoc, hL, ← hp4, ← hp2]; rfl)
      rw [hp4] at RD4
      rw [hp2] at RD2
      obtain ⟨d, hd⟩ : ∃ d : ByteArray, d = ⟨L.toArray⟩ := ⟨_, rfl⟩
      obtain ⟨d4, hd4⟩ : ∃ d : ByteArray, d = ⟨(L.take 4).toArray⟩ := ⟨_, rfl⟩
      obtain ⟨d2, hd2⟩ : ∃ d : ByteArray, d = ⟨((L.drop 4).take 2).toArray⟩ := ⟨_, rfl⟩
      obtain ⟨d6, hd6⟩ : ∃ d : ByteArray, d = ⟨(L.drop 6).toArray⟩ := ⟨_, rfl⟩
      have ds : d.size = L.length := by rw [hd, str_size]
      have OO := Lib.hid (And.intro (show d.extract 0 4 = d4 by rw [hd, hd4, ext_take]) (show d.extract 4 6 = d2 by rw [hd, hd2, ext_mid]))
      have O6 : d.extract 6 d.size = d6 := by rw [ds, hd, hd6, ext_drop]
      have D6 := Lib.hid (show d6 = ⟨(S.drop (4 + 6 * (k + 1))).toArray⟩ by rw [hd6, ← hL, List.drop_drop]; rfl)
      have M6 := Lib.hid (show d6.size < d.size by rw [ds, hd6, str_size, List.length_drop]; omega)
      have b6 : 6 ≤ d.size := by omega
      have b6' : (6 : Int) ≤ (d.size : Int) := by omega
      have SZ := Lib.hid (And.intro b6 (And.intro b6' (show (4 : Int) ≤ (d.size : Int) by omega)))
      have b0 : decide ((0 : Int) < (d.size : Int)) = true := decide_eq_true (by omega)
      have b0' : decide (0 < d.size) = true := decide_eq_true (by omega)
      have HLT := Lib.hid hlt
      rw [← hd4] at RD4
      rw [← hd2] at RD2
      rw [← hd]
      clear hd hd4 hd2 hd6 hp4 hp2 ds LL l6 hL
      have FB := Lib.hid (fun x (K : Below wr.heap.size wr x) => (K.cell (p := ⟨g4, 1, none⟩) G4.out).trans f1)
      go_upto_region 7 with (fail)
      clear f0 f1
      refine wp_operands (W := wr) rfl 10 [27, 28, 29, 30, 31, 32, 33, 34, 35, 36] (fun i u x => match i with | 0 => u = .pointer (some ⟨g4, 1, none⟩) | 1 => u = .slice A3 k c3 | 2 => u = .string d | 3 => u = .string d4 | 4 => u = .int .i64 (p4 : Int) | 5 => u = .string d | 6 => u = .string d2 | 7 => u = .int .i64 (p2 : Int) | 8 => u = .agg #[.int .i64 (p4 : Int), .int .i64 (p2 : Int)] | 9 => ∃ g, u = .slice (some ⟨g, 0, none⟩) 1 1 ∧ x.heap[g]? = some (.cells #[.int .i64 (p4 : Int), .int .i64 (p2 : Int)] 54 (0, 0)) | _ => True) (fun _ => false)
        (by decide) rfl (by kernel_rfl) (by kernel_rfl) (by decide) (by kernel_rfl) ?_ (fun _ _ _ h => by cases h) ?_ ?_
      · intro i u x x' hi hR hb'
        have hi' : i = 0 ∨ i = 1 ∨ i = 2 ∨ i = 3 ∨ i = 4 ∨ i = 5 ∨ i = 6 ∨ i = 7 ∨ i = 8 ∨ i = 9 := by omega
        rcases hi' with rfl | rfl | rfl | rfl | rfl | rfl | rfl | rfl | rfl | rfl
        · exact hR
        · exact hR
        · exact hR
        · exact hR
        · exact hR
        · exact hR
        · exact hR
        · exact hR
        · exact hR
        · obtain ⟨g, e, hg⟩ := hR; exact ⟨g, e, (hb'.block g (heap_lt hg)).trans hg⟩
      · intro i av x K hi hF hb' hw hK
        have hi' : i = 0 ∨ i = 1 ∨ i = 2 ∨ i = 3 ∨ i = 4 ∨ i = 5 ∨ i = 6 ∨ i = 7 ∨ i = 8 ∨ i = 9 := by omega
        rcases hi' with rfl | rfl | rfl | rfl | rfl | rfl | rfl | rfl | rfl | rfl
        · simp only [wpOp, List.getElem?_toArray, List.getElem?_cons_zero, Region.wanted, if_true]
          refine Or.inl ?_
          have e0 : av.eval (.tmp 4) = .pointer (some ⟨g4, 0, none⟩) := hF.2.2 4 (by decide)
          clear hw hF
          simp only [Oper.wp, execOp]
          rw [e0]
          go_simp
          exact hK _ x (by first | rfl | (rw [O]; done) | (rw [O2]; done) | (congr 1; omega)) (Below.refl _ _) (fun h => by cases h)
        · simp only [wpOp, List.getElem?_toArray, List.getElem?_cons_succ, List.getElem?_cons_zero, Region.wanted, if_true]
          refine Or.inl ?_
          have e0 : av.tmps.getD 27 undef = .pointer (some ⟨g4, 1, none⟩) := hw 0 (by kernel_rfl)
          have f := FB.out x hb'
          clear hw hF
          simp only [Oper.wp, execOp]
          go_simp
          exact hK _ x (by first | rfl | (rw [O]; done) | (rw [O2]; done) | (congr 1; omega)) (Below.refl _ _) (fun h => by cases h)
        · simp only [wpOp, List.getElem?_toArray, List.getElem?_cons_succ, List.getElem?_cons_zero, Region.wanted, if_true]
          refine Or.inl ?_
          have e0 : av.eval (.tmp 0) = .string d := hF.2.2 0 (by decide)
          clear hw hF
          simp only [Oper.wp, execOp]
          rw [e0]
          go_simp
          exact hK _ x (by first | rfl | (rw [O]; done) | (rw [O2]; done) | (congr 1; omega)) (Below.refl _ _) (fun h => by cases h)
        · simp only [wpOp, List.getElem?_toArray, List.getElem?_cons_succ, List.getElem?_cons_zero, Region.wanted, if_true]
          refine Or.inl ?_
          have e0 : av.tmps.getD 29 undef = .string d := hw 2 (by kernel_rfl)
          have O := OO.out.1
          have O2 := OO.out.2
          have Z1 := SZ.out.1
          have Z2 := SZ.out.2.1
          have Z3 := SZ.out.2.2
          clear hw hF
          simp only [Oper.wp, execOp]
          go_simp
          exact hK _ x (by first | rfl | (rw [O]; done) | (rw [O2]; done) | (congr 1; omega)) (Below.refl _ _) (fun h => by cases h)
        · simp only [wpOp, List.getElem?_toArray, List.getElem?_cons_succ, List.getElem?_cons_zero, Region.wanted, if_true]
          refine Or.inl ?_
          have e0 : av.tmps.getD 30 undef = .string d4 := hw 3 (by kernel_rfl)
          clear hw hF
          simp only [Oper.wp, execOp]
          go_simp
          refine (RD4.out x).mono ?_
          rintro e x' ⟨rfl, hx⟩
          exact hK _ x' rfl hx (fun h => by cases h)
        · simp only [wpOp, List.getElem?_toArray, List.getElem?_cons_succ, List.getElem?_cons_zero, Region.wanted, if_true]
          refine Or.inl ?_
          have e0 : av.eval (.tmp 0) = .string d := hF.2.2 0 (by decide)
          clear hw hF
          simp only [Oper.wp, execOp]
          rw [e0]
          go_simp
          exact hK _ x (by first | rfl | (rw [O]; done) | (rw [O2]; done) | (congr 1; omega)) (Below.refl _ _) (fun h => by cases h)
        · simp only [wpOp, List.getElem?_toArray, List.getElem?_cons_succ, List.getElem?_cons_zero, Region.wanted, if_true]
          refine Or.inl ?_
          have e0 : av.tmps.getD 32 undef = .string d := hw 5 (by kernel_rfl)
          have O := OO.out.1
          have O2 := OO.out.2
          have Z1 := SZ.out.1
          have Z2 := SZ.out.2.1
          have Z3 := SZ.out.2.2
          clear hw hF
          simp only [Oper.wp, execOp]
          go_simp
          exact hK _ x (by first | rfl | (rw [O]; done) | (rw [O2]; done) | (congr 1; omega)) (Below.refl _ _) (fun h => by cases h)
        · simp only [wpOp, List.getElem?_toArray, List.getElem?_cons_succ, List.getElem?_cons_zero, Region.wanted, if_true]
          refine Or.inl ?_
          have e0 : av.tmps.getD 33 undef = .string d2 := hw 6 (by kernel_rfl)
          clear hw hF
          simp only [Oper.wp, execOp]
          go_simp
          refine (RD2.out x).mono ?_
          rintro e x' ⟨rfl, hx⟩
          exact hK _ x' rfl hx (fun h => by cases h)
        · simp only [wpOp, List.getElem?_toArray, List.getElem?_cons_succ, List.getElem?_cons_zero, Region.wanted, if_true]
          refine Or.inl ?_
          have e0 : av.tmps.getD 31 undef = .int .i64 (p4 : Int) := hw 4 (by kernel_rfl)
          have e1 : av.tmps.getD 34 undef = .int .i64 (p2 : Int) := hw 7 (by kernel_rfl)
          clear hw hF
          simp only [Oper.wp, execOp]
          have e2 : av.tmps[31]?.getD undef = .int .i64 (p4 : Int) := by simpa using e0
          have e3 : av.tmps[34]?.getD undef = .int .i64 (p2 : Int) := by simpa using e1
          clear e0 e1
          go_simp
          exact hK _ x (by first | rfl | (rw [O]; done) | (rw [O2]; done) | (congr 1; omega)) (Below.refl _ _) (fun h => by cases h)
        · simp only [wpOp, List.getElem?_toArray, List.getElem?_cons_succ, List.getElem?_cons_zero, Region.wanted, if_true]
          refine Or.inl ?_
          have e0 : av.tmps.getD 35 undef = .agg #[.int .i64 (p4 : Int), .int .i64 (p2 : Int)] := hw 8 (by kernel_rfl)
          clear hw hF
          simp only [Oper.wp, execOp]
          have e2 : av.tmps[35]?.getD undef = .agg #[.int .i64 (p4 : Int), .int .i64 (p2 : Int)] := by simpa using e0
          clear e0
          go_simp
          exact hK _ _ ⟨_, rfl, heap_alloc_new _ _⟩ ((Below.refl _ _).alloc (Nat.le_refl _) _) (fun h => by cases h)
      · intro av x hF hb' hR _
        obtain ⟨gN, e9, hgN⟩ := hR 9 (by decide)
        have e0 : av.tmps.getD 27 undef = .pointer (some ⟨g4, 1, none⟩) := hR 0 (by decide)
        have e1 : av.tmps.getD 28 undef = .slice A3 k c3 := hR 1 (by decide)
        have e2 : av.tmps.getD 29 undef = .string d := hR 2 (by decide)
        have e3 : av.tmps.getD 30 undef = .string d4 := hR 3 (by decide)
        have e4 : av.tmps.getD 31 undef = .int .i64 (p4 : Int) := hR 4 (by decide)
        have e5 : av.tmps.getD 32 undef = .string d := hR 5 (by decide)
        have e6 : av.tmps.getD 33 undef = .string d2 := hR 6 (by decide)
        have e7 : av.tmps.getD 34 undef = .int .i64 (p2 : Int) := hR 7 (by decide)
        have e8 : av.tmps.getD 35 undef = .agg #[.int .i64 (p4 : Int), .int .i64 (p2 : Int)] := hR 8 (by decide)
        rw [hF.fold (by kernel_rfl)]
        have e9b : av.tmps.getD 36 undef = .slice (some ⟨gN, 0, none⟩) 1 1 := e9
        simp only [List.foldl_cons, List.foldl_nil, e0, e1, e2, e3, e4, e5, e6, e7, e8, e9b]
        simp only [Act.put, List.setIfInBounds_toArray, List.set_cons_zero, List.set_cons_succ]
        change wpOps _ _ _ [10, 11, 12] _ _
        simp only [wpOps_cons]
        clear e0 e1 e2 e3 e4 e5 e6 e7 e8 e9 e9b hR hF
        have HG := Lib.hid hgN
        have HBx := Lib.hid (KW.out.trans (hb'.mono KW.out.size))
        have OX := Lib.hid (ownsRow_later ho.out hb')
        have ZX := Lib.hid (Nat.le_trans ZS.out hb'.size)
        have H4 := Lib.hid ((hb'.block g4 G4.out).trans hr4.out)
        have KX := Lib.hid hb'
        clear hgN hb'
        simp only [wpOp, List.getElem?_toArray, List.getElem?_cons_succ, List.getElem?_cons_zero, Region.wanted, if_true]
        refine Or.inl ?_
        refine wp_append_lies _ (.tmp 28) (.tmp 36) 22 rfl (g4 + 1) 54 i0 (.agg #[.int .i64 0, .int .i64 0]) 2 16 Try.underlying22 hi hz0 hz1 hz2 rfl (by decide) (.slice A3 k c3) k (vcells (decL S k)) rfl OX.out ⟨gN, 0, none⟩ 1 1 [.int .i64 (p4 : Int), .int .i64 (p2 : Int)] rfl rfl (World.news_of_block HG.out) (by simp [Value.oneCell']) (by decide) (by unfold maxLen; omega) (by omega) ZX.out x.heap.size rfl ?_
        intro g' cap w9 hown hgrow hat hlt9
        have O9 := Lib.hid hown
        have B9 := Lib.hid (show Below (g4 + 1) x w9 from (Below.refl _ _).grown hgrow ZX.out (fun g hg => (OX.out.lt g hg).1))
        have H9 := Lib.hid ((B9.out.block g4 (by omega)).trans H4.out)
        clear hown hgrow hat hlt9
        have f1 := row_c H9.out (i := 1) rfl
        have q1 := frozen_of_row _ _ 1 _ _ H9.out
        go_simp
        rw [wpOps_cons]
        simp only [wpOp, List.getElem?_toArray, List.getElem?_cons_succ, List.getElem?_cons_zero, Region.wanted, if_true]
        refine Or.inl ?_
        simp only [Oper.wp, execOp]
        go_simp
        try rw [wpOps_cons]
        simp only [wpOp, List.getElem?_toArray, List.getElem?_cons_succ, List.getElem?_cons_zero, Region.wanted, if_true]
        refine Or.inl ?_
        simp only [Oper.wp, execOp]
        go_simp
        try simp only [wpOps]
        have KX9 := Lib.hid (hb.out.trans ((KX.out.mono (by have := G4.out; omega)).trans (B9.out.mono (by omega))))
        clear f1 q1
        go_wp2
        go_roundw
        case rel =>
          refine ⟨k + 1, some ⟨g', 0, none⟩, cap, HLT.out, congrArg Value.string D6.out, Lib.hid ?_, Lib.hid ?_, Lib.hid ?_⟩
          · rw [VL.out, vcells_app]; exact own_set O9.out (by omega) 1 _
          · unfold World.setCell; simp [Array.getElem?_modify, H9.out]
          · exact KX9.out.setCell (by simp) _
        case measure => exact M6.out
    · obtain rfl : k = m := by omega
      have he : S.drop (4 + 6 * k) = [] := List.eq_nil_of_length_eq_zero (by rw [LL.out]; omega)
      rw [he]
      obtain ⟨d, hd⟩ : ∃ d : ByteArray, d = ⟨([] : List UInt8).toArray⟩ := ⟨_, rfl⟩
      have b0 : decide ((0 : Int) < (d.size : Int)) = false := by rw [hd]; rfl
      have b0' : decide (0 < d.size) = false := by rw [hd]; rfl
      rw [← hd]
      obtain ⟨zs, hzs⟩ : ∃ zs, decL S k = zs := ⟨_, rfl⟩
      have hlen : zs.length = k := by rw [← hzs, decL_len]
      rw [hzs] at ho
      have HZ := Lib.hid hzs
      obtain ⟨A5, c5, hv, hV, hF⟩ := vs_of_own ho.out
      injection hv with q1 q2 q3
      subst q1 q3
      have RG := Lib.hid (fun V (hV : Vs V A3 c3 zs) => right_any (xn : Int) A3 c3 zs V hV (by omega))
      rw [hlen] at RG
      have Q2w := Lib.hid ((hb.out.block _ GW.out).trans Q2.out)
      have GB := Lib.hid (show w.heap.size < g4 + 1 by have := GW.out; omega)
      have V5 := Lib.hid hV
      have F5 := Lib.hid hF
      clear hd he hzs hlen hV hF q2 LL ho HD0 HX HSS
      cases hrb : rightB (xn : Int) zs
      · rw [hrb] at RG
        go_wp2_with fail
        refine (RG.out _ V5.out).mono ?_
        rintro e w5 ⟨rfl, hx⟩
        have K5 := Lib.hid (bon KW.out hx)
        have q2 := Lib.hid (row_on Q2w.out hx)
        clear hx f0 f1
        have p0 : w5.cell? ⟨w.heap.size, 0, none⟩ = some (.int .i64 0) := row_c q2.out (i := 0) rfl
        have p1 : w5.cell? ⟨w.heap.size, 1, none⟩ = some (.slice none 0 0) := row_c q2.out (i := 1) rfl
        have y0 := frozen_of_row _ _ 0 _ _ q2.out
        have y1 := frozen_of_row _ _ 1 _ _ q2.out
        have HRB := Lib.hid hrb
        clear hrb
        go_wp2
        refine bodyPost_ret (v := .tuple #[.agg #[.int .i64 0, .slice none 0 0], .int .i64 2]) (by simp [results, Try.results9, go_sem, p0, p1]) rfl ⟨fun h => (by rw [HZ.out, HRB.out] at h; cases h), fun _ => rfl, ?_⟩
        exact (K5.out.setCell (Nat.le_refl _) _).setCell (Nat.le_refl _) _
      · rw [hrb] at RG
        go_wp2_with fail
        refine (RG.out _ V5.out).mono ?_
        rintro e w5 ⟨rfl, hx⟩
        have K5 := Lib.hid (bon KW.out hx)
        have q2 := Lib.hid (row_on Q2w.out hx)
        have q4 := Lib.hid (row_on hr4.out hx)
        have V6 := Lib.hid (V5.out.below hx)
        clear hx f0 f1
        have p0 : w5.cell? ⟨w.heap.size, 0, none⟩ = some (.int .i64 0) := row_c q2.out (i := 0) rfl
        have p1 : w5.cell? ⟨w.heap.size, 1, none⟩ = some (.slice none 0 0) := row_c q2.out (i := 1) rfl
        have y0 := frozen_of_row _ _ 0 _ _ q2.out
        have y1 := frozen_of_row _ _ 1 _ _ q2.out
        have f0 := row_c q4.out (i := 0) rfl
        have f1 := row_c q4.out (i := 1) rfl
        have HRB := Lib.hid hrb
        clear hrb
        go_wp2
        refine bodyPost_ret (v := .tuple #[.agg #[.int .i64 (xn : Int), .slice A3 k c3], .int .i64 0]) (by simp [results, Try.results9, go_sem, p0, p1]) rfl ⟨fun _ => ⟨A3, c3, by rw [decL_len], ?_⟩, fun h => (by rw [HZ.out, HRB.out] at h; cases h), ?_⟩
        · rw [HZ.out]; exact (V6.out.set F5.out GB.out _ _).set F5.out GB.out _ _
        · exact (K5.out.setCell (Nat.le_refl _) _).setCell (Nat.le_refl _) _
end Go.Proofs.Ytmgdpchjimlmeaa.Cat
