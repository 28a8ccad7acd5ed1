import Derived.Test.YthgkdpfkaobgoaaDoorM4
import Derived.Deep.AppendLies
import Derived.Test.YthgkdpfkaobgoaaDoorM2
import Derived.Test.YthgkdpfkaobgoaaDoorM3
import Derived.Laws.OwnMore
import Derived.Test.YthgkdpfkaobgoaaDoorM1
section
/-
  zint.Take.
-/
namespace Go.Proofs.YthgkdpfkaobgoaaDoor
open Go.RowKit
/-- A byte of a text. -/
def Bt (l : List UInt8) (i : Nat) : Nat := (l[i]?.getD 0).toNat
theorem bt_lt (l : List UInt8) (i : Nat) : Bt l i < 256 := UInt8.toNat_lt _
theorem bt_get (s : ByteArray) (i : Nat) (h : i < s.size) : (s[i]'h).toNat = Bt s.data.toList i := by
  have h' : i < s.data.toList.length := by simpa using h
  unfold Bt
  rw [List.getElem?_eq_getElem h']
  rfl
theorem bt_drop (l : List UInt8) (n i : Nat) : Bt (l.drop n) i = Bt l (n + i) := by unfold Bt; rw [List.getElem?_drop]
def hd2 (l : List UInt8) : Nat := Bt l 0 * 256 + Bt l 1
def u4 (l : List UInt8) (k : Nat) : Nat := Bt l k + 256 * Bt l (k + 1) + 65536 * Bt l (k + 2) + 16777216 * Bt l (k + 3)
def rdn (l : List UInt8) : Nat → List Nat
  | 0 => []
  | n + 1 => rdn l n ++ [u4 l (2 + 4 * n)]
theorem rdn_len (l : List UInt8) : ∀ n, (rdn l n).length = n
  | 0 => rfl
  | n + 1 => by simp [rdn, rdn_len l n]
theorem u4_lt (l : List UInt8) (k : Nat) : u4 l k < 4294967296 := by
  have h0 := bt_lt l k
  have h1 := bt_lt l (k + 1)
  have h2 := bt_lt l (k + 2)
  have h3 := bt_lt l (k + 3)
  unfold u4; omega
theorem rdn_ok (l : List UInt8) : ∀ n, ok32 (rdn l n)
  | 0 => fun _ h => by simp [rdn] at h
  | n + 1 => fun x h => by
    rcases List.mem_append.1 h with h | h
    · exact rdn_ok l n x h
    · rw [List.mem_singleton.1 h]; exact u4_lt _ _
theorem i64_or_nat (a b : Nat) (ha : a < 4294967296) (hb : b < 4294967296) : bits .or .i64 (a : Int) (b : Int) = ((a ||| b : Nat) : Int) := by
  have hx : a ||| b < 2 ^ 32 := Nat.or_lt_two_pow (by omega) (by omega)
  show IntKind.i64.wrap ((BitVec.ofInt 64 (a : Int) ||| BitVec.ofInt 64 (b : Int)).toNat : Int) = _
  rw [BitVec.toNat_or, ofInt_u64 a (by omega), ofInt_u64 b (by omega)]
  exact IntWalk.i64_in _ ⟨by omega, by omega⟩
theorem ext_drop (s : ByteArray) (n : Nat) : s.extract n s.size = ⟨(s.data.toList.drop n).toArray⟩ := by
  apply ByteArray.ext
  apply Array.toList_inj.1
  rw [Lib.extract_data]
  simp
  rw [List.take_of_length_le]
  simp
theorem head_or {b0 b1 h : Nat} (l0 : b0 < 256) (l1 : b1 < 256) (hH : b0 * 256 + b1 = h) : bits BinOp.or IntKind.i64 ((b0 : Int) * 256) (b1 : Int) = (h : Int) := by
  have e : (b0 : Int) * 256 = ((b0 * 256 : Nat) : Int) := by omega
  have e2 : b0 * 256 ||| b1 = h := by rw [← hH]; exact nat_join 8 _ _ (by omega) (by omega)
  rw [e, i64_or_nat _ _ (by omega) (by omega), e2]
theorem head_facts {b0 b1 h n : Nat} {neg : Bool} (l0 : b0 < 256) (l1 : b1 < 256) (hH : b0 * 256 + b1 = h) (hn : h / 2 = n) (hneg : decide (h % 2 = 1) = neg) :
    bits BinOp.or IntKind.i64 ((b0 : Int) * 256) (b1 : Int) = (h : Int) ∧ wrap64 ((h : Int).tdiv 2) = (n : Int) ∧ wrap64 ((h : Int) / 2) = (n : Int) ∧ ((h : Int).tmod 2 == 1) = neg ∧ ((h : Int) % 2 == 1) = neg := by
  have h0 : (0 : Int) ≤ (h : Int) := by omega
  have q : wrap64 ((h : Int) / 2) = (n : Int) := by rw [IntWalk.wrap64_in _ ⟨by omega, by omega⟩]; omega
  have r : ((h : Int) % 2 == 1) = neg := by
    rw [← hneg]
    rcases Nat.mod_two_eq_zero_or_one h with e | e
    · have e1 : (h : Int) % 2 = 0 := by omega
      rw [e1, e]; rfl
    · have e1 : (h : Int) % 2 = 1 := by omega
      rw [e1, e]; rfl
  refine ⟨head_or l0 l1 hH, ?_, q, ?_, r⟩
  · rw [Int.tdiv_eq_ediv_of_nonneg h0]; exact q
  · rw [Int.tmod_eq_emod_of_nonneg h0]; exact r
theorem wrap4f {n : Nat} (h : n ≤ 32767) : wrap64 ((n : Int) * 4) = (n : Int) * 4 := IntWalk.wrap64_in _ ⟨by omega, by omega⟩
theorem right_rd {A : Option Addr} {c n : Nat} {neg q : Bool} {l : List UInt8} {W : World} (hd : Dg W A c (rdn l n)) (hq : rightB neg (rdn l n) = q) (h4 : n ≤ 400) :
    Calls Tryd.prog 31 #[.agg #[.bool neg, .slice A n c]] W fun e w' => e = .returned (.bool q) ∧ Below W.heap.size W w' := by
  have h := right_any A c neg (rdn l n) W hd q hq (by rw [rdn_len]; omega)
  rw [rdn_len] at h
  exact h
theorem u32_v {x : Int} (h0 : 0 ≤ x) (h1 : x < 4294967296) : Value.int .u32 (IntKind.u32.wrap x) = Value.int .u32 x := by rw [IntWalk.u32_in _ ⟨h0, by omega⟩]
theorem own_set {w : World} {base size n g : Nat} {e : TypeId} {v : Value} {xs : List Value} (h : w.ownsRow base e size v n xs) (hg : g < base) (i : Nat) (u : Value) : (w.setCell ⟨g, i, none⟩ u).ownsRow base e size v n xs := by
  refine ⟨h.1, ?_⟩
  rcases h.2 with h1 | ⟨b, cap, cur, hv, hb, hc, rest⟩
  · exact .inl h1
  · exact .inr ⟨b, cap, cur, hv, hb, (heap_setCell_other w ⟨g, i, none⟩ b u (by simp; omega)).trans hc, rest⟩
theorem wrap4 {n : Nat} (h : n ≤ 400) : wrap64 ((n : Int) * 4) = (n : Int) * 4 := IntWalk.wrap64_in _ ⟨by omega, by omega⟩
theorem box_neg (w : World) (k : Nat) (neg : Bool) : (((((w.alloc (.cells #[.bool false, .slice none 0 0] 24)).drewN k).setCell ⟨w.heap.size, 0, none⟩ (.bool neg)).setCell ⟨w.heap.size, 1, none⟩ (.slice none 0 0)).heap[w.heap.size]? = some (.cells #[.bool neg, .slice none 0 0] 24 (0, 0))) ∧
    Below w.heap.size w ((((w.alloc (.cells #[.bool false, .slice none 0 0] 24)).drewN k).setCell ⟨w.heap.size, 0, none⟩ (.bool neg)).setCell ⟨w.heap.size, 1, none⟩ (.slice none 0 0)) := by
  constructor
  · have h0 : ((w.alloc (.cells #[.bool false, .slice none 0 0] 24)).drewN k).heap[w.heap.size]? = some (.cells #[.bool false, .slice none 0 0] 24 (0, 0)) := heap_alloc_new w _
    exact heap_setCell_same _ _ 1 _ _ (.slice none 0 0) (heap_setCell_same _ _ 0 _ _ (.bool neg) h0)
  · exact ((below_drewN (below1 w _) k).setCell (by simp) _).setCell (by simp) _
theorem cells_snoc (xs : List Nat) (x : Nat) : cells (xs ++ [x]) = cells xs ++ [.int .u32 (x : Int)] := by simp [cells]
theorem or3 {a b c d : Nat} (ha : a < 256) (hb : b < 256) (hc : c < 256) (hd : d < 256) :
    bits BinOp.or IntKind.u32 (a : Int) ((b : Int) * 256) = ((a + 256 * b : Nat) : Int) ∧ bits BinOp.or IntKind.u32 ((a + 256 * b : Nat) : Int) ((c : Int) * 65536) = ((a + 256 * b + 65536 * c : Nat) : Int) ∧
    bits BinOp.or IntKind.u32 ((a + 256 * b + 65536 * c : Nat) : Int) ((d : Int) * 16777216) = ((a + 256 * b + 65536 * c + 16777216 * d : Nat) : Int) := by
  refine ⟨?_, ?_, ?_⟩
  · rw [show (b : Int) * 256 = ((256 * b : Nat) : Int) by omega, u32_or_nat _ _ (by omega) (by omega), Nat.or_comm, nat_join 8 _ _ (by omega) (by omega)]; congr 1; omega
  · rw [show (c : Int) * 65536 = ((65536 * c : Nat) : Int) by omega, u32_or_nat _ _ (by omega) (by omega), Nat.or_comm, nat_join 16 _ _ (by omega) (by omega)]; congr 1; omega
  · rw [show (d : Int) * 16777216 = ((16777216 * d : Nat) : Int) by omega, u32_or_nat _ _ (by omega) (by omega), Nat.or_comm, nat_join 24 _ _ (by omega) (by omega)]; congr 1; omega
set_option maxHeartbeats 8000000 in
set_option maxRecDepth 100000 in
theorem ztake_go (s : ByteArray) (w : World) (l : List UInt8) (hl : s.data.toList = l) (h2 : 2 ≤ l.length) (n : Nat) (hn : hd2 l / 2 = n) (h4 : n ≤ 400) (h5 : 4 * n + 2 ≤ l.length) (hmax : l.length ≤ 9223372036854775807) (neg : Bool) (hneg : decide (hd2 l % 2 = 1) = neg) (q : Bool) (hq : rightB neg (rdn l n) = q) :
    Calls Tryd.prog 39 #[.string s] w fun e w' => Below w.heap.size w w' ∧ (q = false → e = .returned (.tuple #[.agg #[.bool false, .slice none 0 0], .string ⟨#[]⟩, .int .i64 2])) ∧
      (q = true → ∃ A c, e = .returned (.tuple #[.agg #[.bool neg, .slice A n c], .string ⟨(l.drop (2 + 4 * n)).toArray⟩, .int .i64 0]) ∧ Dg w' A c (rdn l n)) := by
  have hs : s.size = l.length := by rw [← hl]; simp
  have d0 : decide ((s.size : Int) < 2) = false := by simp; omega
  have n0 : 0 < s.size := by omega
  have n1 : 1 < s.size := by omega
  have e0 : (0 : Int) < (s.size : Int) := by omega
  have e1 : (1 : Int) < (s.size : Int) := by omega
  have e2 : (2 : Int) ≤ (s.size : Int) := by omega
  obtain ⟨b0, hb0⟩ : ∃ b0 : Nat, (s[0]'n0).toNat = b0 := ⟨_, rfl⟩
  obtain ⟨b1, hb1⟩ : ∃ b1 : Nat, (s[1]'n1).toNat = b1 := ⟨_, rfl⟩
  have l0 : b0 < 256 := by rw [← hb0]; exact UInt8.toNat_lt _
  have l1 : b1 < 256 := by rw [← hb1]; exact UInt8.toNat_lt _
  have hH : b0 * 256 + b1 = hd2 l := by unfold hd2; rw [← hl, ← bt_get s 0 n0, ← bt_get s 1 n1, hb0, hb1]
  obtain ⟨h, hh⟩ : ∃ h : Nat, hd2 l = h := ⟨_, rfl⟩
  rw [hh] at hH hn hneg
  have HF := Lib.hid (head_facts l0 l1 hH hn hneg)
  have HW4 := Lib.hid (wrap4 h4)
  have hbd := ext_drop s 2
  rw [hl] at hbd
  obtain ⟨bd, hbe⟩ : ∃ bd : ByteArray, s.extract 2 s.size = bd := ⟨_, rfl⟩
  rw [hbe] at hbd
  have hbl : bd.data.toList = l.drop 2 := by rw [hbd]
  have hbs : bd.size = l.length - 2 := by
    have : bd.data.toList.length = l.length - 2 := by rw [hbl]; simp
    simpa using this
  have d4 : decide ((400 : Int) < (n : Int)) = false := decide_eq_false (by omega)
  have d5 : decide ((bd.size : Int) < (n : Int) * 4) = false := decide_eq_false (by omega)
  have HBL := Lib.hid hbl
  have HBS := Lib.hid hbs
  have HQ := Lib.hid hq
  have HL := Lib.hid (And.intro h2 (And.intro h4 (And.intro h5 hmax)))
  obtain ⟨i0, hi, hz0, hz1, hz2⟩ := info_parts elem_info
  have RA := Lib.hid (fun A c W (hd : Dg W A c (rdn l n)) => right_rd hd hq h4)
  clear hs hH hh hn hneg hbd hbl hbs hq h2 h4 h5 hmax hl
  go_enter Tryd.func39, Tryd.ntmps39
  have hO := HF.out.1
  go_wp2_with fail
  go_quiet (fail)
  clear hO
  have hQ := HF.out.2.1
  have hQ2 := HF.out.2.2.1
  have hR2 := HF.out.2.2.2.1
  have hR3 := HF.out.2.2.2.2
  go_wp2_with fail
  go_quiet (fail)
  rw [hQ2]
  try rw [hR3]
  clear hQ hQ2 hR2 hR3
  have hW4 := HW4.out
  go_upto_region 9 with fail
  clear hW4
  go_loopw [43] (fun i wr => ∃ (k : Nat) (v : Value), k ≤ n ∧ i = .int .i64 k ∧ Hid (wr.heap[w.heap.size]? = some (.cells #[.bool neg, v] 24 (0, 0))) ∧ Hid (wr.ownsRow (w.heap.size + 1) 75 1 v k (cells (rdn l k))) ∧ Hid (Below w.heap.size w wr)) (fun i _ => n - (intOf i).toNat)
  case atStart => exact ⟨0, .slice none 0 0, Nat.zero_le _, rfl, Lib.hid (box_neg w _ neg).1, Lib.hid (World.ownsRow_nil _ _ _ _), Lib.hid (box_neg w _ neg).2⟩
  case round =>
    obtain ⟨k, v, hk, rfl, HC, HO, HB⟩ := hrel
    by_cases hlt : k < n
    · have hL := HL.out
      have hbs := HBS.out
      have hk400 : k ≤ 400 := by omega
      have hin : (k : Int) * 4 ≤ (bd.size : Int) := by omega
      have hde := ext_drop bd (4 * k)
      rw [HBL.out, List.drop_drop] at hde
      have hde2 : bd.extract (k * 4) bd.size = ⟨(l.drop (2 + 4 * k)).toArray⟩ := by rw [Nat.mul_comm]; exact hde
      have HDE := Lib.hid hde2
      obtain ⟨d, hd⟩ : ∃ d : ByteArray, bd.extract (k * 4) bd.size = d := ⟨_, rfl⟩
      have hdl : d.data.toList = l.drop (2 + 4 * k) := by rw [← hd, HDE.out]
      have hds : d.size = l.length - (2 + 4 * k) := by
        have : d.data.toList.length = l.length - (2 + 4 * k) := by rw [hdl]; simp
        simpa using this
      have k0 : 0 < d.size := by omega
      have k1 : 1 < d.size := by omega
      have k2 : 2 < d.size := by omega
      have k3 : 3 < d.size := by omega
      obtain ⟨c0, hc0⟩ : ∃ c : Nat, (d[0]'k0).toNat = c := ⟨_, rfl⟩
      obtain ⟨c1, hc1⟩ : ∃ c : Nat, (d[1]'k1).toNat = c := ⟨_, rfl⟩
      obtain ⟨c2, hc2⟩ : ∃ c : Nat, (d[2]'k2).toNat = c := ⟨_, rfl⟩
      obtain ⟨c3, hc3⟩ : ∃ c : Nat, (d[3]'k3).toNat = c := ⟨_, rfl⟩
      have m0 : c0 < 256 := by rw [← hc0]; exact UInt8.toNat_lt _
      have m1 : c1 < 256 := by rw [← hc1]; exact UInt8.toNat_lt _
      have m2 : c2 < 256 := by rw [← hc2]; exact UInt8.toNat_lt _
      have m3 : c3 < 256 := by rw [← hc3]; exact UInt8.toNat_lt _
      have OO := Lib.hid (or3 m0 m1 m2 m3)
      have RD := Lib.hid (show cells (rdn l (k + 1)) = cells (rdn l k) ++ [.int .u32 ((c0 + 256 * c1 + 65536 * c2 + 16777216 * c3 : Nat) : Int)] by
        have e : u4 l (2 + 4 * k) = c0 + 256 * c1 + 65536 * c2 + 16777216 * c3 := by
          unfold u4; rw [← Nat.add_zero (2 + 4 * k), Nat.add_assoc (2 + 4 * k) 0 1, Nat.add_assoc (2 + 4 * k) 0 2, Nat.add_assoc (2 + 4 * k) 0 3, Nat.zero_add, Nat.zero_add, Nat.zero_add, ← bt_drop, ← bt_drop, ← bt_drop, ← bt_drop, ← hdl, ← bt_get d 0 k0, ← bt_get d 1 k1, ← bt_get d 2 k2, ← bt_get d 3 k3, hc0, hc1, hc2, hc3]
        show cells (rdn l k ++ [u4 l (2 + 4 * k)]) = _
        rw [cells_snoc, e])
      generalize c0 + 256 * c1 + 65536 * c2 + 16777216 * c3 = X at *
      generalize c0 + 256 * c1 + 65536 * c2 = o2 at *
      generalize c0 + 256 * c1 = o1 at *
      have q0 : (0 : Int) < (d.size : Int) := by omega
      have q1 : (1 : Int) < (d.size : Int) := by omega
      have q2 : (2 : Int) < (d.size : Int) := by omega
      have q3 : (3 : Int) < (d.size : Int) := by omega
      have HK := Lib.hid (And.intro hL (And.intro hbs hds))
      clear hL hbs hde hde2 hdl hds
      have hk4 := wrap4 hk400
      go_upto_region 12 with fail
      rw [hd]
      clear hk4 hd
      refine wp_operands (W := wr) rfl 21 [50, 51, 52, 53, 54, 55, 56, 57, 58, 59, 60, 61, 62, 63, 64, 65, 66, 67, 68, 69, 70] (fun i u x => match i with | 0 => u = .pointer (some ⟨w.heap.size, 1, none⟩) | 1 => u = v | 2 => u = .string d | 3 => u = .int .u8 (c0 : Int) | 4 => u = .int .u32 (c0 : Int) | 5 => u = .string d | 6 => u = .int .u8 (c1 : Int) | 7 => u = .int .u32 (c1 : Int) | 8 => u = .int .u32 ((c1 : Int) * 256) | 9 => u = .int .u32 (o1 : Int) | 10 => u = .string d | 11 => u = .int .u8 (c2 : Int) | 12 => u = .int .u32 (c2 : Int) | 13 => u = .int .u32 ((c2 : Int) * 65536) | 14 => u = .int .u32 (o2 : Int) | 15 => u = .string d | 16 => u = .int .u8 (c3 : Int) | 17 => u = .int .u32 (c3 : Int) | 18 => u = .int .u32 ((c3 : Int) * 16777216) | 19 => u = .int .u32 (X : Int) | 20 => ∃ g, u = .slice (some ⟨g, 0, none⟩) 1 1 ∧ x.heap[g]? = some (.cells #[.int .u32 (X : Int)] 75 (0, 0)) | _ => True) (fun _ => false)
        (by decide) rfl (by kernel_rfl) (by kernel_rfl) (by decide) (by kernel_rfl) ?_ (fun _ _ _ h => by cases h) ?_ ?_
      · intro i u x x' hi hR hb'
        have hi' : i = 0 ∨ i = 1 ∨ i = 2 ∨ i = 3 ∨ i = 4 ∨ i = 5 ∨ i = 6 ∨ i = 7 ∨ i = 8 ∨ i = 9 ∨ i = 10 ∨ i = 11 ∨ i = 12 ∨ i = 13 ∨ i = 14 ∨ i = 15 ∨ i = 16 ∨ i = 17 ∨ i = 18 ∨ i = 19 ∨ i = 20 := by omega
        rcases hi' with rfl | rfl | rfl | rfl | rfl | rfl | rfl | rfl | rfl | rfl | rfl | rfl | rfl | rfl | rfl | rfl | rfl | rfl | rfl | rfl | rfl
        · exact hR
        · exact hR
        · exact hR
        · exact hR
        · exact hR
        · exact hR
        · exact hR
        · exact hR
        · exact hR
        · exact hR
        · exact hR
        · exact hR
        · exact hR
        · exact hR
        · exact hR
        · exact hR
        · exact hR
        · exact hR
        · exact hR
        · exact hR
        · obtain ⟨g, e, hg⟩ := hR; exact ⟨g, e, (hb'.block g (heap_lt hg)).trans hg⟩
      · intro i a x K hi hF hb' hw hK
        have hi' : i = 0 ∨ i = 1 ∨ i = 2 ∨ i = 3 ∨ i = 4 ∨ i = 5 ∨ i = 6 ∨ i = 7 ∨ i = 8 ∨ i = 9 ∨ i = 10 ∨ i = 11 ∨ i = 12 ∨ i = 13 ∨ i = 14 ∨ i = 15 ∨ i = 16 ∨ i = 17 ∨ i = 18 ∨ i = 19 ∨ i = 20 := by omega
        rcases hi' with rfl | rfl | rfl | rfl | rfl | rfl | rfl | rfl | rfl | rfl | rfl | rfl | rfl | rfl | rfl | rfl | rfl | rfl | rfl | rfl | rfl
        · simp only [wpOp, List.getElem?_toArray, List.getElem?_cons_zero, Region.wanted, if_true]
          refine Or.inl ?_
          have e0 : a.eval (.tmp 2) = .pointer (some ⟨w.heap.size, 0, none⟩) := hF.2.2 2 (by decide)
          clear hw hF
          simp only [Oper.wp, execOp]
          rw [e0]
          go_simp
          exact hK _ x (by first | rfl | exact u32_v (by omega) (by omega) | (rw [O]; done) | (congr 1; omega)) (Below.refl _ _) (fun h => by cases h)
        · simp only [wpOp, List.getElem?_toArray, List.getElem?_cons_succ, List.getElem?_cons_zero, Region.wanted, if_true]
          refine Or.inl ?_
          have e0 : a.tmps.getD 50 undef = .pointer (some ⟨w.heap.size, 1, none⟩) := hw 0 (by kernel_rfl)
          have f := row_cell HC.out hb' 1
          simp only [List.getElem?_toArray, List.getElem?_cons_succ, List.getElem?_cons_zero] at f
          clear hw hF
          simp only [Oper.wp, execOp]
          go_simp
          exact hK _ x (by first | rfl | exact u32_v (by omega) (by omega) | (rw [O]; done) | (congr 1; omega)) (Below.refl _ _) (fun h => by cases h)
        · simp only [wpOp, List.getElem?_toArray, List.getElem?_cons_succ, List.getElem?_cons_zero, Region.wanted, if_true]
          refine Or.inl ?_
          have e0 : a.eval (.tmp 10) = .string d := hF.2.2 10 (by decide)
          clear hw hF
          simp only [Oper.wp, execOp]
          rw [e0]
          go_simp
          exact hK _ x (by first | rfl | exact u32_v (by omega) (by omega) | (rw [O]; done) | (congr 1; omega)) (Below.refl _ _) (fun h => by cases h)
        · simp only [wpOp, List.getElem?_toArray, List.getElem?_cons_succ, List.getElem?_cons_zero, Region.wanted, if_true]
          refine Or.inl ?_
          have e0 : a.tmps.getD 52 undef = .string d := hw 2 (by kernel_rfl)
          clear hw hF
          simp only [Oper.wp, execOp]
          go_simp
          exact hK _ x (by first | rfl | exact u32_v (by omega) (by omega) | (rw [O]; done) | (congr 1; omega)) (Below.refl _ _) (fun h => by cases h)
        · simp only [wpOp, List.getElem?_toArray, List.getElem?_cons_succ, List.getElem?_cons_zero, Region.wanted, if_true]
          refine Or.inl ?_
          have e0 : a.tmps.getD 53 undef = .int .u8 (c0 : Int) := hw 3 (by kernel_rfl)
          clear hw hF
          simp only [Oper.wp, execOp]
          go_simp
          exact hK _ x (by first | rfl | exact u32_v (by omega) (by omega) | (rw [O]; done) | (congr 1; omega)) (Below.refl _ _) (fun h => by cases h)
        · simp only [wpOp, List.getElem?_toArray, List.getElem?_cons_succ, List.getElem?_cons_zero, Region.wanted, if_true]
          refine Or.inl ?_
          have e0 : a.eval (.tmp 10) = .string d := hF.2.2 10 (by decide)
          clear hw hF
          simp only [Oper.wp, execOp]
          rw [e0]
          go_simp
          exact hK _ x (by first | rfl | exact u32_v (by omega) (by omega) | (rw [O]; done) | (congr 1; omega)) (Below.refl _ _) (fun h => by cases h)
        · simp only [wpOp, List.getElem?_toArray, List.getElem?_cons_succ, List.getElem?_cons_zero, Region.wanted, if_true]
          refine Or.inl ?_
          have e0 : a.tmps.getD 55 undef = .string d := hw 5 (by kernel_rfl)
          clear hw hF
          simp only [Oper.wp, execOp]
          go_simp
          exact hK _ x (by first | rfl | exact u32_v (by omega) (by omega) | (rw [O]; done) | (congr 1; omega)) (Below.refl _ _) (fun h => by cases h)
        · simp only [wpOp, List.getElem?_toArray, List.getElem?_cons_succ, List.getElem?_cons_zero, Region.wanted, if_true]
          refine Or.inl ?_
          have e0 : a.tmps.getD 56 undef = .int .u8 (c1 : Int) := hw 6 (by kernel_rfl)
          clear hw hF
          simp only [Oper.wp, execOp]
          go_simp
          exact hK _ x (by first | rfl | exact u32_v (by omega) (by omega) | (rw [O]; done) | (congr 1; omega)) (Below.refl _ _) (fun h => by cases h)
        · simp only [wpOp, List.getElem?_toArray, List.getElem?_cons_succ, List.getElem?_cons_zero, Region.wanted, if_true]
          refine Or.inl ?_
          have e0 : a.tmps.getD 57 undef = .int .u32 (c1 : Int) := hw 7 (by kernel_rfl)
          clear hw hF
          simp only [Oper.wp, execOp]
          go_simp
          exact hK _ x (by first | rfl | exact u32_v (by omega) (by omega) | (rw [O]; done) | (congr 1; omega)) (Below.refl _ _) (fun h => by cases h)
        · simp only [wpOp, List.getElem?_toArray, List.getElem?_cons_succ, List.getElem?_cons_zero, Region.wanted, if_true]
          refine Or.inl ?_
          have e0 : a.tmps.getD 54 undef = .int .u32 (c0 : Int) := hw 4 (by kernel_rfl)
          have e1 : a.tmps.getD 58 undef = .int .u32 ((c1 : Int) * 256) := hw 8 (by kernel_rfl)
          have O := OO.out.1
          clear hw hF
          simp only [Oper.wp, execOp]
          go_simp
          exact hK _ x (by first | rfl | exact u32_v (by omega) (by omega) | (rw [O]; done) | (congr 1; omega)) (Below.refl _ _) (fun h => by cases h)
        · simp only [wpOp, List.getElem?_toArray, List.getElem?_cons_succ, List.getElem?_cons_zero, Region.wanted, if_true]
          refine Or.inl ?_
          have e0 : a.eval (.tmp 10) = .string d := hF.2.2 10 (by decide)
          clear hw hF
          simp only [Oper.wp, execOp]
          rw [e0]
          go_simp
          exact hK _ x (by first | rfl | exact u32_v (by omega) (by omega) | (rw [O]; done) | (congr 1; omega)) (Below.refl _ _) (fun h => by cases h)
        · simp only [wpOp, List.getElem?_toArray, List.getElem?_cons_succ, List.getElem?_cons_zero, Region.wanted, if_true]
          refine Or.inl ?_
          have e0 : a.tmps.getD 60 undef = .string d := hw 10 (by kernel_rfl)
          clear hw hF
          simp only [Oper.wp, execOp]
          go_simp
          exact hK _ x (by first | rfl | exact u32_v (by omega) (by omega) | (rw [O]; done) | (congr 1; omega)) (Below.refl _ _) (fun h => by cases h)
        · simp only [wpOp, List.getElem?_toArray, List.getElem?_cons_succ, List.getElem?_cons_zero, Region.wanted, if_true]
          refine Or.inl ?_
          have e0 : a.tmps.getD 61 undef = .int .u8 (c2 : Int) := hw 11 (by kernel_rfl)
          clear hw hF
          simp only [Oper.wp, execOp]
          go_simp
          exact hK _ x (by first | rfl | exact u32_v (by omega) (by omega) | (rw [O]; done) | (congr 1; omega)) (Below.refl _ _) (fun h => by cases h)
        · simp only [wpOp, List.getElem?_toArray, List.getElem?_cons_succ, List.getElem?_cons_zero, Region.wanted, if_true]
          refine Or.inl ?_
          have e0 : a.tmps.getD 62 undef = .int .u32 (c2 : Int) := hw 12 (by kernel_rfl)
          clear hw hF
          simp only [Oper.wp, execOp]
          go_simp
          exact hK _ x (by first | rfl | exact u32_v (by omega) (by omega) | (rw [O]; done) | (congr 1; omega)) (Below.refl _ _) (fun h => by cases h)
        · simp only [wpOp, List.getElem?_toArray, List.getElem?_cons_succ, List.getElem?_cons_zero, Region.wanted, if_true]
          refine Or.inl ?_
          have e0 : a.tmps.getD 59 undef = .int .u32 (o1 : Int) := hw 9 (by kernel_rfl)
          have e1 : a.tmps.getD 63 undef = .int .u32 ((c2 : Int) * 65536) := hw 13 (by kernel_rfl)
          have O := OO.out.2.1
          clear hw hF
          simp only [Oper.wp, execOp]
          go_simp
          exact hK _ x (by first | rfl | exact u32_v (by omega) (by omega) | (rw [O]; done) | (congr 1; omega)) (Below.refl _ _) (fun h => by cases h)
        · simp only [wpOp, List.getElem?_toArray, List.getElem?_cons_succ, List.getElem?_cons_zero, Region.wanted, if_true]
          refine Or.inl ?_
          have e0 : a.eval (.tmp 10) = .string d := hF.2.2 10 (by decide)
          clear hw hF
          simp only [Oper.wp, execOp]
          rw [e0]
          go_simp
          exact hK _ x (by first | rfl | exact u32_v (by omega) (by omega) | (rw [O]; done) | (congr 1; omega)) (Below.refl _ _) (fun h => by cases h)
        · simp only [wpOp, List.getElem?_toArray, List.getElem?_cons_succ, List.getElem?_cons_zero, Region.wanted, if_true]
          refine Or.inl ?_
          have e0 : a.tmps.getD 65 undef = .string d := hw 15 (by kernel_rfl)
          clear hw hF
          simp only [Oper.wp, execOp]
          go_simp
          exact hK _ x (by first | rfl | exact u32_v (by omega) (by omega) | (rw [O]; done) | (congr 1; omega)) (Below.refl _ _) (fun h => by cases h)
        · simp only [wpOp, List.getElem?_toArray, List.getElem?_cons_succ, List.getElem?_cons_zero, Region.wanted, if_true]
          refine Or.inl ?_
          have e0 : a.tmps.getD 66 undef = .int .u8 (c3 : Int) := hw 16 (by kernel_rfl)
          clear hw hF
          simp only [Oper.wp, execOp]
          go_simp
          exact hK _ x (by first | rfl | exact u32_v (by omega) (by omega) | (rw [O]; done) | (congr 1; omega)) (Below.refl _ _) (fun h => by cases h)
        · simp only [wpOp, List.getElem?_toArray, List.getElem?_cons_succ, List.getElem?_cons_zero, Region.wanted, if_true]
          refine Or.inl ?_
          have e0 : a.tmps.getD 67 undef = .int .u32 (c3 : Int) := hw 17 (by kernel_rfl)
          clear hw hF
          simp only [Oper.wp, execOp]
          go_simp
          exact hK _ x (by first | rfl | exact u32_v (by omega) (by omega) | (rw [O]; done) | (congr 1; omega)) (Below.refl _ _) (fun h => by cases h)
        · simp only [wpOp, List.getElem?_toArray, List.getElem?_cons_succ, List.getElem?_cons_zero, Region.wanted, if_true]
          refine Or.inl ?_
          have e0 : a.tmps.getD 64 undef = .int .u32 (o2 : Int) := hw 14 (by kernel_rfl)
          have e1 : a.tmps.getD 68 undef = .int .u32 ((c3 : Int) * 16777216) := hw 18 (by kernel_rfl)
          have O := OO.out.2.2
          clear hw hF
          simp only [Oper.wp, execOp]
          go_simp
          exact hK _ x (by first | rfl | exact u32_v (by omega) (by omega) | (rw [O]; done) | (congr 1; omega)) (Below.refl _ _) (fun h => by cases h)
        · simp only [wpOp, List.getElem?_toArray, List.getElem?_cons_succ, List.getElem?_cons_zero, Region.wanted, if_true]
          refine Or.inl ?_
          have e0 : a.tmps.getD 69 undef = .int .u32 (X : Int) := hw 19 (by kernel_rfl)
          clear hw hF
          simp only [Oper.wp, execOp]
          have e1 : a.tmps[69]?.getD undef = .int .u32 (X : Int) := by simpa using e0
          clear e0
          go_simp
          exact hK _ _ ⟨_, rfl, heap_alloc_new _ _⟩ (below1 _ _) (fun h => by cases h)
      · intro a x hF hb' hR _
        obtain ⟨gN, e20, hgN⟩ := hR 20 (by decide)
        have e0 : a.tmps.getD 50 undef = .pointer (some ⟨w.heap.size, 1, none⟩) := hR 0 (by decide)
        have e1 : a.tmps.getD 51 undef = v := hR 1 (by decide)
        have e2 : a.tmps.getD 52 undef = .string d := hR 2 (by decide)
        have e3 : a.tmps.getD 53 undef = .int .u8 (c0 : Int) := hR 3 (by decide)
        have e4 : a.tmps.getD 54 undef = .int .u32 (c0 : Int) := hR 4 (by decide)
        have e5 : a.tmps.getD 55 undef = .string d := hR 5 (by decide)
        have e6 : a.tmps.getD 56 undef = .int .u8 (c1 : Int) := hR 6 (by decide)
        have e7 : a.tmps.getD 57 undef = .int .u32 (c1 : Int) := hR 7 (by decide)
        have e8 : a.tmps.getD 58 undef = .int .u32 ((c1 : Int) * 256) := hR 8 (by decide)
        have e9 : a.tmps.getD 59 undef = .int .u32 (o1 : Int) := hR 9 (by decide)
        have e10 : a.tmps.getD 60 undef = .string d := hR 10 (by decide)
        have e11 : a.tmps.getD 61 undef = .int .u8 (c2 : Int) := hR 11 (by decide)
        have e12 : a.tmps.getD 62 undef = .int .u32 (c2 : Int) := hR 12 (by decide)
        have e13 : a.tmps.getD 63 undef = .int .u32 ((c2 : Int) * 65536) := hR 13 (by decide)
        have e14 : a.tmps.getD 64 undef = .int .u32 (o2 : Int) := hR 14 (by decide)
        have e15 : a.tmps.getD 65 undef = .string d := hR 15 (by decide)
        have e16 : a.tmps.getD 66 undef = .int .u8 (c3 : Int) := hR 16 (by decide)
        have e17 : a.tmps.getD 67 undef = .int .u32 (c3 : Int) := hR 17 (by decide)
        have e18 : a.tmps.getD 68 undef = .int .u32 ((c3 : Int) * 16777216) := hR 18 (by decide)
        have e19 : a.tmps.getD 69 undef = .int .u32 (X : Int) := hR 19 (by decide)
        rw [hF.fold (by kernel_rfl)]
        have e20b : a.tmps.getD 70 undef = .slice (some ⟨gN, 0, none⟩) 1 1 := e20
        simp only [List.foldl_cons, List.foldl_nil, e0, e1, e2, e3, e4, e5, e6, e7, e8, e9, e10, e11, e12, e13, e14, e15, e16, e17, e18, e19, e20b]
        simp only [Act.put, List.setIfInBounds_toArray, List.set_cons_zero, List.set_cons_succ]
        change wpOps _ _ _ [21, 22, 23] _ _
        simp only [wpOps_cons]
        clear e0 e1 e2 e3 e4 e5 e6 e7 e8 e9 e10 e11 e12 e13 e14 e15 e16 e17 e18 e19 e20 e20b hR hF
        have HCx := Lib.hid (cells_of HC.out hb')
        have HOx := Lib.hid (own_later HO.out hb')
        have HBx := Lib.hid (HB.out.trans (hb'.mono HB.out.size))
        have HGN := Lib.hid hgN
        have zx := hb'.size
        have zw := HB.out.size
        have zg := heap_lt HC.out
        clear hb' hgN
        simp only [wpOp, List.getElem?_toArray, List.getElem?_cons_succ, List.getElem?_cons_zero, Region.wanted, if_true]
        refine Or.inl ?_
        refine wp_append_lies _ (.tmp 51) (.tmp 70) 22 rfl (w.heap.size + 1) 75 i0 (.int .u32 0) 1 4 Tryd.underlying22 hi hz0 hz1 hz2 rfl (by decide) v k (cells (rdn l k)) rfl HOx.out ⟨gN, 0, none⟩ 1 1 [.int .u32 (X : Int)] rfl rfl (World.news_of_block HGN.out) (by intro u hu; simp at hu; subst hu; rfl) (by omega) (by unfold maxLen; omega) (by omega) (by omega) _ rfl ?_
        intro g' cap w9 hown hgrow hat hlt9
        have HC9 := Lib.hid ((hgrow.block w.heap.size (by omega) (fun e => by have := (HOx.out.lt _ e.symm).1; omega)).trans HCx.out)
        have HB9 := Lib.hid (HBx.out.grown hgrow (by omega) (fun k hk => by have := (HOx.out.lt k hk).1; omega))
        have HO9 := Lib.hid (show w9.ownsRow (w.heap.size + 1) 75 1 (.slice (some ⟨g', 0, none⟩) (k + 1) cap) (k + 1) (cells (rdn l (k + 1))) by rw [RD.out]; exact hown)
        clear hown hgrow hat hlt9
        have f0 := cell_of_row w9 _ 0 _ _ _ HC9.out
        have f1 := cell_of_row w9 _ 1 _ _ _ HC9.out
        simp only [List.getElem?_toArray, List.getElem?_cons_succ, List.getElem?_cons_zero] at f0 f1
        have q1 := frozen_of_row w9 _ 1 _ _ HC9.out
        have z9 := heap_lt HC9.out
        go_simp
        rw [wpOps_cons]
        simp only [wpOp, List.getElem?_toArray, List.getElem?_cons_succ, List.getElem?_cons_zero, Region.wanted, if_true]
        refine Or.inl ?_
        simp only [Oper.wp, execOp]
        go_simp
        try rw [wpOps_cons]
        simp only [wpOp, List.getElem?_toArray, List.getElem?_cons_succ, List.getElem?_cons_zero, Region.wanted, if_true]
        refine Or.inl ?_
        simp only [Oper.wp, execOp]
        go_simp
        try simp only [wpOps]
        have HK9 := Lib.hid (And.intro HC9.out (And.intro HO9.out HB9.out))
        clear f0 f1 q1 z9 HC9 HO9 HB9 HCx HOx HBx HGN zx zw zg
        go_wp2
        go_roundw
        case rel => exact ⟨k + 1, _, by omega, by go_num, Lib.hid (heap_setCell_same _ _ 1 _ _ _ HK9.out.1), Lib.hid (own_set HK9.out.2.1 (by omega) _ _), Lib.hid (HK9.out.2.2.setCell (by simp) _)⟩
        case measure => simp [intOf]; omega
    · obtain rfl : k = n := by omega
      obtain ⟨A, c, hv, hdg⟩ := dg_of_own HO.out (rdn_ok l k)
      rw [rdn_len] at hv
      subst hv
      have HDG := Lib.hid hdg
      clear hdg
      have f0 := cell_of_row wr _ 0 _ _ _ HC.out
      have f1 := cell_of_row wr _ 1 _ _ _ HC.out
      simp only [List.getElem?_toArray, List.getElem?_cons_succ, List.getElem?_cons_zero] at f0 f1
      have zg := heap_lt HC.out
      go_wp2_with fail
      refine (RA.out A c _ HDG.out).mono ?_
      rintro e w5 ⟨rfl, hb⟩
      have HC5 := Lib.hid (cells_of HC.out hb)
      have HB5 := Lib.hid (HB.out.trans (hb.mono HB.out.size))
      have HD5 := Lib.hid (HDG.out.below hb)
      clear hb f0 f1 zg
      have f0 := cell_of_row w5 _ 0 _ _ _ HC5.out
      have f1 := cell_of_row w5 _ 1 _ _ _ HC5.out
      simp only [List.getElem?_toArray, List.getElem?_cons_succ, List.getElem?_cons_zero] at f0 f1
      have q0 := frozen_of_row w5 _ 0 _ _ HC5.out
      have q1 := frozen_of_row w5 _ 1 _ _ HC5.out
      have zg := heap_lt HC5.out
      cases q
      · go_wp2
        obtain ⟨w6, hw6⟩ : ∃ w6 : World, w6 = (w5.setCell ⟨w.heap.size, 0, none⟩ (.bool false)).setCell ⟨w.heap.size, 1, none⟩ (.slice none 0 0) := ⟨_, rfl⟩
        rw [← hw6]
        have HC6 : w6.heap[w.heap.size]? = some (.cells #[.bool false, .slice none 0 0] 24 (0, 0)) := by
          rw [hw6]; exact heap_setCell_same _ _ 1 _ _ (.slice none 0 0) (heap_setCell_same _ _ 0 _ _ (.bool false) HC5.out)
        have HB6 : Below w.heap.size w w6 := by rw [hw6]; exact (HB5.out.setCell (by simp) _).setCell (by simp) _
        have r0 := cell_of_row w6 _ 0 _ _ _ HC6
        have r1 := cell_of_row w6 _ 1 _ _ _ HC6
        simp only [List.getElem?_toArray, List.getElem?_cons_succ, List.getElem?_cons_zero] at r0 r1
        refine bodyPost_ret (v := .tuple #[.agg #[.bool false, .slice none 0 0], .string ⟨#[]⟩, .int .i64 2]) (by simp [results, Tryd.results39, go_sem, r0, r1]) rfl ?_
        exact ⟨HB6, rfl⟩
      · have hin : (k : Int) * 4 ≤ (bd.size : Int) := by have := HL.out; have := HBS.out; omega
        have hk4 := wrap4 (n := k) HL.out.2.1
        go_wp2_with fail
        go_region
        go_wp2
        obtain ⟨w6, hw6⟩ : ∃ w6 : World, w6 = ((w5.setCell ⟨w.heap.size, 0, none⟩ (.bool neg)).setCell ⟨w.heap.size, 1, none⟩ (.slice A k c)).drew := ⟨_, rfl⟩
        rw [← hw6]
        have HC6 : w6.heap[w.heap.size]? = some (.cells #[.bool neg, .slice A k c] 24 (0, 0)) := by
          rw [hw6]; exact heap_setCell_same _ _ 1 _ _ (.slice A k c) (heap_setCell_same _ _ 0 _ _ (.bool neg) HC5.out)
        have HB6 : Below w.heap.size w w6 := by rw [hw6]; exact below_drewN ((HB5.out.setCell (by simp) _).setCell (by simp) _) 1
        have KP : Kept w5 w6 := by
          rw [hw6]
          exact ((((Only.refl _ w5).setCell 0 _).kept HC5.out noint2').trans (((Only.refl _ _).setCell 1 _).kept (heap_setCell_same _ _ 0 _ _ (.bool neg) HC5.out) noint2')).trans (Kept.below (below_drewN (Below.refl _ _) 1))
        have r0 := cell_of_row w6 _ 0 _ _ _ HC6
        have r1 := cell_of_row w6 _ 1 _ _ _ HC6
        simp only [List.getElem?_toArray, List.getElem?_cons_succ, List.getElem?_cons_zero] at r0 r1
        have hx : bd.extract (k * 4) bd.size = ⟨(l.drop (2 + 4 * k)).toArray⟩ := by
          rw [Nat.mul_comm, ext_drop bd (4 * k), HBL.out, List.drop_drop]
        rw [hx]
        refine bodyPost_ret (v := .tuple #[.agg #[.bool neg, .slice A k c], .string ⟨(l.drop (2 + 4 * k)).toArray⟩, .int .i64 0]) (by simp [results, Tryd.results39, go_sem, r0, r1]) rfl ?_
        exact ⟨HB6, A, c, rfl, HD5.out.kept KP⟩
/-- What Take reads. -/
def tkOk (l : List UInt8) : Prop := 2 ≤ l.length ∧ hd2 l / 2 ≤ 400 ∧ 4 * (hd2 l / 2) + 2 ≤ l.length ∧ rightB (decide (hd2 l % 2 = 1)) (rdn l (hd2 l / 2)) = true
set_option maxHeartbeats 2000000 in
set_option maxRecDepth 100000 in
theorem ztake_short (s : ByteArray) (w : World) (h2 : s.size < 2) :
    Calls Tryd.prog 39 #[.string s] w fun e w' => Below w.heap.size w w' ∧ e = .returned (.tuple #[.agg #[.bool false, .slice none 0 0], .string ⟨#[]⟩, .int .i64 2]) := by
  have d0 : decide ((s.size : Int) < 2) = true := decide_eq_true (by omega)
  clear h2
  go_enter Tryd.func39, Tryd.ntmps39
  go_wp2
  refine bodyPost_ret (v := .tuple #[.agg #[.bool false, .slice none 0 0], .string ⟨#[]⟩, .int .i64 2]) (by simp [results, Tryd.results39, go_sem]) rfl ?_
  exact ⟨below1 w _, rfl⟩
set_option maxHeartbeats 8000000 in
set_option maxRecDepth 100000 in
theorem ztake_far (s : ByteArray) (w : World) (l : List UInt8) (hl : s.data.toList = l) (h2 : 2 ≤ l.length) (n : Nat) (hn : hd2 l / 2 = n) (hno : 400 < n ∨ l.length < 4 * n + 2) (hmax : l.length ≤ 9223372036854775807) :
    Calls Tryd.prog 39 #[.string s] w fun e w' => Below w.heap.size w w' ∧ e = .returned (.tuple #[.agg #[.bool false, .slice none 0 0], .string ⟨#[]⟩, .int .i64 2]) := by
  have hs : s.size = l.length := by rw [← hl]; simp
  have d0 : decide ((s.size : Int) < 2) = false := by simp; omega
  have n0 : 0 < s.size := by omega
  have n1 : 1 < s.size := by omega
  have e0 : (0 : Int) < (s.size : Int) := by omega
  have e1 : (1 : Int) < (s.size : Int) := by omega
  have e2 : (2 : Int) ≤ (s.size : Int) := by omega
  obtain ⟨b0, hb0⟩ : ∃ b0 : Nat, (s[0]'n0).toNat = b0 := ⟨_, rfl⟩
  obtain ⟨b1, hb1⟩ : ∃ b1 : Nat, (s[1]'n1).toNat = b1 := ⟨_, rfl⟩
  have l0 : b0 < 256 := by rw [← hb0]; exact UInt8.toNat_lt _
  have l1 : b1 < 256 := by rw [← hb1]; exact UInt8.toNat_lt _
  have hH : b0 * 256 + b1 = hd2 l := by unfold hd2; rw [← hl, ← bt_get s 0 n0, ← bt_get s 1 n1, hb0, hb1]
  obtain ⟨h, hh⟩ : ∃ h : Nat, hd2 l = h := ⟨_, rfl⟩
  rw [hh] at hH hn
  have hnb : n ≤ 32767 := by omega
  have HF := Lib.hid (head_facts (neg := decide (h % 2 = 1)) l0 l1 hH hn rfl)
  have HW4 := Lib.hid (wrap4f hnb)
  have hbd := ext_drop s 2
  rw [hl] at hbd
  obtain ⟨bd, hbe⟩ : ∃ bd : ByteArray, s.extract 2 s.size = bd := ⟨_, rfl⟩
  rw [hbe] at hbd
  have hbl : bd.data.toList = l.drop 2 := by rw [hbd]
  have hbs : bd.size = l.length - 2 := by
    have : bd.data.toList.length = l.length - 2 := by rw [hbl]; simp
    simpa using this
  by_cases hf : 400 < n
  · have d4 : decide ((400 : Int) < (n : Int)) = true := decide_eq_true (by omega)
    clear hs hH hh hn hno hbd hbl hbs hmax hl hf hnb
    go_enter Tryd.func39, Tryd.ntmps39
    have hO := HF.out.1
    go_wp2_with fail
    go_quiet (fail)
    clear hO
    have hQ := HF.out.2.1
    have hQ2 := HF.out.2.2.1
    go_wp2_with fail
    go_quiet (fail)
    try rw [hQ2]
    clear hQ hQ2
    go_wp2
    refine bodyPost_ret (v := .tuple #[.agg #[.bool false, .slice none 0 0], .string ⟨#[]⟩, .int .i64 2]) (by simp [results, Tryd.results39, go_sem]) rfl ?_
    exact ⟨((below_drewN (below1 w _) _).setCell (by simp) _).setCell (by simp) _, rfl⟩
  · have d4 : decide ((400 : Int) < (n : Int)) = false := decide_eq_false (by omega)
    have d5 : decide ((bd.size : Int) < (n : Int) * 4) = true := decide_eq_true (by omega)
    clear hs hH hh hn hno hbd hbl hbs hmax hl hf hnb
    go_enter Tryd.func39, Tryd.ntmps39
    have hO := HF.out.1
    go_wp2_with fail
    go_quiet (fail)
    clear hO
    have hQ := HF.out.2.1
    have hQ2 := HF.out.2.2.1
    go_wp2_with fail
    go_quiet (fail)
    try rw [hQ2]
    clear hQ hQ2
    have hW4 := HW4.out
    go_wp2
    refine bodyPost_ret (v := .tuple #[.agg #[.bool false, .slice none 0 0], .string ⟨#[]⟩, .int .i64 2]) (by simp [results, Tryd.results39, go_sem]) rfl ?_
    exact ⟨((below_drewN (below1 w _) _).setCell (by simp) _).setCell (by simp) _, rfl⟩
/-- WHAT TAKE READS, and what stands behind it. -/
theorem ztake_any (s : ByteArray) (w : World) (l : List UInt8) (hl : s.data.toList = l) (hmax : l.length ≤ 9223372036854775807) :
    Calls Tryd.prog 39 #[.string s] w fun e w' => Below w.heap.size w w' ∧ (¬ tkOk l → e = .returned (.tuple #[.agg #[.bool false, .slice none 0 0], .string ⟨#[]⟩, .int .i64 2])) ∧
      (tkOk l → ∃ A c, e = .returned (.tuple #[.agg #[.bool (decide (hd2 l % 2 = 1)), .slice A (hd2 l / 2) c], .string ⟨(l.drop (2 + 4 * (hd2 l / 2))).toArray⟩, .int .i64 0]) ∧ Dg w' A c (rdn l (hd2 l / 2))) := by
  have hs : s.size = l.length := by rw [← hl]; simp
  by_cases h2 : l.length < 2
  · exact (ztake_short s w (by omega)).mono fun e w' ⟨hb, he⟩ => ⟨hb, fun _ => he, fun h => by have := h.1; omega⟩
  · by_cases h3 : 400 < hd2 l / 2 ∨ l.length < 4 * (hd2 l / 2) + 2
    · exact (ztake_far s w l hl (by omega) _ rfl h3 hmax).mono fun e w' ⟨hb, he⟩ => ⟨hb, fun _ => he, fun h => by have := h.2.1; have := h.2.2.1; omega⟩
    · refine (ztake_go s w l hl (by omega) _ rfl (by omega) (by omega) hmax _ rfl _ rfl).mono ?_
      rintro e w' ⟨hb, h4, h5⟩
      refine ⟨hb, fun h => h4 ?_, fun h => h5 h.2.2.2⟩
      by_cases hr : rightB (decide (hd2 l % 2 = 1)) (rdn l (hd2 l / 2)) = true
      · exact absurd ⟨by omega, by omega, by omega, hr⟩ h
      · simpa using hr
end Go.Proofs.YthgkdpfkaobgoaaDoor
end

section
/-
  zint.Small.
-/
namespace Go.Proofs.YthgkdpfkaobgoaaDoor
open Go.RowKit
theorem ret_ib {a b : Int} {p q : Bool} (h : a = b) (h' : p = q) : Ending.returned (.tuple #[.int .i64 a, .bool p]) = .returned (.tuple #[.int .i64 b, .bool q]) := by rw [h, h']
theorem wrap_i64_eq (x : Int) (h : -9223372036854775808 ≤ x) (h' : x ≤ 9223372036854775807) : IntKind.i64.wrap x = x := IntWalk.i64_in _ ⟨h, h'⟩
theorem turn_u64 (x : Nat) (h : 0 < x) (h' : x ≤ 9223372036854775808) : wrap64 (IntKind.u64.wrap (-(x : Int))) = -(x : Int) := by
  rw [wrap_u64_eq]; unfold wrap64; omega
set_option maxHeartbeats 2000000 in
set_option maxRecDepth 100000 in
theorem zsmall_neg (A : Option Addr) (c : Nat) (s : Bool) (xs : List Nat) (w : World) (h : Dg w A c xs) (hl : xs.length ≤ 1000000) (hz : s = true) (h0 : 0 < val xs) (h1 : val xs ≤ 9223372036854775808) :
    Calls Tryd.prog 27 #[.agg #[.bool s, .slice A xs.length c]] w fun e w' => e = .returned (.tuple #[.int .i64 (-(val xs : Int)), .bool true]) ∧ Below w.heap.size w w' := by
  have l1 := digs_len_le h.2.1
  obtain ⟨t1, ht1⟩ : ∃ t, (s && decide (0 < val xs)) = t := ⟨_, rfl⟩
  have TA := Lib.hid (fun W h => take_any A c s xs W h (by omega))
  have HC := Lib.hid (fun A1 c1 W h1 => small_any A1 c1 (digs (val xs)) W h1 (by omega))
  simp only [val_digs] at HC
  have e1 : (s && decide (0 < val xs)) = true := by rw [hz, decide_eq_true h0]; rfl
  rw [e1] at ht1
  rw [e1] at TA
  have hs : small? (val xs) = val xs := by unfold small?; rw [if_pos (by omega)]
  have hd : decide (val xs < 18446744073709551616) = true := decide_eq_true (by omega)
  rw [hs, hd] at HC
  have dd : decide (((val xs : Nat) : Int) ≤ 9223372036854775808) = true := by simp; omega
  have HT := Lib.hid (turn_u64 (val xs) h0 h1)
  clear hs hd e1 h0 h1 hz
  clear ht1
  generalize val xs = x at *
  go_enter Tryd.func27, Tryd.ntmps27
  go_wp2_with fail
  refine (TA.out _ (h.below (below1 _ _))).mono ?_
  rintro e w1 ⟨A1, c1, rfl, hd, hb⟩
  have K1 := Lib.hid hb
  have G1 := Lib.hid hd
  obtain ⟨hc1, hf1⟩ := bcell hb
  clear hb hd h
  go_wp2_with fail
  refine (HC.out A1 c1 _ (G1.out.below (below1 _ _))).mono ?_
  rintro e w2 ⟨rfl, nn, rfl⟩
  go_wp2
  go_ret2
  exact ⟨ret_ib HT.out rfl, below_drewN (((below1 w _).trans (K1.out.mono (by simp))).alloc (by have := K1.out.size; simp at this; omega) _) _⟩
set_option maxHeartbeats 2000000 in
set_option maxRecDepth 100000 in
theorem zsmall_pos (A : Option Addr) (c : Nat) (s : Bool) (xs : List Nat) (w : World) (h : Dg w A c xs) (hl : xs.length ≤ 1000000) (hz : (s && decide (0 < val xs)) = false) (h1 : val xs ≤ 9223372036854775807) :
    Calls Tryd.prog 27 #[.agg #[.bool s, .slice A xs.length c]] w fun e w' => e = .returned (.tuple #[.int .i64 ((val xs : Nat) : Int), .bool true]) ∧ Below w.heap.size w w' := by
  have l1 := digs_len_le h.2.1
  obtain ⟨t1, ht1⟩ : ∃ t, (s && decide (0 < val xs)) = t := ⟨_, rfl⟩
  have TA := Lib.hid (fun W h => take_any A c s xs W h (by omega))
  have HC := Lib.hid (fun A1 c1 W h1 => small_any A1 c1 (digs (val xs)) W h1 (by omega))
  simp only [val_digs] at HC
  rw [hz] at ht1
  rw [hz] at TA
  have hs : small? (val xs) = val xs := by unfold small?; rw [if_pos (by omega)]
  have hd : decide (val xs < 18446744073709551616) = true := decide_eq_true (by omega)
  rw [hs, hd] at HC
  have dd : decide (((val xs : Nat) : Int) ≤ 9223372036854775807) = true := by simp; omega
  have HT := Lib.hid (wrap_i64_eq (val xs) (by omega) (by omega))
  clear hs hd hz
  clear ht1
  generalize val xs = x at *
  go_enter Tryd.func27, Tryd.ntmps27
  go_wp2_with fail
  refine (TA.out _ (h.below (below1 _ _))).mono ?_
  rintro e w1 ⟨A1, c1, rfl, hd, hb⟩
  have K1 := Lib.hid hb
  have G1 := Lib.hid hd
  obtain ⟨hc1, hf1⟩ := bcell hb
  clear hb hd h
  go_wp2_with fail
  refine (HC.out A1 c1 _ (G1.out.below (below1 _ _))).mono ?_
  rintro e w2 ⟨rfl, nn, rfl⟩
  go_wp2
  go_ret2
  exact ⟨rfl, below_drewN (((below1 w _).trans (K1.out.mono (by simp))).alloc (by have := K1.out.size; simp at this; omega) _) _⟩
set_option maxHeartbeats 2000000 in
set_option maxRecDepth 100000 in
theorem zsmall_far (A : Option Addr) (c : Nat) (s : Bool) (xs : List Nat) (w : World) (h : Dg w A c xs) (hl : xs.length ≤ 1000000) (h1 : 18446744073709551616 ≤ val xs) :
    Calls Tryd.prog 27 #[.agg #[.bool s, .slice A xs.length c]] w fun e w' => e = .returned (.tuple #[.int .i64 0, .bool false]) ∧ Below w.heap.size w w' := by
  have l1 := digs_len_le h.2.1
  obtain ⟨t1, ht1⟩ : ∃ t, (s && decide (0 < val xs)) = t := ⟨_, rfl⟩
  have TA := Lib.hid (fun W h => take_any A c s xs W h (by omega))
  have HC := Lib.hid (fun A1 c1 W h1 => small_any A1 c1 (digs (val xs)) W h1 (by omega))
  simp only [val_digs] at HC
  rw [ht1] at TA
  have hd : decide (val xs < 18446744073709551616) = false := decide_eq_false (by omega)
  rw [hd] at HC
  clear hd
  clear ht1
  generalize val xs = x at *
  go_enter Tryd.func27, Tryd.ntmps27
  go_wp2_with fail
  refine (TA.out _ (h.below (below1 _ _))).mono ?_
  rintro e w1 ⟨A1, c1, rfl, hd, hb⟩
  have K1 := Lib.hid hb
  have G1 := Lib.hid hd
  obtain ⟨hc1, hf1⟩ := bcell hb
  clear hb hd h
  go_wp2_with fail
  refine (HC.out A1 c1 _ (G1.out.below (below1 _ _))).mono ?_
  rintro e w2 ⟨rfl, nn, rfl⟩
  go_wp2
  go_ret2
  exact ⟨rfl, below_drewN (((below1 w _).trans (K1.out.mono (by simp))).alloc (by have := K1.out.size; simp at this; omega) _) _⟩
set_option maxHeartbeats 2000000 in
set_option maxRecDepth 100000 in
theorem zsmall_negfar (A : Option Addr) (c : Nat) (s : Bool) (xs : List Nat) (w : World) (h : Dg w A c xs) (hl : xs.length ≤ 1000000) (hz : s = true) (h0 : 9223372036854775808 < val xs) (h1 : val xs < 18446744073709551616) :
    Calls Tryd.prog 27 #[.agg #[.bool s, .slice A xs.length c]] w fun e w' => e = .returned (.tuple #[.int .i64 0, .bool false]) ∧ Below w.heap.size w w' := by
  have l1 := digs_len_le h.2.1
  obtain ⟨t1, ht1⟩ : ∃ t, (s && decide (0 < val xs)) = t := ⟨_, rfl⟩
  have TA := Lib.hid (fun W h => take_any A c s xs W h (by omega))
  have HC := Lib.hid (fun A1 c1 W h1 => small_any A1 c1 (digs (val xs)) W h1 (by omega))
  simp only [val_digs] at HC
  have e1 : (s && decide (0 < val xs)) = true := by rw [hz, decide_eq_true (by omega)]; rfl
  rw [e1] at ht1
  rw [e1] at TA
  have hs : small? (val xs) = val xs := by unfold small?; rw [if_pos (by omega)]
  have hd : decide (val xs < 18446744073709551616) = true := decide_eq_true (by omega)
  rw [hs, hd] at HC
  have dd : decide (((val xs : Nat) : Int) ≤ 9223372036854775808) = false := by simp; omega
  clear hs hd e1 h0 h1 hz
  clear ht1
  generalize val xs = x at *
  go_enter Tryd.func27, Tryd.ntmps27
  go_wp2_with fail
  refine (TA.out _ (h.below (below1 _ _))).mono ?_
  rintro e w1 ⟨A1, c1, rfl, hd, hb⟩
  have K1 := Lib.hid hb
  have G1 := Lib.hid hd
  obtain ⟨hc1, hf1⟩ := bcell hb
  clear hb hd h
  go_wp2_with fail
  refine (HC.out A1 c1 _ (G1.out.below (below1 _ _))).mono ?_
  rintro e w2 ⟨rfl, nn, rfl⟩
  go_wp2
  go_ret2
  exact ⟨rfl, below_drewN (((below1 w _).trans (K1.out.mono (by simp))).alloc (by have := K1.out.size; simp at this; omega) _) _⟩
set_option maxHeartbeats 2000000 in
set_option maxRecDepth 100000 in
theorem zsmall_posfar (A : Option Addr) (c : Nat) (s : Bool) (xs : List Nat) (w : World) (h : Dg w A c xs) (hl : xs.length ≤ 1000000) (hz : (s && decide (0 < val xs)) = false) (h0 : 9223372036854775807 < val xs) (h1 : val xs < 18446744073709551616) :
    Calls Tryd.prog 27 #[.agg #[.bool s, .slice A xs.length c]] w fun e w' => e = .returned (.tuple #[.int .i64 0, .bool false]) ∧ Below w.heap.size w w' := by
  have l1 := digs_len_le h.2.1
  obtain ⟨t1, ht1⟩ : ∃ t, (s && decide (0 < val xs)) = t := ⟨_, rfl⟩
  have TA := Lib.hid (fun W h => take_any A c s xs W h (by omega))
  have HC := Lib.hid (fun A1 c1 W h1 => small_any A1 c1 (digs (val xs)) W h1 (by omega))
  simp only [val_digs] at HC
  rw [hz] at ht1
  rw [hz] at TA
  have hs : small? (val xs) = val xs := by unfold small?; rw [if_pos (by omega)]
  have hd : decide (val xs < 18446744073709551616) = true := decide_eq_true (by omega)
  rw [hs, hd] at HC
  have dd : decide (((val xs : Nat) : Int) ≤ 9223372036854775807) = false := by simp; omega
  clear hs hd hz
  clear ht1
  generalize val xs = x at *
  go_enter Tryd.func27, Tryd.ntmps27
  go_wp2_with fail
  refine (TA.out _ (h.below (below1 _ _))).mono ?_
  rintro e w1 ⟨A1, c1, rfl, hd, hb⟩
  have K1 := Lib.hid hb
  have G1 := Lib.hid hd
  obtain ⟨hc1, hf1⟩ := bcell hb
  clear hb hd h
  go_wp2_with fail
  refine (HC.out A1 c1 _ (G1.out.below (below1 _ _))).mono ?_
  rintro e w2 ⟨rfl, nn, rfl⟩
  go_wp2
  go_ret2
  exact ⟨rfl, below_drewN (((below1 w _).trans (K1.out.mono (by simp))).alloc (by have := K1.out.size; simp at this; omega) _) _⟩
/-- What Small answers. -/
def smallz (z : Int) : Int := if -9223372036854775808 ≤ z ∧ z ≤ 9223372036854775807 then z else 0
def smallb (z : Int) : Bool := decide (-9223372036854775808 ≤ z ∧ z ≤ 9223372036854775807)
theorem zsmall_any (A : Option Addr) (c : Nat) (s : Bool) (xs : List Nat) (w : World) (h : Dg w A c xs) (hl : xs.length ≤ 1000000) (q : Int) (ok : Bool) (hq : smallz (sg s (val xs)) = q) (hok : smallb (sg s (val xs)) = ok) :
    Calls Tryd.prog 27 #[.agg #[.bool s, .slice A xs.length c]] w fun e w' => e = .returned (.tuple #[.int .i64 q, .bool ok]) ∧ Below w.heap.size w w' := by
  subst hq hok
  rcases Nat.lt_or_ge (val xs) 18446744073709551616 with h1 | h1
  · cases ht : (s && decide (0 < val xs))
    · have e : sg s (val xs) = (val xs : Int) := by
        rw [← sg_take, ht]; rfl
      rw [e]
      rcases Nat.lt_or_ge 9223372036854775807 (val xs) with h2 | h2
      · refine (zsmall_posfar A c s xs w h hl ht h2 h1).mono fun e w' ⟨he, hb⟩ => ⟨he.trans ?_, hb⟩
        exact ret_ib (by unfold smallz; rw [if_neg (by omega)]) (by unfold smallb; exact (decide_eq_false (by omega)).symm)
      · refine (zsmall_pos A c s xs w h hl ht h2).mono fun e w' ⟨he, hb⟩ => ⟨he.trans ?_, hb⟩
        exact ret_ib (by unfold smallz; rw [if_pos (by omega)]) (by unfold smallb; exact (decide_eq_true (by omega)).symm)
    · have e : sg s (val xs) = -(val xs : Int) := by
        rw [← sg_take, ht]; rfl
      simp only [Bool.and_eq_true, decide_eq_true_eq] at ht
      rw [e]
      rcases Nat.lt_or_ge 9223372036854775808 (val xs) with h2 | h2
      · refine (zsmall_negfar A c s xs w h hl ht.1 h2 h1).mono fun e w' ⟨he, hb⟩ => ⟨he.trans ?_, hb⟩
        exact ret_ib (by unfold smallz; rw [if_neg (by omega)]) (by unfold smallb; exact (decide_eq_false (by omega)).symm)
      · refine (zsmall_neg A c s xs w h hl ht.1 ht.2 h2).mono fun e w' ⟨he, hb⟩ => ⟨he.trans ?_, hb⟩
        exact ret_ib (by unfold smallz; rw [if_pos (by omega)]) (by unfold smallb; exact (decide_eq_true (by omega)).symm)
  · have e : sg s (val xs) = (val xs : Int) ∨ sg s (val xs) = -(val xs : Int) := by unfold sg; cases s <;> simp
    refine (zsmall_far A c s xs w h hl h1).mono fun e' w' ⟨he, hb⟩ => ⟨he.trans ?_, hb⟩
    exact ret_ib (by unfold smallz; rw [if_neg (by omega)]) (by unfold smallb; exact (decide_eq_false (by omega)).symm)
end Go.Proofs.YthgkdpfkaobgoaaDoor
end

section
/-
  The law's same; astrolaberef04's Make, Neg, Add, Sub, Mul.
-/
namespace Go.Proofs.YthgkdpfkaobgoaaDoor
open Go.RowKit
set_option maxHeartbeats 2000000 in
set_option maxRecDepth 100000 in
theorem same_any (A B : Option Addr) (c d : Nat) (s : Bool) (xs : List Nat) (w : World) (h : Dg w A c xs) (h' : Dg w B d xs) (hl : xs.length ≤ 16777216) :
    Calls Tryd.prog 14 #[.agg #[.bool s, .slice A xs.length c], .agg #[.bool s, .slice B xs.length d]] w fun e w' => e = .returned (.bool true) ∧ Below w.heap.size w w' := by
  go_enter Tryd.func14, Tryd.ntmps14
  go_wp2_with fail
  refine (Same_any A B c d s xs _ (h.below (below2 _ _ _)) (h'.below (below2 _ _ _)) hl).mono ?_
  rintro e w1 ⟨rfl, hb⟩
  have K := Lib.hid ((below2 w _ _).trans (hb.mono (by simp; omega)))
  clear hb h h'
  go_wp2
  go_ret
  exact ⟨rfl, K.out⟩
set_option maxHeartbeats 2000000 in
set_option maxRecDepth 100000 in
theorem rmake_any (A : Option Addr) (c : Nat) (s : Bool) (xs : List Nat) (w : World) (h : Dg w A c xs) (hl : xs.length ≤ 1000000) :
    Calls Tryd.prog 26 #[.bool s, .slice A xs.length c] w fun e w' => Zr (sg s (val xs)) w e w' := by
  have l1 := digs_len_le h.2.1
  obtain ⟨q, hq⟩ : ∃ q, decide (0 < (digs (val xs)).length) = q := ⟨_, rfl⟩
  have hq' : decide ((0 : Int) < ((digs (val xs)).length : Int)) = q := by rw [← hq, decide_eq_decide]; omega
  have HS := Lib.hid (show (s && q) = decide (sg s (val xs) < 0) by
    rw [← sg_neg, ← hq]
    congr 1
    rw [decide_eq_decide]
    constructor
    · intro h0 e; rw [e, digs_zero] at h0; simp at h0
    · intro h0; have : (digs (val xs)).length ≠ 0 := fun e => h0 (digs_nil.1 e); omega)
  have HA := Lib.hid (sg_abs s (val xs))
  generalize sg s (val xs) = z at *
  go_enter Tryd.func26, Tryd.ntmps26
  go_wp2_with fail
  refine (rtrim_any A c xs _ (h.below (below1 _ _)) (by omega)).mono ?_
  rintro e w1 ⟨A1, c1, rfl, hd, hb⟩
  have K1 := Lib.hid hb
  have G1 := Lib.hid hd
  have HO1 := Lib.hid (off_box (g := w.heap.size) hd hb rfl noint2')
  obtain ⟨hc1, hf1⟩ := bcell hb
  clear hb hd h
  cases s
  · go_wp2
    refine bodyPost_ret (v := .agg #[.bool false, .slice A1 (digs (val xs)).length c1]) (by simp [results, Tryd.results26, go_sem, hc1]) rfl ?_
    refine ⟨A1, c1, by rw [← HS.out, HA.out]; rfl, ?_, ?_⟩
    · rw [HA.out]; exact (G1.out.set_off HO1.out _ _).set_off HO1.out _ _
    · exact ((below1 w _).trans (K1.out.mono (by simp))).setCell (by simp) _ |>.setCell (by simp) _
  · go_wp2
    refine bodyPost_ret (v := .agg #[.bool q, .slice A1 (digs (val xs)).length c1]) (by simp [results, Tryd.results26, go_sem, hc1]) rfl ?_
    refine ⟨A1, c1, by rw [← HS.out, HA.out]; rfl, ?_, ?_⟩
    · rw [HA.out]; exact (G1.out.set_off HO1.out _ _).set_off HO1.out _ _
    · exact ((below1 w _).trans (K1.out.mono (by simp))).setCell (by simp) _ |>.setCell (by simp) _
set_option maxHeartbeats 2000000 in
set_option maxRecDepth 100000 in
theorem rneg_any (A : Option Addr) (c : Nat) (s : Bool) (xs : List Nat) (w : World) (h : Dg w A c xs) (hl : xs.length ≤ 1000000) :
    Calls Tryd.prog 22 #[.agg #[.bool s, .slice A xs.length c]] w fun e w' => Zr (-sg s (val xs)) w e w' := by
  have TM := Lib.hid (fun W h => rmake_any A c (!s) xs W h hl)
  rw [sg_not] at TM
  generalize -sg s (val xs) = z at *
  go_enter Tryd.func22, Tryd.ntmps22
  go_wp2_with fail
  refine (TM.out _ (h.below (below2 _ _ _))).mono ?_
  rintro e w1 ⟨A1, c1, rfl, hd, hb⟩
  have K1 := Lib.hid hb
  have G1 := Lib.hid hd
  have HO1 := Lib.hid (off_box (g := w.heap.size + 1) hd hb (by simp) noint2')
  obtain ⟨hc1, hf1⟩ := bcell hb
  clear hb hd h
  go_wp2
  refine bodyPost_ret (v := .agg #[.bool (decide (z < 0)), .slice A1 (digs z.natAbs).length c1]) (by simp [results, Tryd.results22, go_sem, hc1]) rfl ?_
  exact ⟨A1, c1, rfl, (G1.out.set_off HO1.out _ _).set_off HO1.out _ _, (((below2 w _ _).trans (K1.out.mono (by simp; omega))).setCell (by simp) _).setCell (by simp) _⟩
end Go.Proofs.YthgkdpfkaobgoaaDoor
end

section
/-
  astrolaberef04's Small, Cmp.
-/
namespace Go.Proofs.YthgkdpfkaobgoaaDoor
open Go.RowKit
set_option maxHeartbeats 2000000 in
set_option maxRecDepth 100000 in
theorem rzsmall_case (A : Option Addr) (c : Nat) (s : Bool) (xs : List Nat) (w : World) (h : Dg w A c xs) (hl : xs.length ≤ 1000000) (z : Int) (hz : sg s (val xs) = z) (ng : Bool) (hng : decide (z < 0) = ng) (m : Nat) (hm : z.natAbs = m) (q : Int) (ok : Bool)
    (hq : (18446744073709551616 ≤ m ∧ q = 0 ∧ ok = false) ∨ (m < 18446744073709551616 ∧ 9223372036854775808 < m ∧ q = 0 ∧ ok = false) ∨ (m = 9223372036854775808 ∧ ng = false ∧ q = 0 ∧ ok = false) ∨ (m = 9223372036854775808 ∧ ng = true ∧ q = -9223372036854775808 ∧ ok = true) ∨ (m < 9223372036854775808 ∧ ng = false ∧ q = m ∧ ok = true) ∨ (m < 9223372036854775808 ∧ ng = true ∧ q = -m ∧ ok = true)) :
    Calls Tryd.prog 28 #[.agg #[.bool s, .slice A xs.length c]] w fun e w' => e = .returned (.tuple #[.int .i64 q, .bool ok]) ∧ Below w.heap.size w w' := by
  have HC := Lib.hid (fun A1 c1 W h1 hb => rsmall_any A1 c1 (digs m) W h1 hb)
  simp only [val_digs] at HC
  have l1 := digs_len_le h.2.1
  have l2 : (digs m).length ≤ xs.length := by rw [← hm, ← hz, sg_abs]; exact l1
  have MK := Lib.hid (fun W h => rmake_any A c s xs W h hl)
  rw [hz] at MK
  simp only [Zr, hng, hm] at MK
  clear hz hng hm
  rcases hq with ⟨h1, rfl, rfl⟩ | ⟨h1, h2, rfl, rfl⟩ | ⟨h1, rfl, rfl, rfl⟩ | ⟨h1, rfl, rfl, rfl⟩ | ⟨h1, rfl, rfl, rfl⟩ | ⟨h1, rfl, rfl, rfl⟩
  · have hd : decide (m < 18446744073709551616) = false := decide_eq_false (by omega)
    rw [hd] at HC
    clear hd h1
    go_enter Tryd.func28, Tryd.ntmps28
    go_wp2_with fail
    refine (MK.out _ (h.below (below1 _ _))).mono ?_
    rintro e w1 ⟨A1, c1, rfl, hd, hb⟩
    have K1 := Lib.hid hb
    have G1 := Lib.hid hd
    obtain ⟨hc1, hf1⟩ := bcell hb
    clear hb hd h MK
    go_wp2_with fail
    refine (HC.out A1 c1 _ (G1.out.below (below1 _ _)) (by omega)).mono ?_
    rintro e w2 ⟨rfl, hb⟩
    have K2 := Lib.hid (K1.out.trans (((below1 _ _).trans (hb.mono (by simp))).mono K1.out.size))
    obtain ⟨hc2, hf2⟩ := bcell hb
    clear hb
    go_wp2
    go_ret2
    exact ⟨rfl, (below1 w _).trans (K2.out.mono (by simp))⟩
  · have hs : small? m = m := by unfold small?; rw [if_pos (by omega)]
    have hd : decide (m < 18446744073709551616) = true := decide_eq_true (by omega)
    rw [hs, hd] at HC
    have d1 : decide ((9223372036854775808 : Int) < (m : Int)) = true := by simp; omega
    clear hs hd h1 h2
    go_enter Tryd.func28, Tryd.ntmps28
    go_wp2_with fail
    refine (MK.out _ (h.below (below1 _ _))).mono ?_
    rintro e w1 ⟨A1, c1, rfl, hd, hb⟩
    have K1 := Lib.hid hb
    have G1 := Lib.hid hd
    obtain ⟨hc1, hf1⟩ := bcell hb
    clear hb hd h MK
    go_wp2_with fail
    refine (HC.out A1 c1 _ (G1.out.below (below1 _ _)) (by omega)).mono ?_
    rintro e w2 ⟨rfl, hb⟩
    have K2 := Lib.hid (K1.out.trans (((below1 _ _).trans (hb.mono (by simp))).mono K1.out.size))
    obtain ⟨hc2, hf2⟩ := bcell hb
    clear hb
    go_wp2
    go_ret2
    exact ⟨rfl, (below1 w _).trans (K2.out.mono (by simp))⟩
  · have hs : small? m = m := by unfold small?; rw [if_pos (by omega)]
    have hd : decide (m < 18446744073709551616) = true := decide_eq_true (by omega)
    rw [hs, hd] at HC
    have d1 : decide ((9223372036854775808 : Int) < (m : Int)) = false := by simp; omega
    have d2 : ((m : Int) == 9223372036854775808) = true := by simp; omega
    clear hs hd h1
    go_enter Tryd.func28, Tryd.ntmps28
    go_wp2_with fail
    refine (MK.out _ (h.below (below1 _ _))).mono ?_
    rintro e w1 ⟨A1, c1, rfl, hd, hb⟩
    have K1 := Lib.hid hb
    have G1 := Lib.hid hd
    obtain ⟨hc1, hf1⟩ := bcell hb
    clear hb hd h MK
    go_wp2_with fail
    refine (HC.out A1 c1 _ (G1.out.below (below1 _ _)) (by omega)).mono ?_
    rintro e w2 ⟨rfl, hb⟩
    have K2 := Lib.hid (K1.out.trans (((below1 _ _).trans (hb.mono (by simp))).mono K1.out.size))
    obtain ⟨hc2, hf2⟩ := bcell hb
    clear hb
    go_wp2
    go_ret2
    exact ⟨rfl, (below1 w _).trans (K2.out.mono (by simp))⟩
  · have hs : small? m = m := by unfold small?; rw [if_pos (by omega)]
    have hd : decide (m < 18446744073709551616) = true := decide_eq_true (by omega)
    rw [hs, hd] at HC
    have d1 : decide ((9223372036854775808 : Int) < (m : Int)) = false := by simp; omega
    have d2 : ((m : Int) == 9223372036854775808) = true := by simp; omega
    clear hs hd h1
    go_enter Tryd.func28, Tryd.ntmps28
    go_wp2_with fail
    refine (MK.out _ (h.below (below1 _ _))).mono ?_
    rintro e w1 ⟨A1, c1, rfl, hd, hb⟩
    have K1 := Lib.hid hb
    have G1 := Lib.hid hd
    obtain ⟨hc1, hf1⟩ := bcell hb
    clear hb hd h MK
    go_wp2_with fail
    refine (HC.out A1 c1 _ (G1.out.below (below1 _ _)) (by omega)).mono ?_
    rintro e w2 ⟨rfl, hb⟩
    have K2 := Lib.hid (K1.out.trans (((below1 _ _).trans (hb.mono (by simp))).mono K1.out.size))
    obtain ⟨hc2, hf2⟩ := bcell hb
    clear hb
    go_wp2
    go_ret2
    exact ⟨rfl, (below1 w _).trans (K2.out.mono (by simp))⟩
  · have hs : small? m = m := by unfold small?; rw [if_pos (by omega)]
    have hd : decide (m < 18446744073709551616) = true := decide_eq_true (by omega)
    rw [hs, hd] at HC
    have d1 : decide ((9223372036854775808 : Int) < (m : Int)) = false := by simp; omega
    have d2 : ((m : Int) == 9223372036854775808) = false := by simp; omega
    have HT := Lib.hid (IntWalk.wrap64_in (m : Int) (by omega))
    clear hs hd
    go_enter Tryd.func28, Tryd.ntmps28
    go_wp2_with fail
    refine (MK.out _ (h.below (below1 _ _))).mono ?_
    rintro e w1 ⟨A1, c1, rfl, hd, hb⟩
    have K1 := Lib.hid hb
    have G1 := Lib.hid hd
    obtain ⟨hc1, hf1⟩ := bcell hb
    clear hb hd h MK
    go_wp2_with fail
    refine (HC.out A1 c1 _ (G1.out.below (below1 _ _)) (by omega)).mono ?_
    rintro e w2 ⟨rfl, hb⟩
    have K2 := Lib.hid (K1.out.trans (((below1 _ _).trans (hb.mono (by simp))).mono K1.out.size))
    obtain ⟨hc2, hf2⟩ := bcell hb
    clear hb
    go_wp2
    go_ret2
    exact ⟨rfl, (below1 w _).trans (K2.out.mono (by simp))⟩
  · have hs : small? m = m := by unfold small?; rw [if_pos (by omega)]
    have hd : decide (m < 18446744073709551616) = true := decide_eq_true (by omega)
    rw [hs, hd] at HC
    have d1 : decide ((9223372036854775808 : Int) < (m : Int)) = false := by simp; omega
    have d2 : ((m : Int) == 9223372036854775808) = false := by simp; omega
    have e1 : wrap64 (m : Int) = m := IntWalk.wrap64_in (m : Int) (by omega)
    have HT := Lib.hid e1
    clear hs hd e1
    go_enter Tryd.func28, Tryd.ntmps28
    go_wp2_with fail
    refine (MK.out _ (h.below (below1 _ _))).mono ?_
    rintro e w1 ⟨A1, c1, rfl, hd, hb⟩
    have K1 := Lib.hid hb
    have G1 := Lib.hid hd
    obtain ⟨hc1, hf1⟩ := bcell hb
    clear hb hd h MK
    go_wp2_with fail
    refine (HC.out A1 c1 _ (G1.out.below (below1 _ _)) (by omega)).mono ?_
    rintro e w2 ⟨rfl, hb⟩
    have K2 := Lib.hid (K1.out.trans (((below1 _ _).trans (hb.mono (by simp))).mono K1.out.size))
    obtain ⟨hc2, hf2⟩ := bcell hb
    clear hb
    go_wp2
    go_ret2
    exact ⟨rfl, (below1 w _).trans (K2.out.mono (by simp))⟩
theorem rzsmall_any (A : Option Addr) (c : Nat) (s : Bool) (xs : List Nat) (w : World) (h : Dg w A c xs) (hl : xs.length ≤ 1000000) (q : Int) (ok : Bool) (hq : smallz (sg s (val xs)) = q) (hok : smallb (sg s (val xs)) = ok) :
    Calls Tryd.prog 28 #[.agg #[.bool s, .slice A xs.length c]] w fun e w' => e = .returned (.tuple #[.int .i64 q, .bool ok]) ∧ Below w.heap.size w w' := by
  refine rzsmall_case A c s xs w h hl (sg s (val xs)) rfl _ rfl _ rfl q ok ?_
  generalize sg s (val xs) = z at *
  subst hq hok
  unfold smallz smallb
  by_cases h1 : -9223372036854775808 ≤ z ∧ z ≤ 9223372036854775807
  · rw [if_pos h1, decide_eq_true h1]
    by_cases h2 : z < 0
    · rw [decide_eq_true h2]
      rcases Nat.lt_or_ge z.natAbs 9223372036854775808 with h3 | h3
      · exact .inr (.inr (.inr (.inr (.inr ⟨h3, rfl, by omega, rfl⟩))))
      · exact .inr (.inr (.inr (.inl ⟨by omega, rfl, by omega, rfl⟩)))
    · rw [decide_eq_false h2]
      exact .inr (.inr (.inr (.inr (.inl ⟨by omega, rfl, by omega, rfl⟩))))
  · rw [if_neg h1, decide_eq_false h1]
    rcases Nat.lt_or_ge z.natAbs 18446744073709551616 with h3 | h3
    · rcases Nat.lt_or_ge 9223372036854775808 z.natAbs with h4 | h4
      · exact .inr (.inl ⟨h3, h4, rfl, rfl⟩)
      · exact .inr (.inr (.inl ⟨by omega, decide_eq_false (by omega), rfl, rfl⟩))
    · exact .inl ⟨h3, rfl, rfl⟩
theorem cmp_mag {x y : Int} (h : decide (x < 0) = decide (y < 0)) : cmpi x.natAbs y.natAbs = (if x < 0 then -Int.sign (x - y) else Int.sign (x - y)) := by
  have h1 := sign_three (x - y)
  have h2 := cmpi_three x.natAbs y.natAbs
  rw [decide_eq_decide] at h
  split <;> omega
set_option maxHeartbeats 2000000 in
set_option maxRecDepth 100000 in
theorem rzcmp_any (A B : Option Addr) (c d : Nat) (s r : Bool) (xs ys : List Nat) (w : World) (h : Dg w A c xs) (h' : Dg w B d ys) (hl : xs.length ≤ 1000000) (hl' : ys.length ≤ 1000000) :
    Calls Tryd.prog 30 #[.agg #[.bool s, .slice A xs.length c], .agg #[.bool r, .slice B ys.length d]] w fun e w' => e = .returned (.int .i64 (Int.sign (sg s (val xs) - sg r (val ys)))) ∧ Below w.heap.size w w' := by
  have l1 := digs_len_le h.2.1
  have l2 := digs_len_le h'.2.1
  have MA := Lib.hid (fun W h => rmake_any A c s xs W h hl)
  have MB := Lib.hid (fun W h => rmake_any B d r ys W h hl')
  have a1 := sg_abs s (val xs)
  have a2 := sg_abs r (val ys)
  generalize sg s (val xs) = x at *
  generalize sg r (val ys) = y at *
  rw [← a1] at l1
  rw [← a2] at l2
  clear a1 a2
  simp only [Zr] at MA MB
  obtain ⟨p, hp⟩ : ∃ p, decide (x < 0) = p := ⟨_, rfl⟩
  obtain ⟨q, hq⟩ : ∃ q, decide (y < 0) = q := ⟨_, rfl⟩
  rw [hp] at MA
  rw [hq] at MB
  have key : (p = true ∧ q = false ∧ (-1 : Int) = Int.sign (x - y)) ∨ (p = false ∧ q = true ∧ (1 : Int) = Int.sign (x - y)) ∨ (p = true ∧ q = true ∧ cmpi y.natAbs x.natAbs = Int.sign (x - y)) ∨ (p = false ∧ q = false ∧ cmpi x.natAbs y.natAbs = Int.sign (x - y)) := by
    have h1 := sign_three (x - y)
    have h2 := cmpi_three x.natAbs y.natAbs
    have h3 := cmpi_three y.natAbs x.natAbs
    cases p <;> cases q <;> simp only [decide_eq_true_eq, decide_eq_false_iff_not] at hp hq <;> simp <;> omega
  have KEY := Lib.hid key
  clear hp hq key
  have KEY2 := KEY.out
  rcases KEY2 with ⟨rfl, rfl, e0⟩ | ⟨rfl, rfl, e0⟩ | ⟨rfl, rfl, e0⟩ | ⟨rfl, rfl, e0⟩
  · have E0 := Lib.hid e0
    clear e0
    go_enter Tryd.func30, Tryd.ntmps30
    go_wp2_with fail
    refine (MA.out _ (h.below (below2 _ _ _))).mono ?_
    rintro e w1 ⟨A1, c1, rfl, hd, hb⟩
    have K1 := Lib.hid hb
    have G1 := Lib.hid hd
    have H2 := Lib.hid ((h'.below (below2 w (.cells #[.bool s, .slice A xs.length c] 24) (.cells #[.bool r, .slice B ys.length d] 24))).below hb)
    obtain ⟨hc1, hf1⟩ := bcell hb
    have z1 : w.heap.size + 1 < w1.heap.size := by have := hb.size; simp at this; omega
    clear hb hd h h'
    go_wp2_with fail
    refine (MB.out _ (H2.out.below (below1 _ _))).mono ?_
    rintro e w2 ⟨A2, c2, rfl, hd, hb⟩
    have K2 := Lib.hid (K1.out.trans (((below1 _ _).trans (hb.mono (by simp))).mono K1.out.size))
    have G2 := Lib.hid hd
    have G3 := Lib.hid ((G1.out.below (below1 w1 (.cells #[.bool true, .slice A1 (digs x.natAbs).length c1] 24))).below hb)
    obtain ⟨hc2, hf2⟩ := bcell hb
    have z2 : w1.heap.size < w2.heap.size := by have := hb.size; simp at this; omega
    clear hb hd
    go_wp2
    go_ret
    exact ⟨ret_i E0.out, ((below2 w _ _).trans (K2.out.mono (by simp; omega))).alloc (by have := K2.out.size; simp at this; omega) _⟩
  · have E0 := Lib.hid e0
    clear e0
    go_enter Tryd.func30, Tryd.ntmps30
    go_wp2_with fail
    refine (MA.out _ (h.below (below2 _ _ _))).mono ?_
    rintro e w1 ⟨A1, c1, rfl, hd, hb⟩
    have K1 := Lib.hid hb
    have G1 := Lib.hid hd
    have H2 := Lib.hid ((h'.below (below2 w (.cells #[.bool s, .slice A xs.length c] 24) (.cells #[.bool r, .slice B ys.length d] 24))).below hb)
    obtain ⟨hc1, hf1⟩ := bcell hb
    have z1 : w.heap.size + 1 < w1.heap.size := by have := hb.size; simp at this; omega
    clear hb hd h h'
    go_wp2_with fail
    refine (MB.out _ (H2.out.below (below1 _ _))).mono ?_
    rintro e w2 ⟨A2, c2, rfl, hd, hb⟩
    have K2 := Lib.hid (K1.out.trans (((below1 _ _).trans (hb.mono (by simp))).mono K1.out.size))
    have G2 := Lib.hid hd
    have G3 := Lib.hid ((G1.out.below (below1 w1 (.cells #[.bool false, .slice A1 (digs x.natAbs).length c1] 24))).below hb)
    obtain ⟨hc2, hf2⟩ := bcell hb
    have z2 : w1.heap.size < w2.heap.size := by have := hb.size; simp at this; omega
    clear hb hd
    go_wp2
    go_ret
    exact ⟨ret_i E0.out, ((below2 w _ _).trans (K2.out.mono (by simp; omega))).alloc (by have := K2.out.size; simp at this; omega) _⟩
  · have E0 := Lib.hid e0
    clear e0
    go_enter Tryd.func30, Tryd.ntmps30
    go_wp2_with fail
    refine (MA.out _ (h.below (below2 _ _ _))).mono ?_
    rintro e w1 ⟨A1, c1, rfl, hd, hb⟩
    have K1 := Lib.hid hb
    have G1 := Lib.hid hd
    have H2 := Lib.hid ((h'.below (below2 w (.cells #[.bool s, .slice A xs.length c] 24) (.cells #[.bool r, .slice B ys.length d] 24))).below hb)
    obtain ⟨hc1, hf1⟩ := bcell hb
    have z1 : w.heap.size + 1 < w1.heap.size := by have := hb.size; simp at this; omega
    clear hb hd h h'
    go_wp2_with fail
    refine (MB.out _ (H2.out.below (below1 _ _))).mono ?_
    rintro e w2 ⟨A2, c2, rfl, hd, hb⟩
    have K2 := Lib.hid (K1.out.trans (((below1 _ _).trans (hb.mono (by simp))).mono K1.out.size))
    have G2 := Lib.hid hd
    have G3 := Lib.hid ((G1.out.below (below1 w1 (.cells #[.bool true, .slice A1 (digs x.natAbs).length c1] 24))).below hb)
    obtain ⟨hc2, hf2⟩ := bcell hb
    have z2 : w1.heap.size < w2.heap.size := by have := hb.size; simp at this; omega
    clear hb hd
    go_wp2_with fail
    refine (rcmp_any A2 A1 c2 c1 (digs y.natAbs) (digs x.natAbs) _ (G2.out.below (below1 _ _)) (G3.out.below (below1 _ _)) (by omega) (by omega)).mono ?_
    rintro e w3 ⟨rfl, rfl⟩
    go_wp2
    go_ret
    exact ⟨ret_i (by rw [val_digs, val_digs]; exact E0.out), ((below2 w _ _).trans (K2.out.mono (by simp; omega))).alloc (by have := K2.out.size; simp at this; omega) _⟩
  · have E0 := Lib.hid e0
    clear e0
    go_enter Tryd.func30, Tryd.ntmps30
    go_wp2_with fail
    refine (MA.out _ (h.below (below2 _ _ _))).mono ?_
    rintro e w1 ⟨A1, c1, rfl, hd, hb⟩
    have K1 := Lib.hid hb
    have G1 := Lib.hid hd
    have H2 := Lib.hid ((h'.below (below2 w (.cells #[.bool s, .slice A xs.length c] 24) (.cells #[.bool r, .slice B ys.length d] 24))).below hb)
    obtain ⟨hc1, hf1⟩ := bcell hb
    have z1 : w.heap.size + 1 < w1.heap.size := by have := hb.size; simp at this; omega
    clear hb hd h h'
    go_wp2_with fail
    refine (MB.out _ (H2.out.below (below1 _ _))).mono ?_
    rintro e w2 ⟨A2, c2, rfl, hd, hb⟩
    have K2 := Lib.hid (K1.out.trans (((below1 _ _).trans (hb.mono (by simp))).mono K1.out.size))
    have G2 := Lib.hid hd
    have G3 := Lib.hid ((G1.out.below (below1 w1 (.cells #[.bool false, .slice A1 (digs x.natAbs).length c1] 24))).below hb)
    obtain ⟨hc2, hf2⟩ := bcell hb
    have z2 : w1.heap.size < w2.heap.size := by have := hb.size; simp at this; omega
    clear hb hd
    go_wp2_with fail
    refine (rcmp_any A1 A2 c1 c2 (digs x.natAbs) (digs y.natAbs) _ (G3.out.below (below1 _ _)) (G2.out.below (below1 _ _)) (by omega) (by omega)).mono ?_
    rintro e w3 ⟨rfl, rfl⟩
    go_wp2
    go_ret
    exact ⟨ret_i (by rw [val_digs, val_digs]; exact E0.out), ((below2 w _ _).trans (K2.out.mono (by simp; omega))).alloc (by have := K2.out.size; simp at this; omega) _⟩
end Go.Proofs.YthgkdpfkaobgoaaDoor
end

section
/-
  append(own, digits...), whatever memory holds the digits.
-/
namespace Go.Proofs.YthgkdpfkaobgoaaDoor
open Go.RowKit
theorem run_append_nilcap {P : Program} {w : World} (base : Nat) (t ty e : TypeId) (i : TypeInfo) (size c : Nat) (ht : P.underlying t = some (.slice e)) (hi : P.info? e = some i)
    (v : Value) (n : Nat) (xs : List Value) (hown : w.ownsRow base e size v n xs) : (Builtin.append_ #[t, t] ty #[v, .slice none 0 c]).run P w = .ok v w := by
  rcases hown.2 with ⟨rfl, rfl⟩ | ⟨g, cap, cur, rfl, _, _, hnc, _⟩
  · simp [Builtin.append_, run_underlying ht, sizeOf, typeInfo, hi, Builtin.lenOf, Builtin.firstCells]
  · simp [Builtin.append_, run_underlying ht, sizeOf, typeInfo, hi, Builtin.lenOf, Builtin.firstCells, hnc, storeCells]
theorem wpList_append_dg {w : World} {ops : Array Oper} {rest : List Oper} {o : Oper} {a : Act} {Q : Exit → Act → World → Prop} (hgd : o.guard = none) (s x : Operand)
    (ho : o.op = .call { callee := .builtin .append, args := #[s, x], argTypes := #[22, 22] }) (base : Nat) (v : Value) (n : Nat) (zs ys : List Nat) (B : Option Addr) (d m : Nat)
    (hs : a.eval s = v) (hown : w.ownsRow base 75 1 v n (cells zs)) (hD : Dg w B d ys) (hm : m = ys.length) (hx : a.eval x = .slice B m d) (hb : n + m ≤ 1099511627776) (hbase : base ≤ w.heap.size)
    (h : ∀ v' w', w'.ownsRow base 75 1 v' (n + m) (cells (zs ++ ys)) → w.grownBy w' v.ownBlock → wpList Tryd.prog ops Q rest (a.put o.dst v') w') : wpList Tryd.prog ops Q (o :: rest) a w := by
  obtain ⟨i0, hi, hz0, hz1, hz2⟩ := info_parts elem_info
  have ec : cells (zs ++ ys) = cells zs ++ cells ys := by simp [cells]
  subst hm
  rcases B with _ | A
  · have h0 : ys = [] := by
      rcases Nat.eq_zero_or_pos ys.length with h0 | h0
      · exact List.eq_nil_of_length_eq_zero h0
      · obtain ⟨b, off, e, _⟩ := hD.2.2 h0
        cases e
    subst h0
    refine wpList_plain hgd fun K hK => ?_
    have hrun := run_append_nilcap (P := Tryd.prog) (w := w) base 22 o.type 75 i0 1 d Tryd.underlying22 hi v n (cells zs) hown
    unfold Oper.wp
    simp at hx
    simp [execOp, ho, resolve, invoke, builtin, hs, hx, hrun, Result.andThen]
    exact hK _ _ (h v w (by simpa using hown) (World.grownBy.refl _ _))
  · refine wpList_append_own _ hgd s x 22 ho base 75 i0 (.int .u32 0) 1 4 Tryd.underlying22 hi hz0 hz1 hz2 rfl (by decide) v n (cells zs) hs hown A ys.length d (cells ys) hx (by simp [cells]) (fun j u hj => dg_cell hD hj) (fun u hu => ?_) (by unfold maxLen; omega) (by omega) hbase fun v' w' h1 h2 _ => h v' w' (by rw [ec]; exact h1) h2
    unfold cells at hu; obtain ⟨x, _, rfl⟩ := List.mem_map.1 hu; rfl
end Go.Proofs.YthgkdpfkaobgoaaDoor
end

section
/-
  quo.Gcd.
-/
namespace Go.Proofs.YthgkdpfkaobgoaaDoor
open Go.RowKit
theorem gcd_step (x g : Nat) : Nat.gcd g (x % g) = Nat.gcd x g := by
  rw [Nat.gcd_comm x g, Nat.gcd_rec g x, Nat.gcd_comm g]
section
variable {w0 w w' : World} {L : List (Option Addr × Nat × List Nat)} {A B : Option Addr} {c d n m : Nat} {xs ys : List Nat} {x y : Nat}
end
end Go.Proofs.YthgkdpfkaobgoaaDoor
end

section
/-
  Plain arithmetic of the root.
-/
namespace Go.Proofs.YthgkdpfkaobgoaaDoor
/-- The greatest number whose square is not above n. -/
def rt (n : Nat) : Nat := if h : n = 0 then 0 else if (2 * rt (n / 4) + 1) * (2 * rt (n / 4) + 1) ≤ n then 2 * rt (n / 4) + 1 else 2 * rt (n / 4)
termination_by n
decreasing_by all_goals omega
theorem sq_lt {a b : Nat} (h : a * a < b * b) : a < b := by
  rcases Nat.lt_or_ge a b with h1 | h1
  · exact h1
  · have := Nat.mul_le_mul h1 h1; omega
theorem rt_step (n : Nat) (h : n ≠ 0) : rt n = if (2 * rt (n / 4) + 1) * (2 * rt (n / 4) + 1) ≤ n then 2 * rt (n / 4) + 1 else 2 * rt (n / 4) := by
  rw [rt]; simp [h]
theorem rt_spec (n : Nat) : rt n * rt n ≤ n ∧ n < (rt n + 1) * (rt n + 1) := by
  induction n using Nat.strongRecOn with
  | ind n ih =>
    by_cases h : n = 0
    · subst h; rw [rt]; simp
    · obtain ⟨h1, h2⟩ := ih (n / 4) (by omega)
      rw [rt_step n h]
      generalize rt (n / 4) = r at *
      have e1 : (2 * r) * (2 * r) = 4 * (r * r) := by rw [Nat.mul_mul_mul_comm]
      have e2 : (2 * r + 1 + 1) * (2 * r + 1 + 1) = 4 * ((r + 1) * (r + 1)) := by rw [show 2 * r + 1 + 1 = 2 * (r + 1) by omega, Nat.mul_mul_mul_comm]
      split
      · exact ⟨by assumption, by rw [e2]; omega⟩
      · exact ⟨by rw [e1]; omega, by omega⟩
theorem rt_is {n s : Nat} (h1 : s * s ≤ n) (h2 : n < (s + 1) * (s + 1)) : s = rt n := by
  obtain ⟨h3, h4⟩ := rt_spec n
  have := sq_lt (Nat.lt_of_le_of_lt h1 h4)
  have := sq_lt (Nat.lt_of_le_of_lt h3 h2)
  omega
theorem rt_le {n s : Nat} (h : n < (s + 1) * (s + 1)) : rt n ≤ s := by
  have := sq_lt (Nat.lt_of_le_of_lt (rt_spec n).1 h); omega
theorem four_le (a b : Nat) : 4 * (a * b) ≤ (a + b) * (a + b) := by
  rcases Nat.le_total a b with h | h
  · obtain ⟨c, rfl⟩ := Nat.exists_eq_add_of_le h
    have : (a + (a + c)) * (a + (a + c)) = 4 * (a * (a + c)) + c * c := by
      simp only [Nat.mul_add, Nat.add_mul, Nat.mul_comm c a]; omega
    omega
  · obtain ⟨c, rfl⟩ := Nat.exists_eq_add_of_le h
    have : (b + c + b) * (b + c + b) = 4 * ((b + c) * b) + c * c := by
      simp only [Nat.mul_add, Nat.add_mul, Nat.mul_comm c b]; omega
    omega
/-- Newton's step stays above the root. -/
theorem newton {n s t : Nat} (hs : 0 < s) (ht : t = (s + n / s) / 2) : n < (t + 1) * (t + 1) := by
  have h1 := Nat.div_add_mod n s
  have h2 := Nat.mod_lt n hs
  have h3 := four_le s (n / s + 1)
  have h4 : s * (n / s + 1) = s * (n / s) + s := by rw [Nat.mul_add, Nat.mul_one]
  generalize n / s = q at *
  have h5 : s + (q + 1) ≤ 2 * (t + 1) := by omega
  have h6 := Nat.mul_le_mul h5 h5
  rw [Nat.mul_mul_mul_comm] at h6
  omega
theorem newton_end {n s t : Nat} (hs : 0 < s) (ht : t = (s + n / s) / 2) (h : s ≤ t) : s * s ≤ n := by
  have h1 : s ≤ n / s := by omega
  exact (Nat.le_div_iff_mul_le hs).1 h1
theorem rt_pos {n : Nat} (h : n ≠ 0) : 0 < rt n := by
  rcases Nat.eq_zero_or_pos (rt n) with h0 | h0
  · have := (rt_spec n).2; rw [h0] at this; omega
  · exact h0
end Go.Proofs.YthgkdpfkaobgoaaDoor
end

section
/-
  quo.root, above, Sqrt.
-/
namespace Go.Proofs.YthgkdpfkaobgoaaDoor
open Go.RowKit
/-- What above answers. -/
def Abv (w : World) (x : Nat) (e : Ending) (w' : World) : Prop := ∃ A' c' u, e = .returned (.slice A' (digs u).length c') ∧ Dg w' A' c' (digs u) ∧ Below w.heap.size w w' ∧ x < (u + 1) * (u + 1) ∧ 0 < u ∧ (digs u).length ≤ 600000
theorem two_pow_half (b : Nat) : 2 ^ b ≤ 2 ^ ((b + 1) / 2) * 2 ^ ((b + 1) / 2) := by
  rw [← Nat.pow_add]; exact Nat.pow_le_pow_right (by omega) (by omega)
theorem sq_up {x u : Nat} (h : x < u * u) : x < (u + 1) * (u + 1) := Nat.lt_of_lt_of_le h (Nat.mul_le_mul (by omega) (by omega))
theorem own_row {w : World} {base g : Nat} {ys : List Nat} (h : Row w g ys) (hb : base ≤ g) (hm : ys.length ≤ maxLen) : w.ownsRow base 75 1 (.slice (some ⟨g, 0, none⟩) ys.length ys.length) ys.length (cells ys) :=
  ⟨by simp [cells], .inr ⟨g, ys.length, (cells ys).toArray, rfl, hb, h, Nat.le_refl _, hm, by simp [cells], by rw [Nat.mul_one, List.take_of_length_le (by simp [cells])]⟩⟩
theorem digs_lift (k u : Nat) (hu : u ≠ 0) : digs (4294967296 ^ k * u) = List.replicate k 0 ++ digs u := by
  have e : val (List.replicate k 0 ++ digs u) = 4294967296 ^ k * u := by rw [val_append, val_zeros, List.length_replicate, val_digs]; omega
  rw [← e]
  refine digs_val (fun x hx => ?_) (fun x hx => ?_)
  · rcases List.mem_append.1 hx with hx | hx
    · exact ok_zeros k x hx
    · exact ok_digs u x hx
  · rw [List.getLast?_append] at hx
    rcases hd : (digs u).getLast? with _ | z
    · exfalso; rw [List.getLast?_eq_none_iff] at hd; exact hu (digs_nil.1 (by rw [hd]; rfl))
    · rw [hd] at hx; simp at hx; subst hx; exact last_digs hd
end Go.Proofs.YthgkdpfkaobgoaaDoor
end

section
/-
  quo.root at every length; quo.Sqrt.
-/
namespace Go.Proofs.YthgkdpfkaobgoaaDoor
open Go.RowKit
theorem Dg.drop_ {w : World} {b off c : Nat} {xs : List Nat} (h : Dg w (some ⟨b, off, none⟩) c xs) (j : Nat) : Dg w (some ⟨b, off + j, none⟩) (c - j) (xs.drop j) := by
  refine ⟨by rw [List.length_drop]; have := h.1; omega, fun x hx => h.2.1 x (List.mem_of_mem_drop hx), fun h0 => ?_⟩
  rw [List.length_drop] at h0
  obtain ⟨b', off', e, hb, hc⟩ := h.2.2 (by omega)
  injection e with e
  injection e with e1 e2 _
  subst e1 e2
  refine ⟨b, off + j, rfl, hb, fun i hi => ?_⟩
  rw [List.length_drop] at hi
  rw [Nat.add_assoc, hc _ (by omega), List.getElem?_drop]
theorem rt_self (n : Nat) : rt n ≤ n := by
  rcases Nat.eq_zero_or_pos (rt n) with h | h
  · omega
  · exact Nat.le_trans (Nat.le_mul_of_pos_right _ h) (rt_spec n).1
theorem trimmed_drop {xs : List Nat} (hk : ok32 xs) (ex : digs (val xs) = xs) (j : Nat) : digs (val (xs.drop j)) = xs.drop j := by
  refine digs_val (fun x hx => hk x (List.mem_of_mem_drop hx)) fun x hx => ?_
  rw [List.getLast?_drop] at hx
  split at hx
  · cases hx
  · exact last_digs (n := val xs) (by rw [ex]; exact hx)
theorem above_le {xs : List Nat} (hk : ok32 xs) {k : Nat} (h : 2 * k ≤ xs.length) : val xs < 4294967296 ^ k * (rt (val (xs.drop (2 * k))) + 1) * (4294967296 ^ k * (rt (val (xs.drop (2 * k))) + 1)) := by
  have h1 := val_split xs h
  have h2 := val_take_lt hk (2 * k) h
  have h3 := (rt_spec (val (xs.drop (2 * k)))).2
  rw [Nat.mul_mul_mul_comm, ← Nat.pow_add, show k + k = 2 * k by omega]
  have h4 := Nat.mul_le_mul_left (4294967296 ^ (2 * k)) h3
  rw [Nat.mul_succ] at h4
  omega
section
variable {w0 w w' : World} {L : List (Option Addr × Nat × List Nat)} {A : Option Addr} {c n : Nat} {xs : List Nat} {x : Nat}
end
end Go.Proofs.YthgkdpfkaobgoaaDoor
end

section
/-
  The reference's own text (astrolaberef03): short, guess.
-/
namespace Go.Proofs.YthgkdpfkaobgoaaDoor
open Go.RowKit
set_option maxHeartbeats 2000000 in
set_option maxRecDepth 100000 in
theorem rshort_any (A : Option Addr) (c d : Nat) (xs : List Nat) (w : World) (h : Dg w A c xs) (hl : xs.length ≤ 1048576) (hd0 : 0 < d) (hd : d < 4294967296) :
    Calls Tryd.prog 83 #[.slice A xs.length c, .int .u64 d] w fun e w' => ∃ A' c' B' d', e = .returned (.tuple #[.slice A' (digs (val xs / d)).length c', .slice B' (digs (val xs % d)).length d']) ∧ Dg w' A' c' (digs (val xs / d)) ∧ Dg w' B' d' (digs (val xs % d)) ∧ Below w.heap.size w w' := by
  have H := Lib.hid h
  clear h
  have hmk := run_make_row' (P := Tryd.prog) 22 75 (.int .u32 0) 4 Tryd.underlying22 elem_info rfl .i64 .i64 xs.length (by omega) (by omega)
  have f1 : ((d : Int) == 0) = false := beq_eq_false_iff_ne.2 (by omega)
  have f3 : ((d : Int) != 0) = true := by simp; omega
  go_enter Tryd.func83, Tryd.ntmps83
  go_wp2
  go_loopw [7, 8] (fun rv i wr => ∃ (k r : Nat) (z : Int) (zs : List Nat), k ≤ xs.length ∧ i = .int .i64 z ∧ z = (k : Int) - 1 ∧ rv = .int .u64 r ∧ r < d ∧ Row wr w.heap.size zs ∧ Hid (zs.length = xs.length) ∧ ok32 zs ∧
    Hid (val (xs.drop k) = val (zs.drop k) * d + r) ∧ Below w.heap.size w wr) (fun _ i _ => (intOf i + 1).toNat)
  case atStart => exact ⟨xs.length, 0, (xs.length : Int) - 1, List.replicate xs.length 0, Nat.le_refl _, rfl, rfl, rfl, hd0, Row.made _ _, by simp [Hid], ok_zeros _, by simp [Hid, val], (Below.refl _ _).alloc (Nat.le_refl _) _⟩
  case round =>
    obtain ⟨k, r, z, zs, hk, rfl, hz, rfl, hr, hrow, HL, hok, HE, hbel⟩ := hrel
    rcases k with _ | k
    · obtain rfl : z = -1 := by omega
      clear hz hk
      have HV : Hid (val xs / d = val zs ∧ val xs % d = r) := by
        have e := HE.out
        rw [List.drop_zero, List.drop_zero] at e
        rw [e, Nat.mul_comm, Nat.mul_add_div hd0, Nat.mul_add_mod, Nat.div_eq_of_lt hr, Nat.mod_eq_of_lt hr]
        exact ⟨Nat.add_zero _, rfl⟩
      have L0 := Lib.hid ((live_start wr).add (hrow.dg hok (c := xs.length) (by have := HL.out; omega)))
      have hl' := HL.out
      go_wp2_with fail
      refine Calls.mono (rtrim_l (xs := zs) (x := val xs / d) L0.out (by simp) hl'.symm (by rw [HV.out.1]) (by omega)) ?_
      rintro e w2 ⟨A2, c2, rfl, h2⟩
      have L2 := Lib.hid h2
      clear h2
      have hr64 : r < 18446744073709551616 := by omega
      go_wp2_with fail
      refine Calls.mono (rfrom_l L2.out (i := (r : Int)) (k := r) rfl hr64) ?_
      rintro e w3 ⟨A3, c3, rfl, h3⟩
      have L3 := Lib.hid h3
      clear h3
      go_wp2
      go_ret2
      rw [HV.out.2]
      exact ⟨A2, c2, A3, c3, rfl, L3.out.get (by simp), L3.out.get (by simp), hbel.trans (L3.out.1.mono hbel.size)⟩
    · obtain rfl : z = (k : Int) := by omega
      clear hz
      obtain ⟨b, o, hA, hbk, hcx⟩ := H.out.2.2 (by omega)
      have hy := (hbel.cell (p := ⟨b, o + k, none⟩) hbk).trans (hcx k (by omega))
      have hY := getD_lt H.out.2.1 k
      have hcell := hrow.cell (i := k) (by have := HL.out; omega)
      have hfr := hrow.frozen k
      have hki : (k : Int) < (xs.length : Int) := by omega
      have hki' : k < xs.length := by omega
      generalize ey : xs[k]?.getD 0 = y at *
      have HY := Lib.hid ey
      clear ey hcx
      subst hA
      obtain ⟨t, ht⟩ : ∃ t : Nat, y + 4294967296 * r = t := ⟨_, rfl⟩
      have hO : bits BinOp.or IntKind.u64 ((r : Int) * 4294967296) (y : Int) = (t : Int) := by rw [or_join _ _ (by omega) hY, ht]
      obtain ⟨q, hq⟩ : ∃ q : Nat, t / d = q := ⟨_, rfl⟩
      obtain ⟨r', hr'⟩ : ∃ r' : Nat, t % d = r' := ⟨_, rfl⟩
      have hw0 : (t : Int) / (d : Int) = (q : Int) := by rw [← hq, ← Int.natCast_ediv]
      have hw1 : (t : Int) % (d : Int) = (r' : Int) := by rw [← hr', Int.natCast_emod]
      have bq : q < 4294967296 := by rw [← hq, Nat.div_lt_iff_lt_mul hd0, ← ht]; have := Nat.mul_le_mul_left 4294967296 hr; omega
      have br : r' < d := by rw [← hr']; exact Nat.mod_lt _ hd0
      have bt : t < 18446744073709551616 := by omega
      have HQ := Lib.hid (show (y + 4294967296 * r) / d = q by rw [ht, hq])
      have HR := Lib.hid (show (y + 4294967296 * r) % d = r' by rw [ht, hr'])
      clear hq hr' ht
      go_wp2
      go_roundw
      case rel =>
        have hl' := HL.out
        exact ⟨k, r', (k : Int) - 1, zs.set k q, by omega, rfl, rfl, by rw [hw1], br, hrow.set_int rfl, by simp only [List.length_set]; exact HL, ok_set hok bq _, digit_step hki' (by omega) HE.out (by rw [HY.out]; exact HQ.out) (by rw [HY.out]; exact HR.out), hbel.setCell (by simp) _⟩
      case measure => simp [intOf]
theorem top_ne {D n : Nat} (hn : (digs D).length = n + 1) : (digs D)[n]?.getD 0 ≠ 0 := by
  have hl : (digs D).getLast? = (digs D)[n]? := by rw [List.getLast?_eq_getElem?, hn, Nat.add_sub_cancel]
  rcases hx : (digs D)[n]? with _ | x
  · rw [List.getElem?_eq_none_iff] at hx; omega
  · rw [hx] at hl; exact last_digs hl
theorem pow_le {D n : Nat} (hn : (digs D).length = n + 1) : 4294967296 ^ n ≤ D := by
  have := val_seen1 (ok_digs D) hn
  rw [val_digs] at this
  have := Nat.mul_le_mul_right (4294967296 ^ n) (show 1 ≤ (digs D)[n]?.getD 0 by have := top_ne hn; omega)
  omega
theorem guess_up {R D g n : Nat} (hlt : R < D * 4294967296) (hn : (digs D).length = n + 1) (hg : ∀ t, t * 4294967296 ^ n ≤ R → t < 18446744073709551616 → t / (digs D)[n]?.getD 0 ≤ g ∨ 4294967295 ≤ g) : R / D ≤ g := by
  have v1 := val_seen1 (ok_digs D) hn
  rw [val_digs] at v1
  have hD : D ≠ 0 := fun e => by rw [e, Nat.zero_mul] at hlt; omega
  have hf := top_ne hn
  have hp : 0 < 4294967296 ^ n := Nat.pow_pos (by omega)
  have hq : R / D < 4294967296 := by rw [Nat.div_lt_iff_lt_mul (by omega), Nat.mul_comm]; exact hlt
  have ht : R / 4294967296 ^ n < 18446744073709551616 := by
    rw [Nat.div_lt_iff_lt_mul hp]
    have h1 := val_lt (ok_digs D)
    rw [val_digs, hn, Nat.pow_succ] at h1
    omega
  rcases hg (R / 4294967296 ^ n) (Nat.div_mul_le_self _ _) ht with h | h
  · refine Nat.le_trans (kn_start (u := R) (v := D) (p := 4294967296 ^ n) (by omega) ?_ v1.1 (Nat.div_mul_le_self _ _)) h
    have := Nat.div_add_mod R (4294967296 ^ n)
    have := Nat.mod_lt R hp
    rw [Nat.add_mul, Nat.mul_comm (_ / _)]; omega
  · omega
theorem min_nat (q : Nat) (h : q < 18446744073709551616) : ∃ g : Nat, min (q : Int) 4294967295 = (g : Int) ∧ g < 4294967296 ∧ (q ≤ g ∨ 4294967295 ≤ g) := ⟨min q 4294967295, by omega, by omega, by omega⟩
theorem seen_one {R n : Nat} (hl : (digs R).length = n + 1) : R / 4294967296 ^ n = (digs R)[n]?.getD 0 := by
  have r1 := val_seen1 (ok_digs R) hl
  rw [val_digs] at r1
  have hp : 0 < 4294967296 ^ n := Nat.pow_pos (by omega)
  refine Nat.le_antisymm (Nat.le_of_lt_succ ?_) ?_
  · rw [Nat.div_lt_iff_lt_mul hp]; exact r1.2
  · rw [Nat.le_div_iff_mul_le hp]; exact r1.1
theorem seen_two {R n : Nat} (hl : (digs R).length = n + 2) : R / 4294967296 ^ n = (digs R)[n + 1]?.getD 0 * 4294967296 + (digs R)[n]?.getD 0 := by
  have r1 := val_seen2 (ok_digs R) hl
  rw [val_digs] at r1
  have hp : 0 < 4294967296 ^ n := Nat.pow_pos (by omega)
  refine Nat.le_antisymm (Nat.le_of_lt_succ ?_) ?_
  · rw [Nat.div_lt_iff_lt_mul hp]; exact r1.2
  · rw [Nat.le_div_iff_mul_le hp]; exact r1.1
/-- What guess answers. -/
def Gss (l : Nat) (e : Ending) : Prop := ∃ g : Nat, e = .returned (.int .u64 g) ∧ l ≤ g ∧ g < 4294967296
set_option maxHeartbeats 2000000 in
set_option maxRecDepth 100000 in
theorem rguess_any (A B : Option Addr) (c d R D : Nat) (w : World) (h : Dg w A c (digs R)) (h' : Dg w B d (digs D)) (hD : D ≠ 0) (hlt : R < D * 4294967296) (hl : (digs D).length ≤ 1048576) :
    Calls Tryd.prog 85 #[.slice A (digs R).length c, .slice B (digs D).length d] w fun e w' => Gss (R / D) e ∧ w = w' := by
  obtain ⟨n, hn⟩ : ∃ n, (digs D).length = n + 1 := ⟨(digs D).length - 1, by have : (digs D).length ≠ 0 := fun e => hD (digs_nil.1 e); omega⟩
  have hR : (digs R).length ≤ n + 2 := by
    apply digs_len_lt
    have h1 := val_lt (ok_digs D)
    rw [val_digs, hn] at h1
    have e : 4294967296 ^ (n + 2) = 4294967296 ^ (n + 1) * 4294967296 := Nat.pow_succ _ _
    rw [e]
    exact Nat.lt_trans hlt (Nat.mul_lt_mul_of_pos_right h1 (by omega))
  have nb : n ≤ 1048576 := by omega
  have hf := top_ne hn
  have HG := Lib.hid (fun g => guess_up (g := g) hlt hn)
  have bf := getD_lt (ok_digs D) n
  obtain ⟨b, p, hB, hb, hcb⟩ := h'.2.2 (by omega)
  have q0 := hcb n (by omega)
  generalize (digs D)[n]?.getD 0 = f at *
  have f1 : ((f : Int) == 0) = false := beq_eq_false_iff_ne.2 (by omega)
  have f3 : ((f : Int) != 0) = true := by simp; omega
  have f0 : 0 < f := by omega
  rw [hn]
  by_cases h0 : (digs R).length < n + 1
  · have t0 : decide ((digs R).length < n + 1) = true := by simp [h0]
    have HZ : Hid (R / D ≤ 0) := by
      have h1 : R < 4294967296 ^ n := by
        have := val_lt (ok_digs R)
        rw [val_digs] at this
        exact Nat.lt_of_lt_of_le this (Nat.pow_le_pow_right (by omega) (by omega))
      have h3 := pow_le hn
      show R / D ≤ 0
      rw [Nat.div_eq_of_lt (by omega)]
      exact Nat.le_refl _
    clear h h' hcb q0 hf HG
    go_enter Tryd.func85, Tryd.ntmps85
    go_wp2
    go_ret
    exact ⟨⟨0, rfl, HZ.out, by omega⟩, rfl⟩
  · obtain ⟨a, o, hA, ha, hca⟩ := h.2.2 (by omega)
    have c0 := hca n (by omega)
    have bx := getD_lt (ok_digs R) n
    have t0 : decide ((digs R).length < n + 1) = false := by simp; omega
    by_cases h1 : (digs R).length = n + 1
    · have es := seen_one h1
      have hq := Nat.div_le_self ((digs R)[n]?.getD 0) f
      obtain ⟨g, hg, bg, hgq⟩ := min_nat ((digs R)[n]?.getD 0 / f) (by omega)
      have hw : IntKind.u64.wrap ((((digs R)[n]?.getD 0 : Nat) : Int) / (f : Int)) = (((digs R)[n]?.getD 0 / f : Nat) : Int) := by rw [← Int.natCast_ediv]; exact IntWalk.u64_in _ ⟨by omega, by omega⟩
      have HS : Hid (R / D ≤ g) := by
        refine HG.out g fun t ht _ => ?_
        have h2 : t ≤ (digs R)[n]?.getD 0 := by rw [← es, Nat.le_div_iff_mul_le (Nat.pow_pos (by omega))]; exact ht
        have := Nat.div_le_div_right (c := f) h2
        omega
      generalize (digs R)[n]?.getD 0 = x at *
      generalize x / f = q at *
      rw [h1]
      have d0 : decide (n + 1 < n + 1) = false := by simp
      subst hA hB
      clear h h' hcb hca h0 hf HG es h1 hgq hq t0 hR hn hl hlt hD
      go_enter Tryd.func85, Tryd.ntmps85
      go_wp2
      go_ret
      exact ⟨⟨g, rfl, HS.out, bg⟩, rfl⟩
    · have h2 : (digs R).length = n + 2 := by omega
      have es := seen_two h2
      have c1 := hca (n + 1) (by omega)
      have by1 := getD_lt (ok_digs R) (n + 1)
      have hq := Nat.div_le_self ((digs R)[n + 1]?.getD 0 * 4294967296 + (digs R)[n]?.getD 0) f
      obtain ⟨g, hg, bg, hgq⟩ := min_nat (((digs R)[n + 1]?.getD 0 * 4294967296 + (digs R)[n]?.getD 0) / f) (by omega)
      have HS : Hid (R / D ≤ g) := by
        refine HG.out g fun t ht _ => ?_
        have h2 : t ≤ (digs R)[n + 1]?.getD 0 * 4294967296 + (digs R)[n]?.getD 0 := by rw [← es, Nat.le_div_iff_mul_le (Nat.pow_pos (by omega))]; exact ht
        have := Nat.div_le_div_right (c := f) h2
        omega
      generalize (digs R)[n]?.getD 0 = x at *
      generalize (digs R)[n + 1]?.getD 0 = y at *
      obtain ⟨t, ht⟩ : ∃ t : Nat, y * 4294967296 + x = t := ⟨_, rfl⟩
      have hO : bits BinOp.or IntKind.u64 (x : Int) ((y : Int) * 4294967296) = (t : Int) := by rw [or_join' _ _ bx by1]; congr 1; omega
      have bt : t < 18446744073709551616 := by omega
      rw [ht] at hg hgq hq
      have hw : IntKind.u64.wrap ((t : Int) / (f : Int)) = ((t / f : Nat) : Int) := by rw [← Int.natCast_ediv]; exact IntWalk.u64_in _ ⟨by omega, by omega⟩
      generalize t / f = q at *
      rw [h2]
      have d0 : decide (n + 2 < n + 1) = false := by simp
      have d1 : decide (n + 1 < n + 2) = true := by simp
      subst hA hB
      clear h h' hcb hca h0 h1 hf HG es h2 hgq hq t0 hR hn hl hlt hD ht
      go_enter Tryd.func85, Tryd.ntmps85
      go_wp2
      go_ret
      exact ⟨⟨g, rfl, HS.out, bg⟩, rfl⟩
end Go.Proofs.YthgkdpfkaobgoaaDoor
end

section
/-
  The reference's own text (astrolaberef03): DivMod.
-/
namespace Go.Proofs.YthgkdpfkaobgoaaDoor
open Go.RowKit
/-- What stands between two digits of the reference's long division: the digits from k on are done. -/
structure Rv (X D k : Nat) (zs : List Nat) (r : Nat) : Prop where
  lt : r < D
  ok : ok32 zs
  eq : X / 4294967296 ^ k = val (zs.drop k) * D + r
theorem Rv.start {X D N : Nat} (hD : 0 < D) (h : X < 4294967296 ^ N) : Rv X D N (List.replicate N 0) 0 :=
  ⟨hD, ok_zeros _, by rw [Nat.div_eq_of_lt h]; simp [val]⟩
theorem Rv.next {X D k : Nat} {zs : List Nat} {r x : Nat} (h : Rv X D (k + 1) zs r) (hk : k < zs.length) (hx : x = X / 4294967296 ^ k % 4294967296) :
    x + 4294967296 * r < D * 4294967296 ∧ ∀ q, q = (x + 4294967296 * r) / D → Rv X D k (zs.set k q) (x + 4294967296 * r - D * q) := by
  have hl := h.lt
  have hx' : x < 4294967296 := by omega
  have h1 : x + 4294967296 * r < D * 4294967296 := by
    have := Nat.mul_le_mul_left 4294967296 hl
    omega
  refine ⟨h1, fun q hq => ?_⟩
  have hD : 0 < D := by omega
  have hm := Nat.div_add_mod (x + 4294967296 * r) D
  have hr := Nat.mod_lt (x + 4294967296 * r) hD
  rw [← hq] at hm
  refine ⟨by omega, ok_set h.ok (by rw [hq, Nat.div_lt_iff_lt_mul hD]; omega) _, ?_⟩
  have e2 : (zs.set k q).drop k = q :: zs.drop (k + 1) := by
    rw [List.drop_eq_getElem_cons (by simpa using hk), List.drop_set_of_lt (by omega)]; simp
  have e3 : X / 4294967296 ^ k = x + 4294967296 * (X / 4294967296 ^ (k + 1)) := by
    rw [Nat.pow_succ, ← Nat.div_div_eq_div_mul]; omega
  rw [e2, e3, h.eq]
  simp only [val]
  rw [Nat.add_mul, Nat.mul_add, Nat.mul_assoc, Nat.mul_comm q D]
  omega
theorem Rv.done {X D : Nat} {zs : List Nat} {r : Nat} (h : Rv X D 0 zs r) : val zs = X / D ∧ r = X % D := by
  have := h.eq
  rw [Nat.pow_zero, Nat.div_one, List.drop_zero] at this
  exact div_done (by rw [this, Nat.mul_comm]; omega) h.lt
theorem digs_cons (x r : Nat) : val (x :: digs r) = x + 4294967296 * r := by simp only [val, val_digs]
theorem digs_at (X k : Nat) : (digs X)[k]?.getD 0 = X / 4294967296 ^ k % 4294967296 := by
  induction k generalizing X with
  | zero =>
    by_cases h : X = 0
    · subst h; rw [digs_zero]; simp
    · rw [digs_pos h]; simp
  | succ k ih =>
    by_cases h : X = 0
    · subst h; rw [digs_zero]; simp
    · rw [digs_pos h, List.getElem?_cons_succ, ih, Nat.pow_succ, Nat.mul_comm, Nat.div_div_eq_div_mul]
theorem Dg.set_other {w : World} {A : Option Addr} {c g : Nat} {xs : List Nat} (h : Dg w A c xs) (hA : ∀ o, A ≠ some ⟨g, o, none⟩) (i : Nat) (v : Value) : Dg (w.setCell ⟨g, i, none⟩ v) A c xs :=
  ⟨h.1, h.2.1, fun h0 => by
    obtain ⟨b, off, e, hb, hc⟩ := h.2.2 h0
    have hne : b ≠ g := fun e' => hA off (by rw [e, e'])
    refine ⟨b, off, e, by simpa using hb, fun j hj => ?_⟩
    rw [World.cell?_setCell_other _ _ _ _ (by intro h; simp only [Addr.mk.injEq] at h; omega)]
    exact hc j hj⟩
theorem rsub_any (A B : Option Addr) (c d x y : Nat) (w : World) (h : Dg w A c (digs x)) (h' : Dg w B d (digs y)) (hl : (digs x).length ≤ 1048576) (hl' : (digs y).length ≤ 1048576) :
    Calls Tryd.prog 48 #[.slice A (digs x).length c, .slice B (digs y).length d] w fun e w' => ∃ A' c', e = .returned (.tuple #[.slice A' (digs (x - y)).length c', .bool (decide (y ≤ x))]) ∧ Dg w' A' c' (digs (x - y)) ∧ Below w.heap.size w w' ∧ Fr w.heap.size A' := by
  rcases Nat.lt_or_ge x y with hlt | hge
  · have h0 := rsub_no A B c d (digs x) (digs y) w h h' hl hl' (by rw [val_digs, val_digs]; exact hlt)
    refine h0.mono fun _ _ ⟨he, hw⟩ => ⟨none, 0, ?_, ?_, ?_, fr_none _⟩
    · rw [he, show x - y = 0 by omega, digs_zero, decide_eq_false (by omega)]; rfl
    · rw [show x - y = 0 by omega, digs_zero]; exact Dg.nil_ _ _
    · rw [← hw]; exact Below.refl _ _
  · have h0 := rsub_f A B c d (digs x) (digs y) w h h' hl hl' (by rw [val_digs, val_digs]; exact hge)
    rw [val_digs, val_digs] at h0
    refine h0.mono fun _ _ ⟨A', c', he, hd, hb, hf⟩ => ⟨A', c', ?_, hd, hb, hf⟩
    rw [he, decide_eq_true hge]
section
variable {w0 w w' : World} {L : List (Option Addr × Nat × List Nat)} {A B : Option Addr} {c d x y : Nat} {q : Bool}
theorem rsub_b (hL : Live w0 w L) (h1 : (A, c, digs x) ∈ L) (h2 : (B, d, digs y) ∈ L) (b1 : (digs x).length ≤ 1048576) (b2 : (digs y).length ≤ 1048576) (hq : decide (y ≤ x) = q) :
    Calls Tryd.prog 48 #[.slice A (digs x).length c, .slice B (digs y).length d] w fun e w' => ∃ A' c', e = .returned (.tuple #[.slice A' (digs (x - y)).length c', .bool q]) ∧ Live w0 w' ((A', c', digs (x - y)) :: L) ∧ Fr w0.heap.size A' := by
  subst hq
  exact (rsub_any A B c d x y w (hL.get h1) (hL.get h2) b1 b2).mono fun _ _ ⟨A', c', he, hd, hb, hf⟩ => ⟨A', c', he, (hL.step hb).add hd, fun b o e => Nat.le_trans hL.1.size (hf b o e)⟩
end
theorem digs_len_step (R D : Nat) (h : R < D * 4294967296) : (digs R).length ≤ (digs D).length + 1 := by
  apply digs_len_lt
  have h1 := val_lt (ok_digs D)
  rw [val_digs] at h1
  rw [Nat.pow_succ]
  exact Nat.lt_trans h (Nat.mul_lt_mul_of_pos_right h1 (by omega))
theorem quot_is {R D g : Nat} (hD : 0 < D) (h1 : R / D ≤ g) (h2 : D * g ≤ R) : g = R / D := Nat.le_antisymm (by rw [Nat.le_div_iff_mul_le hD, Nat.mul_comm]; exact h2) h1
theorem quot_less {R D g : Nat} (hD : 0 < D) (h2 : ¬ D * g ≤ R) : 1 ≤ g ∧ R / D ≤ g - 1 := by
  have h3 : R / D < g := by rw [Nat.div_lt_iff_lt_mul hD, Nat.mul_comm]; omega
  generalize R / D = q at *
  omega
set_option maxHeartbeats 8000000 in
set_option maxRecDepth 100000 in
theorem rdivmod_long (A B : Option Addr) (c d : Nat) (xs ys : List Nat) (w : World) (h : Dg w A c xs) (h' : Dg w B d ys) (hl : xs.length ≤ 100000) (hl' : ys.length ≤ 100000) (h2 : 2 ≤ (digs (val ys)).length) :
    Calls Tryd.prog 64 #[.slice A xs.length c, .slice B ys.length d] w fun e w' => ∃ A' c' B' d', e = .returned (.tuple #[.slice A' (digs (val xs / val ys)).length c', .slice B' (digs (val xs % val ys)).length d', .bool true]) ∧ Dg w' A' c' (digs (val xs / val ys)) ∧ Dg w' B' d' (digs (val xs % val ys)) ∧ Below w.heap.size w w' := by
  have y0 : val ys ≠ 0 := fun e => by rw [e, digs_zero] at h2; simp at h2
  obtain ⟨s, hs31, hs⟩ := norm_way y0
  have L0 := Lib.hid (((live_start w).add h).add h')
  have l1 := digs_len_le h.2.1
  have l2 := digs_len_le h'.2.1
  have HN := Lib.hid (show (32 : Int) * ((digs (val ys)).length : Int) - (blen (val ys) : Int) = (s : Int) by omega)
  have bB : blen (val ys) ≤ 32 * (digs (val ys)).length := by omega
  have t0 : (((digs (val ys)).length : Int) == 0) = false := beq_eq_false_iff_ne.2 (by omega)
  have t1 : (((digs (val ys)).length : Int) == 1) = false := beq_eq_false_iff_ne.2 (by omega)
  have HDM := Lib.hid (div_moved (val xs) (val ys) s)
  have HMM := Lib.hid (mod_moved (val xs) (val ys) s)
  have HD0 := Lib.hid (show 0 < val ys * 2 ^ s from Nat.mul_pos (by omega) (Nat.pow_pos (by omega)))
  have ld := digs_shl_len (val ys) s
  have lm := digs_shl_len (val xs) s
  clear h h' hs y0
  go_enter Tryd.func64, Tryd.ntmps64
  go_wp2_with fail
  refine Calls.mono (rtrim_l (xs := ys) (x := val ys) L0.out (by simp) rfl rfl (by omega)) ?_
  rintro e w1 ⟨A1, c1, rfl, h1⟩
  have L1 := Lib.hid h1
  clear h1
  go_wp2_with fail
  refine Calls.mono (rbits_l (xs := digs (val ys)) (x := val ys) (q := (blen (val ys) : Int)) L1.out (by simp) rfl (val_digs _) (by omega) rfl) ?_
  rintro e w2 ⟨rfl, h1⟩
  have L2 := Lib.hid h1
  clear h1
  go_wp2_with fail
  rw [HN.out]
  refine Calls.mono (rshl_l (xs := digs (val ys)) (x := val ys) (i := (s : Int)) (k := s) L2.out (by simp) rfl (val_digs _) (by omega) rfl (by omega)) ?_
  rintro e w3 ⟨A3, c3, rfl, h1⟩
  have L3 := Lib.hid h1
  clear h1
  go_wp2_with fail
  refine Calls.mono (rshl_l (xs := xs) (x := val xs) (i := (s : Int)) (k := s) L3.out (by simp) rfl rfl (by omega) rfl (by omega)) ?_
  rintro e w4 ⟨A4, c4, rfl, h1⟩
  have L4 := Lib.hid (show Live w w4 [(A4, c4, digs (val xs * 2 ^ s)), (A3, c3, digs (val ys * 2 ^ s))] from ⟨h1.1, fun t ht => h1.2 t (by simp at ht ⊢; rcases ht with rfl | rfl <;> simp)⟩)
  clear h1 L0 L1 L2 L3
  generalize val xs * 2 ^ s = M at *
  generalize val ys * 2 ^ s = D at *
  have lm' : (digs M).length ≤ 200000 := by omega
  have ld' : (digs D).length ≤ 200000 := by omega
  have HM := Lib.hid (show M < 4294967296 ^ (digs M).length by have := val_lt (ok_digs M); rwa [val_digs] at this)
  have hmk := run_make_row' (P := Tryd.prog) 22 75 (.int .u32 0) 4 Tryd.underlying22 elem_info rfl .i64 .i64 (digs M).length (by omega) (by omega)
  clear lm ld l1 l2 t0 t1 h2 bB hl hl'
  go_wp2
  go_loopw [14, 15] (fun rv i wr => ∃ (A5 : Option Addr) (c5 r k : Nat) (z : Int) (zs : List Nat), k ≤ (digs M).length ∧ i = .int .i64 z ∧ z = (k : Int) - 1 ∧ rv = .slice A5 (digs r).length c5 ∧ Hid (Dg wr A5 c5 (digs r)) ∧ Hid (∀ o, A5 ≠ some ⟨w4.heap.size, o, none⟩) ∧ Row wr w4.heap.size zs ∧ Hid (zs.length = (digs M).length) ∧
    Hid (Rv M D k zs r) ∧ Below w4.heap.size w4 wr) (fun _ i _ => (intOf i + 1).toNat)
  case atStart => exact ⟨none, 0, 0, (digs M).length, ((digs M).length : Int) - 1, List.replicate (digs M).length 0, Nat.le_refl _, rfl, rfl, by rw [digs_zero]; rfl, by rw [digs_zero]; exact Dg.nil_ _ _, (fun _ h => nomatch h), Row.made _ _, by simp [Hid], Rv.start HD0.out HM.out, (Below.refl _ _).alloc (Nat.le_refl _) _⟩
  case round =>
    obtain ⟨A5, c5, r, k, z, zs, hk, rfl, hz, rfl, HA5, HNE, hrow, HL, HE, hbel⟩ := hrel
    rcases k with _ | k
    · obtain rfl : z = -1 := by omega
      clear hz hk
      obtain ⟨e1, e2⟩ := HE.out.done
      have hl' := HL.out
      have lr : (digs r).length ≤ (digs D).length := digs_len_mono _ _ (Nat.le_of_lt HE.out.lt)
      have L5 := Lib.hid (((live_start wr).add HA5.out).add (hrow.dg HE.out.ok (c := (digs M).length) (by omega)))
      have E1 := Lib.hid (show val zs = val xs / val ys by rw [e1, HDM.out])
      have E2 := Lib.hid (show r / 2 ^ s = val xs % val ys by rw [e2, HMM.out])
      clear e1 e2
      go_wp2_with fail
      refine Calls.mono (rtrim_l (xs := zs) (x := val xs / val ys) L5.out (by simp) hl'.symm E1.out (by omega)) ?_
      rintro e w6 ⟨A6, c6, rfl, h1⟩
      have L6 := Lib.hid h1
      clear h1
      go_wp2_with fail
      refine Calls.mono (rshr_l (xs := digs r) (x := r) (i := (s : Int)) (k := s) L6.out (by simp) rfl (val_digs _) (by omega) rfl (by omega)) ?_
      rw [E2.out]
      rintro e w7 ⟨A7, c7, rfl, h1⟩
      have L7 := Lib.hid h1
      clear h1
      go_wp2
      go_ret3
      exact ⟨A6, c6, A7, c7, rfl, L7.out.get (by simp), L7.out.get (by simp), L4.out.1.trans ((hbel.trans (L7.out.1.mono hbel.size)).mono L4.out.1.size)⟩
    · obtain rfl : z = (k : Int) := by omega
      clear hz
      have hl' := HL.out
      have hlt : k < (digs M).length := by omega
      obtain ⟨bn, on, hAn, hbn, hcn⟩ := (L4.out.get (A := A4) (c := c4) (xs := digs M) (by simp)).2.2 (by omega)
      have hx := (hbel.cell (p := ⟨bn, on + k, none⟩) hbn).trans (hcn k hlt)
      have hX := getD_lt (ok_digs M) k
      have HX := Lib.hid (digs_at M k)
      generalize (digs M)[k]?.getD 0 = x at *
      obtain ⟨hlt2, hnx⟩ := HE.out.next (x := x) (by omega) HX.out
      have HNX := Lib.hid hnx
      have LR := digs_len_mono _ _ (Nat.le_of_lt HE.out.lt)
      have hcell := hrow.cell (i := k) (by omega)
      have hfr := hrow.frozen k
      have HLT2 := Lib.hid hlt2
      have HO := Lib.hid (World.ownsRow_lit (base := wr.heap.size) (e := 75) (size := 1) wr #[.int .u32 (x : Int)] 1 (Nat.le_refl _) (by unfold maxLen; omega) rfl)
      subst hAn
      have LM := Lib.hid (L4.out.get (A := some ⟨bn, on, none⟩) (c := c4) (xs := digs M) (by simp))
      have LD := Lib.hid (L4.out.get (A := A3) (c := c3) (xs := digs D) (by simp))
      clear hcn hnx hlt2
      go_wp2_with (at_builtin; refine wpList_append_dg rfl _ _ rfl wr.heap.size _ 1 [x] (digs r) A5 c5 (digs r).length rfl HO.out (HA5.out.below ((Below.refl _ _).alloc (Nat.le_refl _) _)) rfl rfl (by omega) (by simp) ?_)
      intro v' w6 hown hgrow
      obtain ⟨A6, c6, hv, hd6⟩ := dg_of_own hown (fun y hy => (List.mem_cons.1 hy).elim (fun h => h ▸ hX) (fun h => ok_digs r y h))
      have hb6 := ((Below.refl _ wr).alloc (Nat.le_refl _) (.cells #[.int .u32 (x : Int)] 75)).grown hgrow (by simp) (by intro k hk; simp [Value.ownBlock] at hk; omega)
      have L6 := Lib.hid (show Live wr w6 [(A6, c6, x :: digs r), (A3, c3, digs D)] from ((((live_start wr).add (LD.out.below hbel)).step hb6).add hd6))
      have l6 : (x :: digs r).length ≤ 200001 := by simp; omega
      subst hv
      clear hown hd6 hgrow hb6
      go_wp2_with fail
      refine Calls.mono (rtrim_l (xs := x :: digs r) (x := x + 4294967296 * r) L6.out (by simp) (by simp) (digs_cons x r) (by omega)) ?_
      rintro e w7 ⟨A7, c7, rfl, h1⟩
      have L7 := Lib.hid h1
      clear h1 L6 l6
      obtain ⟨R, hR⟩ : ∃ R, x + 4294967296 * r = R := ⟨_, rfl⟩
      rw [hR] at L7 HLT2 HNX
      rw [hR]
      have lR : (digs R).length ≤ 200001 := by
        have h1 := digs_len_step R D HLT2.out
        omega
      clear hR
      go_wp2_with fail
      refine Calls.mono (rguess_any A7 A3 c7 c3 R D w7 (L7.out.get (by simp)) (L7.out.get (by simp)) (by have := HD0.out; omega) HLT2.out (by omega)) ?_
      rintro e w8 ⟨⟨g, rfl, hg, bg⟩, rfl⟩
      have HG := Lib.hid hg
      clear hg
      go_wp2_with fail
      refine Calls.mono (rfrom_l L7.out (i := (g : Int)) (k := g) rfl (by omega)) ?_
      rintro e w8 ⟨A8, c8, rfl, h1⟩
      have L8 := Lib.hid h1
      clear h1
      have lg := digs_small (n := g) (by omega)
      go_wp2_with fail
      refine Calls.mono (rmul_l (xs := digs D) (ys := digs g) (x := D) (y := g) L8.out (by simp) (by simp) rfl rfl (val_digs _) (val_digs _) (by omega) (by omega)) ?_
      rintro e w9 ⟨A9, c9, rfl, h1⟩
      have L9 := Lib.hid h1
      clear h1
      have lm9 := digs_mul_len D g
      go_wp2_with fail
      obtain ⟨q0, hq0⟩ : ∃ q, decide (D * g ≤ R) = q := ⟨_, rfl⟩
      have HQ0 := Lib.hid hq0
      clear hq0
      refine Calls.mono (rsub_b (x := R) (y := D * g) L9.out (by simp) (by simp) (by omega) (by omega) HQ0.out) ?_
      rintro e w10 ⟨A10, c10, rfl, h1, hf1⟩
      have HF10 := Lib.hid hf1
      clear hf1
      have L10 := Lib.hid (show Live wr w10 [(A10, c10, digs (R - D * g)), (A7, c7, digs R), (A3, c3, digs D)] from ⟨h1.1, fun t ht => h1.2 t (by simp at ht ⊢; rcases ht with rfl | rfl | rfl <;> simp)⟩)
      clear h1 L7 L8 L9 lm9 lg
      obtain ⟨wo, rfl⟩ : ∃ wo : World, wo = wr := ⟨_, rfl⟩
      go_wp2
      go_loopg [16, 17, 18] g (fun g' gv sv bv wr2 => ∃ (A11 : Option Addr) (c11 : Nat) (q : Bool), gv = .int .u64 g' ∧ sv = .slice A11 (digs (R - D * g')).length c11 ∧ bv = .bool q ∧ Hid (decide (D * g' ≤ R) = q) ∧ Hid (R / D ≤ g') ∧ g' < 4294967296 ∧
        Hid (Live wo wr2 [(A11, c11, digs (R - D * g')), (A7, c7, digs R), (A3, c3, digs D)]) ∧ Hid (Fr wo.heap.size A11))
      case atStart => exact ⟨A10, c10, q0, rfl, rfl, rfl, HQ0.out, HG.out, bg, L10.out, HF10.out⟩
      case round =>
        obtain ⟨A11, c11, q, rfl, rfl, rfl, HQ, HG2, bg2, L11, HF⟩ := hrel
        rcases q with _ | _
        · have HS := Lib.hid (quot_less HD0.out (of_decide_eq_false HQ.out))
          have g1 := HS.out.1
          have eg : (gk : Int) - 1 = ((gk - 1 : Nat) : Int) := by omega
          have EG := Lib.hid eg
          clear eg
          go_wp2_with fail
          rw [EG.out]
          refine Calls.mono (rfrom_l L11.out (i := ((gk - 1 : Nat) : Int)) (k := gk - 1) rfl (by omega)) ?_
          rintro e w12 ⟨A12, c12, rfl, h1⟩
          have L12 := Lib.hid h1
          clear h1
          have lg := digs_small (n := gk - 1) (by omega)
          go_wp2_with fail
          refine Calls.mono (rmul_l (xs := digs D) (ys := digs (gk - 1)) (x := D) (y := gk - 1) L12.out (by simp) (by simp) rfl rfl (val_digs _) (val_digs _) (by omega) (by omega)) ?_
          rintro e w13 ⟨A13, c13, rfl, h1⟩
          have L13 := Lib.hid h1
          clear h1
          have lm9 := digs_mul_len D (gk - 1)
          obtain ⟨q1, hq1⟩ : ∃ q, decide (D * (gk - 1) ≤ R) = q := ⟨_, rfl⟩
          have HQ1 := Lib.hid hq1
          clear hq1
          go_wp2_with fail
          refine Calls.mono (rsub_b (x := R) (y := D * (gk - 1)) L13.out (by simp) (by simp) (by omega) (by omega) HQ1.out) ?_
          rintro e w14 ⟨A14, c14, rfl, h1, hf1⟩
          have HF14 := Lib.hid hf1
          have L14 := Lib.hid (show Live wo w14 [(A14, c14, digs (R - D * (gk - 1))), (A7, c7, digs R), (A3, c3, digs D)] from ⟨h1.1, fun t ht => h1.2 t (by simp at ht ⊢; rcases ht with rfl | rfl | rfl <;> simp)⟩)
          clear h1 hf1
          go_wp2
          go_roundg (gk - 1)
          case measure => have := HS.out.1; omega
          case rel => exact ⟨A14, c14, q1, rfl, rfl, rfl, HQ1.out, HS.out.2, by omega, L14.out, HF14.out⟩
        · have HS := Lib.hid (quot_is HD0.out HG2.out (of_decide_eq_true HQ.out))
          have hrow2 := hrow.below_ L11.out.1
          have hcell2 := hrow2.cell (i := k) (by omega)
          have hfr2 := hrow2.frozen k
          have HB2 := Lib.hid (hbel.trans (L11.out.1.mono hbel.size))
          have hne2 : ∀ o, A11 ≠ some ⟨w4.heap.size, o, none⟩ := fun o e => by have := HF.out _ _ e; have := hrow.lt; omega
          have HNE2 := Lib.hid hne2
          clear hne2 hcell hfr
          go_wp2
          go_roundw
          case rel => exact ⟨A11, c11, R - D * gk, k, (k : Int) - 1, zs.set k gk, by omega, rfl, rfl, rfl, (L11.out.get (by simp)).set_other HNE2.out _ _, HNE2.out, hrow2.set_int rfl, by simp only [List.length_set]; exact HL, HNX.out gk HS.out, HB2.out.setCell (by simp) _⟩
          case measure => simp [intOf]
end Go.Proofs.YthgkdpfkaobgoaaDoor
end

section
/-
  The reference's own text (astrolaberef03): DivMod whole, Gcd, Sqrt.
-/
namespace Go.Proofs.YthgkdpfkaobgoaaDoor
open Go.RowKit
set_option maxHeartbeats 2000000 in
set_option maxRecDepth 100000 in
theorem rdivmod_no (A B : Option Addr) (c d : Nat) (xs ys : List Nat) (w : World) (h : Dg w A c xs) (h' : Dg w B d ys) (hl' : ys.length ≤ 100000) (y0 : val ys = 0) :
    Calls Tryd.prog 64 #[.slice A xs.length c, .slice B ys.length d] w fun e w' => e = .returned (.tuple #[.slice none 0 0, .slice none 0 0, .bool false]) ∧ Below w.heap.size w w' := by
  have L0 := Lib.hid (((live_start w).add h).add h')
  have t0 : (((digs (val ys)).length : Int) == 0) = true := by rw [y0, digs_zero]; rfl
  clear h h' y0
  go_enter Tryd.func64, Tryd.ntmps64
  go_wp2_with fail
  refine Calls.mono (rtrim_l (xs := ys) (x := val ys) L0.out (by simp) rfl rfl (by omega)) ?_
  rintro e w1 ⟨A1, c1, rfl, h1⟩
  have L1 := Lib.hid h1
  clear h1
  go_wp2
  go_ret3
  exact ⟨rfl, L1.out.1⟩
set_option maxHeartbeats 2000000 in
set_option maxRecDepth 100000 in
theorem rdivmod_one (A B : Option Addr) (c d : Nat) (xs ys : List Nat) (w : World) (h : Dg w A c xs) (h' : Dg w B d ys) (hl : xs.length ≤ 100000) (hl' : ys.length ≤ 100000) (h1 : (digs (val ys)).length = 1) :
    Calls Tryd.prog 64 #[.slice A xs.length c, .slice B ys.length d] w fun e w' => ∃ A' c' B' d', e = .returned (.tuple #[.slice A' (digs (val xs / val ys)).length c', .slice B' (digs (val xs % val ys)).length d', .bool true]) ∧ Dg w' A' c' (digs (val xs / val ys)) ∧ Dg w' B' d' (digs (val xs % val ys)) ∧ Below w.heap.size w w' := by
  have L0 := Lib.hid (((live_start w).add h).add h')
  have t0 : (((digs (val ys)).length : Int) == 0) = false := by rw [h1]; rfl
  have t1 : (((digs (val ys)).length : Int) == 1) = true := by rw [h1]; rfl
  have vy := val_digs (val ys)
  have e2 : val ys = (digs (val ys))[0]?.getD 0 := by
    rcases hd : digs (val ys) with _ | ⟨z, _ | ⟨z', r⟩⟩
    · rw [hd] at h1; simp at h1
    · rw [hd] at vy; simp only [val] at vy; simp; omega
    · rw [hd] at h1; simp at h1
  have b2 : val ys < 4294967296 := by rw [e2]; exact getD_lt (ok_digs _) 0
  have b0 : 0 < val ys := by
    rcases Nat.eq_zero_or_pos (val ys) with h0 | h0
    · rw [h0, digs_zero] at h1; simp at h1
    · exact h0
  have E2 := Lib.hid e2
  have y1 : 0 < (digs (val ys)).length := by omega
  have Y1 := Lib.hid h1
  clear h h' h1 vy e2
  go_enter Tryd.func64, Tryd.ntmps64
  go_wp2_with fail
  refine Calls.mono (rtrim_l (xs := ys) (x := val ys) L0.out (by simp) rfl rfl (by omega)) ?_
  rintro e w1 ⟨A1, c1, rfl, h1⟩
  have L1 := Lib.hid h1
  obtain ⟨b, off, hB, hb, hcy⟩ := (L1.out.get (A := A1) (c := c1) (xs := digs (val ys)) (by simp)).2.2 y1
  have hc0 := hcy 0 y1
  rw [Nat.add_zero, ← E2.out] at hc0
  have HG := Lib.hid (rshort_any A c (val ys) xs w1 (L1.out.get (by simp)) (by omega) b0 b2)
  subst hB
  clear h1 hcy
  go_wp2_with fail
  refine HG.out.mono ?_
  rintro e w4 ⟨A4, c4, A5, c5, rfl, g4, g5, hb5⟩
  have G4 := Lib.hid g4
  have G5 := Lib.hid g5
  have HB := Lib.hid (L1.out.step hb5)
  clear g4 g5 hb5
  go_wp2
  go_ret3
  exact ⟨A4, c4, A5, c5, rfl, G4.out, G5.out, HB.out.1⟩
theorem rdivmod_any (A B : Option Addr) (c d : Nat) (xs ys : List Nat) (w : World) (h : Dg w A c xs) (h' : Dg w B d ys) (hl : xs.length ≤ 100000) (hl' : ys.length ≤ 100000) (y0 : val ys ≠ 0) :
    Calls Tryd.prog 64 #[.slice A xs.length c, .slice B ys.length d] w fun e w' => ∃ A' c' B' d', e = .returned (.tuple #[.slice A' (digs (val xs / val ys)).length c', .slice B' (digs (val xs % val ys)).length d', .bool true]) ∧ Dg w' A' c' (digs (val xs / val ys)) ∧ Dg w' B' d' (digs (val xs % val ys)) ∧ Below w.heap.size w w' := by
  by_cases h1 : (digs (val ys)).length = 1
  · exact rdivmod_one A B c d xs ys w h h' hl hl' h1
  · have h0 : (digs (val ys)).length ≠ 0 := fun e => y0 (digs_nil.1 e)
    exact rdivmod_long A B c d xs ys w h h' hl hl' (by omega)
section
variable {w0 w w' : World} {L : List (Option Addr × Nat × List Nat)} {A B : Option Addr} {c d n m : Nat} {xs ys : List Nat} {x y : Nat}
theorem rdivmod_l (hL : Live w0 w L) (h1 : (A, c, xs) ∈ L) (h2 : (B, d, ys) ∈ L) (hn : n = xs.length) (hm : m = ys.length) (hx : val xs = x) (hy : val ys = y) (b1 : xs.length ≤ 100000) (b2 : ys.length ≤ 100000) (y0 : y ≠ 0) :
    Calls Tryd.prog 64 #[.slice A n c, .slice B m d] w fun e w' => ∃ A' c' B' d', e = .returned (.tuple #[.slice A' (digs (x / y)).length c', .slice B' (digs (x % y)).length d', .bool true]) ∧ Live w0 w' ((B', d', digs (x % y)) :: (A', c', digs (x / y)) :: L) := by
  subst hn hm hx hy
  exact (rdivmod_any A B c d xs ys w (hL.get h1) (hL.get h2) b1 b2 y0).mono fun _ _ ⟨A', c', B', d', he, hd, hd', hb⟩ => ⟨A', c', B', d', he, ((hL.step hb).add hd).add hd'⟩
theorem rdivmod_l_no (hL : Live w0 w L) (h1 : (A, c, xs) ∈ L) (h2 : (B, d, ys) ∈ L) (hn : n = xs.length) (hm : m = ys.length) (hy : val ys = 0) (b2 : ys.length ≤ 100000) :
    Calls Tryd.prog 64 #[.slice A n c, .slice B m d] w fun e w' => e = .returned (.tuple #[.slice none 0 0, .slice none 0 0, .bool false]) ∧ Live w0 w' L := by
  subst hn hm
  exact (rdivmod_no A B c d xs ys w (hL.get h1) (hL.get h2) b2 hy).mono fun _ _ ⟨he, hb⟩ => ⟨he, hL.step hb⟩
end
/-- What stands between two bits of the reference's root. -/
structure Sq (x k s r : Nat) : Prop where
  eq : s * s + r = x
  lt : x < (s + 2 ^ k) * (s + 2 ^ k)
theorem Sq.start (x k : Nat) (h : blen x ≤ 2 * k) : Sq x k 0 x :=
  ⟨by omega, by rw [Nat.zero_add, ← Nat.pow_add]; exact Nat.lt_of_lt_of_le (blen_lt x) (Nat.pow_le_pow_right (by omega) (by omega))⟩
theorem sq_part (s k : Nat) : (s + 2 ^ k) * (s + 2 ^ k) = s * s + (s * 2 ^ 1 + 2 ^ k) * 2 ^ k := by
  rw [Nat.pow_one, Nat.add_mul s (2 ^ k) (s + 2 ^ k), Nat.mul_add, Nat.mul_add, Nat.add_mul (s * 2), Nat.mul_comm (2 ^ k) s, Nat.mul_assoc s 2]
  have : s * (2 * 2 ^ k) = 2 * (s * 2 ^ k) := by rw [Nat.mul_left_comm]
  omega
theorem Sq.yes {x k s r : Nat} (h : Sq x (k + 1) s r) (hp : (s * 2 ^ 1 + 2 ^ k) * 2 ^ k ≤ r) : Sq x k (s + 2 ^ k) (r - (s * 2 ^ 1 + 2 ^ k) * 2 ^ k) := by
  refine ⟨?_, ?_⟩
  · rw [sq_part]; have := h.eq; omega
  · have := h.lt; rw [Nat.pow_succ] at this; rw [show s + 2 ^ k + 2 ^ k = s + 2 ^ k * 2 by omega]; exact this
theorem Sq.no {x k s r : Nat} (h : Sq x (k + 1) s r) (hp : ¬ (s * 2 ^ 1 + 2 ^ k) * 2 ^ k ≤ r) : Sq x k s r := by
  refine ⟨h.eq, ?_⟩
  rw [sq_part]; have := h.eq; omega
theorem Sq.done {x s r : Nat} (h : Sq x 0 s r) : s = rt x ∧ r = x - rt x * rt x := by
  have h1 := h.eq
  have h2 := h.lt
  rw [Nat.pow_zero] at h2
  have h3 := rt_is (n := x) (s := s) (by omega) h2
  refine ⟨h3, ?_⟩
  rw [← h3]; omega
theorem Sq.small {x k s r : Nat} (h : Sq x k s r) : s ≤ x ∧ r ≤ x := by
  have h1 := h.eq
  refine ⟨?_, by omega⟩
  rcases Nat.eq_zero_or_pos s with h0 | h0
  · omega
  · have := Nat.le_mul_of_pos_left s h0; omega
section
variable {w0 w w' : World} {L : List (Option Addr × Nat × List Nat)} {A B : Option Addr} {c d n m : Nat} {xs ys : List Nat} {x y : Nat}
end
end Go.Proofs.YthgkdpfkaobgoaaDoor
end
