/-
  Encode.
-/
import Derived.Test.YtkbdcbcjbgbglaaNf
import Derived.Lib.AppendStr
import Derived.Lib.ConvBytes
namespace Go.Proofs.Ytkbdcbcjbgbglaa
open Go.RowKit
theorem elem8_info : (Try.prog.info? 5).map (fun i => (i.zero, i.size, i.bytes)) = some (some (.int .u8 0), 1, 1) := by kernel_rfl
theorem byteCells_add (a b : List UInt8) : Lib.byteCells (a ++ b) = Lib.byteCells a ++ Lib.byteCells b := by simp [Lib.byteCells]
theorem byte_cell (X : Nat) : Lib.byteCells [UInt8.ofNat X] = [.int .u8 ((X : Int) % 256)] := by
  unfold Lib.byteCells
  simp
theorem bytes_len (l : List UInt8) : (Lib.byteCells l).length = l.length := by simp [Lib.byteCells]
theorem byte_one {l : List UInt8} : ∀ u ∈ Lib.byteCells l, u.oneCell' = true := by
  intro u hu
  unfold Lib.byteCells at hu
  obtain ⟨y, _, rfl⟩ := List.mem_map.1 hu
  rfl
theorem str_bytes (l : List UInt8) : Lib.strCells ⟨l.toArray⟩ = Lib.byteCells l := by simp [Lib.strCells, Lib.byteCells]
def b2 (n : Int) : List UInt8 := [UInt8.ofNat (n.toNat / 256), UInt8.ofNat n.toNat]
def entL (p : List UInt8 × Int) : List UInt8 := UInt8.ofNat p.1.length :: (p.1 ++ b2 p.2)
def entsL (ks : List (List UInt8)) (ds : List Int) : List UInt8 := (ks.zip ds).flatMap entL
def encL (lf : Bool) (ks : List (List UInt8)) (ds : List Int) : List UInt8 := if lf then 1 :: entsL ks ds else 0 :: (b2 (ds[0]?.getD 0) ++ entsL ks (ds.drop 1))
theorem ents_len (ps : List (List UInt8 × Int)) : (ps.flatMap entL).length = (ps.map (fun p => p.1.length + 3)).sum := by
  induction ps with
  | nil => rfl
  | cons p r ih => rw [List.flatMap_cons, List.length_append, ih]; simp [entL, b2]
theorem ents_take {ps : List (List UInt8 × Int)} {k : Nat} {p : List UInt8 × Int} (h : ps[k]? = some p) : (ps.take (k + 1)).flatMap entL = (ps.take k).flatMap entL ++ entL p := by
  rw [take_some h, List.flatMap_append]; simp
theorem wp_append_by {w : World} {o : Oper} {a : Act} {K : Act → World → Prop} {Q : Exit → Act → World → Prop} (s x : Operand)
    (ho : o.op = .call { callee := .builtin .append, args := #[s, x], argTypes := #[67, 67] }) (base : Nat) (v : Value) (n : Nat) (zs ys : List UInt8) (g m c : Nat) (T : TypeId) (fr : Nat × Nat) (cells : Array Value)
    (hs : a.eval s = v) (hown : w.ownsRow base 5 1 v n (Lib.byteCells zs)) (hrow : w.heap[g]? = some (.cells cells T fr)) (hcells : cells.toList = Lib.byteCells ys) (hm : m = ys.length) (hx : a.eval x = .slice (some ⟨g, 0, none⟩) m c) (hb : n + m ≤ 4000000) (hbase : base ≤ w.heap.size)
    (h : ∀ v' w', w'.ownsRow base 5 1 v' (n + m) (Lib.byteCells (zs ++ ys)) → Below base w w' → K (a.put o.dst v') w') : o.wp Try.prog a w K Q := by
  obtain ⟨i0, hi, hz0, hz1, hz2⟩ := info_parts elem8_info
  subst hm
  refine wp_append_own _ s x _ ho base _ i0 _ 1 1 Try.underlying67 hi hz0 hz1 hz2 rfl (by decide) v n _ hs hown ⟨g, 0, none⟩ ys.length c (Lib.byteCells ys) hx (by rw [bytes_len]; omega) (fun j u hj => ?_) byte_one (by unfold maxLen; omega) (by omega) hbase fun v' w' h1 h2 _ => h v' w' (by rw [byteCells_add]; exact h1) ((Below.refl _ _).grown h2 hbase (fun k hk => (hown.lt k hk).1))
  rw [Addr.add_lit, Nat.zero_add]
  refine row_c hrow ?_
  rw [← hcells] at hj
  simpa using hj
theorem own_later {B : Nat} {e : TypeId} {k : Nat} {v : Value} {n : Nat} {xs : List Value} {w w' : World} (h : w.ownsRow B e k v n xs) (hb : Below w.heap.size w w') : w'.ownsRow B e k v n xs := by
  refine ⟨h.1, ?_⟩
  rcases h.2 with h0 | ⟨g, cap, cur, h1, h2, h3, h4⟩
  · exact .inl h0
  · exact .inr ⟨g, cap, cur, h1, h2, (hb.block g (heap_lt h3)).trans h3, h4⟩
/-- append(own, bytes of a block ..). -/
theorem wpList_append_by {w : World} {ops : Array Oper} {rest : List Oper} {o : Oper} {a : Act} {Q : Exit → Act → World → Prop} (hgd : o.guard = none) (s x : Operand)
    (ho : o.op = .call { callee := .builtin .append, args := #[s, x], argTypes := #[67, 67] }) (base : Nat) (v : Value) (n : Nat) (zs ys : List UInt8) (g m c : Nat) (T : TypeId) (fr : Nat × Nat) (cells : Array Value)
    (hs : a.eval s = v) (hown : w.ownsRow base 5 1 v n (Lib.byteCells zs)) (hrow : w.heap[g]? = some (.cells cells T fr)) (hcells : cells.toList = Lib.byteCells ys) (hm : m = ys.length) (hx : a.eval x = .slice (some ⟨g, 0, none⟩) m c) (hb : n + m ≤ 4000000) (hbase : base ≤ w.heap.size)
    (h : ∀ v' w', w'.ownsRow base 5 1 v' (n + m) (Lib.byteCells (zs ++ ys)) → Below base w w' → wpList Try.prog ops Q rest (a.put o.dst v') w') : wpList Try.prog ops Q (o :: rest) a w := by
  obtain ⟨i0, hi, hz0, hz1, hz2⟩ := info_parts elem8_info
  subst hm
  refine wpList_append_own _ hgd s x _ ho base _ i0 _ 1 1 Try.underlying67 hi hz0 hz1 hz2 rfl (by decide) v n _ hs hown ⟨g, 0, none⟩ ys.length c (Lib.byteCells ys) hx (by rw [bytes_len]; omega) (fun j u hj => ?_) byte_one (by unfold maxLen; omega) (by omega) hbase fun v' w' h1 h2 _ => h v' w' (by rw [byteCells_add]; exact h1) ((Below.refl _ _).grown h2 hbase (fun k hk => (hown.lt k hk).1))
  rw [Addr.add_lit, Nat.zero_add]
  refine row_c hrow ?_
  rw [← hcells] at hj
  simpa using hj
theorem wpList_append_st {w : World} {ops : Array Oper} {rest : List Oper} {o : Oper} {a : Act} {Q : Exit → Act → World → Prop} (hgd : o.guard = none) (s x : Operand)
    (ho : o.op = .call { callee := .builtin .append, args := #[s, x], argTypes := #[67, 9] }) (base : Nat) (v : Value) (n : Nat) (zs ys : List UInt8)
    (hs : a.eval s = v) (hown : w.ownsRow base 5 1 v n (Lib.byteCells zs)) (hx : a.eval x = .string ⟨ys.toArray⟩) (hb : n + ys.length ≤ 4000000) (hbase : base ≤ w.heap.size)
    (h : ∀ v' w', w'.ownsRow base 5 1 v' (n + ys.length) (Lib.byteCells (zs ++ ys)) → Below base w w' → wpList Try.prog ops Q rest (a.put o.dst v') w') : wpList Try.prog ops Q (o :: rest) a w := by
  obtain ⟨i0, hi, hz0, hz1, hz2⟩ := info_parts elem8_info
  refine Lib.wpList_append_own_string _ hgd s x _ _ ho base _ i0 Try.underlying67 Try.underlying9 hi hz0 hz1 hz2 v n _ hs hown ⟨ys.toArray⟩ hx (by rw [str_size]; unfold maxLen; omega) (by rw [str_size]; omega) hbase fun v' w' h1 h2 _ => ?_
  rw [str_size, str_bytes, ← byteCells_add] at h1
  exact h v' w' h1 ((Below.refl _ _).grown h2 hbase (fun k hk => (hown.lt k hk).1))
theorem own_conv {w : World} {base : Nat} {x : Value} {n : Nat} {l : List UInt8} (h : w.ownsRow base 5 1 x n (Lib.byteCells l)) (h0 : 0 < l.length) :
    ∃ y, x = y ∧ (convert 67 9 y).run Try.prog w = .ok (.string ⟨l.toArray⟩) w := by
  have hl : l.length = n := by have := h.1; simpa [Lib.byteCells] using this
  obtain ⟨g, cap, hv, _, _⟩ := World.ownsRow.form h (by omega)
  refine ⟨x, rfl, ?_⟩
  subst hv
  rw [← hl]
  refine run_convert_bytes_back w 67 9 5 ⟨g, 0, none⟩ cap l Try.underlying67 Try.underlying5 Try.underlying9 (fun j hj => ?_)
  refine h.cells (g := g) rfl j _ ?_
  unfold Lib.byteCells
  rw [List.getElem?_map, List.getElem?_eq_getElem hj]
  rfl
theorem chain_len : ∀ {ks : List (List UInt8)} {p : Option (List UInt8)}, kchain p ks = true → ∀ x ∈ ks, 1 ≤ x.length ∧ x.length ≤ 16
  | [], p, _ => fun x hx => by simp at hx
  | k :: r, p, h => fun x hx => by
    unfold kchain kOk at h
    simp only [Bool.and_eq_true, decide_eq_true_eq] at h
    rcases List.mem_cons.1 hx with rfl | hx
    · exact h.1.1
    · exact chain_len h.2 x hx
theorem plain_facts {lf : Bool} {ks : List (List UInt8)} {ds : List Int} (h : plainB lf ks ds = true) : (ds.length = if lf then ks.length else ks.length + 1) ∧ (∀ x ∈ ks, 1 ≤ x.length ∧ x.length ≤ 16) ∧ (∀ d ∈ ds, 2 ≤ d ∧ d ≤ 511) ∧ Srt ks := by
  unfold plainB at h
  simp only [Bool.and_eq_true] at h
  obtain ⟨⟨h1, h2⟩, h3⟩ := h
  refine ⟨?_, chain_len h2, fun d hd => ?_, srt_of_chain h2⟩
  · unfold shapedB at h1
    cases lf
    · simpa using h1
    · simpa using h1
  · have := List.all_eq_true.1 h3 d hd
    unfold dOk at this
    simpa using this
theorem sumN_ge (ks : List (List UInt8)) : ks.length ≤ sumN ks := by
  induction ks with
  | nil => simp [sumN]
  | cons k r ih => have : sumN (k :: r) = k.length + 1 + sumN r := by simp [sumN]
                   simp only [List.length_cons]; omega
theorem right_facts {lf : Bool} {ks : List (List UInt8)} {ds : List Int} (h : rightB lf ks ds = true) : (ds.length = if lf then ks.length else ks.length + 1) ∧ (∀ x ∈ ks, 1 ≤ x.length ∧ x.length ≤ 16) ∧ (∀ d ∈ ds, 2 ≤ d ∧ d ≤ 511) ∧ Srt ks ∧ sizeN ks ds ≤ 120 ∧ ks.length ≤ 120 ∧ (lf = true → 0 < ks.length) := by
  unfold rightB at h
  simp only [Bool.and_eq_true, decide_eq_true_eq] at h
  obtain ⟨⟨h1, h2⟩, h3⟩ := h
  obtain ⟨a, b, c, d⟩ := plain_facts h1
  refine ⟨a, b, c, d, h3, by have := sumN_ge ks; unfold sizeN at h3; omega, fun hl => ?_⟩
  subst hl
  simpa using h2
theorem zip_at {ks : List (List UInt8)} {ds : List Int} {k : Nat} {x : List UInt8} {q : Int} (h : ks[k]? = some x) (h2 : ds[k]? = some q) : (ks.zip ds)[k]? = some (x, q) := by
  rw [List.getElem?_zip_eq_some]; exact ⟨h, h2⟩
set_option maxHeartbeats 4000000 in
set_option maxRecDepth 100000 in
theorem encode_no (lf : Bool) (A : Option Addr) (c : Nat) (ks : List (List UInt8)) (B : Option Addr) (d : Nat) (ds : List Int) (w : World) (h : Rl sv w A c ks) (h2 : Rl nv w B d ds) (hl : ks.length ≤ 4000000) (hl2 : ds.length ≤ 4000001) (hz : sizeN ks ds < 4611686018427387904) (hr : rightB lf ks ds = false) :
    Calls Try.prog 12 #[.agg #[.bool lf, .slice A ks.length c, .slice B ds.length d]] w fun e w' => e = .returned (.tuple #[.string ⟨#[]⟩, .int .i64 1]) ∧ Below w.heap.size w w' := by
  have RG := Lib.hid (fun V (hV : Below w.heap.size w V) => right_any lf A c ks B d ds V (h.below hV) (h2.below hV) hl hl2 hz)
  rw [hr] at RG
  clear h h2 hr hz
  go_enter Try.func12, Try.ntmps12
  go_wp2_with fail
  refine (RG.out _ (bda _ _)).mono ?_
  rintro e w2 ⟨rfl, hb⟩
  have K2 := Lib.hid (bon (bda _ _) hb)
  clear hb
  go_wp2
  go_ret2
  exact ⟨rfl, K2.out⟩
set_option maxHeartbeats 4000000 in
set_option maxRecDepth 100000 in
theorem encode_yes (lf : Bool) (A : Option Addr) (c : Nat) (ks : List (List UInt8)) (B : Option Addr) (d : Nat) (ds : List Int) (w : World) (h : Rl sv w A c ks) (h2 : Rl nv w B d ds) (hr : rightB lf ks ds = true) :
    Calls Try.prog 12 #[.agg #[.bool lf, .slice A ks.length c, .slice B ds.length d]] w fun e w' => e = .returned (.tuple #[.string ⟨(encL lf ks ds).toArray⟩, .int .i64 0]) ∧ Below w.heap.size w w' := by
  obtain ⟨r1, r2, r3, r4, r5, r6, r7⟩ := right_facts hr
  have hl2 : ds.length ≤ 4000001 := by split at r1 <;> omega
  have RG := Lib.hid (fun V (hV : Below w.heap.size w V) => right_any lf A c ks B d ds V (h.below hV) (h2.below hV) (by omega) hl2 (by omega))
  rw [hr] at RG
  have RX := Lib.hid r2
  have RQ := Lib.hid r3
  have HK := Lib.hid h
  have HD := Lib.hid h2
  have hcap := h2.1
  have kl : ks.length ≤ 120 := r6
  have RR := Lib.hid r1
  clear r1 r2 r3 r4 r5 r7 hr h h2 r6
  cases lf
  · have LD := Lib.hid (show ds.length = ks.length + 1 by simpa using RR.out)
    clear RR
    go_enter Try.func12, Try.ntmps12
    go_wp2_with fail
    refine (RG.out _ (bda _ _)).mono ?_
    rintro e w2 ⟨rfl, hb⟩
    have R2 := Lib.hid (row_on (heap_alloc_new w (.cells #[.bool false, .slice A ks.length c, .slice B ds.length d] 25)) hb)
    have K2 := Lib.hid (bon (bda _ _) hb)
    have HK2 := Lib.hid (HK.out.below K2.out)
    clear hb
    have f0 := row_c R2.out (i := 0) rfl
    have f1 := row_c R2.out (i := 1) rfl
    have f2 := row_c R2.out (i := 2) rfl
    have OW := Lib.hid (World.ownsRow_nil w2 w2.heap.size 5 1)
    obtain ⟨d0, hd0⟩ := get_lt (xs := ds) (k := 0) (by have := LD.out; omega)
    obtain ⟨B', c', hcut, hrl⟩ := cut_from et_i (g := nv) B d ds 1 (by have := LD.out; omega) hcap
    obtain ⟨b0, off0, hB, hbl0, g0⟩ := (HD.out.below K2.out).cell hd0
    have HD2 := Lib.hid (hrl w2 (HD.out.below K2.out))
    obtain ⟨M, hM⟩ : ∃ M, ds.length - 1 = M := ⟨_, rfl⟩
    rw [hM, show ((1 : Nat) : Int) = 1 from rfl] at hcut
    have HM := Lib.hid hM
    have hdz := RQ.out d0 (List.mem_of_getElem? hd0)
    obtain ⟨q0, rfl⟩ := Int.eq_ofNat_of_zero_le (show 0 ≤ d0 by omega)
    obtain ⟨ps, hps⟩ : ∃ ps, ks.zip (ds.drop 1) = ps := ⟨_, rfl⟩
    have EE := Lib.hid (show encL false ks ds = (0 :: b2 (q0 : Int)) ++ ps.flatMap entL by rw [← hps]; unfold encL; rw [hd0]; simp [entsL])
    have HPS := Lib.hid hps
    have LK := Lib.hid (show (ds.drop 1).length = ks.length ∧ M = ks.length by rw [List.length_drop, ← hM]; have := LD.out; omega)
    have HD0 := Lib.hid hd0
    have l0 : (0 : Int) < (ds.length : Int) := by have := LD.out; omega
    clear hps hd0 hrl hM hdz
    subst hB
    unfold nv at g0
    simp only [Nat.add_zero] at g0
    have FQ := Lib.hid (fun x (K : Below w2.heap.size w2 x) => (K.cell (p := ⟨b0, off0, none⟩) hbl0).trans g0)
    have l0' : 0 < ds.length := by omega
    go_upto_region 7 with (fail)
    have QC := Lib.hid (show (#[.int .u8 0, .int .u8 ((q0 : Int) / 256 % 256), .int .u8 ((q0 : Int) % 256)] : Array Value).toList = Lib.byteCells (0 :: b2 (q0 : Int)) by simp [b2, Lib.byteCells])
    clear f0 f1 f2 g0
    refine wp_operands (W := w2) rfl 11 [18, 19, 20, 21, 22, 23, 24, 25, 26, 27, 28] (fun i u x => match i with | 0 => u = .slice none 0 0 | 1 => u = .slice (some ⟨b0, off0, none⟩) ds.length d | 2 => u = .pointer (some ⟨b0, off0, none⟩) | 3 => u = .int .i64 (q0 : Int) | 4 => u = .int .i64 ((q0 : Int) / 256) | 5 => u = .int .u8 ((q0 : Int) / 256 % 256) | 6 => u = .slice (some ⟨b0, off0, none⟩) ds.length d | 7 => u = .pointer (some ⟨b0, off0, none⟩) | 8 => u = .int .i64 (q0 : Int) | 9 => u = .int .u8 ((q0 : Int) % 256) | 10 => ∃ g, u = .slice (some ⟨g, 0, none⟩) 3 3 ∧ x.heap[g]? = some (.cells #[.int .u8 0, .int .u8 ((q0 : Int) / 256 % 256), .int .u8 ((q0 : Int) % 256)] 5 (0, 0)) | _ => True) (fun _ => false)
      (by decide) rfl (by kernel_rfl) (by kernel_rfl) (by decide) (by kernel_rfl) ?_ (fun _ _ _ h => by cases h) ?_ ?_
    · intro i u x x' hi hR hb'
      have hi' : i = 0 ∨ i = 1 ∨ i = 2 ∨ i = 3 ∨ i = 4 ∨ i = 5 ∨ i = 6 ∨ i = 7 ∨ i = 8 ∨ i = 9 ∨ i = 10 := by omega
      rcases hi' with rfl | rfl | rfl | rfl | rfl | rfl | rfl | rfl | rfl | rfl | rfl
      · exact hR
      · exact hR
      · exact hR
      · exact hR
      · exact hR
      · exact hR
      · exact hR
      · exact hR
      · exact hR
      · exact hR
      · obtain ⟨g, e, hg⟩ := hR; exact ⟨g, e, (hb'.block g (heap_lt hg)).trans hg⟩
    · intro i av x K hi hF hb' hw hK
      have hi' : i = 0 ∨ i = 1 ∨ i = 2 ∨ i = 3 ∨ i = 4 ∨ i = 5 ∨ i = 6 ∨ i = 7 ∨ i = 8 ∨ i = 9 ∨ i = 10 := by omega
      rcases hi' with rfl | rfl | rfl | rfl | rfl | rfl | rfl | rfl | rfl | rfl | rfl
      · simp only [wpOp, List.getElem?_toArray, List.getElem?_cons_zero, Region.wanted, if_true]
        refine Or.inl ?_
        have e0 : av.tmps.getD 4 undef = .slice none 0 0 := hF.2.2 4 (by decide)
        have e0e : av.eval (.tmp 4) = .slice none 0 0 := e0
        have e0g : av.tmps[4]?.getD undef = .slice none 0 0 := by have := e0; simp only [Array.getD_eq_getD_getElem?] at this; exact this
        clear hw hF
        simp only [Oper.wp, execOp]
        try simp only [e0e]
        go_simp
        exact hK _ x (by first | rfl | (simp only [Nat.add_zero]; done) | (congr 1; omega)) (Below.refl _ _) (fun h => by cases h)
      · simp only [wpOp, List.getElem?_toArray, List.getElem?_cons_succ, List.getElem?_cons_zero, Region.wanted, if_true]
        refine Or.inl ?_
        have e0 : av.tmps.getD 5 undef = .slice (some ⟨b0, off0, none⟩) ds.length d := hF.2.2 5 (by decide)
        have e0e : av.eval (.tmp 5) = .slice (some ⟨b0, off0, none⟩) ds.length d := e0
        have e0g : av.tmps[5]?.getD undef = .slice (some ⟨b0, off0, none⟩) ds.length d := by have := e0; simp only [Array.getD_eq_getD_getElem?] at this; exact this
        clear hw hF
        simp only [Oper.wp, execOp]
        try simp only [e0e]
        go_simp
        exact hK _ x (by first | rfl | (simp only [Nat.add_zero]; done) | (congr 1; omega)) (Below.refl _ _) (fun h => by cases h)
      · simp only [wpOp, List.getElem?_toArray, List.getElem?_cons_succ, List.getElem?_cons_zero, Region.wanted, if_true]
        refine Or.inl ?_
        have e0 : av.tmps.getD 19 undef = .slice (some ⟨b0, off0, none⟩) ds.length d := (hw 1 (by kernel_rfl))
        have e0e : av.eval (.tmp 19) = .slice (some ⟨b0, off0, none⟩) ds.length d := e0
        have e0g : av.tmps[19]?.getD undef = .slice (some ⟨b0, off0, none⟩) ds.length d := by have := e0; simp only [Array.getD_eq_getD_getElem?] at this; exact this
        clear hw hF
        simp only [Oper.wp, execOp]
        try simp only [e0e]
        go_simp
        exact hK _ x (by first | rfl | (simp only [Nat.add_zero]; done) | (congr 1; omega)) (Below.refl _ _) (fun h => by cases h)
      · simp only [wpOp, List.getElem?_toArray, List.getElem?_cons_succ, List.getElem?_cons_zero, Region.wanted, if_true]
        refine Or.inl ?_
        have e0 : av.tmps.getD 20 undef = .pointer (some ⟨b0, off0, none⟩) := (hw 2 (by kernel_rfl))
        have e0e : av.eval (.tmp 20) = .pointer (some ⟨b0, off0, none⟩) := e0
        have e0g : av.tmps[20]?.getD undef = .pointer (some ⟨b0, off0, none⟩) := by have := e0; simp only [Array.getD_eq_getD_getElem?] at this; exact this
        have fq := FQ.out x hb'
        clear hw hF
        simp only [Oper.wp, execOp]
        try simp only [e0e]
        go_simp
        exact hK _ x (by first | rfl | (simp only [Nat.add_zero]; done) | (congr 1; omega)) (Below.refl _ _) (fun h => by cases h)
      · simp only [wpOp, List.getElem?_toArray, List.getElem?_cons_succ, List.getElem?_cons_zero, Region.wanted, if_true]
        refine Or.inl ?_
        have e0 : av.tmps.getD 21 undef = .int .i64 (q0 : Int) := (hw 3 (by kernel_rfl))
        have e0e : av.eval (.tmp 21) = .int .i64 (q0 : Int) := e0
        have e0g : av.tmps[21]?.getD undef = .int .i64 (q0 : Int) := by have := e0; simp only [Array.getD_eq_getD_getElem?] at this; exact this
        clear hw hF
        simp only [Oper.wp, execOp]
        try simp only [e0e]
        go_simp
        exact hK _ x (by first | rfl | (simp only [Nat.add_zero]; done) | (congr 1; omega)) (Below.refl _ _) (fun h => by cases h)
      · simp only [wpOp, List.getElem?_toArray, List.getElem?_cons_succ, List.getElem?_cons_zero, Region.wanted, if_true]
        refine Or.inl ?_
        have e0 : av.tmps.getD 22 undef = .int .i64 ((q0 : Int) / 256) := (hw 4 (by kernel_rfl))
        have e0e : av.eval (.tmp 22) = .int .i64 ((q0 : Int) / 256) := e0
        have e0g : av.tmps[22]?.getD undef = .int .i64 ((q0 : Int) / 256) := by have := e0; simp only [Array.getD_eq_getD_getElem?] at this; exact this
        clear hw hF
        simp only [Oper.wp, execOp]
        try simp only [e0e]
        go_simp
        exact hK _ x (by first | rfl | (simp only [Nat.add_zero]; done) | (congr 1; omega)) (Below.refl _ _) (fun h => by cases h)
      · simp only [wpOp, List.getElem?_toArray, List.getElem?_cons_succ, List.getElem?_cons_zero, Region.wanted, if_true]
        refine Or.inl ?_
        have e0 : av.tmps.getD 5 undef = .slice (some ⟨b0, off0, none⟩) ds.length d := hF.2.2 5 (by decide)
        have e0e : av.eval (.tmp 5) = .slice (some ⟨b0, off0, none⟩) ds.length d := e0
        have e0g : av.tmps[5]?.getD undef = .slice (some ⟨b0, off0, none⟩) ds.length d := by have := e0; simp only [Array.getD_eq_getD_getElem?] at this; exact this
        clear hw hF
        simp only [Oper.wp, execOp]
        try simp only [e0e]
        go_simp
        exact hK _ x (by first | rfl | (simp only [Nat.add_zero]; done) | (congr 1; omega)) (Below.refl _ _) (fun h => by cases h)
      · simp only [wpOp, List.getElem?_toArray, List.getElem?_cons_succ, List.getElem?_cons_zero, Region.wanted, if_true]
        refine Or.inl ?_
        have e0 : av.tmps.getD 24 undef = .slice (some ⟨b0, off0, none⟩) ds.length d := (hw 6 (by kernel_rfl))
        have e0e : av.eval (.tmp 24) = .slice (some ⟨b0, off0, none⟩) ds.length d := e0
        have e0g : av.tmps[24]?.getD undef = .slice (some ⟨b0, off0, none⟩) ds.length d := by have := e0; simp only [Array.getD_eq_getD_getElem?] at this; exact this
        clear hw hF
        simp only [Oper.wp, execOp]
        try simp only [e0e]
        go_simp
        exact hK _ x (by first | rfl | (simp only [Nat.add_zero]; done) | (congr 1; omega)) (Below.refl _ _) (fun h => by cases h)
      · simp only [wpOp, List.getElem?_toArray, List.getElem?_cons_succ, List.getElem?_cons_zero, Region.wanted, if_true]
        refine Or.inl ?_
        have e0 : av.tmps.getD 25 undef = .pointer (some ⟨b0, off0, none⟩) := (hw 7 (by kernel_rfl))
        have e0e : av.eval (.tmp 25) = .pointer (some ⟨b0, off0, none⟩) := e0
        have e0g : av.tmps[25]?.getD undef = .pointer (some ⟨b0, off0, none⟩) := by have := e0; simp only [Array.getD_eq_getD_getElem?] at this; exact this
        have fq := FQ.out x hb'
        clear hw hF
        simp only [Oper.wp, execOp]
        try simp only [e0e]
        go_simp
        exact hK _ x (by first | rfl | (simp only [Nat.add_zero]; done) | (congr 1; omega)) (Below.refl _ _) (fun h => by cases h)
      · simp only [wpOp, List.getElem?_toArray, List.getElem?_cons_succ, List.getElem?_cons_zero, Region.wanted, if_true]
        refine Or.inl ?_
        have e0 : av.tmps.getD 26 undef = .int .i64 (q0 : Int) := (hw 8 (by kernel_rfl))
        have e0e : av.eval (.tmp 26) = .int .i64 (q0 : Int) := e0
        have e0g : av.tmps[26]?.getD undef = .int .i64 (q0 : Int) := by have := e0; simp only [Array.getD_eq_getD_getElem?] at this; exact this
        clear hw hF
        simp only [Oper.wp, execOp]
        try simp only [e0e]
        go_simp
        exact hK _ x (by first | rfl | (simp only [Nat.add_zero]; done) | (congr 1; omega)) (Below.refl _ _) (fun h => by cases h)
      · simp only [wpOp, List.getElem?_toArray, List.getElem?_cons_succ, List.getElem?_cons_zero, Region.wanted, if_true]
        refine Or.inl ?_
        have e0 : av.tmps.getD 23 undef = .int .u8 ((q0 : Int) / 256 % 256) := (hw 5 (by kernel_rfl))
        have e0e : av.eval (.tmp 23) = .int .u8 ((q0 : Int) / 256 % 256) := e0
        have e0g : av.tmps[23]?.getD undef = .int .u8 ((q0 : Int) / 256 % 256) := by have := e0; simp only [Array.getD_eq_getD_getElem?] at this; exact this
        have e1 : av.tmps.getD 27 undef = .int .u8 ((q0 : Int) % 256) := (hw 9 (by kernel_rfl))
        have e1e : av.eval (.tmp 27) = .int .u8 ((q0 : Int) % 256) := e1
        have e1g : av.tmps[27]?.getD undef = .int .u8 ((q0 : Int) % 256) := by have := e1; simp only [Array.getD_eq_getD_getElem?] at this; exact this
        clear hw hF
        simp only [Oper.wp, execOp]
        try simp only [e0e, e1e]
        go_simp
        exact hK _ _ ⟨_, rfl, heap_alloc_new _ _⟩ ((Below.refl _ _).alloc (Nat.le_refl _) _) (fun h => by cases h)
    · intro av x hF hb' hR _
      have e0 : av.tmps.getD 18 undef = .slice none 0 0 := hR 0 (by decide)
      have e1 : av.tmps.getD 19 undef = .slice (some ⟨b0, off0, none⟩) ds.length d := hR 1 (by decide)
      have e2 : av.tmps.getD 20 undef = .pointer (some ⟨b0, off0, none⟩) := hR 2 (by decide)
      have e3 : av.tmps.getD 21 undef = .int .i64 (q0 : Int) := hR 3 (by decide)
      have e4 : av.tmps.getD 22 undef = .int .i64 ((q0 : Int) / 256) := hR 4 (by decide)
      have e5 : av.tmps.getD 23 undef = .int .u8 ((q0 : Int) / 256 % 256) := hR 5 (by decide)
      have e6 : av.tmps.getD 24 undef = .slice (some ⟨b0, off0, none⟩) ds.length d := hR 6 (by decide)
      have e7 : av.tmps.getD 25 undef = .pointer (some ⟨b0, off0, none⟩) := hR 7 (by decide)
      have e8 : av.tmps.getD 26 undef = .int .i64 (q0 : Int) := hR 8 (by decide)
      have e9 : av.tmps.getD 27 undef = .int .u8 ((q0 : Int) % 256) := hR 9 (by decide)
      obtain ⟨gg10, e10, hg10⟩ := hR 10 (by decide)
      replace e10 : av.tmps.getD 28 undef = .slice (some ⟨gg10, 0, none⟩) 3 3 := e10
      rw [hF.fold (by kernel_rfl)]
      simp only [List.foldl_cons, List.foldl_nil, e0, e1, e2, e3, e4, e5, e6, e7, e8, e9, e10]
      simp only [Act.put, List.setIfInBounds_toArray, List.set_cons_zero, List.set_cons_succ]
      change wpOps _ _ _ [11, 12] _ _
      simp only [wpOps_cons]
      clear e0 e1 e2 e3 e4 e5 e6 e7 e8 e9 e10 hR hF
      have HG := Lib.hid hg10
      have OX := Lib.hid (own_later OW.out hb')
      have BX := Lib.hid hb'
      have bzx := BX.out.size
      clear hg10 hb'
      simp only [wpOp, List.getElem?_toArray, List.getElem?_cons_succ, List.getElem?_cons_zero, Region.wanted, if_true]
      refine Or.inl ?_
      refine wp_append_by (.tmp 18) (.tmp 28) rfl w2.heap.size _ 0 [] (0 :: b2 (q0 : Int)) gg10 3 3 _ _ _ rfl OX.out HG.out QC.out rfl rfl (by omega) bzx ?_
      intro v3 w3 o3 hb3
      have O3 := Lib.hid o3
      have K3 := Lib.hid (BX.out.trans hb3)
      clear o3 hb3
      try rw [wpOps_cons]
      simp only [wpOp, List.getElem?_toArray, List.getElem?_cons_succ, List.getElem?_cons_zero, Region.wanted, if_true]
      refine Or.inl ?_
      simp only [Oper.wp, execOp]
      go_simp
      try simp only [wpOps]
      have f1 := row_c (row_on R2.out K3.out) (i := 1) rfl
      go_wp2_with fail
      clear f1
      go_loopw [4, 35] (fun x i wr => ∃ k n : Nat, k ≤ ks.length ∧ i = .int .i64 k ∧ n ≤ 3 + 19 * k ∧ Hid (wr.ownsRow w2.heap.size 5 1 x n (Lib.byteCells ((0 :: b2 (q0 : Int)) ++ (ps.take k).flatMap entL))) ∧ Hid (Below w2.heap.size w2 wr)) (fun _ i _ => ks.length - (intOf i).toNat)
      case atStart => exact ⟨0, 0 + 3, Nat.zero_le _, rfl, by omega, Lib.hid (by simpa using O3.out), K3⟩
      case round =>
        obtain ⟨k, n, hk, rfl, hn, ho, hb⟩ := hrel
        by_cases hlt : k < ks.length
        · obtain ⟨x_, hx⟩ := get_lt hlt
          obtain ⟨q, hq⟩ := get_lt (xs := (ds.drop 1)) (k := k) (by have := LK.out; omega)
          obtain ⟨b, off, hA, hbl, g2⟩ := (HK2.out.below hb.out).cell hx
          obtain ⟨b2_, off2, hA2, hbl2, g3⟩ := (HD2.out.below hb.out).cell hq
          have hq2 := RQ.out q (by first | exact List.mem_of_getElem? hq | exact List.mem_of_mem_drop (List.mem_of_getElem? hq))
          have hxl := RX.out x_ (List.mem_of_getElem? hx)
          have ET := Lib.hid (ents_take (show ps[k]? = some (x_, q) by rw [← HPS.out]; exact zip_at hx hq))
          have HLT := Lib.hid hlt
          have k0 : (0 : Int) ≤ (k : Int) := by omega
          have k1 : (k : Int) < (ks.length : Int) := by omega
          have k2 : (k : Int) < (M : Int) := by have := LK.out; omega
          have hsx := str_size x_
          have ZX := Lib.hid (And.intro hx hq)
          obtain ⟨X, hX⟩ : ∃ X, x_.length = X := ⟨_, rfl⟩
          rw [hX] at hsx hxl
          have HX := Lib.hid hX
          obtain ⟨q, rfl⟩ := Int.eq_ofNat_of_zero_le (show 0 ≤ q by omega)
          unfold sv at g2
          unfold nv at g3
          have bz : w2.heap.size ≤ wr.heap.size := hb.out.size
          have nn : n ≤ 3 + 19 * 120 := by omega
          have NN := Lib.hid hn
          have HXL := Lib.hid hxl
          have HQ2 := Lib.hid hq2
          subst hA hA2
          have SBW := Lib.hid (And.intro hbl2 g3)
          clear hx hq hX hn hxl hq2 hbl hbl2 g3
          have R0 := Lib.hid (heap_alloc_new wr (.cells #[.int .u8 ((X : Int) % 256)] 5))
          have xb : n + 1 ≤ 4000000 := by omega
          go_wp2_with (at_builtin; refine wpList_append_by rfl _ _ rfl w2.heap.size _ n _ [UInt8.ofNat X] wr.heap.size 1 1 _ _ _ rfl (ho.out.alloc _) R0.out (byte_cell X).symm rfl rfl xb (by simp; omega) ?_)
          intro v4 w4 o4 hb4
          have O4 := Lib.hid o4
          have K4 := Lib.hid (show Below w2.heap.size w2 w4 from ((hb.out.alloc bz _)).trans hb4)
          have B4 := Lib.hid (show Below wr.heap.size wr wr from Below.refl _ _)
          clear o4 hb4
          have bz4 := K4.out.size
          have xb4 : n + 1 + x_.length ≤ 4000000 := by have := HX.out; have := HXL.out; omega
          go_wp2_with (at_builtin; refine wpList_append_st rfl _ _ rfl w2.heap.size _ (n + 1) _ x_ rfl O4.out rfl xb4 bz4 ?_)
          intro v5 w5 o5 hb5
          have O5 := Lib.hid o5
          have K5 := Lib.hid (K4.out.trans hb5)
          clear o5 hb5
          have bz5 := K5.out.size
          have g5 : w5.cell? ⟨b2_, off2 + k, none⟩ = some (.int .i64 (q : Int)) := by
            obtain ⟨b', off', e', l', c'⟩ := (HD2.out.below K5.out).cell ZX.out.2
            injection e' with e'
            injection e' with e1 e2
            subst e1 e2
            exact c'
          clear g2
          have FQ := Lib.hid (fun x (K : Below w5.heap.size w5 x) => (K.cell (p := ⟨b2_, off2 + k, none⟩) (World.block_lt_of_cell? _ _ g5)).trans g5)
          go_upto_region 14 with (fail)
          clear g5
          have xb6 : n + 1 + x_.length + 2 ≤ 4000000 := by have := HX.out; have := HXL.out; omega
          have QC := Lib.hid (show (#[.int .u8 ((q : Int) / 256 % 256), .int .u8 ((q : Int) % 256)] : Array Value).toList = Lib.byteCells (b2 (q : Int)) by simp [b2, Lib.byteCells])
          refine wp_operands (W := w5) rfl 13 [49, 50, 51, 52, 53, 54, 55, 56, 57, 58, 59, 60, 61] (fun i u x => match i with | 0 => u = v5 | 1 => u = .slice (some ⟨b2_, off2, none⟩) M c' | 2 => u = .int .i64 (k : Int) | 3 => u = .pointer (some ⟨b2_, off2 + k, none⟩) | 4 => u = .int .i64 (q : Int) | 5 => u = .int .i64 ((q : Int) / 256) | 6 => u = .int .u8 ((q : Int) / 256 % 256) | 7 => u = .slice (some ⟨b2_, off2, none⟩) M c' | 8 => u = .int .i64 (k : Int) | 9 => u = .pointer (some ⟨b2_, off2 + k, none⟩) | 10 => u = .int .i64 (q : Int) | 11 => u = .int .u8 ((q : Int) % 256) | 12 => ∃ g, u = .slice (some ⟨g, 0, none⟩) 2 2 ∧ x.heap[g]? = some (.cells #[.int .u8 ((q : Int) / 256 % 256), .int .u8 ((q : Int) % 256)] 5 (0, 0)) | _ => True) (fun _ => false)
            (by decide) rfl (by kernel_rfl) (by kernel_rfl) (by decide) (by kernel_rfl) ?_ (fun _ _ _ h => by cases h) ?_ ?_
          · intro i u x x' hi hR hb'
            have hi' : i = 0 ∨ i = 1 ∨ i = 2 ∨ i = 3 ∨ i = 4 ∨ i = 5 ∨ i = 6 ∨ i = 7 ∨ i = 8 ∨ i = 9 ∨ i = 10 ∨ i = 11 ∨ i = 12 := by omega
            rcases hi' with rfl | rfl | rfl | rfl | rfl | rfl | rfl | rfl | rfl | rfl | rfl | rfl | rfl
            · exact hR
            · exact hR
            · exact hR
            · exact hR
            · exact hR
            · exact hR
            · exact hR
            · exact hR
            · exact hR
            · exact hR
            · exact hR
            · exact hR
            · obtain ⟨g, e, hg⟩ := hR; exact ⟨g, e, (hb'.block g (heap_lt hg)).trans hg⟩
          · intro i av x K hi hF hb' hw hK
            have hi' : i = 0 ∨ i = 1 ∨ i = 2 ∨ i = 3 ∨ i = 4 ∨ i = 5 ∨ i = 6 ∨ i = 7 ∨ i = 8 ∨ i = 9 ∨ i = 10 ∨ i = 11 ∨ i = 12 := by omega
            rcases hi' with rfl | rfl | rfl | rfl | rfl | rfl | rfl | rfl | rfl | rfl | rfl | rfl | rfl
            · simp only [wpOp, List.getElem?_toArray, List.getElem?_cons_zero, Region.wanted, if_true]
              refine Or.inl ?_
              have e0 : av.tmps.getD 4 undef = v5 := hF.2.2 4 (by decide)
              have e0e : av.eval (.tmp 4) = v5 := e0
              have e0g : av.tmps[4]?.getD undef = v5 := by have := e0; simp only [Array.getD_eq_getD_getElem?] at this; exact this
              clear hw hF
              simp only [Oper.wp, execOp]
              try simp only [e0e]
              go_simp
              exact hK _ x (by first | rfl | (simp only [Nat.add_zero]; done) | (congr 1; omega)) (Below.refl _ _) (fun h => by cases h)
            · simp only [wpOp, List.getElem?_toArray, List.getElem?_cons_succ, List.getElem?_cons_zero, Region.wanted, if_true]
              refine Or.inl ?_
              have e0 : av.tmps.getD 5 undef = .slice (some ⟨b2_, off2, none⟩) M c' := hF.2.2 5 (by decide)
              have e0e : av.eval (.tmp 5) = .slice (some ⟨b2_, off2, none⟩) M c' := e0
              have e0g : av.tmps[5]?.getD undef = .slice (some ⟨b2_, off2, none⟩) M c' := by have := e0; simp only [Array.getD_eq_getD_getElem?] at this; exact this
              clear hw hF
              simp only [Oper.wp, execOp]
              try simp only [e0e]
              go_simp
              exact hK _ x (by first | rfl | (simp only [Nat.add_zero]; done) | (congr 1; omega)) (Below.refl _ _) (fun h => by cases h)
            · simp only [wpOp, List.getElem?_toArray, List.getElem?_cons_succ, List.getElem?_cons_zero, Region.wanted, if_true]
              refine Or.inl ?_
              have e0 : av.tmps.getD 6 undef = .int .i64 (k : Int) := hF.2.2 6 (by decide)
              have e0e : av.eval (.tmp 6) = .int .i64 (k : Int) := e0
              have e0g : av.tmps[6]?.getD undef = .int .i64 (k : Int) := by have := e0; simp only [Array.getD_eq_getD_getElem?] at this; exact this
              clear hw hF
              simp only [Oper.wp, execOp]
              try simp only [e0e]
              go_simp
              exact hK _ x (by first | rfl | (simp only [Nat.add_zero]; done) | (congr 1; omega)) (Below.refl _ _) (fun h => by cases h)
            · simp only [wpOp, List.getElem?_toArray, List.getElem?_cons_succ, List.getElem?_cons_zero, Region.wanted, if_true]
              refine Or.inl ?_
              have e0 : av.tmps.getD 50 undef = .slice (some ⟨b2_, off2, none⟩) M c' := (hw 1 (by kernel_rfl))
              have e0e : av.eval (.tmp 50) = .slice (some ⟨b2_, off2, none⟩) M c' := e0
              have e0g : av.tmps[50]?.getD undef = .slice (some ⟨b2_, off2, none⟩) M c' := by have := e0; simp only [Array.getD_eq_getD_getElem?] at this; exact this
              have e1 : av.tmps.getD 51 undef = .int .i64 (k : Int) := (hw 2 (by kernel_rfl))
              have e1e : av.eval (.tmp 51) = .int .i64 (k : Int) := e1
              have e1g : av.tmps[51]?.getD undef = .int .i64 (k : Int) := by have := e1; simp only [Array.getD_eq_getD_getElem?] at this; exact this
              clear hw hF
              simp only [Oper.wp, execOp]
              try simp only [e0e, e1e]
              go_simp
              exact hK _ x (by first | rfl | (simp only [Nat.add_zero]; done) | (congr 1; omega)) (Below.refl _ _) (fun h => by cases h)
            · simp only [wpOp, List.getElem?_toArray, List.getElem?_cons_succ, List.getElem?_cons_zero, Region.wanted, if_true]
              refine Or.inl ?_
              have e0 : av.tmps.getD 52 undef = .pointer (some ⟨b2_, off2 + k, none⟩) := (hw 3 (by kernel_rfl))
              have e0e : av.eval (.tmp 52) = .pointer (some ⟨b2_, off2 + k, none⟩) := e0
              have e0g : av.tmps[52]?.getD undef = .pointer (some ⟨b2_, off2 + k, none⟩) := by have := e0; simp only [Array.getD_eq_getD_getElem?] at this; exact this
              have fq := FQ.out x hb'
              clear hw hF
              simp only [Oper.wp, execOp]
              try simp only [e0e]
              go_simp
              exact hK _ x (by first | rfl | (simp only [Nat.add_zero]; done) | (congr 1; omega)) (Below.refl _ _) (fun h => by cases h)
            · simp only [wpOp, List.getElem?_toArray, List.getElem?_cons_succ, List.getElem?_cons_zero, Region.wanted, if_true]
              refine Or.inl ?_
              have e0 : av.tmps.getD 53 undef = .int .i64 (q : Int) := (hw 4 (by kernel_rfl))
              have e0e : av.eval (.tmp 53) = .int .i64 (q : Int) := e0
              have e0g : av.tmps[53]?.getD undef = .int .i64 (q : Int) := by have := e0; simp only [Array.getD_eq_getD_getElem?] at this; exact this
              clear hw hF
              simp only [Oper.wp, execOp]
              try simp only [e0e]
              go_simp
              exact hK _ x (by first | rfl | (simp only [Nat.add_zero]; done) | (congr 1; omega)) (Below.refl _ _) (fun h => by cases h)
            · simp only [wpOp, List.getElem?_toArray, List.getElem?_cons_succ, List.getElem?_cons_zero, Region.wanted, if_true]
              refine Or.inl ?_
              have e0 : av.tmps.getD 54 undef = .int .i64 ((q : Int) / 256) := (hw 5 (by kernel_rfl))
              have e0e : av.eval (.tmp 54) = .int .i64 ((q : Int) / 256) := e0
              have e0g : av.tmps[54]?.getD undef = .int .i64 ((q : Int) / 256) := by have := e0; simp only [Array.getD_eq_getD_getElem?] at this; exact this
              clear hw hF
              simp only [Oper.wp, execOp]
              try simp only [e0e]
              go_simp
              exact hK _ x (by first | rfl | (simp only [Nat.add_zero]; done) | (congr 1; omega)) (Below.refl _ _) (fun h => by cases h)
            · simp only [wpOp, List.getElem?_toArray, List.getElem?_cons_succ, List.getElem?_cons_zero, Region.wanted, if_true]
              refine Or.inl ?_
              have e0 : av.tmps.getD 5 undef = .slice (some ⟨b2_, off2, none⟩) M c' := hF.2.2 5 (by decide)
              have e0e : av.eval (.tmp 5) = .slice (some ⟨b2_, off2, none⟩) M c' := e0
              have e0g : av.tmps[5]?.getD undef = .slice (some ⟨b2_, off2, none⟩) M c' := by have := e0; simp only [Array.getD_eq_getD_getElem?] at this; exact this
              clear hw hF
              simp only [Oper.wp, execOp]
              try simp only [e0e]
              go_simp
              exact hK _ x (by first | rfl | (simp only [Nat.add_zero]; done) | (congr 1; omega)) (Below.refl _ _) (fun h => by cases h)
            · simp only [wpOp, List.getElem?_toArray, List.getElem?_cons_succ, List.getElem?_cons_zero, Region.wanted, if_true]
              refine Or.inl ?_
              have e0 : av.tmps.getD 6 undef = .int .i64 (k : Int) := hF.2.2 6 (by decide)
              have e0e : av.eval (.tmp 6) = .int .i64 (k : Int) := e0
              have e0g : av.tmps[6]?.getD undef = .int .i64 (k : Int) := by have := e0; simp only [Array.getD_eq_getD_getElem?] at this; exact this
              clear hw hF
              simp only [Oper.wp, execOp]
              try simp only [e0e]
              go_simp
              exact hK _ x (by first | rfl | (simp only [Nat.add_zero]; done) | (congr 1; omega)) (Below.refl _ _) (fun h => by cases h)
            · simp only [wpOp, List.getElem?_toArray, List.getElem?_cons_succ, List.getElem?_cons_zero, Region.wanted, if_true]
              refine Or.inl ?_
              have e0 : av.tmps.getD 56 undef = .slice (some ⟨b2_, off2, none⟩) M c' := (hw 7 (by kernel_rfl))
              have e0e : av.eval (.tmp 56) = .slice (some ⟨b2_, off2, none⟩) M c' := e0
              have e0g : av.tmps[56]?.getD undef = .slice (some ⟨b2_, off2, none⟩) M c' := by have := e0; simp only [Array.getD_eq_getD_getElem?] at this; exact this
              have e1 : av.tmps.getD 57 undef = .int .i64 (k : Int) := (hw 8 (by kernel_rfl))
              have e1e : av.eval (.tmp 57) = .int .i64 (k : Int) := e1
              have e1g : av.tmps[57]?.getD undef = .int .i64 (k : Int) := by have := e1; simp only [Array.getD_eq_getD_getElem?] at this; exact this
              clear hw hF
              simp only [Oper.wp, execOp]
              try simp only [e0e, e1e]
              go_simp
              exact hK _ x (by first | rfl | (simp only [Nat.add_zero]; done) | (congr 1; omega)) (Below.refl _ _) (fun h => by cases h)
            · simp only [wpOp, List.getElem?_toArray, List.getElem?_cons_succ, List.getElem?_cons_zero, Region.wanted, if_true]
              refine Or.inl ?_
              have e0 : av.tmps.getD 58 undef = .pointer (some ⟨b2_, off2 + k, none⟩) := (hw 9 (by kernel_rfl))
              have e0e : av.eval (.tmp 58) = .pointer (some ⟨b2_, off2 + k, none⟩) := e0
              have e0g : av.tmps[58]?.getD undef = .pointer (some ⟨b2_, off2 + k, none⟩) := by have := e0; simp only [Array.getD_eq_getD_getElem?] at this; exact this
              have fq := FQ.out x hb'
              clear hw hF
              simp only [Oper.wp, execOp]
              try simp only [e0e]
              go_simp
              exact hK _ x (by first | rfl | (simp only [Nat.add_zero]; done) | (congr 1; omega)) (Below.refl _ _) (fun h => by cases h)
            · simp only [wpOp, List.getElem?_toArray, List.getElem?_cons_succ, List.getElem?_cons_zero, Region.wanted, if_true]
              refine Or.inl ?_
              have e0 : av.tmps.getD 59 undef = .int .i64 (q : Int) := (hw 10 (by kernel_rfl))
              have e0e : av.eval (.tmp 59) = .int .i64 (q : Int) := e0
              have e0g : av.tmps[59]?.getD undef = .int .i64 (q : Int) := by have := e0; simp only [Array.getD_eq_getD_getElem?] at this; exact this
              clear hw hF
              simp only [Oper.wp, execOp]
              try simp only [e0e]
              go_simp
              exact hK _ x (by first | rfl | (simp only [Nat.add_zero]; done) | (congr 1; omega)) (Below.refl _ _) (fun h => by cases h)
            · simp only [wpOp, List.getElem?_toArray, List.getElem?_cons_succ, List.getElem?_cons_zero, Region.wanted, if_true]
              refine Or.inl ?_
              have e0 : av.tmps.getD 55 undef = .int .u8 ((q : Int) / 256 % 256) := (hw 6 (by kernel_rfl))
              have e0e : av.eval (.tmp 55) = .int .u8 ((q : Int) / 256 % 256) := e0
              have e0g : av.tmps[55]?.getD undef = .int .u8 ((q : Int) / 256 % 256) := by have := e0; simp only [Array.getD_eq_getD_getElem?] at this; exact this
              have e1 : av.tmps.getD 60 undef = .int .u8 ((q : Int) % 256) := (hw 11 (by kernel_rfl))
              have e1e : av.eval (.tmp 60) = .int .u8 ((q : Int) % 256) := e1
              have e1g : av.tmps[60]?.getD undef = .int .u8 ((q : Int) % 256) := by have := e1; simp only [Array.getD_eq_getD_getElem?] at this; exact this
              clear hw hF
              simp only [Oper.wp, execOp]
              try simp only [e0e, e1e]
              go_simp
              exact hK _ _ ⟨_, rfl, heap_alloc_new _ _⟩ ((Below.refl _ _).alloc (Nat.le_refl _) _) (fun h => by cases h)
          · intro av x hF hb' hR _
            have e0 : av.tmps.getD 49 undef = v5 := hR 0 (by decide)
            have e1 : av.tmps.getD 50 undef = .slice (some ⟨b2_, off2, none⟩) M c' := hR 1 (by decide)
            have e2 : av.tmps.getD 51 undef = .int .i64 (k : Int) := hR 2 (by decide)
            have e3 : av.tmps.getD 52 undef = .pointer (some ⟨b2_, off2 + k, none⟩) := hR 3 (by decide)
            have e4 : av.tmps.getD 53 undef = .int .i64 (q : Int) := hR 4 (by decide)
            have e5 : av.tmps.getD 54 undef = .int .i64 ((q : Int) / 256) := hR 5 (by decide)
            have e6 : av.tmps.getD 55 undef = .int .u8 ((q : Int) / 256 % 256) := hR 6 (by decide)
            have e7 : av.tmps.getD 56 undef = .slice (some ⟨b2_, off2, none⟩) M c' := hR 7 (by decide)
            have e8 : av.tmps.getD 57 undef = .int .i64 (k : Int) := hR 8 (by decide)
            have e9 : av.tmps.getD 58 undef = .pointer (some ⟨b2_, off2 + k, none⟩) := hR 9 (by decide)
            have e10 : av.tmps.getD 59 undef = .int .i64 (q : Int) := hR 10 (by decide)
            have e11 : av.tmps.getD 60 undef = .int .u8 ((q : Int) % 256) := hR 11 (by decide)
            obtain ⟨gg12, e12, hg12⟩ := hR 12 (by decide)
            replace e12 : av.tmps.getD 61 undef = .slice (some ⟨gg12, 0, none⟩) 2 2 := e12
            rw [hF.fold (by kernel_rfl)]
            simp only [List.foldl_cons, List.foldl_nil, e0, e1, e2, e3, e4, e5, e6, e7, e8, e9, e10, e11, e12]
            simp only [Act.put, List.setIfInBounds_toArray, List.set_cons_zero, List.set_cons_succ]
            change wpOps _ _ _ [13, 14] _ _
            simp only [wpOps_cons]
            clear e0 e1 e2 e3 e4 e5 e6 e7 e8 e9 e10 e11 e12 hR hF
            have HG := Lib.hid hg12
            have OX := Lib.hid (own_later O5.out hb')
            have BX := Lib.hid (K5.out.trans (hb'.mono K5.out.size))
            have bzx := BX.out.size
            clear hg12 hb'
            simp only [wpOp, List.getElem?_toArray, List.getElem?_cons_succ, List.getElem?_cons_zero, Region.wanted, if_true]
            refine Or.inl ?_
            refine wp_append_by (.tmp 49) (.tmp 61) rfl w2.heap.size _ (n + 1 + x_.length) _ (b2 (q : Int)) gg12 2 2 _ _ _ rfl OX.out HG.out QC.out rfl rfl xb6 bzx ?_
            intro v7 w7 o7 hb7
            have O7 := Lib.hid o7
            have K7 := Lib.hid (BX.out.trans hb7)
            clear o7 hb7
            try rw [wpOps_cons]
            simp only [wpOp, List.getElem?_toArray, List.getElem?_cons_succ, List.getElem?_cons_zero, Region.wanted, if_true]
            refine Or.inl ?_
            simp only [Oper.wp, execOp]
            go_simp
            try simp only [wpOps]
            go_wp2
            go_roundw
            case rel =>
              refine ⟨k + 1, n + 1 + x_.length + 2, HLT.out, by go_num, by have := HX.out; have := HXL.out; have := NN.out; omega, Lib.hid ?_, K7⟩
              have h1 := O7.out
              rw [ET.out]
              have e : ((0 :: b2 (q0 : Int)) : List UInt8) ++ ((ps.take k).flatMap entL ++ entL (x_, (q : Int))) = (0 :: b2 (q0 : Int)) ++ (ps.take k).flatMap entL ++ [UInt8.ofNat X] ++ x_ ++ b2 (q : Int) := by
                simp [entL, HX.out]
              rw [e]
              simp only [List.append_assoc, List.cons_append, List.nil_append] at h1 ⊢
              exact h1
            case measure => simp [intOf]; have := HLT.out; omega
        · obtain rfl : k = ks.length := by omega
          have ep : ps.take ks.length = ps := List.take_of_length_le (by rw [← HPS.out, List.length_zip]; omega)
          rw [ep] at ho
          obtain ⟨gr, hgr, hconv⟩ := own_conv ho.out (by simp)
          subst hgr
          clear ho ep
          go_wp2
          go_ret2
          exact ⟨congrArg (fun z => Ending.returned (.tuple #[.string ⟨z⟩, .int .i64 0])) (by rw [EE.out]; first | rfl | simp), K2.out.trans (hb.out.mono (by have := K2.out.size; omega))⟩

  · have LD := Lib.hid (show ds.length = ks.length by simpa using RR.out)
    clear RR
    go_enter Try.func12, Try.ntmps12
    go_wp2_with fail
    refine (RG.out _ (bda _ _)).mono ?_
    rintro e w2 ⟨rfl, hb⟩
    have R2 := Lib.hid (row_on (heap_alloc_new w (.cells #[.bool true, .slice A ks.length c, .slice B ds.length d] 25)) hb)
    have K2 := Lib.hid (bon (bda _ _) hb)
    have HK2 := Lib.hid (HK.out.below K2.out)
    clear hb
    have f0 := row_c R2.out (i := 0) rfl
    have f1 := row_c R2.out (i := 1) rfl
    have f2 := row_c R2.out (i := 2) rfl
    have OW := Lib.hid (World.ownsRow_nil w2 w2.heap.size 5 1)
    have HD2 := Lib.hid (HD.out.below K2.out)
    obtain ⟨ps, hps⟩ : ∃ ps, ks.zip ds = ps := ⟨_, rfl⟩
    have EE := Lib.hid (show encL true ks ds = [1] ++ ps.flatMap entL by rw [← hps]; rfl)
    have HPS := Lib.hid hps
    clear hps
    have LK := Lib.hid (show ds.length = ks.length from LD.out)
    have R0 := Lib.hid (heap_alloc_new w2 (.cells #[.int .u8 1] 5))
    go_wp2_with (at_builtin; refine wpList_append_by rfl _ _ rfl w2.heap.size _ 0 [] [1] w2.heap.size 1 1 _ _ _ rfl (OW.out.alloc _) R0.out rfl rfl rfl (by omega) (by simp) ?_)
    intro v3 w3 o3 hb3
    have O3 := Lib.hid o3
    have K3 := Lib.hid (show Below w2.heap.size w2 w3 from (bda w2 _).trans hb3)
    clear o3 hb3 f0 f1 f2
    have f1 := row_c (row_on R2.out K3.out) (i := 1) rfl
    go_wp2_with fail
    clear f1
    go_loopw [4, 35] (fun x i wr => ∃ k n : Nat, k ≤ ks.length ∧ i = .int .i64 k ∧ n ≤ 3 + 19 * k ∧ Hid (wr.ownsRow w2.heap.size 5 1 x n (Lib.byteCells ([1] ++ (ps.take k).flatMap entL))) ∧ Hid (Below w2.heap.size w2 wr)) (fun _ i _ => ks.length - (intOf i).toNat)
    case atStart => exact ⟨0, 0 + 1, Nat.zero_le _, rfl, by omega, Lib.hid (by simpa using O3.out), K3⟩
    case round =>
      obtain ⟨k, n, hk, rfl, hn, ho, hb⟩ := hrel
      by_cases hlt : k < ks.length
      · obtain ⟨x_, hx⟩ := get_lt hlt
        obtain ⟨q, hq⟩ := get_lt (xs := ds) (k := k) (by have := LK.out; omega)
        obtain ⟨b, off, hA, hbl, g2⟩ := (HK2.out.below hb.out).cell hx
        obtain ⟨b2_, off2, hA2, hbl2, g3⟩ := (HD2.out.below hb.out).cell hq
        have hq2 := RQ.out q (by first | exact List.mem_of_getElem? hq | exact List.mem_of_mem_drop (List.mem_of_getElem? hq))
        have hxl := RX.out x_ (List.mem_of_getElem? hx)
        have ET := Lib.hid (ents_take (show ps[k]? = some (x_, q) by rw [← HPS.out]; exact zip_at hx hq))
        have HLT := Lib.hid hlt
        have k0 : (0 : Int) ≤ (k : Int) := by omega
        have k1 : (k : Int) < (ks.length : Int) := by omega
        have k2 : (k : Int) < (ds.length : Int) := by have := LK.out; omega
        have hsx := str_size x_
        have ZX := Lib.hid (And.intro hx hq)
        obtain ⟨X, hX⟩ : ∃ X, x_.length = X := ⟨_, rfl⟩
        rw [hX] at hsx hxl
        have HX := Lib.hid hX
        obtain ⟨q, rfl⟩ := Int.eq_ofNat_of_zero_le (show 0 ≤ q by omega)
        unfold sv at g2
        unfold nv at g3
        have bz : w2.heap.size ≤ wr.heap.size := hb.out.size
        have nn : n ≤ 3 + 19 * 120 := by omega
        have NN := Lib.hid hn
        have HXL := Lib.hid hxl
        have HQ2 := Lib.hid hq2
        subst hA hA2
        have SBW := Lib.hid (And.intro hbl2 g3)
        clear hx hq hX hn hxl hq2 hbl hbl2 g3
        have R0 := Lib.hid (heap_alloc_new wr (.cells #[.int .u8 ((X : Int) % 256)] 5))
        have xb : n + 1 ≤ 4000000 := by omega
        go_wp2_with (at_builtin; refine wpList_append_by rfl _ _ rfl w2.heap.size _ n _ [UInt8.ofNat X] wr.heap.size 1 1 _ _ _ rfl (ho.out.alloc _) R0.out (byte_cell X).symm rfl rfl xb (by simp; omega) ?_)
        intro v4 w4 o4 hb4
        have O4 := Lib.hid o4
        have K4 := Lib.hid (show Below w2.heap.size w2 w4 from ((hb.out.alloc bz _)).trans hb4)
        have B4 := Lib.hid (show Below wr.heap.size wr wr from Below.refl _ _)
        clear o4 hb4
        have bz4 := K4.out.size
        have xb4 : n + 1 + x_.length ≤ 4000000 := by have := HX.out; have := HXL.out; omega
        go_wp2_with (at_builtin; refine wpList_append_st rfl _ _ rfl w2.heap.size _ (n + 1) _ x_ rfl O4.out rfl xb4 bz4 ?_)
        intro v5 w5 o5 hb5
        have O5 := Lib.hid o5
        have K5 := Lib.hid (K4.out.trans hb5)
        clear o5 hb5
        have bz5 := K5.out.size
        have g5 : w5.cell? ⟨b2_, off2 + k, none⟩ = some (.int .i64 (q : Int)) := by
          obtain ⟨b', off', e', l', c'⟩ := (HD2.out.below K5.out).cell ZX.out.2
          injection e' with e'
          injection e' with e1 e2
          subst e1 e2
          exact c'
        clear g2
        have FQ := Lib.hid (fun x (K : Below w5.heap.size w5 x) => (K.cell (p := ⟨b2_, off2 + k, none⟩) (World.block_lt_of_cell? _ _ g5)).trans g5)
        go_upto_region 14 with (fail)
        clear g5
        have xb6 : n + 1 + x_.length + 2 ≤ 4000000 := by have := HX.out; have := HXL.out; omega
        have QC := Lib.hid (show (#[.int .u8 ((q : Int) / 256 % 256), .int .u8 ((q : Int) % 256)] : Array Value).toList = Lib.byteCells (b2 (q : Int)) by simp [b2, Lib.byteCells])
        refine wp_operands (W := w5) rfl 13 [49, 50, 51, 52, 53, 54, 55, 56, 57, 58, 59, 60, 61] (fun i u x => match i with | 0 => u = v5 | 1 => u = .slice (some ⟨b2_, off2, none⟩) ds.length d | 2 => u = .int .i64 (k : Int) | 3 => u = .pointer (some ⟨b2_, off2 + k, none⟩) | 4 => u = .int .i64 (q : Int) | 5 => u = .int .i64 ((q : Int) / 256) | 6 => u = .int .u8 ((q : Int) / 256 % 256) | 7 => u = .slice (some ⟨b2_, off2, none⟩) ds.length d | 8 => u = .int .i64 (k : Int) | 9 => u = .pointer (some ⟨b2_, off2 + k, none⟩) | 10 => u = .int .i64 (q : Int) | 11 => u = .int .u8 ((q : Int) % 256) | 12 => ∃ g, u = .slice (some ⟨g, 0, none⟩) 2 2 ∧ x.heap[g]? = some (.cells #[.int .u8 ((q : Int) / 256 % 256), .int .u8 ((q : Int) % 256)] 5 (0, 0)) | _ => True) (fun _ => false)
          (by decide) rfl (by kernel_rfl) (by kernel_rfl) (by decide) (by kernel_rfl) ?_ (fun _ _ _ h => by cases h) ?_ ?_
        · intro i u x x' hi hR hb'
          have hi' : i = 0 ∨ i = 1 ∨ i = 2 ∨ i = 3 ∨ i = 4 ∨ i = 5 ∨ i = 6 ∨ i = 7 ∨ i = 8 ∨ i = 9 ∨ i = 10 ∨ i = 11 ∨ i = 12 := by omega
          rcases hi' with rfl | rfl | rfl | rfl | rfl | rfl | rfl | rfl | rfl | rfl | rfl | rfl | rfl
          · exact hR
          · exact hR
          · exact hR
          · exact hR
          · exact hR
          · exact hR
          · exact hR
          · exact hR
          · exact hR
          · exact hR
          · exact hR
          · exact hR
          · obtain ⟨g, e, hg⟩ := hR; exact ⟨g, e, (hb'.block g (heap_lt hg)).trans hg⟩
        · intro i av x K hi hF hb' hw hK
          have hi' : i = 0 ∨ i = 1 ∨ i = 2 ∨ i = 3 ∨ i = 4 ∨ i = 5 ∨ i = 6 ∨ i = 7 ∨ i = 8 ∨ i = 9 ∨ i = 10 ∨ i = 11 ∨ i = 12 := by omega
          rcases hi' with rfl | rfl | rfl | rfl | rfl | rfl | rfl | rfl | rfl | rfl | rfl | rfl | rfl
          · simp only [wpOp, List.getElem?_toArray, List.getElem?_cons_zero, Region.wanted, if_true]
            refine Or.inl ?_
            have e0 : av.tmps.getD 4 undef = v5 := hF.2.2 4 (by decide)
            have e0e : av.eval (.tmp 4) = v5 := e0
            have e0g : av.tmps[4]?.getD undef = v5 := by have := e0; simp only [Array.getD_eq_getD_getElem?] at this; exact this
            clear hw hF
            simp only [Oper.wp, execOp]
            try simp only [e0e]
            go_simp
            exact hK _ x (by first | rfl | (simp only [Nat.add_zero]; done) | (congr 1; omega)) (Below.refl _ _) (fun h => by cases h)
          · simp only [wpOp, List.getElem?_toArray, List.getElem?_cons_succ, List.getElem?_cons_zero, Region.wanted, if_true]
            refine Or.inl ?_
            have e0 : av.tmps.getD 5 undef = .slice (some ⟨b2_, off2, none⟩) ds.length d := hF.2.2 5 (by decide)
            have e0e : av.eval (.tmp 5) = .slice (some ⟨b2_, off2, none⟩) ds.length d := e0
            have e0g : av.tmps[5]?.getD undef = .slice (some ⟨b2_, off2, none⟩) ds.length d := by have := e0; simp only [Array.getD_eq_getD_getElem?] at this; exact this
            clear hw hF
            simp only [Oper.wp, execOp]
            try simp only [e0e]
            go_simp
            exact hK _ x (by first | rfl | (simp only [Nat.add_zero]; done) | (congr 1; omega)) (Below.refl _ _) (fun h => by cases h)
          · simp only [wpOp, List.getElem?_toArray, List.getElem?_cons_succ, List.getElem?_cons_zero, Region.wanted, if_true]
            refine Or.inl ?_
            have e0 : av.tmps.getD 6 undef = .int .i64 (k : Int) := hF.2.2 6 (by decide)
            have e0e : av.eval (.tmp 6) = .int .i64 (k : Int) := e0
            have e0g : av.tmps[6]?.getD undef = .int .i64 (k : Int) := by have := e0; simp only [Array.getD_eq_getD_getElem?] at this; exact this
            clear hw hF
            simp only [Oper.wp, execOp]
            try simp only [e0e]
            go_simp
            exact hK _ x (by first | rfl | (simp only [Nat.add_zero]; done) | (congr 1; omega)) (Below.refl _ _) (fun h => by cases h)
          · simp only [wpOp, List.getElem?_toArray, List.getElem?_cons_succ, List.getElem?_cons_zero, Region.wanted, if_true]
            refine Or.inl ?_
            have e0 : av.tmps.getD 50 undef = .slice (some ⟨b2_, off2, none⟩) ds.length d := (hw 1 (by kernel_rfl))
            have e0e : av.eval (.tmp 50) = .slice (some ⟨b2_, off2, none⟩) ds.length d := e0
            have e0g : av.tmps[50]?.getD undef = .slice (some ⟨b2_, off2, none⟩) ds.length d := by have := e0; simp only [Array.getD_eq_getD_getElem?] at this; exact this
            have e1 : av.tmps.getD 51 undef = .int .i64 (k : Int) := (hw 2 (by kernel_rfl))
            have e1e : av.eval (.tmp 51) = .int .i64 (k : Int) := e1
            have e1g : av.tmps[51]?.getD undef = .int .i64 (k : Int) := by have := e1; simp only [Array.getD_eq_getD_getElem?] at this; exact this
            clear hw hF
            simp only [Oper.wp, execOp]
            try simp only [e0e, e1e]
            go_simp
            exact hK _ x (by first | rfl | (simp only [Nat.add_zero]; done) | (congr 1; omega)) (Below.refl _ _) (fun h => by cases h)
          · simp only [wpOp, List.getElem?_toArray, List.getElem?_cons_succ, List.getElem?_cons_zero, Region.wanted, if_true]
            refine Or.inl ?_
            have e0 : av.tmps.getD 52 undef = .pointer (some ⟨b2_, off2 + k, none⟩) := (hw 3 (by kernel_rfl))
            have e0e : av.eval (.tmp 52) = .pointer (some ⟨b2_, off2 + k, none⟩) := e0
            have e0g : av.tmps[52]?.getD undef = .pointer (some ⟨b2_, off2 + k, none⟩) := by have := e0; simp only [Array.getD_eq_getD_getElem?] at this; exact this
            have fq := FQ.out x hb'
            clear hw hF
            simp only [Oper.wp, execOp]
            try simp only [e0e]
            go_simp
            exact hK _ x (by first | rfl | (simp only [Nat.add_zero]; done) | (congr 1; omega)) (Below.refl _ _) (fun h => by cases h)
          · simp only [wpOp, List.getElem?_toArray, List.getElem?_cons_succ, List.getElem?_cons_zero, Region.wanted, if_true]
            refine Or.inl ?_
            have e0 : av.tmps.getD 53 undef = .int .i64 (q : Int) := (hw 4 (by kernel_rfl))
            have e0e : av.eval (.tmp 53) = .int .i64 (q : Int) := e0
            have e0g : av.tmps[53]?.getD undef = .int .i64 (q : Int) := by have := e0; simp only [Array.getD_eq_getD_getElem?] at this; exact this
            clear hw hF
            simp only [Oper.wp, execOp]
            try simp only [e0e]
            go_simp
            exact hK _ x (by first | rfl | (simp only [Nat.add_zero]; done) | (congr 1; omega)) (Below.refl _ _) (fun h => by cases h)
          · simp only [wpOp, List.getElem?_toArray, List.getElem?_cons_succ, List.getElem?_cons_zero, Region.wanted, if_true]
            refine Or.inl ?_
            have e0 : av.tmps.getD 54 undef = .int .i64 ((q : Int) / 256) := (hw 5 (by kernel_rfl))
            have e0e : av.eval (.tmp 54) = .int .i64 ((q : Int) / 256) := e0
            have e0g : av.tmps[54]?.getD undef = .int .i64 ((q : Int) / 256) := by have := e0; simp only [Array.getD_eq_getD_getElem?] at this; exact this
            clear hw hF
            simp only [Oper.wp, execOp]
            try simp only [e0e]
            go_simp
            exact hK _ x (by first | rfl | (simp only [Nat.add_zero]; done) | (congr 1; omega)) (Below.refl _ _) (fun h => by cases h)
          · simp only [wpOp, List.getElem?_toArray, List.getElem?_cons_succ, List.getElem?_cons_zero, Region.wanted, if_true]
            refine Or.inl ?_
            have e0 : av.tmps.getD 5 undef = .slice (some ⟨b2_, off2, none⟩) ds.length d := hF.2.2 5 (by decide)
            have e0e : av.eval (.tmp 5) = .slice (some ⟨b2_, off2, none⟩) ds.length d := e0
            have e0g : av.tmps[5]?.getD undef = .slice (some ⟨b2_, off2, none⟩) ds.length d := by have := e0; simp only [Array.getD_eq_getD_getElem?] at this; exact this
            clear hw hF
            simp only [Oper.wp, execOp]
            try simp only [e0e]
            go_simp
            exact hK _ x (by first | rfl | (simp only [Nat.add_zero]; done) | (congr 1; omega)) (Below.refl _ _) (fun h => by cases h)
          · simp only [wpOp, List.getElem?_toArray, List.getElem?_cons_succ, List.getElem?_cons_zero, Region.wanted, if_true]
            refine Or.inl ?_
            have e0 : av.tmps.getD 6 undef = .int .i64 (k : Int) := hF.2.2 6 (by decide)
            have e0e : av.eval (.tmp 6) = .int .i64 (k : Int) := e0
            have e0g : av.tmps[6]?.getD undef = .int .i64 (k : Int) := by have := e0; simp only [Array.getD_eq_getD_getElem?] at this; exact this
            clear hw hF
            simp only [Oper.wp, execOp]
            try simp only [e0e]
            go_simp
            exact hK _ x (by first | rfl | (simp only [Nat.add_zero]; done) | (congr 1; omega)) (Below.refl _ _) (fun h => by cases h)
          · simp only [wpOp, List.getElem?_toArray, List.getElem?_cons_succ, List.getElem?_cons_zero, Region.wanted, if_true]
            refine Or.inl ?_
            have e0 : av.tmps.getD 56 undef = .slice (some ⟨b2_, off2, none⟩) ds.length d := (hw 7 (by kernel_rfl))
            have e0e : av.eval (.tmp 56) = .slice (some ⟨b2_, off2, none⟩) ds.length d := e0
            have e0g : av.tmps[56]?.getD undef = .slice (some ⟨b2_, off2, none⟩) ds.length d := by have := e0; simp only [Array.getD_eq_getD_getElem?] at this; exact this
            have e1 : av.tmps.getD 57 undef = .int .i64 (k : Int) := (hw 8 (by kernel_rfl))
            have e1e : av.eval (.tmp 57) = .int .i64 (k : Int) := e1
            have e1g : av.tmps[57]?.getD undef = .int .i64 (k : Int) := by have := e1; simp only [Array.getD_eq_getD_getElem?] at this; exact this
            clear hw hF
            simp only [Oper.wp, execOp]
            try simp only [e0e, e1e]
            go_simp
            exact hK _ x (by first | rfl | (simp only [Nat.add_zero]; done) | (congr 1; omega)) (Below.refl _ _) (fun h => by cases h)
          · simp only [wpOp, List.getElem?_toArray, List.getElem?_cons_succ, List.getElem?_cons_zero, Region.wanted, if_true]
            refine Or.inl ?_
            have e0 : av.tmps.getD 58 undef = .pointer (some ⟨b2_, off2 + k, none⟩) := (hw 9 (by kernel_rfl))
            have e0e : av.eval (.tmp 58) = .pointer (some ⟨b2_, off2 + k, none⟩) := e0
            have e0g : av.tmps[58]?.getD undef = .pointer (some ⟨b2_, off2 + k, none⟩) := by have := e0; simp only [Array.getD_eq_getD_getElem?] at this; exact this
            have fq := FQ.out x hb'
            clear hw hF
            simp only [Oper.wp, execOp]
            try simp only [e0e]
            go_simp
            exact hK _ x (by first | rfl | (simp only [Nat.add_zero]; done) | (congr 1; omega)) (Below.refl _ _) (fun h => by cases h)
          · simp only [wpOp, List.getElem?_toArray, List.getElem?_cons_succ, List.getElem?_cons_zero, Region.wanted, if_true]
            refine Or.inl ?_
            have e0 : av.tmps.getD 59 undef = .int .i64 (q : Int) := (hw 10 (by kernel_rfl))
            have e0e : av.eval (.tmp 59) = .int .i64 (q : Int) := e0
            have e0g : av.tmps[59]?.getD undef = .int .i64 (q : Int) := by have := e0; simp only [Array.getD_eq_getD_getElem?] at this; exact this
            clear hw hF
            simp only [Oper.wp, execOp]
            try simp only [e0e]
            go_simp
            exact hK _ x (by first | rfl | (simp only [Nat.add_zero]; done) | (congr 1; omega)) (Below.refl _ _) (fun h => by cases h)
          · simp only [wpOp, List.getElem?_toArray, List.getElem?_cons_succ, List.getElem?_cons_zero, Region.wanted, if_true]
            refine Or.inl ?_
            have e0 : av.tmps.getD 55 undef = .int .u8 ((q : Int) / 256 % 256) := (hw 6 (by kernel_rfl))
            have e0e : av.eval (.tmp 55) = .int .u8 ((q : Int) / 256 % 256) := e0
            have e0g : av.tmps[55]?.getD undef = .int .u8 ((q : Int) / 256 % 256) := by have := e0; simp only [Array.getD_eq_getD_getElem?] at this; exact this
            have e1 : av.tmps.getD 60 undef = .int .u8 ((q : Int) % 256) := (hw 11 (by kernel_rfl))
            have e1e : av.eval (.tmp 60) = .int .u8 ((q : Int) % 256) := e1
            have e1g : av.tmps[60]?.getD undef = .int .u8 ((q : Int) % 256) := by have := e1; simp only [Array.getD_eq_getD_getElem?] at this; exact this
            clear hw hF
            simp only [Oper.wp, execOp]
            try simp only [e0e, e1e]
            go_simp
            exact hK _ _ ⟨_, rfl, heap_alloc_new _ _⟩ ((Below.refl _ _).alloc (Nat.le_refl _) _) (fun h => by cases h)
        · intro av x hF hb' hR _
          have e0 : av.tmps.getD 49 undef = v5 := hR 0 (by decide)
          have e1 : av.tmps.getD 50 undef = .slice (some ⟨b2_, off2, none⟩) ds.length d := hR 1 (by decide)
          have e2 : av.tmps.getD 51 undef = .int .i64 (k : Int) := hR 2 (by decide)
          have e3 : av.tmps.getD 52 undef = .pointer (some ⟨b2_, off2 + k, none⟩) := hR 3 (by decide)
          have e4 : av.tmps.getD 53 undef = .int .i64 (q : Int) := hR 4 (by decide)
          have e5 : av.tmps.getD 54 undef = .int .i64 ((q : Int) / 256) := hR 5 (by decide)
          have e6 : av.tmps.getD 55 undef = .int .u8 ((q : Int) / 256 % 256) := hR 6 (by decide)
          have e7 : av.tmps.getD 56 undef = .slice (some ⟨b2_, off2, none⟩) ds.length d := hR 7 (by decide)
          have e8 : av.tmps.getD 57 undef = .int .i64 (k : Int) := hR 8 (by decide)
          have e9 : av.tmps.getD 58 undef = .pointer (some ⟨b2_, off2 + k, none⟩) := hR 9 (by decide)
          have e10 : av.tmps.getD 59 undef = .int .i64 (q : Int) := hR 10 (by decide)
          have e11 : av.tmps.getD 60 undef = .int .u8 ((q : Int) % 256) := hR 11 (by decide)
          obtain ⟨gg12, e12, hg12⟩ := hR 12 (by decide)
          replace e12 : av.tmps.getD 61 undef = .slice (some ⟨gg12, 0, none⟩) 2 2 := e12
          rw [hF.fold (by kernel_rfl)]
          simp only [List.foldl_cons, List.foldl_nil, e0, e1, e2, e3, e4, e5, e6, e7, e8, e9, e10, e11, e12]
          simp only [Act.put, List.setIfInBounds_toArray, List.set_cons_zero, List.set_cons_succ]
          change wpOps _ _ _ [13, 14] _ _
          simp only [wpOps_cons]
          clear e0 e1 e2 e3 e4 e5 e6 e7 e8 e9 e10 e11 e12 hR hF
          have HG := Lib.hid hg12
          have OX := Lib.hid (own_later O5.out hb')
          have BX := Lib.hid (K5.out.trans (hb'.mono K5.out.size))
          have bzx := BX.out.size
          clear hg12 hb'
          simp only [wpOp, List.getElem?_toArray, List.getElem?_cons_succ, List.getElem?_cons_zero, Region.wanted, if_true]
          refine Or.inl ?_
          refine wp_append_by (.tmp 49) (.tmp 61) rfl w2.heap.size _ (n + 1 + x_.length) _ (b2 (q : Int)) gg12 2 2 _ _ _ rfl OX.out HG.out QC.out rfl rfl xb6 bzx ?_
          intro v7 w7 o7 hb7
          have O7 := Lib.hid o7
          have K7 := Lib.hid (BX.out.trans hb7)
          clear o7 hb7
          try rw [wpOps_cons]
          simp only [wpOp, List.getElem?_toArray, List.getElem?_cons_succ, List.getElem?_cons_zero, Region.wanted, if_true]
          refine Or.inl ?_
          simp only [Oper.wp, execOp]
          go_simp
          try simp only [wpOps]
          go_wp2
          go_roundw
          case rel =>
            refine ⟨k + 1, n + 1 + x_.length + 2, HLT.out, by go_num, by have := HX.out; have := HXL.out; have := NN.out; omega, Lib.hid ?_, K7⟩
            have h1 := O7.out
            rw [ET.out]
            have e : ([1] : List UInt8) ++ ((ps.take k).flatMap entL ++ entL (x_, (q : Int))) = [1] ++ (ps.take k).flatMap entL ++ [UInt8.ofNat X] ++ x_ ++ b2 (q : Int) := by
              simp [entL, HX.out]
            rw [e]
            simp only [List.append_assoc, List.cons_append, List.nil_append] at h1 ⊢
            exact h1
          case measure => simp [intOf]; have := HLT.out; omega
      · obtain rfl : k = ks.length := by omega
        have ep : ps.take ks.length = ps := List.take_of_length_le (by rw [← HPS.out, List.length_zip]; omega)
        rw [ep] at ho
        obtain ⟨gr, hgr, hconv⟩ := own_conv ho.out (by simp)
        subst hgr
        clear ho ep
        go_wp2
        go_ret2
        exact ⟨congrArg (fun z => Ending.returned (.tuple #[.string ⟨z⟩, .int .i64 0])) (by rw [EE.out]; first | rfl | simp), K2.out.trans (hb.out.mono (by have := K2.out.size; omega))⟩

end Go.Proofs.Ytkbdcbcjbgbglaa
