/-
  cat.Encode.
-/
import Derived.Test.YtlfjopjfolbmiaaCb
namespace Go.Proofs.Ytlfjopjfolbmiaa
open Go.RowKit
def encV (v : Int × Int) : List UInt8 := be 4 v.1.toNat ++ be 2 v.2.toNat
def encL (next : Int) (vs : List (Int × Int)) : List UInt8 := be 4 next.toNat ++ vs.flatMap encV
theorem encV_len (v : Int × Int) : (encV v).length = 6 := by unfold encV; rw [List.length_append, be_len, be_len]
theorem enc_len (next : Int) (vs : List (Int × Int)) : (encL next vs).length = 4 + 6 * vs.length := by
  unfold encL
  rw [List.length_append, be_len]
  congr 1
  induction vs with
  | nil => rfl
  | cons v r ih => rw [List.flatMap_cons, List.length_append, encV_len, ih, List.length_cons]; omega
theorem enc_take {next : Int} {vs : List (Int × Int)} {k : Nat} (h : k < vs.length) : encL next (vs.take (k + 1)) = encL next (vs.take k) ++ be 4 (at2 vs k).1.toNat ++ be 2 (at2 vs k).2.toNat := by
  unfold encL
  rw [List.take_succ_eq_append_getElem h, List.flatMap_append]
  unfold at2
  rw [List.getElem?_eq_getElem h]
  simp [encV, List.append_assoc]
theorem root_bd {n : Int} (h : rootB n = true) : 0 ≤ n ∧ n ≤ 511 := by
  unfold rootB at h
  simp only [Bool.or_eq_true, beq_iff_eq, Bool.and_eq_true, decide_eq_true_eq] at h
  omega
theorem chain_all {next : Int} : ∀ {vs : List (Int × Int)} {last : Int}, chainB next last vs = true → ∀ v ∈ vs, last < v.1 ∧ v.1 < next ∧ rootB v.2 = true
  | [], _, _ => fun v h => by cases h
  | u :: r, last, h => fun v hv => by
    unfold chainB at h
    simp only [Bool.and_eq_true, decide_eq_true_eq] at h
    obtain ⟨⟨⟨h1, h2⟩, h3⟩, h4⟩ := h
    rcases List.mem_cons.1 hv with rfl | hv
    · exact ⟨h1, h2, h3⟩
    · obtain ⟨a, b, c⟩ := chain_all h4 v hv
      exact ⟨by omega, b, c⟩
theorem right_all {next : Int} {vs : List (Int × Int)} (h : rightB next vs = true) : 1 ≤ next ∧ next ≤ 16777216 ∧ vs.length ≤ 12 ∧ ∀ v ∈ vs, 0 < v.1 ∧ v.1 < next ∧ rootB v.2 = true := by
  unfold rightB at h
  simp only [Bool.and_eq_true, decide_eq_true_eq] at h
  exact ⟨h.1.1.1, h.1.1.2, h.1.2, chain_all h.2⟩
theorem at2_mem {vs : List (Int × Int)} {k : Nat} (h : k < vs.length) : at2 vs k ∈ vs := by
  unfold at2
  rw [List.getElem?_eq_getElem h]
  exact List.getElem_mem h
theorem new_c0 (w : World) (a : Value) (T : TypeId) : (w.alloc (.cells #[a] T)).cell? ⟨w.heap.size, 0, none⟩ = some a := by
  rw [cell_of_row _ _ _ _ _ _ (heap_alloc_new w _)]; rfl
theorem old_c {w : World} {g o : Nat} {v : Value} (h : w.cell? ⟨g, o, none⟩ = some v) (ob : Obj) : (w.alloc ob).cell? ⟨g, o, none⟩ = some v := by
  rw [World.cell?_alloc_lt w ob ⟨g, o, none⟩ (World.block_lt_of_cell? w _ h)]; exact h
theorem lay4_any (n base : Nat) (v : Value) (k0 : Nat) (bs : List UInt8) (g c : Nat) (w : World) (hown : w.ownsRow base 5 1 v k0 (Lib.byteCells bs))
    (hg : w.cell? ⟨g, 0, none⟩ = some (.int .i64 n)) (hbase : base ≤ w.heap.size) (hl : k0 ≤ 1000000) :
    Calls Try.prog 23 #[v, .int .i64 4, .slice (some ⟨g, 0, none⟩) 1 c] w fun e w' => ∃ v', e = .returned v' ∧ w'.ownsRow base 5 1 v' (k0 + 4) (Lib.byteCells (bs ++ be 4 n)) ∧ Below base w w' ∧ Gr w w' v v' :=
  lay_any 4 n base v k0 bs g c w (.inl rfl) hown hg hbase hl
theorem lay2_any (n base : Nat) (v : Value) (k0 : Nat) (bs : List UInt8) (g c : Nat) (w : World) (hown : w.ownsRow base 5 1 v k0 (Lib.byteCells bs))
    (hg : w.cell? ⟨g, 0, none⟩ = some (.int .i64 n)) (hbase : base ≤ w.heap.size) (hl : k0 ≤ 1000000) :
    Calls Try.prog 23 #[v, .int .i64 2, .slice (some ⟨g, 0, none⟩) 1 c] w fun e w' => ∃ v', e = .returned v' ∧ w'.ownsRow base 5 1 v' (k0 + 2) (Lib.byteCells (bs ++ be 2 n)) ∧ Below base w w' ∧ Gr w w' v v' :=
  lay_any 2 n base v k0 bs g c w (.inr rfl) hown hg hbase hl
/-- A row of the call's own, as a string. -/
theorem own_conv {w : World} {base : Nat} {x : Value} {n : Nat} {l : List UInt8} (h : w.ownsRow base 5 1 x n (Lib.byteCells l)) (h0 : 0 < l.length) :
    ∃ y, x = y ∧ (convert 56 9 y).run Try.prog w = .ok (.string ⟨l.toArray⟩) w := by
  have hl : l.length = n := by have := h.1; simpa [Lib.byteCells] using this
  obtain ⟨g, cap, hv, _, _⟩ := World.ownsRow.form h (by omega)
  refine ⟨x, rfl, ?_⟩
  subst hv
  rw [← hl]
  refine run_convert_bytes_back w 56 9 5 ⟨g, 0, none⟩ cap l Try.underlying56 Try.underlying5 Try.underlying9 (fun j hj => ?_)
  refine h.cells (g := g) rfl j _ ?_
  unfold Lib.byteCells
  rw [List.getElem?_map, List.getElem?_eq_getElem hj]
  rfl
set_option maxHeartbeats 400000 in
set_option maxRecDepth 100000 in
theorem encode_no (next : Int) (A : Option Addr) (c : Nat) (vs : List (Int × Int)) (w : World) (h : Vs w A c vs) (hl : vs.length ≤ 1000000) (hr : rightB next vs = false) :
    Calls Try.prog 9 #[.agg #[.int .i64 next, .slice A vs.length c]] w fun e w' => e = .returned (.tuple #[.string ⟨#[]⟩, .int .i64 1]) ∧ Below w.heap.size w w' := by
  have RG := Lib.hid (fun V hV => right_any next A c vs V hV hl)
  rw [hr] at RG
  have H := Lib.hid h
  clear h hr
  go_enter Try.func9, Try.ntmps9
  go_wp2_with fail
  refine (RG.out _ (H.out.below (bda _ _))).mono ?_
  rintro e w2 ⟨rfl, hb⟩
  have K := Lib.hid (bon (bda w _) hb)
  clear hb
  go_wp2
  go_ret2
  exact ⟨rfl, K.out⟩
set_option maxHeartbeats 4000000 in
set_option maxRecDepth 100000 in
theorem encode_yes (next : Int) (A : Option Addr) (c : Nat) (vs : List (Int × Int)) (w : World) (h : Vs w A c vs) (hr : rightB next vs = true) :
    Calls Try.prog 9 #[.agg #[.int .i64 next, .slice A vs.length c]] w fun e w' => e = .returned (.tuple #[.string ⟨(encL next vs).toArray⟩, .int .i64 0]) ∧ Below w.heap.size w w' := by
  have RA := Lib.hid (right_all hr)
  have hl : vs.length ≤ 12 := RA.out.2.2.1
  have RG := Lib.hid (fun V hV => right_any next A c vs V hV (by omega))
  rw [hr] at RG
  clear hr
  have H := Lib.hid h
  clear h
  obtain ⟨N, hN⟩ : ∃ N : Nat, next = (N : Int) := ⟨next.toNat, by have := RA.out.1; omega⟩
  subst hN
  go_enter Try.func9, Try.ntmps9
  go_wp2_with fail
  refine (RG.out _ (H.out.below (bda _ _))).mono ?_
  rintro e w2 ⟨rfl, hb⟩
  have RW := Lib.hid (row_on (heap_alloc_new w (.cells #[.int .i64 N, .slice A vs.length c] 24)) hb)
  have K2 := Lib.hid (bon (bda w _) hb)
  have H2 := Lib.hid ((H.out.below (bda w _)).below hb)
  clear hb
  have s1 := heap_lt RW.out
  have b0 := row_c RW.out (i := 0) rfl
  have b1 := row_c RW.out (i := 1) rfl
  have C0 := Lib.hid (new_c0 w2 (.int .i64 (N : Int)) 3)
  go_wp2_with fail
  refine (lay4_any N w2.heap.size (.slice none 0 0) 0 [] w2.heap.size 1 _ (World.ownsRow_nil _ _ _ _) C0.out (by simp) (by omega)).mono ?_
  rintro e w3 ⟨x3, rfl, ho, hb, _⟩
  have K3 := Lib.hid (show Below w2.heap.size w2 w3 from (bda w2 _).trans hb)
  have O3 := Lib.hid ho
  clear ho hb b0
  have s3 : w.heap.size < w3.heap.size := Nat.lt_of_lt_of_le s1 K3.out.size
  have b1' := row_c (row_on RW.out K3.out) (i := 1) rfl
  clear b1
  go_wp2_with fail
  go_loopw [4, 17] (fun x i wr => ∃ k : Nat, k ≤ vs.length ∧ i = .int .i64 k ∧ Hid (wr.ownsRow w2.heap.size 5 1 x (4 + 6 * k) (Lib.byteCells (encL N (vs.take k)))) ∧ Hid (Below w2.heap.size w2 wr)) (fun _ i _ => vs.length - (intOf i).toNat)
  case atStart => exact ⟨0, Nat.zero_le _, rfl, Lib.hid (by simpa [encL] using O3.out), K3⟩
  case round =>
    obtain ⟨k, hk, rfl, ho, hb⟩ := hrel
    by_cases hlt : k < vs.length
    · obtain ⟨bb, off, hA, hbl, hcell⟩ := H2.out.2 (by omega)
      have f1 := (hb.out.cell (p := ⟨bb, off + k * 2, none⟩) hbl).trans (hcell k hlt).1
      have f2 := (hb.out.cell (p := ⟨bb, off + k * 2 + 1, none⟩) hbl).trans (hcell k hlt).2
      have ET := Lib.hid (enc_take (next := (N : Int)) hlt)
      obtain ⟨v1, v2, v3⟩ := RA.out.2.2.2 _ (at2_mem hlt)
      obtain ⟨v4, v5⟩ := root_bd v3
      have HLT := Lib.hid hlt
      clear hcell v2 v3
      generalize at2 vs k = v at *
      obtain ⟨n, r⟩ := v
      simp only at f1 f2 v1 v4 v5 ET
      obtain ⟨a, rfl⟩ := Int.eq_ofNat_of_zero_le (show 0 ≤ n by omega)
      obtain ⟨q, rfl⟩ := Int.eq_ofNat_of_zero_le v4
      simp only [Int.toNat_natCast] at ET
      have k0 : (0 : Int) ≤ (k : Int) := by omega
      have k1 : (k : Int) < (vs.length : Int) := by omega
      have bz : w2.heap.size ≤ wr.heap.size := hb.out.size
      have klen : 4 + 6 * k ≤ 1000 := by omega
      clear v1 v4 v5
      subst hA
      go_wp2_with fail
      obtain ⟨V, hV⟩ : ∃ V : World, V = wr.alloc (.cells #[.int .i64 (a : Int), .int .i64 (q : Int)] 53) := ⟨_, rfl⟩
      rw [← hV]
      have g0 : V.cell? ⟨wr.heap.size, 0, none⟩ = some (.int .i64 (a : Int)) := by rw [hV]; exact row_c (heap_alloc_new wr _) rfl
      have g1 : V.cell? ⟨wr.heap.size, 1, none⟩ = some (.int .i64 (q : Int)) := by rw [hV]; exact row_c (heap_alloc_new wr _) rfl
      have vsz : wr.heap.size < V.heap.size := by rw [hV]; simp
      have VB := Lib.hid (show Below wr.heap.size wr V by rw [hV]; exact bda _ _)
      clear hV
      have OX := Lib.hid (fun (w' : World) (hw : Below V.heap.size V w') => (show w'.ownsRow w2.heap.size 5 1 u4 (4 + 6 * k) (Lib.byteCells (encL N (vs.take k))) from
        World.ownsRow.kept ho.out (row := none) (let hh := bon VB.out hw; ⟨hh.os, hh.tape, hh.output, hh.size, fun i hi _ => hh.block i hi⟩) (by cases hvv : u4.ownBlock <;> simp)))
      have NX := Lib.hid (show u4.ownBlock ≠ some wr.heap.size from fun e => by have := (ho.out.lt _ e).2; omega)
      have C1 := Lib.hid (fun (w' : World) (hw : Below V.heap.size V w') (g : Nat) (hg : w'.cell? ⟨g, 0, none⟩ = some (.int .i64 (a : Int))) =>
        lay4_any a w2.heap.size u4 (4 + 6 * k) _ g 1 w' (OX.out w' hw) hg (Nat.le_trans (by omega) hw.size) (by omega))
      have C2 := Lib.hid (fun (x1 : Value) (w' : World) (h1 : w'.ownsRow w2.heap.size 5 1 x1 (4 + 6 * k + 4) (Lib.byteCells (encL N (vs.take k) ++ be 4 a))) (hs : w2.heap.size ≤ w'.heap.size) (g : Nat) (hg : w'.cell? ⟨g, 0, none⟩ = some (.int .i64 (q : Int))) =>
        lay2_any q w2.heap.size x1 (4 + 6 * k + 4) _ g 1 w' h1 hg hs (by omega))
      have KD := Lib.hid (bd0 V)
      have A1 := Lib.hid (C1.out (V.alloc (.cells #[.int .i64 (a : Int)] 3)).drew (below_drew (bda V _)) V.heap.size (new_c0 V _ _))
      have A2 := Lib.hid (C1.out ((V.alloc (.cells #[.int .i64 (a : Int)] 3)).alloc (.cells #[.int .i64 (q : Int)] 3)).drew (below_drew (bon (bda V _) (bda _ _))) V.heap.size (old_c (new_c0 V _ _) _))
      have A3 := Lib.hid (C1.out ((V.alloc (.cells #[.int .i64 (q : Int)] 3)).alloc (.cells #[.int .i64 (a : Int)] 3)).drew (below_drew (bon (bda V _) (bda _ _))) (V.heap.size + 1) (by simp))
      have R2 := Lib.hid (show (((V.alloc (.cells #[.int .i64 (a : Int)] 3)).alloc (.cells #[.int .i64 (q : Int)] 3)).drew).cell? ⟨V.heap.size + 1, 0, none⟩ = some (.int .i64 (q : Int)) by simp)
      have R3 := Lib.hid (show (((V.alloc (.cells #[.int .i64 (q : Int)] 3)).alloc (.cells #[.int .i64 (a : Int)] 3)).drew).cell? ⟨V.heap.size, 0, none⟩ = some (.int .i64 (q : Int)) from old_c (new_c0 V _ _) _)
      have NG0 := Lib.hid (show u4.ownBlock ≠ some V.heap.size from fun e => by have := (ho.out.lt _ e).2; omega)
      have NG1 := Lib.hid (show u4.ownBlock ≠ some (V.heap.size + 1) from fun e => by have := (ho.out.lt _ e).2; omega)
      have T0 := Lib.hid (And.intro g0 g1)
      go_region_held3 (fun w' => w'.cell? ⟨wr.heap.size, 0, none⟩ = some (.int .i64 (a : Int)) ∧ w'.cell? ⟨wr.heap.size, 1, none⟩ = some (.int .i64 (q : Int)))
        (first | with_reducible exact S2.out | with_reducible exact S1.out | with_reducible exact ⟨old_c S1.out.1 _, old_c S1.out.2 _⟩ | go_keep)
        (first
          | (go_at_call 23; (with_reducible refine A1.out.mono ?_); rintro e w4 ⟨x4, rfl, ho4, hb4, hg4⟩; (have S1 := Lib.hid (And.intro (hg4.cell (old_c T0.out.1 _) NX.out) (hg4.cell (old_c T0.out.2 _) NX.out))); (have O4 := Lib.hid ho4); (have KW := Lib.hid (show Below w2.heap.size w2 w4 from hb.out.trans ((VB.out.mono bz).trans (((below_drew (bda V _)).mono (by omega)).trans hb4)))); (have W4 := Lib.hid (show w2.heap.size ≤ (w4.alloc (.cells #[.int .i64 (q : Int)] 3)).heap.size by have := KW.out.size; simp; omega)); (have X4 := Lib.hid (show x4.ownBlock ≠ some wr.heap.size from fun e => (hg4.2 _ e).elim NX.out (fun h => by simp at h; omega))); clear ho4 hb4 hg4)
          | (go_at_call 23; (with_reducible refine A2.out.mono ?_); rintro e w4 ⟨x4, rfl, ho4, hb4, hg4⟩; (have S1 := Lib.hid (And.intro (hg4.cell (old_c (old_c T0.out.1 _) _) NX.out) (hg4.cell (old_c (old_c T0.out.2 _) _) NX.out))); (have O4 := Lib.hid ho4); (have KW := Lib.hid (show Below w2.heap.size w2 w4 from hb.out.trans ((VB.out.mono bz).trans (((below_drew (bon (bda V _) (bda _ _))).mono (by omega)).trans hb4)))); (have W4 := Lib.hid (show w2.heap.size ≤ (w4.alloc (.cells #[.int .i64 (q : Int)] 3)).heap.size by have := KW.out.size; simp; omega)); (have X4 := Lib.hid (show x4.ownBlock ≠ some wr.heap.size from fun e => (hg4.2 _ e).elim NX.out (fun h => by simp at h; omega))); (have RC := Lib.hid (hg4.cell R2.out NG1.out)); clear ho4 hb4 hg4)
          | (go_at_call 23; (with_reducible refine A3.out.mono ?_); rintro e w4 ⟨x4, rfl, ho4, hb4, hg4⟩; (have S1 := Lib.hid (And.intro (hg4.cell (old_c (old_c T0.out.1 _) _) NX.out) (hg4.cell (old_c (old_c T0.out.2 _) _) NX.out))); (have O4 := Lib.hid ho4); (have KW := Lib.hid (show Below w2.heap.size w2 w4 from hb.out.trans ((VB.out.mono bz).trans (((below_drew (bon (bda V _) (bda _ _))).mono (by omega)).trans hb4)))); (have W4 := Lib.hid (show w2.heap.size ≤ (w4.alloc (.cells #[.int .i64 (q : Int)] 3)).heap.size by have := KW.out.size; simp; omega)); (have X4 := Lib.hid (show x4.ownBlock ≠ some wr.heap.size from fun e => (hg4.2 _ e).elim NX.out (fun h => by simp at h; omega))); (have RC := Lib.hid (hg4.cell R3.out NG0.out)); clear ho4 hb4 hg4)
          | (go_at_call 23; (with_reducible refine (C2.out x4 w4 O4.out KW.out.size _ RC.out).mono ?_); rintro e w5 ⟨x5, rfl, ho5, hb5, hg5⟩; (have S2 := Lib.hid (And.intro (hg5.cell S1.out.1 X4.out) (hg5.cell S1.out.2 X4.out))); (have O5 := Lib.hid ho5); (have KF := Lib.hid (KW.out.trans hb5)); clear ho5 hb5 hg5)
          | (go_at_call 23; (with_reducible refine (C2.out x4 (w4.alloc _) (O4.out.alloc _) W4.out _ (new_c0 w4 _ _)).mono ?_); rintro e w5 ⟨x5, rfl, ho5, hb5, hg5⟩; (have S2 := Lib.hid (And.intro (hg5.cell (old_c S1.out.1 _) X4.out) (hg5.cell (old_c S1.out.2 _) X4.out))); (have O5 := Lib.hid ho5); (have KF := Lib.hid ((KW.out.alloc KW.out.size _).trans hb5)); clear ho5 hb5 hg5))
      all_goals
        go_wp2
        go_roundw
        case rel =>
          refine ⟨k + 1, HLT.out, by go_num, Lib.hid ?_, KF⟩
          rw [ET.out]
          exact O5.out
        case measure => simp [intOf]; omega
    · obtain rfl : k = vs.length := by omega
      have eT : vs.take vs.length = vs := List.take_length
      rw [eT] at ho
      obtain ⟨gr, hgr, hconv⟩ := own_conv ho.out (by rw [enc_len]; omega)
      subst hgr
      clear ho eT
      go_wp2
      go_ret2
      exact ⟨rfl, K2.out.trans (hb.out.mono (by have := K2.out.size; omega))⟩
end Go.Proofs.Ytlfjopjfolbmiaa
