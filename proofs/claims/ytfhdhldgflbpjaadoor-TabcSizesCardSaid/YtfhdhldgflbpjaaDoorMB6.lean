import Derived.Test.YtfhdhldgflbpjaaDoorMB5
import Derived.Test.YtfhdhldgflbpjaaDoorMB4
import Derived.Test.YtfhdhldgflbpjaaDoorMB0
import Derived.Test.YtfhdhldgflbpjaaDoorMB1
section
/-
  Decode.
-/
namespace Go.Proofs.YtfhdhldgflbpjaaDoor
open Go.RowKit
set_option linter.unusedSimpArgs false
set_option linter.unusedVariables false
/-- A table that has been read. -/
structure TbZ where
  F : Int
  O : Int
  Q : Int
  D : Int
  W : Int
  a : Int × Int
  ps : List PdZ
def TbZ.enc (T : TbZ) : List UInt8 × Int := encO T.F T.O (nmOf T.a) T.W T.Q T.D (T.ps.map PdZ.to)
noncomputable def rdP (D : Int) (r : List PdZ × (Int × Int) × List UInt8 × Bool) : List PdZ × (Int × Int) × List UInt8 × Bool :=
  (r.1 ++ [⟨r.2.1, (rdS r.2.2).1 - 128, (rdC (D + 1).toNat (rdN (rdS r.2.2).2).2).1, (rdN (rdS r.2.2).2).1⟩], endq r.2.1.1 r.2.1.2 ((rdS r.2.2).1 - 128), (rdC (D + 1).toNat (rdN (rdS r.2.2).2).2).2)
noncomputable def rdPs (D : Int) : Nat → List PdZ × (Int × Int) × List UInt8 × Bool → List PdZ × (Int × Int) × List UInt8 × Bool
  | 0, r => r
  | n + 1, r => if (rdPs D n r).2.2.2 then rdPs D n r else rdP D (rdPs D n r)
noncomputable def rdT (s : List UInt8 × Bool) : TbZ × Bool :=
  let h := rdH s
  let r := rdPs h.2.2.2.1 h.2.2.2.2.2.1.toNat ([], h.2.2.2.2.2.2.1, h.2.2.2.2.2.2.2)
  (⟨h.1, h.2.1, h.2.2.1, h.2.2.2.1, h.2.2.2.2.1, h.2.2.2.2.2.2.1, r.1⟩, r.2.2.2)
/-- The table whose bytes these are. -/
noncomputable def decT (l : List UInt8) : Option TbZ := if (rdT (l, false)).2 = false ∧ outE (rdT (l, false)).1.enc = 0 ∧ outB (rdT (l, false)).1.enc = l then some (rdT (l, false)).1 else none
/-- Numbers that are small enough. -/
def SmZ (p : PdZ) : Prop := (digs p.a.1.natAbs).length ≤ 10000 ∧ (digs p.er.1.natAbs).length ≤ 400 ∧ ∀ q, q ∈ p.cs → (digs q.1.natAbs).length ≤ 400
theorem rdC_sm : ∀ (n : Nat) (s : List UInt8 × Bool), (∀ q, q ∈ (rdC n s).1 → (digs q.1.natAbs).length ≤ 400) ∧ (rdC n s).2.1.length ≤ s.1.length
  | 0, s => ⟨fun q hq => by simp [rdC] at hq, Nat.le_refl _⟩
  | n + 1, s => by
    obtain ⟨h1, h2⟩ := rdC_sm n s
    have h3 := rdN_is (rdC n s).2
    refine ⟨fun q hq => ?_, Nat.le_trans h3.2.2 h2⟩
    simp only [rdC, List.mem_append, List.mem_singleton] at hq
    rcases hq with hq | rfl
    · exact h1 q hq
    · exact h3.2.1
/-- What holds between two pieces. -/
def Stz (N : Nat) (r : List PdZ × (Int × Int) × List UInt8 × Bool) : Prop := (∀ p, p ∈ r.1 → SmZ p) ∧ (Rt r.2.1.1 r.2.1.2 ∧ (digs r.2.1.1.natAbs).length ≤ 10000) ∧ r.2.2.1.length ≤ N
theorem Stz.step {N : Nat} {r : List PdZ × (Int × Int) × List UInt8 × Bool} (h : Stz N r) (D : Int) : Stz N (rdP D r) := by
  obtain ⟨h1, h2, h3⟩ := h
  have a1 := rdS_is r.2.2
  have a2 := rdN_is (rdS r.2.2).2
  have a3 := rdC_sm (D + 1).toNat (rdN (rdS r.2.2).2).2
  refine ⟨fun p hp => ?_, endq_rt _ _ _, ?_⟩
  · simp only [rdP, List.mem_append, List.mem_singleton] at hp
    rcases hp with hp | rfl
    · exact h1 p hp
    · exact ⟨h2.2, a2.2.1, a3.1⟩
  · exact Nat.le_trans a3.2 (Nat.le_trans a2.2.2 (Nat.le_trans a1.2.2 h3))
theorem Stz.many {N : Nat} {r : List PdZ × (Int × Int) × List UInt8 × Bool} (h : Stz N r) (D : Int) : ∀ n, Stz N (rdPs D n r)
  | 0 => h
  | n + 1 => by
    unfold rdPs
    split
    · exact h.many D n
    · exact (h.many D n).step D
theorem rdPs_len (D : Int) (r : List PdZ × (Int × Int) × List UInt8 × Bool) : ∀ n, (rdPs D n r).1.length ≤ r.1.length + n
  | 0 => Nat.le_refl _
  | n + 1 => by
    have := rdPs_len D r n
    unfold rdPs
    split
    · omega
    · unfold rdP; simp; omega
theorem Pw.ps {w : World} {N : Nat} {P : Option Addr} {n k : Nat} {ps : List PdZ} (h : Pw w N (.slice P n k) ps) : n = ps.length ∧ PsL w P (ps.map PdZ.to) := by
  obtain ⟨hn, cs, hown, hcs⟩ := h
  rcases hown.2 with ⟨h1, h2⟩ | ⟨g, cap, cur, h1, hB, hh, hc, _, _, _⟩
  · injection h1 with e1 e2 e3
    exact ⟨by omega, fun h0 => absurd (by rw [List.length_map]; exact h2) h0⟩
  · have h1c := h1
    injection h1 with e1 e2 e3
    refine ⟨e2, fun _ => ⟨g, 0, e1, heap_lt hh, fun i p hp => ?_⟩⟩
    rw [List.getElem?_map] at hp
    cases hz : ps[i]? with
    | none => rw [hz] at hp; cases hp
    | some z =>
      rw [hz] at hp
      obtain rfl : z.to = p := by simpa using hp
      obtain ⟨A, c, P2, k2, B, d, c0, c1, c2, c3, c4, c5, c6, c7, ha, hnr, hb⟩ := hcs.2.2 i z hz
      have ce : ∀ j u, cs[j]? = some u → w.cell? ⟨g, 0 + j, none⟩ = some u := fun j u hu => by
        have := hown.cells (g := g) (by rw [h1c]; rfl) _ _ hu
        rwa [Addr.add_lit] at this
      refine ⟨A, c, B, d, P2, k2, ce _ _ c0, ce _ _ c1, ce _ _ c2, ce _ _ c3, ?_, ce _ _ c5, ce _ _ c6, ce _ _ c7, ha, hb, hnr.ns⟩
      show _ = some (Value.slice P2 (z.cs.map nmOf).length k2)
      rw [List.length_map]; exact ce _ _ c4
theorem Pw.form {w : World} {N : Nat} {v : Value} {ps : List PdZ} (h : Pw w N v ps) : ∃ A n c, v = .slice A n c := by
  obtain ⟨_, cs, hown, _⟩ := h
  rcases hown.2 with ⟨rfl, _⟩ | ⟨q, cap, cur, rfl, _⟩
  · exact ⟨_, _, _, rfl⟩
  · exact ⟨_, _, _, rfl⟩
theorem smz_of {ps : List PdZ} (h : ∀ p, p ∈ ps → SmZ p) : SmP (ps.map PdZ.to) := fun p hp => by
  obtain ⟨z, hz, rfl⟩ := List.mem_map.1 hp
  obtain ⟨h1, h2, h3⟩ := h z hz
  refine ⟨h1, Nat.le_trans h2 (by omega), fun v hv => ?_⟩
  obtain ⟨q, hq, rfl⟩ := List.mem_map.1 hv
  exact Nat.le_trans (h3 q hq) (by omega)
theorem Pw.gkT {w w' : World} {N g : Nat} {v : Value} {ps : List PdZ} (h : Pw w N v ps) (hg : w.grownBy w' (some g) ∧ Kept w w') {xs : Array Value} {T : TypeId} {fr : Nat × Nat} (hT : w.heap[g]? = some (.cells xs T fr)) (h1 : T ≠ 46) (h2 : T ≠ 26) : Pw w' N v ps :=
  h.gz (Gz.grown (N := N) hg.1 hg.2) hT h2 (fun k hk => hg.1.block k (h.lt hk).2 (fun e => h.neT hT h1 (by rw [hk]; exact e)))
theorem only_grow {b : Nat} {w w' : World} (h : Only b w w') : w.grownBy w' (some b) := ⟨h.os, h.tape, h.output, Nat.le_of_eq h.size.symm, fun k _ hk => h.block k (fun e => hk (by rw [e]))⟩
/-- What Decode answers. -/
def DecP (T : Option TbZ) (e : Ending) (w : World) : Prop := match T with
  | none => e = .returned (.tuple #[.agg #[.int .i64 0, .int .i64 0, .bool false, .slice none 0 0, .int .i64 0, .int .i64 0, .int .i64 0, .int .i64 0, .slice none 0 0], .int .i64 2])
  | some ⟨F, O, Q, D, W, a, ps⟩ => ∃ A c P k, e = .returned (.tuple #[.agg #[.int .i64 F, .int .i64 O, .bool (decide (a.1 < 0)), .slice A (digs a.1.natAbs).length c, .int .i64 a.2, .int .i64 W, .int .i64 Q, .int .i64 D, .slice P ps.length k], .int .i64 0]) ∧ Dg w A c (digs a.1.natAbs) ∧ PsL w P (ps.map PdZ.to)
set_option maxHeartbeats 4000000 in
set_option maxRecDepth 100000 in
theorem decode_go (l : List UInt8) (w : World) (hT : T32 w) (hl : l.length ≤ 9223372036854775807) (s0 s1 s2 s3 s4 s5 s6 s7 s8 : List UInt8 × Bool) (t F O Q D W n : Int) (a : Int × Int)
    (e0 : rdS (l, false) = (t, s1)) (e1 : rdS (if t = 84 then s1 else (s1.1, true)) = (F, s2)) (e2 : rdS s2 = (O, s3)) (e3 : rdS s3 = (Q, s4)) (e4 : rdS s4 = (D, s5)) (e5 : rdS s5 = (W, s6)) (e6 : rdS s6 = (n, s7)) (e7 : rdN s7 = (a, s8))
    (T : Option TbZ) (hTT : ∀ ps nx s, rdPs D n.toNat ([], a, s8) = (ps, nx, s) → T = if s.2 = false ∧ outE (encO F O (nmOf a) (W - 128) Q D (ps.map PdZ.to)) = 0 ∧ outB (encO F O (nmOf a) (W - 128) Q D (ps.map PdZ.to)) = l then some ⟨F, O, Q, D, W - 128, a, ps⟩ else none) :
    Calls Tryd.prog 8 #[.string ⟨l.toArray⟩] w fun e w' => DecP T e w' ∧ Below w.heap.size w w' := by
  have HT := Lib.hid hT
  have HTT := Lib.hid hTT
  have BD := Lib.hid (show (0 ≤ D ∧ D ≤ 255) ∧ (0 ≤ n ∧ n ≤ 255) ∧ (Rt a.1 a.2 ∧ (digs a.1.natAbs).length ≤ 400) ∧ s8.1.length ≤ 9223372036854775807 by
    have b1 := rdS_b e0 hl
    have bx : (if t = 84 then s1 else (s1.1, true)).1.length ≤ 9223372036854775807 := by split; exact b1.1; exact b1.1
    have b2 := rdS_b e1 bx
    have b3 := rdS_b e2 b2.1
    have b4 := rdS_b e3 b3.1
    have b5 := rdS_b e4 b4.1
    have b6 := rdS_b e5 b5.1
    have b7 := rdS_b e6 b6.1
    have b8 := rdN_b e7 b7.1
    exact ⟨b5.2, b7.2, b8.2, b8.1⟩)
  have HH := Lib.hid (fun (g : Nat) (V : World) (h : LB V g (l, false) [.int .i64 0, .int .i64 0, .bool false, .slice none 0 0, .int .i64 0, .int .i64 0, .int .i64 0, .int .i64 0, .slice none 0 0, .bool false, .slice none 0 0, .int .i64 0]) => head_any g (l, false) s1 s2 s3 s4 s5 s6 s7 s8 t F O Q D W n a V h hl e0 e1 e2 e3 e4 e5 e6 e7)
  have SZ := Lib.hid (show ∀ k, Stz 9223372036854775807 (rdPs D k ([], a, s8)) from fun k => Stz.many ⟨fun p hp => by simp at hp, ⟨BD.out.2.2.1.1, Nat.le_trans BD.out.2.2.1.2 (by omega)⟩, BD.out.2.2.2⟩ D k)
  have BL := Lib.hid hl
  clear hT hTT hl e0 e1 e2 e3 e4 e5 e6 e7
  obtain ⟨bt, hbt⟩ : ∃ d : ByteArray, ⟨l.toArray⟩ = d := ⟨_, rfl⟩
  have HBT := Lib.hid hbt
  rw [hbt]
  clear hbt
  go_enter Tryd.func8, Tryd.ntmps8
  go_wp2_with fail
  obtain ⟨g, hg⟩ : ∃ g, w.heap.size + 1 = g := ⟨_, rfl⟩
  obtain ⟨v1, hW⟩ : ∃ V : World, (w.alloc (.cells #[.int .i64 0, .int .i64 0, .bool false, .slice none 0 0, .int .i64 0, .int .i64 0, .int .i64 0, .int .i64 0, .slice none 0 0] 29)).alloc (.cells #[.string bt, .bool false, .int .i64 0, .int .i64 0, .bool false, .slice none 0 0, .int .i64 0, .int .i64 0, .int .i64 0, .int .i64 0, .slice none 0 0, .bool false, .slice none 0 0, .int .i64 0] 54) = V := ⟨_, rfl⟩
  rw [hW, hg]
  have R1 := Lib.hid (show v1.heap[w.heap.size]? = some (.cells #[.int .i64 0, .int .i64 0, .bool false, .slice none 0 0, .int .i64 0, .int .i64 0, .int .i64 0, .int .i64 0, .slice none 0 0] 29 (0, 0)) by rw [← hW, heap_alloc_old _ _ (by simp)]; exact heap_alloc_new _ _)
  have H1 := Lib.hid (show LB v1 g (l, false) [.int .i64 0, .int .i64 0, .bool false, .slice none 0 0, .int .i64 0, .int .i64 0, .int .i64 0, .int .i64 0, .slice none 0 0, .bool false, .slice none 0 0, .int .i64 0] by rw [← hW, ← hg]; unfold LB; rw [HBT.out]; have := heap_alloc_new (w.alloc (.cells #[.int .i64 0, .int .i64 0, .bool false, .slice none 0 0, .int .i64 0, .int .i64 0, .int .i64 0, .int .i64 0, .slice none 0 0] 29)) (.cells #[.string bt, .bool false, .int .i64 0, .int .i64 0, .bool false, .slice none 0 0, .int .i64 0, .int .i64 0, .int .i64 0, .int .i64 0, .slice none 0 0, .bool false, .slice none 0 0, .int .i64 0] 54); simpa using this)
  have B1 := Lib.hid (show Below w.heap.size w v1 by rw [← hW]; exact ((Below.refl _ _).alloc (by simp <;> omega) _).alloc (by simp <;> omega) _)
  have GG := Lib.hid (show w.heap.size < g by omega)
  have NZ := Lib.hid (show ∀ u, u ∈ ([.int .i64 0, .int .i64 0, .bool false, .slice none 0 0, .int .i64 0, .int .i64 0, .int .i64 0, .int .i64 0, .slice none 0 0, .bool false, .slice none 0 0, .int .i64 0] : List Value) → ∀ n : Int, u ≠ .int .u32 n by intro u hu n e; subst e; simp at hu)
  clear hW hg
  refine (HH.out g v1 H1.out).mono ?_
  rintro e w2 ⟨A, c, B, d, rfl, hlb, hda, hdb, hgr⟩
  have H2 := Lib.hid hlb
  have R2 := Lib.hid (grow_row hgr R1.out (Nat.ne_of_lt GG.out))
  have A2 := Lib.hid hda
  have D2 := Lib.hid hdb
  have B2 := Lib.hid ((Gz.grown (N := w.heap.size) hgr (grow_kept hgr H1.out (noint_rs NZ.out))).base B1.out B1.out.size (Nat.le_of_lt GG.out))
  clear hlb hda hdb hgr HH
  go_wp2
  go_loopw [11] (fun i wr => ∃ (j : Nat) (V : Value) (ps : List PdZ) (nx : Int × Int) (s : List UInt8 × Bool) (B2 : Option Addr) (d2 : Nat), j ≤ n.toNat ∧ i = .int .i64 j ∧ Hid (rdPs D j ([], a, s8) = (ps, nx, s)) ∧ Hid (LB wr g s [.int .i64 F, .int .i64 O, .bool (decide (a.1 < 0)), .slice A (digs a.1.natAbs).length c, .int .i64 a.2, .int .i64 (W - 128), .int .i64 Q, .int .i64 D, V, .bool (decide (nx.1 < 0)), .slice B2 (digs nx.1.natAbs).length d2, .int .i64 nx.2]) ∧ Hid (Pw wr w.heap.size V ps) ∧ Hid (Dg wr A c (digs a.1.natAbs)) ∧ Hid (Dg wr B2 d2 (digs nx.1.natAbs)) ∧ Hid (Below w.heap.size w wr) ∧ Hid (wr.heap[w.heap.size]? = some (.cells #[.int .i64 0, .int .i64 0, .bool false, .slice none 0 0, .int .i64 0, .int .i64 0, .int .i64 0, .int .i64 0, .slice none 0 0] 29 (0, 0)))) (fun i _ => n.toNat - (intOf i).toNat)
  case atStart => exact ⟨0, .slice none 0 0, [], a, s8, B, d, Nat.zero_le _, rfl, Lib.hid rfl, H2, Lib.hid (pw_nil _ _), A2, D2, B2, R2⟩
  case round =>
    obtain ⟨j, V, ps, nx, ⟨ls, ms⟩, B2, d2, hj, rfl, HQ, HL, HP, HA, HDN, HB, HRR⟩ := hrel
    have SS := Lib.hid (show Stz 9223372036854775807 (ps, nx, ls, ms) by rw [← HQ.out]; exact SZ.out j)
    have PL := Lib.hid (show ps.length ≤ j by have := rdPs_len D ([], a, s8) j; rw [HQ.out] at this; simpa using this)
    have f1 : wr.cell? ⟨g, 1, none⟩ = some (.bool ms) := row_c HL.out (i := 1) rfl
    by_cases hlt : j < n.toNat
    · have hji : ((j : Nat) : Int) < n := by omega
      have HLT := Lib.hid hlt
      cases ms
      · have HS := Lib.hid (show rdPs D (j + 1) ([], a, s8) = rdP D (ps, nx, ls, false) by unfold rdPs; rw [HQ.out]; rfl)
        go_wp2_with fail
        clear f1
        refine (piece_any g (ls, false) _ _ _ F O (W - 128) Q D _ a nx _ _ _ A B2 c d2 V ps w wr HL.out SS.out.2.2 HP.out HB.out HT.out (Nat.le_of_lt GG.out) HDN.out SS.out.2.1 BD.out.1 (by have := PL.out; have := BD.out.2.1; omega) rfl rfl rfl rfl).mono ?_
        rintro e w3 ⟨V2, B3, d3, rfl, hlb, hpw, hdn, hgz⟩
        have H3 := Lib.hid hlb
        have P3 := Lib.hid hpw
        have D3 := Lib.hid hdn
        have A3 := Lib.hid (HA.out.kept hgz.1)
        have B3' := Lib.hid (hgz.base HB.out HB.out.size (Nat.le_of_lt GG.out))
        have R3 := Lib.hid (hgz.row HRR.out (Nat.ne_of_lt GG.out) (by decide))
        clear hlb hpw hdn hgz
        go_wp2
        go_roundw
        case rel =>
          have hl1 := HLT.out
          have hd1 := BD.out.2.1
          have hw : wrap64 ((j : Int) + 1) = (j : Int) + 1 := IntWalk.wrap64_in _ ⟨by omega, by omega⟩
          exact ⟨j + 1, V2, _, _, _, B3, d3, HLT.out, by rw [hw]; exact congrArg _ (by omega), HS, H3, P3, A3, D3, B3', R3⟩
        case measure =>
          have hl1 := HLT.out
          have hd1 := BD.out.2.1
          have hw : wrap64 ((j : Int) + 1) = (j : Int) + 1 := IntWalk.wrap64_in _ ⟨by omega, by omega⟩
          rw [hw]
          clear hw
          simp [intOf]; omega
      · have HS := Lib.hid (show rdPs D (j + 1) ([], a, s8) = (ps, nx, ls, true) by unfold rdPs; rw [HQ.out]; rfl)
        go_wp2
        go_roundw
        case rel =>
          have hl1 := HLT.out
          have hd1 := BD.out.2.1
          have hw : wrap64 ((j : Int) + 1) = (j : Int) + 1 := IntWalk.wrap64_in _ ⟨by omega, by omega⟩
          exact ⟨j + 1, V, ps, nx, (ls, true), B2, d2, HLT.out, by rw [hw]; exact congrArg _ (by omega), HS, HL, HP, HA, HDN, HB, HRR⟩
        case measure =>
          have hl1 := HLT.out
          have hd1 := BD.out.2.1
          have hw : wrap64 ((j : Int) + 1) = (j : Int) + 1 := IntWalk.wrap64_in _ ⟨by omega, by omega⟩
          rw [hw]
          clear hw
          simp [intOf]; omega
    · obtain rfl : j = n.toNat := by omega
      have hji : ¬ ((n.toNat : Nat) : Int) < n := by have := BD.out.2.1; omega
      have HTE := Lib.hid (HTT.out ps nx (ls, ms) HQ.out)
      clear hj
      obtain ⟨P, nP, k, rfl⟩ := HP.out.form
      obtain ⟨rfl, hps⟩ := HP.out.ps
      have HPS := Lib.hid hps
      clear hps
      cases ms
      · have HEN := Lib.hid (fun (V : World) (hb : Below w.heap.size w V) (h : Dg V A c (digs a.1.natAbs)) (hp : PsL V P (ps.map PdZ.to)) => (by have := encode_any (A := A) (P := P) (c := c) (k := k) (F := F) (O := O) (W := W - 128) (Q := Q) (D := D) (a := nmOf a) (ps := ps.map PdZ.to) (w := V) h (Nat.le_trans BD.out.2.2.1.2 (by omega)) (t32_below HT.out hb) hp (smz_of SS.out.1); rw [List.length_map] at this; exact this : Calls Tryd.prog 7 #[.agg #[.int .i64 F, .int .i64 O, .bool (decide (a.1 < 0)), .slice A (digs a.1.natAbs).length c, .int .i64 a.2, .int .i64 (W - 128), .int .i64 Q, .int .i64 D, .slice P ps.length k]] V fun e w' => (∃ t : ByteArray, e = .returned (.tuple #[.string t, .int .i64 (outE (encO F O (nmOf a) (W - 128) Q D (ps.map PdZ.to)))]) ∧ t.data.toList = outB (encO F O (nmOf a) (W - 128) Q D (ps.map PdZ.to))) ∧ Below V.heap.size V w'))
        obtain ⟨E, hE⟩ : ∃ z, outE (encO F O (nmOf a) (W - 128) Q D (ps.map PdZ.to)) = z := ⟨_, rfl⟩
        obtain ⟨L, hL⟩ : ∃ z, outB (encO F O (nmOf a) (W - 128) Q D (ps.map PdZ.to)) = z := ⟨_, rfl⟩
        rw [hE, hL] at HEN HTE
        clear hE hL
        have g2 := row_c (i := 2) HL.out rfl
        have g3 := row_c (i := 3) HL.out rfl
        have g4 := row_c (i := 4) HL.out rfl
        have g5 := row_c (i := 5) HL.out rfl
        have g6 := row_c (i := 6) HL.out rfl
        have g7 := row_c (i := 7) HL.out rfl
        have g8 := row_c (i := 8) HL.out rfl
        have g9 := row_c (i := 9) HL.out rfl
        have g10 := row_c (i := 10) HL.out rfl
        go_wp2_with fail
        clear g2 g3 g4 g5 g6 g7 g8 g9 g10 f1
        refine (HEN.out wr HB.out HA.out HPS.out).mono ?_
        rintro e w5 ⟨⟨t2, rfl, ht2⟩, hb⟩
        have L5 := Lib.hid (show LB w5 g (ls, false) [.int .i64 F, .int .i64 O, .bool (decide (a.1 < 0)), .slice A (digs a.1.natAbs).length c, .int .i64 a.2, .int .i64 (W - 128), .int .i64 Q, .int .i64 D, .slice P ps.length k, .bool (decide (nx.1 < 0)), .slice B2 (digs nx.1.natAbs).length d2, .int .i64 nx.2] from cells_of HL.out hb)
        have A5 := Lib.hid (HA.out.below hb)
        have W5 := Lib.hid (HP.out.gk ⟨grow_below hb, Kept.below hb⟩ HL.out)
        have R5 := co HRR hb
        have B5 := Lib.hid (HB.out.trans (hb.mono HB.out.size))
        have HT2 := Lib.hid ht2
        clear hb ht2
        by_cases hE0 : E = 0
        · subst hE0
          by_cases hq : L = l
          · obtain rfl : t2 = bt := by rw [← HBT.out]; apply ByteArray.ext; apply Array.toList_inj.1; rw [HT2.out, hq]
            have HTS := Lib.hid (show T = some ⟨F, O, Q, D, W - 128, a, ps⟩ by rw [HTE.out, if_pos (by simp [hq])])
            clear hq
            go_upto_region 12 with fail
            have h2 := row_c (i := 2) L5.out rfl
            have h3 := row_c (i := 3) L5.out rfl
            have h4 := row_c (i := 4) L5.out rfl
            have h5 := row_c (i := 5) L5.out rfl
            have h6 := row_c (i := 6) L5.out rfl
            have h7 := row_c (i := 7) L5.out rfl
            have h8 := row_c (i := 8) L5.out rfl
            have h9 := row_c (i := 9) L5.out rfl
            have h10 := row_c (i := 10) L5.out rfl
            have fr0 := row_c (i := 0) R5.out rfl
            have fr1 := row_c (i := 1) R5.out rfl
            have fr2 := row_c (i := 2) R5.out rfl
            have fr3 := row_c (i := 3) R5.out rfl
            have fr4 := row_c (i := 4) R5.out rfl
            have fr5 := row_c (i := 5) R5.out rfl
            have fr6 := row_c (i := 6) R5.out rfl
            have fr7 := row_c (i := 7) R5.out rfl
            have fr8 := row_c (i := 8) R5.out rfl
            have zr0 := frozen_of_row _ _ 0 _ _ R5.out
            have zr1 := frozen_of_row _ _ 1 _ _ R5.out
            have zr2 := frozen_of_row _ _ 2 _ _ R5.out
            have zr3 := frozen_of_row _ _ 3 _ _ R5.out
            have zr4 := frozen_of_row _ _ 4 _ _ R5.out
            have zr5 := frozen_of_row _ _ 5 _ _ R5.out
            have zr6 := frozen_of_row _ _ 6 _ _ R5.out
            have zr7 := frozen_of_row _ _ 7 _ _ R5.out
            have zr8 := frozen_of_row _ _ 8 _ _ R5.out
            have xr := heap_lt R5.out
            go_wp2
            clear h2 h3 h4 h5 h6 h7 h8 h9 h10
            obtain ⟨wz, hW⟩ : ∃ V : World, (((((((((w5.setCell ⟨w.heap.size, 0, none⟩ (.int .i64 F)).setCell ⟨w.heap.size, 1, none⟩ (.int .i64 O)).setCell ⟨w.heap.size, 2, none⟩ (.bool (decide (a.1 < 0)))).setCell ⟨w.heap.size, 3, none⟩ (.slice A (digs a.1.natAbs).length c)).setCell ⟨w.heap.size, 4, none⟩ (.int .i64 a.2)).setCell ⟨w.heap.size, 5, none⟩ (.int .i64 (W - 128))).setCell ⟨w.heap.size, 6, none⟩ (.int .i64 Q)).setCell ⟨w.heap.size, 7, none⟩ (.int .i64 D)).setCell ⟨w.heap.size, 8, none⟩ (.slice P ps.length k)) = V := ⟨_, rfl⟩
            rw [hW]
            have hO : Only w.heap.size w5 wz := by rw [← hW]; exact ((((((((((Only.refl w.heap.size w5).setCell 0 _).setCell 1 _).setCell 2 _).setCell 3 _).setCell 4 _).setCell 5 _).setCell 6 _).setCell 7 _).setCell 8 _)
            have hR : wz.heap[w.heap.size]? = some (.cells #[.int .i64 F, .int .i64 O, .bool (decide (a.1 < 0)), .slice A (digs a.1.natAbs).length c, .int .i64 a.2, .int .i64 (W - 128), .int .i64 Q, .int .i64 D, .slice P ps.length k] 29 (0, 0)) := by rw [← hW]; exact (heap_setCell_same _ _ 8 _ _ _ (heap_setCell_same _ _ 7 _ _ _ (heap_setCell_same _ _ 6 _ _ _ (heap_setCell_same _ _ 5 _ _ _ (heap_setCell_same _ _ 4 _ _ _ (heap_setCell_same _ _ 3 _ _ _ (heap_setCell_same _ _ 2 _ _ _ (heap_setCell_same _ _ 1 _ _ _ (heap_setCell_same _ _ 0 _ _ _ R5.out)))))))))
            have HZB := Lib.hid (hO.below B5.out (Nat.le_refl _))
            have HK := Lib.hid (hO.kept R5.out (noint_of (by intro u hu n e; subst e; simp at hu)))
            have HO := Lib.hid hO
            have g0 := row_c (i := 0) hR rfl
            have g1 := row_c (i := 1) hR rfl
            have g2 := row_c (i := 2) hR rfl
            have g3 := row_c (i := 3) hR rfl
            have g4 := row_c (i := 4) hR rfl
            have g5 := row_c (i := 5) hR rfl
            have g6 := row_c (i := 6) hR rfl
            have g7 := row_c (i := 7) hR rfl
            have g8 := row_c (i := 8) hR rfl
            clear hW hO hR xr fr0 zr0 fr1 zr1 fr2 zr2 fr3 zr3 fr4 zr4 fr5 zr5 fr6 zr6 fr7 zr7 fr8 zr8
            refine bodyPost_ret (v := .tuple #[.agg #[.int .i64 F, .int .i64 O, .bool (decide (a.1 < 0)), .slice A (digs a.1.natAbs).length c, .int .i64 a.2, .int .i64 (W - 128), .int .i64 Q, .int .i64 D, .slice P ps.length k], .int .i64 0]) (by simp [results, Tryd.results8, go_sem, g0, g1, g2, g3, g4, g5, g6, g7, g8]) rfl ?_
            rw [HTS.out]
            exact ⟨⟨A, c, P, k, rfl, A5.out.kept HK.out, ((W5.out).gkT ⟨only_grow HO.out, HK.out⟩ R5.out (by decide) (by decide)).ps.2⟩, HZB.out⟩
          · have HTN := Lib.hid (show T = none by rw [HTE.out, if_neg (fun h => hq h.2.2)])
            have hnt : ¬ t2 = bt := fun h => hq (by rw [← HT2.out, h, ← HBT.out])
            have hn2 : (t2.toList == bt.toList) = false := beq_eq_false_iff_ne.2 (fun h => hnt (by rw [ByteArray.toList_eq, ByteArray.toList_eq] at h; apply ByteArray.ext; exact Array.toList_inj.1 h))
            clear hq hnt
            go_upto_region 11 with fail
            clear hn2
            have fr0 := row_c (i := 0) R5.out rfl
            have fr1 := row_c (i := 1) R5.out rfl
            have fr2 := row_c (i := 2) R5.out rfl
            have fr3 := row_c (i := 3) R5.out rfl
            have fr4 := row_c (i := 4) R5.out rfl
            have fr5 := row_c (i := 5) R5.out rfl
            have fr6 := row_c (i := 6) R5.out rfl
            have fr7 := row_c (i := 7) R5.out rfl
            have fr8 := row_c (i := 8) R5.out rfl
            have zr0 := frozen_of_row _ _ 0 _ _ R5.out
            have zr1 := frozen_of_row _ _ 1 _ _ R5.out
            have zr2 := frozen_of_row _ _ 2 _ _ R5.out
            have zr3 := frozen_of_row _ _ 3 _ _ R5.out
            have zr4 := frozen_of_row _ _ 4 _ _ R5.out
            have zr5 := frozen_of_row _ _ 5 _ _ R5.out
            have zr6 := frozen_of_row _ _ 6 _ _ R5.out
            have zr7 := frozen_of_row _ _ 7 _ _ R5.out
            have zr8 := frozen_of_row _ _ 8 _ _ R5.out
            have xr := heap_lt R5.out
            go_wp2
            obtain ⟨wz, hW⟩ : ∃ V : World, (((((((((w5.setCell ⟨w.heap.size, 0, none⟩ (.int .i64 0)).setCell ⟨w.heap.size, 1, none⟩ (.int .i64 0)).setCell ⟨w.heap.size, 2, none⟩ (.bool false)).setCell ⟨w.heap.size, 3, none⟩ (.slice none 0 0)).setCell ⟨w.heap.size, 4, none⟩ (.int .i64 0)).setCell ⟨w.heap.size, 5, none⟩ (.int .i64 0)).setCell ⟨w.heap.size, 6, none⟩ (.int .i64 0)).setCell ⟨w.heap.size, 7, none⟩ (.int .i64 0)).setCell ⟨w.heap.size, 8, none⟩ (.slice none 0 0)) = V := ⟨_, rfl⟩
            rw [hW]
            have hO : Only w.heap.size w5 wz := by rw [← hW]; exact ((((((((((Only.refl w.heap.size w5).setCell 0 _).setCell 1 _).setCell 2 _).setCell 3 _).setCell 4 _).setCell 5 _).setCell 6 _).setCell 7 _).setCell 8 _)
            have hR : wz.heap[w.heap.size]? = some (.cells #[.int .i64 0, .int .i64 0, .bool false, .slice none 0 0, .int .i64 0, .int .i64 0, .int .i64 0, .int .i64 0, .slice none 0 0] 29 (0, 0)) := by rw [← hW]; exact (heap_setCell_same _ _ 8 _ _ _ (heap_setCell_same _ _ 7 _ _ _ (heap_setCell_same _ _ 6 _ _ _ (heap_setCell_same _ _ 5 _ _ _ (heap_setCell_same _ _ 4 _ _ _ (heap_setCell_same _ _ 3 _ _ _ (heap_setCell_same _ _ 2 _ _ _ (heap_setCell_same _ _ 1 _ _ _ (heap_setCell_same _ _ 0 _ _ _ R5.out)))))))))
            have HZB := Lib.hid (hO.below B5.out (Nat.le_refl _))
            have HK := Lib.hid (hO.kept R5.out (noint_of (by intro u hu n e; subst e; simp at hu)))
            have HO := Lib.hid hO
            have g0 := row_c (i := 0) hR rfl
            have g1 := row_c (i := 1) hR rfl
            have g2 := row_c (i := 2) hR rfl
            have g3 := row_c (i := 3) hR rfl
            have g4 := row_c (i := 4) hR rfl
            have g5 := row_c (i := 5) hR rfl
            have g6 := row_c (i := 6) hR rfl
            have g7 := row_c (i := 7) hR rfl
            have g8 := row_c (i := 8) hR rfl
            clear hW hO hR xr fr0 zr0 fr1 zr1 fr2 zr2 fr3 zr3 fr4 zr4 fr5 zr5 fr6 zr6 fr7 zr7 fr8 zr8
            refine bodyPost_ret (v := .tuple #[.agg #[.int .i64 0, .int .i64 0, .bool false, .slice none 0 0, .int .i64 0, .int .i64 0, .int .i64 0, .int .i64 0, .slice none 0 0], .int .i64 2]) (by simp [results, Tryd.results8, go_sem, g0, g1, g2, g3, g4, g5, g6, g7, g8]) rfl ?_
            rw [HTN.out]
            exact ⟨rfl, HZB.out⟩
        · have HTN := Lib.hid (show T = none by rw [HTE.out, if_neg (fun h => hE0 h.2.1)])
          have hn1 : (E != 0) = true := bne_iff_ne.2 hE0
          clear hE0
          go_upto_region 11 with fail
          clear hn1
          have fr0 := row_c (i := 0) R5.out rfl
          have fr1 := row_c (i := 1) R5.out rfl
          have fr2 := row_c (i := 2) R5.out rfl
          have fr3 := row_c (i := 3) R5.out rfl
          have fr4 := row_c (i := 4) R5.out rfl
          have fr5 := row_c (i := 5) R5.out rfl
          have fr6 := row_c (i := 6) R5.out rfl
          have fr7 := row_c (i := 7) R5.out rfl
          have fr8 := row_c (i := 8) R5.out rfl
          have zr0 := frozen_of_row _ _ 0 _ _ R5.out
          have zr1 := frozen_of_row _ _ 1 _ _ R5.out
          have zr2 := frozen_of_row _ _ 2 _ _ R5.out
          have zr3 := frozen_of_row _ _ 3 _ _ R5.out
          have zr4 := frozen_of_row _ _ 4 _ _ R5.out
          have zr5 := frozen_of_row _ _ 5 _ _ R5.out
          have zr6 := frozen_of_row _ _ 6 _ _ R5.out
          have zr7 := frozen_of_row _ _ 7 _ _ R5.out
          have zr8 := frozen_of_row _ _ 8 _ _ R5.out
          have xr := heap_lt R5.out
          go_wp2
          obtain ⟨wz, hW⟩ : ∃ V : World, (((((((((w5.setCell ⟨w.heap.size, 0, none⟩ (.int .i64 0)).setCell ⟨w.heap.size, 1, none⟩ (.int .i64 0)).setCell ⟨w.heap.size, 2, none⟩ (.bool false)).setCell ⟨w.heap.size, 3, none⟩ (.slice none 0 0)).setCell ⟨w.heap.size, 4, none⟩ (.int .i64 0)).setCell ⟨w.heap.size, 5, none⟩ (.int .i64 0)).setCell ⟨w.heap.size, 6, none⟩ (.int .i64 0)).setCell ⟨w.heap.size, 7, none⟩ (.int .i64 0)).setCell ⟨w.heap.size, 8, none⟩ (.slice none 0 0)) = V := ⟨_, rfl⟩
          rw [hW]
          have hO : Only w.heap.size w5 wz := by rw [← hW]; exact ((((((((((Only.refl w.heap.size w5).setCell 0 _).setCell 1 _).setCell 2 _).setCell 3 _).setCell 4 _).setCell 5 _).setCell 6 _).setCell 7 _).setCell 8 _)
          have hR : wz.heap[w.heap.size]? = some (.cells #[.int .i64 0, .int .i64 0, .bool false, .slice none 0 0, .int .i64 0, .int .i64 0, .int .i64 0, .int .i64 0, .slice none 0 0] 29 (0, 0)) := by rw [← hW]; exact (heap_setCell_same _ _ 8 _ _ _ (heap_setCell_same _ _ 7 _ _ _ (heap_setCell_same _ _ 6 _ _ _ (heap_setCell_same _ _ 5 _ _ _ (heap_setCell_same _ _ 4 _ _ _ (heap_setCell_same _ _ 3 _ _ _ (heap_setCell_same _ _ 2 _ _ _ (heap_setCell_same _ _ 1 _ _ _ (heap_setCell_same _ _ 0 _ _ _ R5.out)))))))))
          have HZB := Lib.hid (hO.below B5.out (Nat.le_refl _))
          have HK := Lib.hid (hO.kept R5.out (noint_of (by intro u hu n e; subst e; simp at hu)))
          have HO := Lib.hid hO
          have g0 := row_c (i := 0) hR rfl
          have g1 := row_c (i := 1) hR rfl
          have g2 := row_c (i := 2) hR rfl
          have g3 := row_c (i := 3) hR rfl
          have g4 := row_c (i := 4) hR rfl
          have g5 := row_c (i := 5) hR rfl
          have g6 := row_c (i := 6) hR rfl
          have g7 := row_c (i := 7) hR rfl
          have g8 := row_c (i := 8) hR rfl
          clear hW hO hR xr fr0 zr0 fr1 zr1 fr2 zr2 fr3 zr3 fr4 zr4 fr5 zr5 fr6 zr6 fr7 zr7 fr8 zr8
          refine bodyPost_ret (v := .tuple #[.agg #[.int .i64 0, .int .i64 0, .bool false, .slice none 0 0, .int .i64 0, .int .i64 0, .int .i64 0, .int .i64 0, .slice none 0 0], .int .i64 2]) (by simp [results, Tryd.results8, go_sem, g0, g1, g2, g3, g4, g5, g6, g7, g8]) rfl ?_
          rw [HTN.out]
          exact ⟨rfl, HZB.out⟩
      · have HTN := Lib.hid (show T = none by rw [HTE.out, if_neg (fun h => by simp at h)])
        go_upto_region 8 with fail
        clear f1
        have fr0 := row_c (i := 0) HRR.out rfl
        have fr1 := row_c (i := 1) HRR.out rfl
        have fr2 := row_c (i := 2) HRR.out rfl
        have fr3 := row_c (i := 3) HRR.out rfl
        have fr4 := row_c (i := 4) HRR.out rfl
        have fr5 := row_c (i := 5) HRR.out rfl
        have fr6 := row_c (i := 6) HRR.out rfl
        have fr7 := row_c (i := 7) HRR.out rfl
        have fr8 := row_c (i := 8) HRR.out rfl
        have zr0 := frozen_of_row _ _ 0 _ _ HRR.out
        have zr1 := frozen_of_row _ _ 1 _ _ HRR.out
        have zr2 := frozen_of_row _ _ 2 _ _ HRR.out
        have zr3 := frozen_of_row _ _ 3 _ _ HRR.out
        have zr4 := frozen_of_row _ _ 4 _ _ HRR.out
        have zr5 := frozen_of_row _ _ 5 _ _ HRR.out
        have zr6 := frozen_of_row _ _ 6 _ _ HRR.out
        have zr7 := frozen_of_row _ _ 7 _ _ HRR.out
        have zr8 := frozen_of_row _ _ 8 _ _ HRR.out
        have xr := heap_lt HRR.out
        go_wp2
        obtain ⟨wz, hW⟩ : ∃ V : World, (((((((((wr.setCell ⟨w.heap.size, 0, none⟩ (.int .i64 0)).setCell ⟨w.heap.size, 1, none⟩ (.int .i64 0)).setCell ⟨w.heap.size, 2, none⟩ (.bool false)).setCell ⟨w.heap.size, 3, none⟩ (.slice none 0 0)).setCell ⟨w.heap.size, 4, none⟩ (.int .i64 0)).setCell ⟨w.heap.size, 5, none⟩ (.int .i64 0)).setCell ⟨w.heap.size, 6, none⟩ (.int .i64 0)).setCell ⟨w.heap.size, 7, none⟩ (.int .i64 0)).setCell ⟨w.heap.size, 8, none⟩ (.slice none 0 0)) = V := ⟨_, rfl⟩
        rw [hW]
        have hO : Only w.heap.size wr wz := by rw [← hW]; exact ((((((((((Only.refl w.heap.size wr).setCell 0 _).setCell 1 _).setCell 2 _).setCell 3 _).setCell 4 _).setCell 5 _).setCell 6 _).setCell 7 _).setCell 8 _)
        have hR : wz.heap[w.heap.size]? = some (.cells #[.int .i64 0, .int .i64 0, .bool false, .slice none 0 0, .int .i64 0, .int .i64 0, .int .i64 0, .int .i64 0, .slice none 0 0] 29 (0, 0)) := by rw [← hW]; exact (heap_setCell_same _ _ 8 _ _ _ (heap_setCell_same _ _ 7 _ _ _ (heap_setCell_same _ _ 6 _ _ _ (heap_setCell_same _ _ 5 _ _ _ (heap_setCell_same _ _ 4 _ _ _ (heap_setCell_same _ _ 3 _ _ _ (heap_setCell_same _ _ 2 _ _ _ (heap_setCell_same _ _ 1 _ _ _ (heap_setCell_same _ _ 0 _ _ _ HRR.out)))))))))
        have HZB := Lib.hid (hO.below HB.out (Nat.le_refl _))
        have HK := Lib.hid (hO.kept HRR.out (noint_of (by intro u hu n e; subst e; simp at hu)))
        have HO := Lib.hid hO
        have g0 := row_c (i := 0) hR rfl
        have g1 := row_c (i := 1) hR rfl
        have g2 := row_c (i := 2) hR rfl
        have g3 := row_c (i := 3) hR rfl
        have g4 := row_c (i := 4) hR rfl
        have g5 := row_c (i := 5) hR rfl
        have g6 := row_c (i := 6) hR rfl
        have g7 := row_c (i := 7) hR rfl
        have g8 := row_c (i := 8) hR rfl
        clear hW hO hR xr fr0 zr0 fr1 zr1 fr2 zr2 fr3 zr3 fr4 zr4 fr5 zr5 fr6 zr6 fr7 zr7 fr8 zr8
        refine bodyPost_ret (v := .tuple #[.agg #[.int .i64 0, .int .i64 0, .bool false, .slice none 0 0, .int .i64 0, .int .i64 0, .int .i64 0, .int .i64 0, .slice none 0 0], .int .i64 2]) (by simp [results, Tryd.results8, go_sem, g0, g1, g2, g3, g4, g5, g6, g7, g8]) rfl ?_
        rw [HTN.out]
        exact ⟨rfl, HZB.out⟩
end Go.Proofs.YtfhdhldgflbpjaaDoor
end

section
/-
  What is written is read as it was (plain).
-/
namespace Go.Proofs.YtfhdhldgflbpjaaDoor
open Go.RowKit
set_option linter.unusedSimpArgs false
set_option linter.unusedVariables false
theorem zb_inj {m n : Int} {r s : List UInt8} (hm : (digs m.natAbs).length ≤ 400) (hn : (digs n.natAbs).length ≤ 400) (h : zb m ++ r = zb n ++ s) : m = n ∧ r = s := by
  obtain ⟨_, a1, a2, a3, a4⟩ := tk_zb m r hm
  obtain ⟨_, b1, b2, b3, b4⟩ := tk_zb n s hn
  rw [h] at a1 a2 a3 a4
  rw [b1] at a2 a4
  rw [b1] at b2 b4 a1
  have e1 : digs m.natAbs = digs n.natAbs := a2.symm.trans b2
  have e2 : m.natAbs = n.natAbs := by rw [← val_digs m.natAbs, e1, val_digs]
  have e3 : decide (m < 0) = decide (n < 0) := a3.symm.trans b3
  have e4 : (m < 0) ↔ (n < 0) := by simpa using e3
  exact ⟨by omega, a4.symm.trans b4⟩
theorem rdN_zb {m x : Int} {r : List UInt8} {b : Bool} (hm : (digs m.natAbs).length ≤ 400) (hr : Rt m x) (hi : inR m x = true) : rdN (zb m ++ zb x ++ r, b) = ((m, x), r, b) := by
  have hk : okN (zb m ++ zb x ++ r) := ⟨(m, x, r), rfl, hm, hr, hi⟩
  unfold rdN
  rw [dif_pos hk]
  have hs := hk.choose_spec
  generalize hk.choose = q at hs ⊢
  obtain ⟨h1, h2, h3, h4⟩ := hs
  have hx : ∀ z : Int, -131072 ≤ z → z ≤ 131072 → (digs z.natAbs).length ≤ 400 := fun z h0 h1 => Nat.le_trans (digs_small (by omega)) (by decide)
  rw [List.append_assoc, List.append_assoc] at h1
  obtain ⟨e1, h1⟩ := zb_inj hm h2 h1
  obtain ⟨e2, h1⟩ := zb_inj (hx x hr.2.1 hr.2.2) (hx _ h3.2.1 h3.2.2) h1
  rw [← e1, ← e2, ← h1]
/-- A right number has one form. -/
theorem canon {v : Nm} (hk : ok32 v.2.1) (h : dyR v.1 v.2.1 v.2.2 = true) : nmOf (nmv v, v.2.2) = v ∧ Rt (nmv v) v.2.2 := by
  obtain ⟨s, xs, x⟩ := v
  dsimp only at *
  obtain ⟨m, rfl, rfl, r1⟩ := num_of hk h
  have hv : nmv (decide (m < 0), digs m.natAbs, x) = m := by unfold nmv; rw [val_digs]; exact sg_dzM m
  rw [hv]
  exact ⟨rfl, r1⟩
/-- A number that may be written: right, in range, of few digits. -/
def Wn (v : Nm) : Prop := ok32 v.2.1 ∧ dyR v.1 v.2.1 v.2.2 = true ∧ v.2.1.length ≤ 400 ∧ dyIn v = true
theorem rdN_nb {v : Nm} (h : Wn v) (r : List UInt8) (b : Bool) : rdN (nbB v ++ r, b) = ((nmv v, v.2.2), r, b) := by
  obtain ⟨hk, hd, hl, hi⟩ := h
  have hc := canon hk hd
  refine rdN_zb ?_ hc.2 hi
  have := congrArg (fun q : Nm => q.2.1) hc.1
  dsimp only [nmOf] at this
  rw [this]; exact hl
theorem bytT_of {v : Nm} (h : Wn v) : bytT v = nbB v := by unfold bytT; rw [if_pos h.2.2.2]
theorem stp_snd (s : List UInt8 × Int) (v : Nm) : (stp s v).2 = 0 ↔ s.2 = 0 ∧ dyIn v = true := by
  unfold stp errT
  dsimp only
  by_cases h : s.2 = 0
  · rw [if_pos h]; simp [h]
  · rw [if_neg h]; simp [h]
theorem stps_snd (cs : List Nm) : ∀ s : List UInt8 × Int, (cs.foldl stp s).2 = 0 ↔ s.2 = 0 ∧ ∀ v, v ∈ cs → dyIn v = true := by
  induction cs with
  | nil => intro s; simp
  | cons v cs ih => intro s; rw [List.foldl_cons, ih, stp_snd]; simp [and_assoc]
theorem stpP_snd (s : List UInt8 × Int) (p : Pd) : (stpP s p).2 = 0 ↔ s.2 = 0 ∧ dyIn p.er = true ∧ ∀ v, v ∈ p.cs → dyIn v = true := by
  unfold stpP
  rw [stps_snd, stp_snd, and_assoc]
theorem stpPs_snd (ps : List Pd) : ∀ s : List UInt8 × Int, (ps.foldl stpP s).2 = 0 ↔ s.2 = 0 ∧ ∀ p, p ∈ ps → dyIn p.er = true ∧ ∀ v, v ∈ p.cs → dyIn v = true := by
  induction ps with
  | nil => intro s; simp
  | cons p ps ih => intro s; rw [List.foldl_cons, ih, stpP_snd]; simp [and_assoc]
/-- What a list of numbers, a piece, is as bytes. -/
def encC (cs : List Nm) : List UInt8 := cs.flatMap nbB
def encP (p : Pd) : List UInt8 := by8 (p.w + 128) :: (nbB p.er ++ encC p.cs)
theorem stps_fst (cs : List Nm) (h : ∀ v, v ∈ cs → Wn v) : ∀ s : List UInt8 × Int, (cs.foldl stp s).1 = s.1 ++ encC cs := by
  induction cs with
  | nil => intro s; simp [encC]
  | cons v cs ih =>
    intro s
    rw [List.foldl_cons, ih (fun u hu => h u (List.mem_cons_of_mem _ hu))]
    unfold stp encC
    dsimp only
    rw [bytT_of (h v (List.mem_cons_self ..)), List.flatMap_cons, List.append_assoc]
def Wp (p : Pd) : Prop := Wn p.er ∧ ∀ v, v ∈ p.cs → Wn v
theorem stpP_fst {p : Pd} (h : Wp p) (s : List UInt8 × Int) : (stpP s p).1 = s.1 ++ encP p := by
  unfold stpP
  rw [stps_fst p.cs h.2]
  unfold stp encP
  dsimp only
  rw [bytT_of h.1, List.append_assoc, List.append_assoc]
  rfl
theorem stpPs_fst (ps : List Pd) (h : ∀ p, p ∈ ps → Wp p) : ∀ s : List UInt8 × Int, (ps.foldl stpP s).1 = s.1 ++ ps.flatMap encP := by
  induction ps with
  | nil => intro s; simp
  | cons p ps ih =>
    intro s
    rw [List.foldl_cons, ih (fun u hu => h u (List.mem_cons_of_mem _ hu)), stpP_fst (h p (List.mem_cons_self ..)), List.flatMap_cons, List.append_assoc]
theorem snoc_of {α : Type} {L : List α} {n : Nat} (h : L.length = n + 1) : ∃ M x, L = M ++ [x] ∧ M.length = n := by
  refine ⟨L.take n, L[n], ?_, by rw [List.length_take]; omega⟩
  have e : L.take (n + 1) = L := List.take_of_length_le (by omega)
  rw [List.take_append_getElem, e]
theorem rdC_enc : ∀ (n : Nat) (cs : List Nm) (r : List UInt8) (b : Bool), cs.length = n → (∀ v, v ∈ cs → Wn v) → rdC n (encC cs ++ r, b) = (cs.map fun v => (nmv v, v.2.2), r, b)
  | 0, cs, r, b, h, _ => by
    obtain rfl := List.length_eq_zero_iff.1 h
    simp [rdC, encC]
  | n + 1, cs, r, b, h, hw => by
    obtain ⟨M, x, rfl, hM⟩ := snoc_of h
    have e : encC (M ++ [x]) ++ r = encC M ++ (nbB x ++ r) := by unfold encC; rw [List.flatMap_append]; simp
    rw [e]
    unfold rdC
    rw [rdC_enc n M _ b hM (fun v hv => hw v (List.mem_append_left _ hv))]
    dsimp only
    rw [rdN_nb (hw x (by simp)), List.map_append]
    rfl
theorem by8_nat {n : Int} (h0 : 0 ≤ n) (h1 : n ≤ 255) : ((by8 n).toNat : Int) = n := by
  unfold by8
  have e : (n % 256).toNat = n.toNat := by omega
  rw [e]
  simp
  omega
theorem rdS_by {n : Int} (h0 : 0 ≤ n) (h1 : n ≤ 255) (r : List UInt8) (b : Bool) : rdS (by8 n :: r, b) = (n, r, b) := by
  unfold rdS
  dsimp only
  rw [by8_nat h0 h1]
/-- A piece that stands where it must, read. -/
def zOf (p : Pd) : PdZ := ⟨(nmv p.a, p.a.2.2), p.w, p.cs.map fun v => (nmv v, v.2.2), (nmv p.er, p.er.2.2)⟩
theorem rdP_enc {D : Int} {p : Pd} (hp : pieceB p D = true) (hw : Wp p) (d0 : 0 ≤ D) (zs : List PdZ) (r : List UInt8) (b : Bool) : rdP D (zs, (nmv p.a, p.a.2.2), encP p ++ r, b) = (zs ++ [zOf p], endq (nmv p.a) p.a.2.2 p.w, r, b) := by
  unfold pieceB at hp
  simp only [Bool.and_eq_true, decide_eq_true_eq] at hp
  obtain ⟨⟨h0, h1⟩, hl, _⟩ := hp
  unfold rdP encP
  dsimp only
  rw [List.cons_append, rdS_by (by omega) (by omega)]
  dsimp only
  rw [List.append_assoc, rdN_nb hw.1]
  dsimp only
  rw [rdC_enc (D + 1).toNat p.cs r b (by omega) hw.2]
  unfold zOf
  rw [show p.w + 128 - 128 = p.w by omega]
theorem rdPs_enc {D : Int} (d0 : 0 ≤ D) : ∀ (n : Nat) (ps : List Pd) (q q2 : Int × Int) (r : List UInt8), ps.length = n → (∀ p, p ∈ ps → Wp p) → rightL D ps q = some q2 → rdPs D n ([], q, ps.flatMap encP ++ r, false) = (ps.map zOf, q2, r, false)
  | 0, ps, q, q2, r, h, _, hr => by
    obtain rfl := List.length_eq_zero_iff.1 h
    simp only [rightL, Option.some.injEq] at hr
    subst hr
    simp [rdPs]
  | n + 1, ps, q, q2, r, h, hw, hr => by
    obtain ⟨M, p, rfl, hM⟩ := snoc_of h
    rw [rightL_snoc] at hr
    cases hq : rightL D M q with
    | none => rw [hq] at hr; cases hr
    | some q3 =>
      rw [hq, Option.bind_some] at hr
      split at hr
      · rename_i hc
        rw [Bool.and_eq_true, decide_eq_true_eq] at hc
        have e : (M ++ [p]).flatMap encP ++ r = M.flatMap encP ++ (encP p ++ r) := by rw [List.flatMap_append]; simp
        rw [e]
        unfold rdPs
        rw [rdPs_enc d0 n M q q3 _ hM (fun v hv => hw v (List.mem_append_left _ hv)) hq]
        dsimp only
        obtain ⟨q31, q32⟩ := q3
        obtain ⟨hc1, hc2, hc3⟩ := hc
        dsimp only at hc2 hc3
        subst hc2 hc3
        rw [if_neg (by simp), rdP_enc hc1 (hw p (by simp)) d0, List.map_append]
        simp only [Option.some.injEq] at hr
        rw [← hr]
        rfl
      · cases hr
/-- A table as it is read again. -/
def tOf (F O : Int) (a : Nm) (W Q D : Int) (ps : List Pd) : TbZ := ⟨F, O, Q, D, W, (nmv a, a.2.2), ps.map zOf⟩
/-- All digits of a table are digits. -/
def OkT (a : Nm) (ps : List Pd) : Prop := ok32 a.2.1 ∧ ∀ p, p ∈ ps → ok32 p.a.2.1 ∧ ok32 p.er.2.1 ∧ ∀ v, v ∈ p.cs → ok32 v.2.1
theorem right_parts {F O : Int} {a : Nm} {W Q D : Int} {ps : List Pd} (h : rightT F O a W Q D ps = true) : (1 ≤ F ∧ F ≤ 10) ∧ (0 ≤ O ∧ O ≤ 64) ∧ plainB a.1 a.2.1 a.2.2 = true ∧ (-30 ≤ W ∧ W ≤ 10) ∧ (4 ≤ Q ∧ Q ≤ 48) ∧ (1 ≤ D ∧ D ≤ 16) ∧ (1 ≤ ps.length ∧ ps.length ≤ 32) ∧ rightL D ps (nmv a, a.2.2) = some (endq (nmv a) a.2.2 W) := by
  unfold rightT at h
  simp only [Bool.and_eq_true, decide_eq_true_eq, beq_iff_eq] at h
  obtain ⟨h0, h1, h2, h3, h4, h5, h6, h7⟩ := h
  exact ⟨h0, h1, h2, h3, h4, h5, by omega, h7⟩
theorem wn_of {F O : Int} {a : Nm} {W Q D : Int} {ps : List Pd} (hr : rightT F O a W Q D ps = true) (hk : OkT a ps) (he : (encS F O a W Q D ps).2 = 0) : Wn a ∧ ∀ p, p ∈ ps → pieceB p D = true ∧ Wp p := by
  obtain ⟨_, _, h2, _, _, _, _, h7⟩ := right_parts hr
  unfold encS at he
  rw [stpPs_snd, stp_snd] at he
  have ra := rightA hk.1 h2
  refine ⟨⟨hk.1, ra.1, ra.2.2.1, he.1.2⟩, fun p hp => ?_⟩
  have hb := rightL_all h7 p hp
  obtain ⟨k1, k2, k3⟩ := hk.2 p hp
  have hb2 := hb
  unfold pieceB at hb2
  simp only [Bool.and_eq_true, List.all_eq_true] at hb2
  obtain ⟨_, _, ⟨_, her⟩, hcs, _⟩ := hb2
  obtain ⟨i1, i2⟩ := he.2 p hp
  have r1 := rightN k2 her
  refine ⟨hb, ⟨k2, r1.1, r1.2.2.1, i1⟩, fun v hv => ?_⟩
  have r2 := rightN (k3 v hv) (hcs v hv)
  exact ⟨k3 v hv, r2.1, r2.2.2.1, i2 v hv⟩
theorem encS_fst {F O : Int} {a : Nm} {W Q D : Int} {ps : List Pd} (hr : rightT F O a W Q D ps = true) (hk : OkT a ps) (he : (encS F O a W Q D ps).2 = 0) : (encS F O a W Q D ps).1 = headB F O W Q D ps.length ++ nbB a ++ ps.flatMap encP := by
  obtain ⟨ha, hp⟩ := wn_of hr hk he
  unfold encS
  rw [stpPs_fst ps (fun p h => (hp p h).2)]
  unfold stp
  dsimp only
  rw [bytT_of ha]
theorem rdT_enc {F O : Int} {a : Nm} {W Q D : Int} {ps : List Pd} (hr : rightT F O a W Q D ps = true) (hk : OkT a ps) (he : (encS F O a W Q D ps).2 = 0) (r : List UInt8) : rdT ((encS F O a W Q D ps).1 ++ r, false) = (tOf F O a W Q D ps, false) := by
  obtain ⟨ha, hp⟩ := wn_of hr hk he
  obtain ⟨h0, h1, h2, h3, h4, h5, h6, h7⟩ := right_parts hr
  rw [encS_fst hr hk he]
  have e : rdH (headB F O W Q D ps.length ++ nbB a ++ ps.flatMap encP ++ r, false) = (F, O, Q, D, W, (ps.length : Int), (nmv a, a.2.2), ps.flatMap encP ++ r, false) := by
    unfold rdH headB
    simp only [List.map_cons, List.map_nil, List.cons_append, List.nil_append, List.append_assoc]
    rw [rdS_by (by omega) (by omega)]
    simp only [if_true]
    rw [rdS_by (by omega) (by omega)]
    dsimp only
    rw [rdS_by (by omega) (by omega)]
    dsimp only
    rw [rdS_by (by omega) (by omega)]
    dsimp only
    rw [rdS_by (by omega) (by omega)]
    dsimp only
    rw [rdS_by (by omega) (by omega)]
    dsimp only
    rw [rdS_by (by omega) (by omega)]
    dsimp only
    rw [rdN_nb ha]
    simp only [show W + 128 - 128 = W by omega]
  unfold rdT
  rw [e]
  dsimp only
  rw [rdPs_enc (by omega) _ ps _ _ _ (by omega) (fun p h => (hp p h).2) h7]
  rfl
theorem zOf_to {p : Pd} {D : Int} (hk : ok32 p.a.2.1) (hp : pieceB p D = true) (hw : Wp p) : (zOf p).to = p := by
  unfold pieceB at hp
  simp only [Bool.and_eq_true] at hp
  obtain ⟨_, _, ⟨ha, _⟩, _, _⟩ := hp
  have c1 := (canon hk (rightN hk ha).1).1
  have c2 := (canon hw.1.1 hw.1.2.1).1
  unfold zOf PdZ.to
  dsimp only
  rw [c1, c2, List.map_map]
  have c3 : p.cs.map (nmOf ∘ fun v => (nmv v, v.2.2)) = p.cs := by
    have : ∀ v, v ∈ p.cs → (nmOf ∘ fun v => (nmv v, v.2.2)) v = id v := fun v hv => (canon (hw.2 v hv).1 (hw.2 v hv).2.1).1
    rw [List.map_congr_left this, List.map_id]
  rw [c3]
theorem tOf_back {F O : Int} {a : Nm} {W Q D : Int} {ps : List Pd} (hr : rightT F O a W Q D ps = true) (hk : OkT a ps) (he : (encS F O a W Q D ps).2 = 0) : nmOf (nmv a, a.2.2) = a ∧ (ps.map zOf).map PdZ.to = ps := by
  obtain ⟨ha, hp⟩ := wn_of hr hk he
  refine ⟨(canon ha.1 ha.2.1).1, ?_⟩
  rw [List.map_map]
  have : ∀ p, p ∈ ps → (PdZ.to ∘ zOf) p = id p := fun p h => zOf_to (hk.2 p h).1 (hp p h).1 (hp p h).2
  rw [List.map_congr_left this, List.map_id]
theorem tOf_enc {F O : Int} {a : Nm} {W Q D : Int} {ps : List Pd} (hr : rightT F O a W Q D ps = true) (hk : OkT a ps) (he : (encS F O a W Q D ps).2 = 0) : (tOf F O a W Q D ps).enc = encS F O a W Q D ps := by
  obtain ⟨h1, h2⟩ := tOf_back hr hk he
  unfold TbZ.enc tOf
  dsimp only
  rw [h1, h2]
  unfold encO
  rw [if_pos hr]
/-- What is written is read as it was; with anything behind, nothing is. -/
theorem dec_enc {F O : Int} {a : Nm} {W Q D : Int} {ps : List Pd} (hr : rightT F O a W Q D ps = true) (hk : OkT a ps) (he : (encS F O a W Q D ps).2 = 0) : decT (encS F O a W Q D ps).1 = some (tOf F O a W Q D ps) := by
  have h := rdT_enc hr hk he []
  rw [List.append_nil] at h
  unfold decT
  rw [h, if_pos]
  dsimp only
  rw [tOf_enc hr hk he]
  unfold outE outB
  rw [if_pos he, if_pos he]
  exact ⟨rfl, rfl, rfl⟩
theorem dec_more {F O : Int} {a : Nm} {W Q D : Int} {ps : List Pd} (hr : rightT F O a W Q D ps = true) (hk : OkT a ps) (he : (encS F O a W Q D ps).2 = 0) {r : List UInt8} (h0 : r ≠ []) : decT ((encS F O a W Q D ps).1 ++ r) = none := by
  have h := rdT_enc hr hk he r
  unfold decT
  rw [h, if_neg]
  rintro ⟨_, _, h3⟩
  dsimp only at h3
  rw [tOf_enc hr hk he] at h3
  unfold outB at h3
  rw [if_pos he] at h3
  have := congrArg List.length h3
  rw [List.length_append] at this
  exact h0 (List.length_eq_zero_iff.1 (by omega))
theorem okZ (a : Int × Int) (zs : List PdZ) : OkT (nmOf a) (zs.map PdZ.to) := by
  refine ⟨ok_digs _, fun p hp => ?_⟩
  obtain ⟨z, _, rfl⟩ := List.mem_map.1 hp
  refine ⟨ok_digs _, ok_digs _, fun v hv => ?_⟩
  obtain ⟨q, _, rfl⟩ := List.mem_map.1 hv
  exact ok_digs _
theorem enc_parts {F O : Int} {a : Nm} {W Q D : Int} {ps : List Pd} (h : outE (encO F O a W Q D ps) = 0) : rightT F O a W Q D ps = true ∧ (encS F O a W Q D ps).2 = 0 ∧ encO F O a W Q D ps = encS F O a W Q D ps := by
  unfold encO at h ⊢
  split at h
  · rename_i hr
    rw [if_pos hr]
    refine ⟨hr, ?_, rfl⟩
    unfold outE at h
    split at h
    · assumption
    · cases h
  · cases h
/-- A beginning of what is written is no table. -/
theorem dec_cut {F O : Int} {a : Nm} {W Q D : Int} {ps : List Pd} (hr : rightT F O a W Q D ps = true) (hk : OkT a ps) (he : (encS F O a W Q D ps).2 = 0) {k : Nat} (h0 : k < (encS F O a W Q D ps).1.length) : decT ((encS F O a W Q D ps).1.take k) = none := by
  cases hd : decT ((encS F O a W Q D ps).1.take k) with
  | none => rfl
  | some T =>
    exfalso
    unfold decT at hd
    split at hd
    · rename_i hc
      injection hd with hd
      rw [hd] at hc
      obtain ⟨_, h2, h3⟩ := hc
      obtain ⟨hr2, he2, ee⟩ := enc_parts (F := T.F) (O := T.O) (a := nmOf T.a) (W := T.W) (Q := T.Q) (D := T.D) (ps := T.ps.map PdZ.to) h2
      unfold TbZ.enc at h3
      rw [ee] at h3
      unfold outB at h3
      rw [if_pos he2] at h3
      have hm := dec_more hr2 (okZ _ _) he2 (r := (encS F O a W Q D ps).1.drop k) (fun e => by
        have := congrArg List.length e
        rw [List.length_drop] at this
        simp at this; omega)
      rw [h3, List.take_append_drop, dec_enc hr hk he] at hm
      cases hm
    · cases hd
theorem dec_back {l : List UInt8} {T : TbZ} (h : decT l = some T) : outE T.enc = 0 ∧ outB T.enc = l := by
  unfold decT at h
  split at h
  · rename_i hc
    injection h with h
    rw [h] at hc
    exact hc.2
  · cases h
end Go.Proofs.YtfhdhldgflbpjaaDoor
end

section
/-
  The reference's Same, of numbers that are not the same too; the law's own 'same'.
-/
namespace Go.Proofs.YtfhdhldgflbpjaaDoor
open Go.RowKit
set_option linter.unusedSimpArgs false
set_option linter.unusedVariables false
theorem first_diff : ∀ (xs ys : List Nat), xs.length = ys.length → xs ≠ ys → ∃ i, i < xs.length ∧ xs[i]?.getD 0 ≠ ys[i]?.getD 0 ∧ ∀ j, j < i → xs[j]?.getD 0 = ys[j]?.getD 0 := by
  intro xs
  induction xs with
  | nil => intro ys h hne; cases ys; exact absurd rfl hne; simp at h
  | cons x r ih =>
    intro ys h hne
    rcases ys with _ | ⟨y, s⟩
    · simp at h
    · by_cases hx : x = y
      · subst hx
        obtain ⟨i, h1, h2, h3⟩ := ih s (by simpa using h) (fun e => hne (by rw [e]))
        refine ⟨i + 1, by simp; omega, by simpa using h2, fun j hj => ?_⟩
        rcases j with _ | j
        · rfl
        · simpa using h3 j (by omega)
      · exact ⟨0, by simp, by simpa using hx, fun j hj => by omega⟩
set_option maxHeartbeats 2000000 in
set_option maxRecDepth 100000 in
theorem Same_diff (A B : Option Addr) (c d : Nat) (s : Bool) (xs ys : List Nat) (w : World) (h : Dg w A c xs) (h' : Dg w B d ys) (hl : xs.length ≤ 16777216) (hlen : xs.length = ys.length) (hne : xs ≠ ys) :
    Calls Tryd.prog 54 #[.agg #[.bool s, .slice A xs.length c], .agg #[.bool s, .slice B xs.length d]] w fun e w' => e = .returned (.bool false) ∧ Below w.heap.size w w' := by
  obtain ⟨i, hi, hd, hs⟩ := first_diff xs ys hlen hne
  have hne : ((xs.length : Int) != (xs.length : Int)) = false := by simp
  have hns : (s != s) = false := by simp
  have H1 := Lib.hid (h.below (below2 w (.cells #[.bool s, .slice A xs.length c] 24) (.cells #[.bool s, .slice B xs.length d] 24)))
  have H2 := Lib.hid (h'.below (below2 w (.cells #[.bool s, .slice A xs.length c] 24) (.cells #[.bool s, .slice B xs.length d] 24)))
  have HS := Lib.hid hs
  have HD := Lib.hid hd
  have HLEN := Lib.hid hlen
  have hc1 := h.1
  have hc2 : xs.length ≤ d := by have := h'.1; omega
  clear h h' hs hd hlen
  go_enter Tryd.func54, Tryd.ntmps54
  go_wp2
  go_loopw [5] (fun v wr => (∃ k : Nat, k ≤ i ∧ v = .int .i64 k) ∧ ∃ m, wr = ((w.alloc (.cells #[.bool s, .slice A xs.length c] 24)).alloc (.cells #[.bool s, .slice B xs.length d] 24)).drewN m) (fun v _ => xs.length - (intOf v).toNat)
  case atStart => exact ⟨⟨0, Nat.zero_le _, rfl⟩, 0, rfl⟩
  case round =>
    obtain ⟨⟨k, hk, rfl⟩, m, rfl⟩ := hrel
    have hkl : k < xs.length := by omega
    obtain ⟨b, off, hA, hb, hcx⟩ := H1.out.2.2 (by omega)
    obtain ⟨b', off', hB, hb', hcy⟩ := H2.out.2.2 (by have := HLEN.out; omega)
    have hx := hcx k hkl
    have hy := hcy k (by have := HLEN.out; omega)
    by_cases hlt : k < i
    · rw [← HS.out k hlt] at hy
      generalize xs[k]?.getD 0 = x at *
      have t1 : ((x : Int) != (x : Int)) = false := by simp
      clear hcx hcy H1 H2
      subst hA hB
      go_wp2_with fail
      go_quiet (fail)
      go_wp2_with fail
      go_roundw
      case rel => exact ⟨⟨k + 1, by omega, by go_num⟩, _, rfl⟩
      case measure => simp [intOf]; omega
    · obtain rfl : k = i := by omega
      have hdd := HD.out
      generalize xs[k]?.getD 0 = x at *
      generalize ys[k]?.getD 0 = y at *
      have t1 : ((x : Int) != (y : Int)) = true := by simp; omega
      clear hcx hcy H1 H2 hdd
      subst hA hB
      go_wp2_with fail
      go_quiet (fail)
      go_wp2
      go_ret
      exact ⟨rfl, below_drewN (below_drewN (below2 _ _ _) _) _⟩
set_option maxHeartbeats 2000000 in
set_option maxRecDepth 100000 in
theorem Same_len (A B : Option Addr) (c d n k : Nat) (s r : Bool) (w : World) (hne : s ≠ r ∨ n ≠ k) :
    Calls Tryd.prog 54 #[.agg #[.bool s, .slice A n c], .agg #[.bool r, .slice B k d]] w fun e w' => e = .returned (.bool false) ∧ Below w.heap.size w w' := by
  by_cases hs : s = r
  · have hn : ((n : Int) != (k : Int)) = true := by
      have : n ≠ k := hne.resolve_left (fun h => h hs)
      simp; omega
    have hns : (s != s) = false := by simp
    subst hs
    clear hne
    go_enter Tryd.func54, Tryd.ntmps54
    go_wp2
    go_ret
    exact ⟨rfl, below2 _ _ _⟩
  · clear hne
    cases s <;> cases r
    · exact absurd rfl hs
    · clear hs
      go_enter Tryd.func54, Tryd.ntmps54
      go_wp2
      go_ret
      exact ⟨rfl, below2 _ _ _⟩
    · clear hs
      go_enter Tryd.func54, Tryd.ntmps54
      go_wp2
      go_ret
      exact ⟨rfl, below2 _ _ _⟩
    · exact absurd rfl hs
theorem Same_q {A B : Option Addr} {c d : Nat} {m n : Int} {q : Bool} {w : World} (h : Dg w A c (digs m.natAbs)) (h' : Dg w B d (digs n.natAbs)) (hl : (digs m.natAbs).length ≤ 16777216) (hq : decide (m = n) = q) :
    Calls Tryd.prog 54 #[.agg #[.bool (decide (m < 0)), .slice A (digs m.natAbs).length c], .agg #[.bool (decide (n < 0)), .slice B (digs n.natAbs).length d]] w fun e w' => e = .returned (.bool q) ∧ Below w.heap.size w w' := by
  by_cases hmn : m = n
  · subst hmn
    rw [decide_eq_true rfl] at hq; subst hq
    exact Same_any A B c d _ _ w h h' hl
  · rw [decide_eq_false hmn] at hq; subst hq
    by_cases hs : decide (m < 0) = decide (n < 0)
    · by_cases hlen : (digs m.natAbs).length = (digs n.natAbs).length
      · have := Same_diff A B c d (decide (m < 0)) _ _ w h h' hl hlen (fun e => hmn (by have := digs_inj e; rw [decide_eq_decide] at hs; omega))
        rw [← hs, ← hlen]; exact this
      · exact Same_len A B c d _ _ _ _ w (.inr hlen)
    · exact Same_len A B c d _ _ _ _ w (.inl hs)
set_option maxHeartbeats 2000000 in
set_option maxRecDepth 100000 in
theorem dSame_q {A B : Option Addr} {c d : Nat} {m n x y : Int} {q : Bool} {w : World} (h : Dg w A c (digs m.natAbs)) (h' : Dg w B d (digs n.natAbs)) (hl : (digs m.natAbs).length ≤ 10000) (hq : decide (m = n ∧ x = y) = q) :
    Calls Tryd.prog 30 #[.agg #[.bool (decide (m < 0)), .slice A (digs m.natAbs).length c, .int .i64 x], .agg #[.bool (decide (n < 0)), .slice B (digs n.natAbs).length d, .int .i64 y]] w fun e w' => e = .returned (.bool q) ∧ Below w.heap.size w w' := by
  by_cases hxy : x = y
  · subst hxy
    have HS := Lib.hid (fun W (h : Dg W A c (digs m.natAbs)) (h' : Dg W B d (digs n.natAbs)) => Same_q (q := q) h h' (by omega) (by rw [← hq]; simp))
    have H := Lib.hid h
    have H' := Lib.hid h'
    have t0 : (x == x) = true := by simp
    clear h h' hq
    go_enter Tryd.func30, Tryd.ntmps30
    go_wp2_with fail
    refine (HS.out _ (H.out.below (below2 _ _ _)) (H'.out.below (below2 _ _ _))).mono ?_
    rintro e w1 ⟨rfl, hb⟩
    have HB := Lib.hid ((below2 w _ _).trans (hb.mono (by simp; omega)))
    clear hb
    go_wp2
    go_ret
    exact ⟨rfl, HB.out⟩
  · have t0 : (x == y) = false := by simpa using hxy
    rw [decide_eq_false (fun e => hxy e.2)] at hq
    subst hq
    clear hxy h h'
    go_enter Tryd.func30, Tryd.ntmps30
    go_wp2
    go_ret
    exact ⟨rfl, below2 _ _ _⟩
end Go.Proofs.YtfhdhldgflbpjaaDoor
end

section
/-
  The reference's Same, of equal tables.
-/
namespace Go.Proofs.YtfhdhldgflbpjaaDoor
open Go.RowKit
set_option linter.unusedSimpArgs false
set_option linter.unusedVariables false
theorem nsl_at {w : World} {P : Option Addr} {k : Nat} {cs : List (Int × Int)} (h : NsL w P k (cs.map nmOf)) {i : Nat} {q : Int × Int} (hq : cs[i]? = some q) : ∃ b o A c, P = some ⟨b, o, none⟩ ∧ b < w.heap.size ∧ w.cell? ⟨b, o + i * 3, none⟩ = some (.bool (decide (q.1 < 0))) ∧ w.cell? ⟨b, o + i * 3 + 1, none⟩ = some (.slice A (digs q.1.natAbs).length c) ∧ w.cell? ⟨b, o + i * 3 + 2, none⟩ = some (.int .i64 q.2) ∧ Dg w A c (digs q.1.natAbs) := by
  obtain ⟨b, o, A, c, e, c0, c1, c2, hd⟩ := h.rowq i (nmOf q) (by rw [List.getElem?_map, hq]; rfl)
  exact ⟨b, o, A, c, e, cell_lt c0, c0, c1, c2, hd⟩
set_option maxHeartbeats 4000000 in
set_option maxRecDepth 100000 in
theorem psame_any (A B P A' B' P' : Option Addr) (c d k c' d' k' : Nat) (p : PdZ) (w : World) (ha : Dg w A c (digs p.a.1.natAbs)) (he : Dg w B d (digs p.er.1.natAbs)) (hn : NsL w P k (p.cs.map nmOf)) (ha' : Dg w A' c' (digs p.a.1.natAbs)) (he' : Dg w B' d' (digs p.er.1.natAbs)) (hn' : NsL w P' k' (p.cs.map nmOf)) (hs : SmZ p) (hl : p.cs.length ≤ 1000000) :
    Calls Tryd.prog 31 #[.agg #[.bool (decide (p.a.1 < 0)), .slice A (digs p.a.1.natAbs).length c, .int .i64 p.a.2, .int .i64 p.w, .slice P p.cs.length k, .bool (decide (p.er.1 < 0)), .slice B (digs p.er.1.natAbs).length d, .int .i64 p.er.2], .agg #[.bool (decide (p.a.1 < 0)), .slice A' (digs p.a.1.natAbs).length c', .int .i64 p.a.2, .int .i64 p.w, .slice P' p.cs.length k', .bool (decide (p.er.1 < 0)), .slice B' (digs p.er.1.natAbs).length d', .int .i64 p.er.2]] w fun e w' => e = .returned (.bool true) ∧ Below w.heap.size w w' := by
  have HA := Lib.hid ha
  have HE := Lib.hid he
  have HN := Lib.hid hn
  have HA' := Lib.hid ha'
  have HE' := Lib.hid he'
  have HN' := Lib.hid hn'
  have HS := Lib.hid hs
  clear ha he hn ha' he' hn' hs
  obtain ⟨a, W, cs, er⟩ := p
  dsimp only at *
  go_enter Tryd.func31, Tryd.ntmps31
  go_upto_region 1 with fail
  obtain ⟨v1, hW⟩ : ∃ V : World, (w.alloc (.cells #[.bool (decide (a.1 < 0)), .slice A (digs a.1.natAbs).length c, .int .i64 a.2, .int .i64 W, .slice P cs.length k, .bool (decide (er.1 < 0)), .slice B (digs er.1.natAbs).length d, .int .i64 er.2] 46)).alloc (.cells #[.bool (decide (a.1 < 0)), .slice A' (digs a.1.natAbs).length c', .int .i64 a.2, .int .i64 W, .slice P' cs.length k', .bool (decide (er.1 < 0)), .slice B' (digs er.1.natAbs).length d', .int .i64 er.2] 46) = V := ⟨_, rfl⟩
  rw [hW]
  have B1 := Lib.hid (show Below w.heap.size w v1 by rw [← hW]; exact ((Below.refl _ _).alloc (by simp <;> omega) _).alloc (by simp <;> omega) _)
  have R1 := Lib.hid (show v1.heap[w.heap.size]? = some (.cells #[.bool (decide (a.1 < 0)), .slice A (digs a.1.natAbs).length c, .int .i64 a.2, .int .i64 W, .slice P cs.length k, .bool (decide (er.1 < 0)), .slice B (digs er.1.natAbs).length d, .int .i64 er.2] 46 (0, 0)) by rw [← hW, heap_alloc_old _ _ (by simp)]; exact heap_alloc_new _ _)
  have S1 := Lib.hid (show v1.heap[w.heap.size + 1]? = some (.cells #[.bool (decide (a.1 < 0)), .slice A' (digs a.1.natAbs).length c', .int .i64 a.2, .int .i64 W, .slice P' cs.length k', .bool (decide (er.1 < 0)), .slice B' (digs er.1.natAbs).length d', .int .i64 er.2] 46 (0, 0)) by rw [← hW]; have := heap_alloc_new (w.alloc (.cells #[.bool (decide (a.1 < 0)), .slice A (digs a.1.natAbs).length c, .int .i64 a.2, .int .i64 W, .slice P cs.length k, .bool (decide (er.1 < 0)), .slice B (digs er.1.natAbs).length d, .int .i64 er.2] 46)) (.cells #[.bool (decide (a.1 < 0)), .slice A' (digs a.1.natAbs).length c', .int .i64 a.2, .int .i64 W, .slice P' cs.length k', .bool (decide (er.1 < 0)), .slice B' (digs er.1.natAbs).length d', .int .i64 er.2] 46); simpa using this)
  clear hW
  have r0 := row_c (i := 0) R1.out rfl
  have s0 := row_c (i := 0) S1.out rfl
  have r1 := row_c (i := 1) R1.out rfl
  have s1 := row_c (i := 1) S1.out rfl
  have r2 := row_c (i := 2) R1.out rfl
  have s2 := row_c (i := 2) S1.out rfl
  have r3 := row_c (i := 3) R1.out rfl
  have s3 := row_c (i := 3) S1.out rfl
  have r4 := row_c (i := 4) R1.out rfl
  have s4 := row_c (i := 4) S1.out rfl
  have r5 := row_c (i := 5) R1.out rfl
  have s5 := row_c (i := 5) S1.out rfl
  have r6 := row_c (i := 6) R1.out rfl
  have s6 := row_c (i := 6) S1.out rfl
  have r7 := row_c (i := 7) R1.out rfl
  have s7 := row_c (i := 7) S1.out rfl
  go_wp2_with fail
  refine (dSame_q (q := true) (HA.out.below B1.out) (HA'.out.below B1.out) HS.out.1 (decide_eq_true ⟨rfl, rfl⟩)).mono ?_
  rintro e v2 ⟨rfl, hb⟩
  have B2 := Lib.hid (B1.out.trans (hb.mono B1.out.size))
  have R2 := co R1 hb
  have S2 := co S1 hb
  clear hb r0 s0 r1 s1 r2 s2 r3 s3 r4 s4 r5 s5 r6 s6 r7 s7
  have r0 := row_c (i := 0) R2.out rfl
  have s0 := row_c (i := 0) S2.out rfl
  have r1 := row_c (i := 1) R2.out rfl
  have s1 := row_c (i := 1) S2.out rfl
  have r2 := row_c (i := 2) R2.out rfl
  have s2 := row_c (i := 2) S2.out rfl
  have r3 := row_c (i := 3) R2.out rfl
  have s3 := row_c (i := 3) S2.out rfl
  have r4 := row_c (i := 4) R2.out rfl
  have s4 := row_c (i := 4) S2.out rfl
  have r5 := row_c (i := 5) R2.out rfl
  have s5 := row_c (i := 5) S2.out rfl
  have r6 := row_c (i := 6) R2.out rfl
  have s6 := row_c (i := 6) S2.out rfl
  have r7 := row_c (i := 7) R2.out rfl
  have s7 := row_c (i := 7) S2.out rfl
  go_wp2_with fail
  refine (dSame_q (q := true) (HE.out.below B2.out) (HE'.out.below B2.out) (Nat.le_trans HS.out.2.1 (by omega)) (decide_eq_true ⟨rfl, rfl⟩)).mono ?_
  rintro e v3 ⟨rfl, hb⟩
  have B3 := Lib.hid (B2.out.trans (hb.mono B2.out.size))
  have R3 := co R2 hb
  have S3 := co S2 hb
  clear hb r0 s0 r1 s1 r2 s2 r3 s3 r4 s4 r5 s5 r6 s6 r7 s7
  have r0 := row_c (i := 0) R3.out rfl
  have s0 := row_c (i := 0) S3.out rfl
  have r1 := row_c (i := 1) R3.out rfl
  have s1 := row_c (i := 1) S3.out rfl
  have r2 := row_c (i := 2) R3.out rfl
  have s2 := row_c (i := 2) S3.out rfl
  have r3 := row_c (i := 3) R3.out rfl
  have s3 := row_c (i := 3) S3.out rfl
  have r4 := row_c (i := 4) R3.out rfl
  have s4 := row_c (i := 4) S3.out rfl
  have r5 := row_c (i := 5) R3.out rfl
  have s5 := row_c (i := 5) S3.out rfl
  have r6 := row_c (i := 6) R3.out rfl
  have s6 := row_c (i := 6) S3.out rfl
  have r7 := row_c (i := 7) R3.out rfl
  have s7 := row_c (i := 7) S3.out rfl
  go_wp2
  clear r0 s0 r1 s1 r2 s2 r3 s3 r4 s4 r5 s5 r6 s6 r7 s7
  go_loopw [5] (fun i wr => ∃ j : Nat, j ≤ cs.length ∧ i = .int .i64 j ∧ Hid (Below w.heap.size w wr) ∧ Hid (wr.heap[w.heap.size]? = some (.cells #[.bool (decide (a.1 < 0)), .slice A (digs a.1.natAbs).length c, .int .i64 a.2, .int .i64 W, .slice P cs.length k, .bool (decide (er.1 < 0)), .slice B (digs er.1.natAbs).length d, .int .i64 er.2] 46 (0, 0))) ∧ Hid (wr.heap[w.heap.size + 1]? = some (.cells #[.bool (decide (a.1 < 0)), .slice A' (digs a.1.natAbs).length c', .int .i64 a.2, .int .i64 W, .slice P' cs.length k', .bool (decide (er.1 < 0)), .slice B' (digs er.1.natAbs).length d', .int .i64 er.2] 46 (0, 0)))) (fun i _ => cs.length - (intOf i).toNat)
  case atStart => exact ⟨0, Nat.zero_le _, rfl, B3, R3, S3⟩
  case round =>
    obtain ⟨j, hj, rfl, HB, HR, HS2⟩ := hrel
    have r4 := row_c (i := 4) HR.out rfl
    have s4 := row_c (i := 4) HS2.out rfl
    by_cases hlt : j < cs.length
    · obtain ⟨q, hq⟩ : ∃ q, cs[j]? = some q := ⟨_, List.getElem?_eq_getElem hlt⟩
      obtain ⟨b1, o1, A1, c1, rfl, hb1, x0, x1, x2, hd1⟩ := nsl_at (HN.out.below HB.out) hq
      obtain ⟨b2, o2, A2, c2, rfl, hb2, y0, y1, y2, hd2⟩ := nsl_at (HN'.out.below HB.out) hq
      have HQL := Lib.hid (HS.out.2.2 q (List.mem_of_getElem? hq))
      have HLT := Lib.hid hlt
      have D1 := Lib.hid hd1
      have D2 := Lib.hid hd2
      have hji : ((j : Nat) : Int) < ((cs.length : Nat) : Int) := by omega
      have xr := heap_lt HR.out
      have xs := heap_lt HS2.out
      clear hq hd1 hd2
      go_upto_region 6 with (fail)
      have KD := Lib.hid (bd0 wr)
      go_region_held3 (fun w' => ∀ b o, b < wr.heap.size → w'.cell? ⟨b, o, none⟩ = wr.cell? ⟨b, o, none⟩)
        (first | with_reducible exact (bcell KD.out).1 | with_reducible exact (bcell K5.out).1)
        (first
          | (go_at_call 30; (with_reducible refine (dSame_q (q := true) (D1.out.below KD.out) (D2.out.below KD.out) (Nat.le_trans HQL.out (by omega)) (decide_eq_true ⟨rfl, rfl⟩)).mono ?_); rintro e w5 ⟨rfl, hb⟩; (have K5 := bt KD hb); clear hb))
      rename_i hHeld
      clear hHeld
      have B5 := Lib.hid (HB.out.trans (K5.out.mono HB.out.size))
      have R5 := co HR K5.out
      have S5 := co HS2 K5.out
      clear KD K5 r4 s4 x0 x1 x2 y0 y1 y2 xr xs hb1 hb2
      go_wp2
      go_roundw
      case rel =>
        have hl1 := HLT.out
        have hw : wrap64 ((j : Int) + 1) = (j : Int) + 1 := IntWalk.wrap64_in _ ⟨by omega, by omega⟩
        exact ⟨j + 1, HLT.out, (by first | rw [hw]; exact congrArg _ (by omega) | exact congrArg _ (by omega)), B5, R5, S5⟩
      case measure =>
        have hl1 := HLT.out
        have hw : wrap64 ((j : Int) + 1) = (j : Int) + 1 := IntWalk.wrap64_in _ ⟨by omega, by omega⟩
        try rw [hw]
        clear hw
        simp [intOf]; omega
    · obtain rfl : j = cs.length := by omega
      go_wp2
      go_ret
      exact ⟨rfl, HB.out⟩
theorem psl_at {w : World} {P : Option Addr} {zs : List PdZ} (h : PsL w P (zs.map PdZ.to)) {i : Nat} {p : PdZ} (hp : zs[i]? = some p) : ∃ b o A c P2 k B d, P = some ⟨b, o, none⟩ ∧ b < w.heap.size ∧ w.cell? ⟨b, o + i * 8, none⟩ = some (.bool (decide (p.a.1 < 0))) ∧ w.cell? ⟨b, o + i * 8 + 1, none⟩ = some (.slice A (digs p.a.1.natAbs).length c) ∧ w.cell? ⟨b, o + i * 8 + 2, none⟩ = some (.int .i64 p.a.2) ∧ w.cell? ⟨b, o + i * 8 + 3, none⟩ = some (.int .i64 p.w) ∧ w.cell? ⟨b, o + i * 8 + 4, none⟩ = some (.slice P2 p.cs.length k) ∧ w.cell? ⟨b, o + i * 8 + 5, none⟩ = some (.bool (decide (p.er.1 < 0))) ∧ w.cell? ⟨b, o + i * 8 + 6, none⟩ = some (.slice B (digs p.er.1.natAbs).length d) ∧ w.cell? ⟨b, o + i * 8 + 7, none⟩ = some (.int .i64 p.er.2) ∧ Dg w A c (digs p.a.1.natAbs) ∧ Dg w B d (digs p.er.1.natAbs) ∧ NsL w P2 k (p.cs.map nmOf) := by
  have hi : i < zs.length := by
    rcases Nat.lt_or_ge i zs.length with h1 | h1
    · exact h1
    · rw [List.getElem?_eq_none_iff.2 h1] at hp; cases hp
  obtain ⟨b, o, e, hb, hr⟩ := h (by rw [List.length_map]; omega)
  obtain ⟨A, c, B, d, P2, k, e0, e1, e2, e3, e4, e5, e6, e7, ha, he, hn⟩ := hr i p.to (by rw [List.getElem?_map, hp]; rfl)
  refine ⟨b, o, A, c, P2, k, B, d, e, hb, e0, e1, e2, e3, ?_, e5, e6, e7, ha, he, hn⟩
  rw [e4]
  show some (Value.slice P2 (p.cs.map nmOf).length k) = _
  rw [List.length_map]
set_option maxHeartbeats 4000000 in
set_option maxRecDepth 100000 in
theorem tsame15 (A P A' P' : Option Addr) (c k c' k' : Nat) (F O W Q D : Int) (a : Int × Int) (zs : List PdZ) (w : World) (ha : Dg w A c (digs a.1.natAbs)) (hp : PsL w P (zs.map PdZ.to)) (ha' : Dg w A' c' (digs a.1.natAbs)) (hp' : PsL w P' (zs.map PdZ.to)) (hla : (digs a.1.natAbs).length ≤ 10000) (hs : ∀ p, p ∈ zs → SmZ p ∧ p.cs.length ≤ 1000000) (hl : zs.length ≤ 1000000) :
    Calls Tryd.prog 18 #[.agg #[.int .i64 F, .int .i64 O, .bool (decide (a.1 < 0)), .slice A (digs a.1.natAbs).length c, .int .i64 a.2, .int .i64 W, .int .i64 Q, .int .i64 D, .slice P zs.length k], .agg #[.int .i64 F, .int .i64 O, .bool (decide (a.1 < 0)), .slice A' (digs a.1.natAbs).length c', .int .i64 a.2, .int .i64 W, .int .i64 Q, .int .i64 D, .slice P' zs.length k']] w fun e w' => e = .returned (.bool true) ∧ Below w.heap.size w w' := by
  have HA := Lib.hid ha
  have HN := Lib.hid hp
  have HA' := Lib.hid ha'
  have HN' := Lib.hid hp'
  have HS := Lib.hid hs
  have HL := Lib.hid hla
  clear ha hp ha' hp' hs hla
  go_enter Tryd.func18, Tryd.ntmps18
  go_upto_region 1 with fail
  obtain ⟨v1, hW⟩ : ∃ V : World, (w.alloc (.cells #[.int .i64 F, .int .i64 O, .bool (decide (a.1 < 0)), .slice A (digs a.1.natAbs).length c, .int .i64 a.2, .int .i64 W, .int .i64 Q, .int .i64 D, .slice P zs.length k] 29)).alloc (.cells #[.int .i64 F, .int .i64 O, .bool (decide (a.1 < 0)), .slice A' (digs a.1.natAbs).length c', .int .i64 a.2, .int .i64 W, .int .i64 Q, .int .i64 D, .slice P' zs.length k'] 29) = V := ⟨_, rfl⟩
  rw [hW]
  have B1 := Lib.hid (show Below w.heap.size w v1 by rw [← hW]; exact ((Below.refl _ _).alloc (by simp <;> omega) _).alloc (by simp <;> omega) _)
  have R1 := Lib.hid (show v1.heap[w.heap.size]? = some (.cells #[.int .i64 F, .int .i64 O, .bool (decide (a.1 < 0)), .slice A (digs a.1.natAbs).length c, .int .i64 a.2, .int .i64 W, .int .i64 Q, .int .i64 D, .slice P zs.length k] 29 (0, 0)) by rw [← hW, heap_alloc_old _ _ (by simp)]; exact heap_alloc_new _ _)
  have S1 := Lib.hid (show v1.heap[w.heap.size + 1]? = some (.cells #[.int .i64 F, .int .i64 O, .bool (decide (a.1 < 0)), .slice A' (digs a.1.natAbs).length c', .int .i64 a.2, .int .i64 W, .int .i64 Q, .int .i64 D, .slice P' zs.length k'] 29 (0, 0)) by rw [← hW]; have := heap_alloc_new (w.alloc (.cells #[.int .i64 F, .int .i64 O, .bool (decide (a.1 < 0)), .slice A (digs a.1.natAbs).length c, .int .i64 a.2, .int .i64 W, .int .i64 Q, .int .i64 D, .slice P zs.length k] 29)) (.cells #[.int .i64 F, .int .i64 O, .bool (decide (a.1 < 0)), .slice A' (digs a.1.natAbs).length c', .int .i64 a.2, .int .i64 W, .int .i64 Q, .int .i64 D, .slice P' zs.length k'] 29); simpa using this)
  clear hW
  have r0 := row_c (i := 0) R1.out rfl
  have s0 := row_c (i := 0) S1.out rfl
  have r1 := row_c (i := 1) R1.out rfl
  have s1 := row_c (i := 1) S1.out rfl
  have r2 := row_c (i := 2) R1.out rfl
  have s2 := row_c (i := 2) S1.out rfl
  have r3 := row_c (i := 3) R1.out rfl
  have s3 := row_c (i := 3) S1.out rfl
  have r4 := row_c (i := 4) R1.out rfl
  have s4 := row_c (i := 4) S1.out rfl
  have r5 := row_c (i := 5) R1.out rfl
  have s5 := row_c (i := 5) S1.out rfl
  have r6 := row_c (i := 6) R1.out rfl
  have s6 := row_c (i := 6) S1.out rfl
  have r7 := row_c (i := 7) R1.out rfl
  have s7 := row_c (i := 7) S1.out rfl
  have r8 := row_c (i := 8) R1.out rfl
  have s8 := row_c (i := 8) S1.out rfl
  go_wp2_with fail
  refine (dSame_q (q := true) (HA.out.below B1.out) (HA'.out.below B1.out) HL.out (decide_eq_true ⟨rfl, rfl⟩)).mono ?_
  rintro e v2 ⟨rfl, hb⟩
  have B2 := Lib.hid (B1.out.trans (hb.mono B1.out.size))
  have R2 := co R1 hb
  have S2 := co S1 hb
  clear hb r0 s0 r1 s1 r2 s2 r3 s3 r4 s4 r5 s5 r6 s6 r7 s7 r8 s8
  have r0 := row_c (i := 0) R2.out rfl
  have s0 := row_c (i := 0) S2.out rfl
  have r1 := row_c (i := 1) R2.out rfl
  have s1 := row_c (i := 1) S2.out rfl
  have r2 := row_c (i := 2) R2.out rfl
  have s2 := row_c (i := 2) S2.out rfl
  have r3 := row_c (i := 3) R2.out rfl
  have s3 := row_c (i := 3) S2.out rfl
  have r4 := row_c (i := 4) R2.out rfl
  have s4 := row_c (i := 4) S2.out rfl
  have r5 := row_c (i := 5) R2.out rfl
  have s5 := row_c (i := 5) S2.out rfl
  have r6 := row_c (i := 6) R2.out rfl
  have s6 := row_c (i := 6) S2.out rfl
  have r7 := row_c (i := 7) R2.out rfl
  have s7 := row_c (i := 7) S2.out rfl
  have r8 := row_c (i := 8) R2.out rfl
  have s8 := row_c (i := 8) S2.out rfl
  go_wp2
  clear r0 s0 r1 s1 r2 s2 r3 s3 r4 s4 r5 s5 r6 s6 r7 s7 r8 s8
  go_loopw [5] (fun i wr => ∃ j : Nat, j ≤ zs.length ∧ i = .int .i64 j ∧ Hid (Below w.heap.size w wr) ∧ Hid (wr.heap[w.heap.size]? = some (.cells #[.int .i64 F, .int .i64 O, .bool (decide (a.1 < 0)), .slice A (digs a.1.natAbs).length c, .int .i64 a.2, .int .i64 W, .int .i64 Q, .int .i64 D, .slice P zs.length k] 29 (0, 0))) ∧ Hid (wr.heap[w.heap.size + 1]? = some (.cells #[.int .i64 F, .int .i64 O, .bool (decide (a.1 < 0)), .slice A' (digs a.1.natAbs).length c', .int .i64 a.2, .int .i64 W, .int .i64 Q, .int .i64 D, .slice P' zs.length k'] 29 (0, 0)))) (fun i _ => zs.length - (intOf i).toNat)
  case atStart => exact ⟨0, Nat.zero_le _, rfl, B2, R2, S2⟩
  case round =>
    obtain ⟨j, hj, rfl, HB, HR, HS2⟩ := hrel
    have r8 := row_c (i := 8) HR.out rfl
    have s8 := row_c (i := 8) HS2.out rfl
    by_cases hlt : j < zs.length
    · obtain ⟨p, hq⟩ : ∃ p, zs[j]? = some p := ⟨_, List.getElem?_eq_getElem hlt⟩
      obtain ⟨b1, o1, A1, c1, P1, k1, D1, d1, rfl, hb1, x0, x1, x2, x3, x4, x5, x6, x7, ha1, he1, hn1⟩ := psl_at (HN.out.below HB.out) hq
      obtain ⟨b2, o2, A2, c2, P2, k2, D2, d2, rfl, hb2, y0, y1, y2, y3, y4, y5, y6, y7, ha2, he2, hn2⟩ := psl_at (HN'.out.below HB.out) hq
      have HQ := Lib.hid (HS.out p (List.mem_of_getElem? hq))
      have HLT := Lib.hid hlt
      have HP := Lib.hid (fun (V : World) (hb : Below wr.heap.size wr V) => psame_any A1 D1 P1 A2 D2 P2 c1 d1 k1 c2 d2 k2 p V (ha1.below hb) (he1.below hb) (hn1.below hb) (ha2.below hb) (he2.below hb) (hn2.below hb) HQ.out.1 HQ.out.2)
      have hji : ((j : Nat) : Int) < ((zs.length : Nat) : Int) := by omega
      have xr := heap_lt HR.out
      have xs := heap_lt HS2.out
      clear hq ha1 he1 hn1 ha2 he2 hn2
      go_upto_region 6 with (fail)
      have KD := Lib.hid (bd0 wr)
      go_region_held3 (fun w' => ∀ b o, b < wr.heap.size → w'.cell? ⟨b, o, none⟩ = wr.cell? ⟨b, o, none⟩)
        (first | with_reducible exact (bcell KD.out).1 | with_reducible exact (bcell K5.out).1)
        (first
          | (go_at_call 31; (with_reducible refine (HP.out _ KD.out).mono ?_); rintro e w5 ⟨rfl, hb⟩; (have K5 := bt KD hb); clear hb))
      rename_i hHeld
      clear hHeld
      have B5 := Lib.hid (HB.out.trans (K5.out.mono HB.out.size))
      have R5 := co HR K5.out
      have S5 := co HS2 K5.out
      clear KD K5 r8 s8 x0 x1 x2 x3 x4 x5 x6 x7 y0 y1 y2 y3 y4 y5 y6 y7 xr xs hb1 hb2
      go_wp2
      go_roundw
      case rel =>
        have hl1 := HLT.out
        have hw : wrap64 ((j : Int) + 1) = (j : Int) + 1 := IntWalk.wrap64_in _ ⟨by omega, by omega⟩
        exact ⟨j + 1, HLT.out, (by first | rw [hw]; exact congrArg _ (by omega) | exact congrArg _ (by omega)), B5, R5, S5⟩
      case measure =>
        have hl1 := HLT.out
        have hw : wrap64 ((j : Int) + 1) = (j : Int) + 1 := IntWalk.wrap64_in _ ⟨by omega, by omega⟩
        try rw [hw]
        clear hw
        simp [intOf]; omega
    · obtain rfl : j = zs.length := by omega
      go_wp2
      go_ret
      exact ⟨rfl, HB.out⟩
set_option maxHeartbeats 4000000 in
set_option maxRecDepth 100000 in
theorem tsame_any {A P A' P' : Option Addr} {c k c' k' : Nat} {F O W Q D : Int} {a : Int × Int} {zs : List PdZ} {w : World} (ha : Dg w A c (digs a.1.natAbs)) (hp : PsL w P (zs.map PdZ.to)) (ha' : Dg w A' c' (digs a.1.natAbs)) (hp' : PsL w P' (zs.map PdZ.to)) (hla : (digs a.1.natAbs).length ≤ 10000) (hs : ∀ p, p ∈ zs → SmZ p ∧ p.cs.length ≤ 1000000) (hl : zs.length ≤ 1000000) :
    Calls Tryd.prog 9 #[.agg #[.int .i64 F, .int .i64 O, .bool (decide (a.1 < 0)), .slice A (digs a.1.natAbs).length c, .int .i64 a.2, .int .i64 W, .int .i64 Q, .int .i64 D, .slice P zs.length k], .agg #[.int .i64 F, .int .i64 O, .bool (decide (a.1 < 0)), .slice A' (digs a.1.natAbs).length c', .int .i64 a.2, .int .i64 W, .int .i64 Q, .int .i64 D, .slice P' zs.length k']] w fun e w' => e = .returned (.bool true) ∧ Below w.heap.size w w' := by
  have HC := Lib.hid (fun (V : World) (hb : Below w.heap.size w V) => tsame15 A P A' P' c k c' k' F O W Q D a zs V (ha.below hb) (hp.below hb) (ha'.below hb) (hp'.below hb) hla hs hl)
  clear ha hp ha' hp' hla hs hl
  go_enter Tryd.func9, Tryd.ntmps9
  go_upto_region 1 with fail
  obtain ⟨v1, hW⟩ : ∃ V : World, (w.alloc (.cells #[.int .i64 F, .int .i64 O, .bool (decide (a.1 < 0)), .slice A (digs a.1.natAbs).length c, .int .i64 a.2, .int .i64 W, .int .i64 Q, .int .i64 D, .slice P zs.length k] 29)).alloc (.cells #[.int .i64 F, .int .i64 O, .bool (decide (a.1 < 0)), .slice A' (digs a.1.natAbs).length c', .int .i64 a.2, .int .i64 W, .int .i64 Q, .int .i64 D, .slice P' zs.length k'] 29) = V := ⟨_, rfl⟩
  rw [hW]
  have B1 := Lib.hid (show Below w.heap.size w v1 by rw [← hW]; exact ((Below.refl _ _).alloc (by simp <;> omega) _).alloc (by simp <;> omega) _)
  have R1 := Lib.hid (show v1.heap[w.heap.size]? = some (.cells #[.int .i64 F, .int .i64 O, .bool (decide (a.1 < 0)), .slice A (digs a.1.natAbs).length c, .int .i64 a.2, .int .i64 W, .int .i64 Q, .int .i64 D, .slice P zs.length k] 29 (0, 0)) by rw [← hW, heap_alloc_old _ _ (by simp)]; exact heap_alloc_new _ _)
  have S1 := Lib.hid (show v1.heap[w.heap.size + 1]? = some (.cells #[.int .i64 F, .int .i64 O, .bool (decide (a.1 < 0)), .slice A' (digs a.1.natAbs).length c', .int .i64 a.2, .int .i64 W, .int .i64 Q, .int .i64 D, .slice P' zs.length k'] 29 (0, 0)) by rw [← hW]; have := heap_alloc_new (w.alloc (.cells #[.int .i64 F, .int .i64 O, .bool (decide (a.1 < 0)), .slice A (digs a.1.natAbs).length c, .int .i64 a.2, .int .i64 W, .int .i64 Q, .int .i64 D, .slice P zs.length k] 29)) (.cells #[.int .i64 F, .int .i64 O, .bool (decide (a.1 < 0)), .slice A' (digs a.1.natAbs).length c', .int .i64 a.2, .int .i64 W, .int .i64 Q, .int .i64 D, .slice P' zs.length k'] 29); simpa using this)
  clear hW
  have r0 := row_c (i := 0) R1.out rfl
  have s0 := row_c (i := 0) S1.out rfl
  have r1 := row_c (i := 1) R1.out rfl
  have s1 := row_c (i := 1) S1.out rfl
  have r2 := row_c (i := 2) R1.out rfl
  have s2 := row_c (i := 2) S1.out rfl
  have r3 := row_c (i := 3) R1.out rfl
  have s3 := row_c (i := 3) S1.out rfl
  have r4 := row_c (i := 4) R1.out rfl
  have s4 := row_c (i := 4) S1.out rfl
  have r5 := row_c (i := 5) R1.out rfl
  have s5 := row_c (i := 5) S1.out rfl
  have r6 := row_c (i := 6) R1.out rfl
  have s6 := row_c (i := 6) S1.out rfl
  have r7 := row_c (i := 7) R1.out rfl
  have s7 := row_c (i := 7) S1.out rfl
  have r8 := row_c (i := 8) R1.out rfl
  have s8 := row_c (i := 8) S1.out rfl
  go_wp2_with fail
  refine (HC.out v1 B1.out).mono ?_
  rintro e v2 ⟨rfl, hb⟩
  have B2 := Lib.hid (B1.out.trans (hb.mono B1.out.size))
  clear hb r0 s0 r1 s1 r2 s2 r3 s3 r4 s4 r5 s5 r6 s6 r7 s7 r8 s8
  go_wp2
  go_ret
  exact ⟨rfl, B2.out⟩
end Go.Proofs.YtfhdhldgflbpjaaDoor
end

section
/-
  The least table; the examples.
-/
namespace Go.Proofs.YtfhdhldgflbpjaaDoor
open Go.RowKit
set_option linter.unusedSimpArgs false
set_option linter.unusedVariables false
/-- The least table. -/
def lz : List PdZ := [⟨(1, 0), 0, [(1, 0), (0, 0)], (0, 0)⟩]
theorem lzp : lz.map PdZ.to = [⟨(false, [1], 0), 0, [(false, [1], 0), (false, [], 0)], (false, [], 0)⟩] := by
  have e1 : digs (1 : Int).natAbs = [1] := digs_one (by decide) (by decide)
  have e0 : digs (0 : Int).natAbs = [] := digs_zero
  unfold lz PdZ.to nmOf
  simp only [List.map_cons, List.map_nil, e1, e0]
  rfl
theorem line_dg {w : World} {b : Nat} {T : TypeId} {fr : Nat × Nat} (h : w.heap[b]? = some (.cells #[.int .u32 1] T fr)) : Dg w (some ⟨b, 0, none⟩) 1 [1] := by
  refine ⟨Nat.le_refl _, fun x hx => by simp at hx; omega, fun _ => ⟨b, 0, rfl, heap_lt h, fun j hj => ?_⟩⟩
  obtain rfl : j = 0 := by simp at hj; omega
  exact row_c (i := 0) h rfl
theorem line_ps {w : World} {b1 b2 b3 : Nat} {fr fr2 : Nat × Nat} {T T2 : TypeId} (h3 : w.heap[b2]? = some (.cells #[.bool false, .slice (some ⟨b1, 0, none⟩) 1 1, .int .i64 0, .bool false, .slice none 0 0, .int .i64 0] T fr)) (h4 : w.heap[b3]? = some (.cells #[.bool false, .slice (some ⟨b1, 0, none⟩) 1 1, .int .i64 0, .int .i64 0, .slice (some ⟨b2, 0, none⟩) 2 2, .bool false, .slice none 0 0, .int .i64 0] T2 fr2)) (hd : Dg w (some ⟨b1, 0, none⟩) 1 [1]) : PsL w (some ⟨b3, 0, none⟩) (lz.map PdZ.to) := by
  rw [lzp]
  refine fun _ => ⟨b3, 0, rfl, heap_lt h4, fun i p hp => ?_⟩
  rcases i with _ | i
  · obtain rfl := Option.some.inj hp
    refine ⟨some ⟨b1, 0, none⟩, 1, none, 0, some ⟨b2, 0, none⟩, 2, row_c (i := 0) h4 rfl, row_c (i := 1) h4 rfl, row_c (i := 2) h4 rfl, row_c (i := 3) h4 rfl, row_c (i := 4) h4 rfl, row_c (i := 5) h4 rfl, row_c (i := 6) h4 rfl, row_c (i := 7) h4 rfl, hd, Dg.nil_ _ _, ?_⟩
    refine ⟨fun i => if i = 0 then some ⟨b1, 0, none⟩ else none, fun i => if i = 0 then 1 else 0, by decide, fun _ => ⟨b2, 0, rfl, heap_lt h3, fun i hi => ?_⟩⟩
    rcases i with _ | _ | i
    · exact ⟨row_c (i := 0) h3 rfl, row_c (i := 1) h3 rfl, row_c (i := 2) h3 rfl, hd⟩
    · exact ⟨row_c (i := 3) h3 rfl, row_c (i := 4) h3 rfl, row_c (i := 5) h3 rfl, Dg.nil_ _ _⟩
    · simp at hi; omega
  · simp at hp
theorem line_right : rightT 3 0 (nmOf (1, 0)) 0 4 1 (lz.map PdZ.to) = true := by
  rw [lzp, show nmOf (1, 0) = (false, [1], 0) by unfold nmOf; rw [show digs ((1, 0) : Int × Int).1.natAbs = [1] from digs_one (by decide) (by decide)]; rfl]
  decide +kernel
theorem line_enc : (encS 3 0 (nmOf (1, 0)) 0 4 1 (lz.map PdZ.to)).2 = 0 ∧ (encS 3 0 (nmOf (1, 0)) 0 4 1 (lz.map PdZ.to)).1.length = 32 := by
  rw [lzp, show nmOf (1, 0) = (false, [1], 0) by unfold nmOf; rw [show digs ((1, 0) : Int × Int).1.natAbs = [1] from digs_one (by decide) (by decide)]; rfl]
  decide +kernel
theorem dec_nil : decT [] = none := by
  cases h : decT [] with
  | none => rfl
  | some T =>
    exfalso
    obtain ⟨h1, h2⟩ := dec_back h
    unfold TbZ.enc at h1 h2
    obtain ⟨_, he, ee⟩ := enc_parts h1
    rw [ee] at h2
    unfold outB at h2
    rw [if_pos he] at h2
    have := encS_pos T.F T.O (nmOf T.a) T.W T.Q T.D (T.ps.map PdZ.to)
    rw [h2] at this
    simp at this
set_option maxHeartbeats 4000000 in
set_option maxRecDepth 100000 in
theorem line_any (w : World) :
    Calls Tryd.prog 11 #[] w fun e w' => ∃ A P, e = .returned (.agg #[.int .i64 3, .int .i64 0, .bool false, .slice A 1 1, .int .i64 0, .int .i64 0, .int .i64 4, .int .i64 1, .slice P 1 1]) ∧ Dg w' A 1 [1] ∧ PsL w' P (lz.map PdZ.to) ∧ Below w.heap.size w w' := by
  go_enter Tryd.func11, Tryd.ntmps11
  go_wp2
  obtain ⟨wz, hW⟩ : ∃ V : World, (((((w.alloc (.cells #[.int .i64 3, .int .i64 0, .bool false, .slice (some ⟨w.heap.size + 1, 0, none⟩) 1 1, .int .i64 0, .int .i64 0, .int .i64 4, .int .i64 1, .slice (some ⟨w.heap.size + 1 + 1 + 1 + 1, 0, none⟩) 1 1] 29)).alloc (.cells #[.int .u32 1] 56)).alloc (.cells #[.bool false, .slice (some ⟨w.heap.size + 1, 0, none⟩) 1 1, .int .i64 0] 26)).alloc (.cells #[.bool false, .slice (some ⟨w.heap.size + 1, 0, none⟩) 1 1, .int .i64 0, .bool false, .slice none 0 0, .int .i64 0] 26)).alloc (.cells #[.bool false, .slice (some ⟨w.heap.size + 1, 0, none⟩) 1 1, .int .i64 0, .int .i64 0, .slice (some ⟨w.heap.size + 1 + 1 + 1, 0, none⟩) 2 2, .bool false, .slice none 0 0, .int .i64 0] 46)) = V := ⟨_, rfl⟩
  rw [hW]
  have R0 := Lib.hid (show wz.heap[w.heap.size]? = some (.cells #[.int .i64 3, .int .i64 0, .bool false, .slice (some ⟨w.heap.size + 1, 0, none⟩) 1 1, .int .i64 0, .int .i64 0, .int .i64 4, .int .i64 1, .slice (some ⟨w.heap.size + 1 + 1 + 1 + 1, 0, none⟩) 1 1] 29 (0, 0)) by rw [← hW]; have := heap_alloc_new w (.cells #[.int .i64 3, .int .i64 0, .bool false, .slice (some ⟨w.heap.size + 1, 0, none⟩) 1 1, .int .i64 0, .int .i64 0, .int .i64 4, .int .i64 1, .slice (some ⟨w.heap.size + 1 + 1 + 1 + 1, 0, none⟩) 1 1] 29); rw [heap_alloc_old _ _ (by simp <;> omega)]; rw [heap_alloc_old _ _ (by simp <;> omega)]; rw [heap_alloc_old _ _ (by simp <;> omega)]; rw [heap_alloc_old _ _ (by simp <;> omega)]; simpa using this)
  have R1 := Lib.hid (show wz.heap[w.heap.size + 1]? = some (.cells #[.int .u32 1] 56 (0, 0)) by rw [← hW]; have := heap_alloc_new (w.alloc (.cells #[.int .i64 3, .int .i64 0, .bool false, .slice (some ⟨w.heap.size + 1, 0, none⟩) 1 1, .int .i64 0, .int .i64 0, .int .i64 4, .int .i64 1, .slice (some ⟨w.heap.size + 1 + 1 + 1 + 1, 0, none⟩) 1 1] 29)) (.cells #[.int .u32 1] 56); rw [heap_alloc_old _ _ (by simp <;> omega)]; rw [heap_alloc_old _ _ (by simp <;> omega)]; rw [heap_alloc_old _ _ (by simp <;> omega)]; simpa using this)
  have R2 := Lib.hid (show wz.heap[w.heap.size + 1 + 1]? = some (.cells #[.bool false, .slice (some ⟨w.heap.size + 1, 0, none⟩) 1 1, .int .i64 0] 26 (0, 0)) by rw [← hW]; have := heap_alloc_new ((w.alloc (.cells #[.int .i64 3, .int .i64 0, .bool false, .slice (some ⟨w.heap.size + 1, 0, none⟩) 1 1, .int .i64 0, .int .i64 0, .int .i64 4, .int .i64 1, .slice (some ⟨w.heap.size + 1 + 1 + 1 + 1, 0, none⟩) 1 1] 29)).alloc (.cells #[.int .u32 1] 56)) (.cells #[.bool false, .slice (some ⟨w.heap.size + 1, 0, none⟩) 1 1, .int .i64 0] 26); rw [heap_alloc_old _ _ (by simp <;> omega)]; rw [heap_alloc_old _ _ (by simp <;> omega)]; simpa using this)
  have R3 := Lib.hid (show wz.heap[w.heap.size + 1 + 1 + 1]? = some (.cells #[.bool false, .slice (some ⟨w.heap.size + 1, 0, none⟩) 1 1, .int .i64 0, .bool false, .slice none 0 0, .int .i64 0] 26 (0, 0)) by rw [← hW]; have := heap_alloc_new (((w.alloc (.cells #[.int .i64 3, .int .i64 0, .bool false, .slice (some ⟨w.heap.size + 1, 0, none⟩) 1 1, .int .i64 0, .int .i64 0, .int .i64 4, .int .i64 1, .slice (some ⟨w.heap.size + 1 + 1 + 1 + 1, 0, none⟩) 1 1] 29)).alloc (.cells #[.int .u32 1] 56)).alloc (.cells #[.bool false, .slice (some ⟨w.heap.size + 1, 0, none⟩) 1 1, .int .i64 0] 26)) (.cells #[.bool false, .slice (some ⟨w.heap.size + 1, 0, none⟩) 1 1, .int .i64 0, .bool false, .slice none 0 0, .int .i64 0] 26); rw [heap_alloc_old _ _ (by simp <;> omega)]; simpa using this)
  have R4 := Lib.hid (show wz.heap[w.heap.size + 1 + 1 + 1 + 1]? = some (.cells #[.bool false, .slice (some ⟨w.heap.size + 1, 0, none⟩) 1 1, .int .i64 0, .int .i64 0, .slice (some ⟨w.heap.size + 1 + 1 + 1, 0, none⟩) 2 2, .bool false, .slice none 0 0, .int .i64 0] 46 (0, 0)) by rw [← hW]; have := heap_alloc_new ((((w.alloc (.cells #[.int .i64 3, .int .i64 0, .bool false, .slice (some ⟨w.heap.size + 1, 0, none⟩) 1 1, .int .i64 0, .int .i64 0, .int .i64 4, .int .i64 1, .slice (some ⟨w.heap.size + 1 + 1 + 1 + 1, 0, none⟩) 1 1] 29)).alloc (.cells #[.int .u32 1] 56)).alloc (.cells #[.bool false, .slice (some ⟨w.heap.size + 1, 0, none⟩) 1 1, .int .i64 0] 26)).alloc (.cells #[.bool false, .slice (some ⟨w.heap.size + 1, 0, none⟩) 1 1, .int .i64 0, .bool false, .slice none 0 0, .int .i64 0] 26)) (.cells #[.bool false, .slice (some ⟨w.heap.size + 1, 0, none⟩) 1 1, .int .i64 0, .int .i64 0, .slice (some ⟨w.heap.size + 1 + 1 + 1, 0, none⟩) 2 2, .bool false, .slice none 0 0, .int .i64 0] 46); simpa using this)
  have BZ := Lib.hid (show Below w.heap.size w wz by rw [← hW]; exact ((((((Below.refl _ _).alloc (by simp <;> omega) _).alloc (by simp <;> omega) _).alloc (by simp <;> omega) _).alloc (by simp <;> omega) _).alloc (by simp <;> omega) _))
  clear hW
  have g0 := row_c (i := 0) R0.out rfl
  have g1 := row_c (i := 1) R0.out rfl
  have g2 := row_c (i := 2) R0.out rfl
  have g3 := row_c (i := 3) R0.out rfl
  have g4 := row_c (i := 4) R0.out rfl
  have g5 := row_c (i := 5) R0.out rfl
  have g6 := row_c (i := 6) R0.out rfl
  have g7 := row_c (i := 7) R0.out rfl
  have g8 := row_c (i := 8) R0.out rfl
  refine bodyPost_ret (v := .agg #[.int .i64 3, .int .i64 0, .bool false, .slice (some ⟨w.heap.size + 1, 0, none⟩) 1 1, .int .i64 0, .int .i64 0, .int .i64 4, .int .i64 1, .slice (some ⟨w.heap.size + 1 + 1 + 1 + 1, 0, none⟩) 1 1]) (by simp [results, Tryd.results11, go_sem, g0, g1, g2, g3, g4, g5, g6, g7, g8]) rfl ?_
  have HD := line_dg R1.out
  refine ⟨_, _, rfl, HD, line_ps R3.out R4.out HD, BZ.out⟩
/-- The least table's bytes. -/
def encL : List UInt8 := (encS 3 0 (nmOf (1, 0)) 0 4 1 (lz.map PdZ.to)).1
theorem encL_len : encL.length = 32 := line_enc.2
theorem nm1 : nmOf (1, 0) = (false, [1], 0) := by unfold nmOf; rw [show digs ((1, 0) : Int × Int).1.natAbs = [1] from digs_one (by decide) (by decide)]; rfl
theorem line_encO : encO 3 0 (false, [1], 0) 0 4 1 (lz.map PdZ.to) = (encL, 0) := by
  rw [← nm1]
  unfold encO
  rw [if_pos line_right]
  exact Prod.ext rfl line_enc.1
theorem line_sm : SmP (lz.map PdZ.to) := by
  rw [lzp]
  intro p hp
  rw [List.mem_singleton] at hp
  subst hp
  exact ⟨by decide, by decide, by decide⟩
theorem enc_line {A P : Option Addr} {w : World} (hd : Dg w A 1 [1]) (hp : PsL w P (lz.map PdZ.to)) (hT : T32 w) :
    Calls Tryd.prog 7 #[.agg #[.int .i64 3, .int .i64 0, .bool false, .slice A 1 1, .int .i64 0, .int .i64 0, .int .i64 4, .int .i64 1, .slice P 1 1]] w fun e w' => e = .returned (.tuple #[.string ⟨encL.toArray⟩, .int .i64 0]) ∧ Below w.heap.size w w' := by
  have h := encode_any (A := A) (P := P) (c := 1) (k := 1) (F := 3) (O := 0) (W := 0) (Q := 4) (D := 1) (a := (false, [1], 0)) (ps := lz.map PdZ.to) hd (by decide) hT hp line_sm
  rw [line_encO] at h
  refine Calls.mono h ?_
  rintro e w' ⟨⟨t, rfl, ht⟩, hb⟩
  have e1 : t = ⟨encL.toArray⟩ := by apply ByteArray.ext; apply Array.toList_inj.1; exact ht
  subst e1
  exact ⟨rfl, hb⟩
theorem size_line {A P : Option Addr} {w : World} (hd : Dg w A 1 [1]) (hp : PsL w P (lz.map PdZ.to)) (hT : T32 w) :
    Calls Tryd.prog 10 #[.agg #[.int .i64 3, .int .i64 0, .bool false, .slice A 1 1, .int .i64 0, .int .i64 0, .int .i64 4, .int .i64 1, .slice P 1 1]] w fun e w' => e = .returned (.int .i64 32) ∧ Below w.heap.size w w' := by
  have h := size_any (A := A) (P := P) (c := 1) (k := 1) (F := 3) (O := 0) (W := 0) (Q := 4) (D := 1) (a := (false, [1], 0)) (ps := lz.map PdZ.to) hd (by decide) hT hp line_sm
  rw [line_encO, show (outB (encL, 0)).length = 32 from encL_len] at h
  exact h
theorem decode_any {l : List UInt8} {w : World} (hT : T32 w) (hl : l.length ≤ 9223372036854775807) :
    Calls Tryd.prog 8 #[.string ⟨l.toArray⟩] w fun e w' => DecP (decT l) e w' ∧ Below w.heap.size w w' := by
  obtain ⟨t, s1, e0⟩ : ∃ t s1, rdS (l, false) = (t, s1) := ⟨(rdS (l, false)).1, (rdS (l, false)).2, rfl⟩
  obtain ⟨sx, hsx⟩ : ∃ z, (if t = 84 then s1 else (s1.1, true)) = z := ⟨_, rfl⟩
  obtain ⟨F, s2, e1⟩ : ∃ t s1, rdS sx = (t, s1) := ⟨(rdS sx).1, (rdS sx).2, rfl⟩
  obtain ⟨O, s3, e2⟩ : ∃ t s1, rdS s2 = (t, s1) := ⟨(rdS s2).1, (rdS s2).2, rfl⟩
  obtain ⟨Q, s4, e3⟩ : ∃ t s1, rdS s3 = (t, s1) := ⟨(rdS s3).1, (rdS s3).2, rfl⟩
  obtain ⟨D, s5, e4⟩ : ∃ t s1, rdS s4 = (t, s1) := ⟨(rdS s4).1, (rdS s4).2, rfl⟩
  obtain ⟨W, s6, e5⟩ : ∃ t s1, rdS s5 = (t, s1) := ⟨(rdS s5).1, (rdS s5).2, rfl⟩
  obtain ⟨n, s7, e6⟩ : ∃ t s1, rdS s6 = (t, s1) := ⟨(rdS s6).1, (rdS s6).2, rfl⟩
  obtain ⟨a, s8, e7⟩ : ∃ t s1, rdN s7 = (t, s1) := ⟨(rdN s7).1, (rdN s7).2, rfl⟩
  refine decode_go l w hT hl (l, false) s1 s2 s3 s4 s5 s6 s7 s8 t F O Q D W n a e0 (by rw [hsx]; exact e1) e2 e3 e4 e5 e6 e7 (decT l) (fun ps nx s hps => ?_)
  have hh : rdH (l, false) = (F, O, Q, D, W - 128, n, a, s8) := by
    unfold rdH
    simp only [e0, hsx, e1, e2, e3, e4, e5, e6, e7]
  have ht : rdT (l, false) = (⟨F, O, Q, D, W - 128, a, ps⟩, s.2) := by
    unfold rdT
    rw [hh]
    dsimp only
    rw [hps]
  unfold decT
  rw [ht]
  rfl
theorem dec_line (w : World) (hT : T32 w) :
    Calls Tryd.prog 8 #[.string ⟨encL.toArray⟩] w fun e w' => ∃ A c P k, e = .returned (.tuple #[.agg #[.int .i64 3, .int .i64 0, .bool false, .slice A 1 c, .int .i64 0, .int .i64 0, .int .i64 4, .int .i64 1, .slice P 1 k], .int .i64 0]) ∧ Dg w' A c [1] ∧ PsL w' P (lz.map PdZ.to) ∧ Below w.heap.size w w' := by
  refine (decode_any hT (by rw [encL_len]; decide)).mono ?_
  rintro e w' ⟨h, hb⟩
  have hd : decT encL = some (tOf 3 0 (nmOf (1, 0)) 0 4 1 (lz.map PdZ.to)) := dec_enc line_right (okZ _ _) line_enc.1
  have hz : tOf 3 0 (nmOf (1, 0)) 0 4 1 (lz.map PdZ.to) = ⟨3, 0, 4, 1, 0, (1, 0), (lz.map PdZ.to).map zOf⟩ := by unfold tOf; rw [nm1]; rfl
  rw [hd, hz] at h
  obtain ⟨A, c, P, k, rfl, h1, h2⟩ := h
  have e1 : digs ((1, 0) : Int × Int).1.natAbs = [1] := digs_one (by decide) (by decide)
  have h3 : ((lz.map PdZ.to).map zOf).map PdZ.to = lz.map PdZ.to := (tOf_back line_right (okZ _ _) line_enc.1).2
  rw [e1] at h1
  rw [h3] at h2
  refine ⟨A, c, P, k, ?_, h1, h2, hb⟩
  rw [e1, List.length_map, List.length_map]
  rfl
theorem dec_empty (w : World) (hT : T32 w) :
    Calls Tryd.prog 8 #[.string ⟨#[]⟩] w fun e w' => e = .returned (.tuple #[.agg #[.int .i64 0, .int .i64 0, .bool false, .slice none 0 0, .int .i64 0, .int .i64 0, .int .i64 0, .int .i64 0, .slice none 0 0], .int .i64 2]) ∧ Below w.heap.size w w' := by
  have h := decode_any (l := []) hT (by decide)
  rw [dec_nil] at h
  exact h
theorem same_line {A P A2 P2 : Option Addr} {c k : Nat} {w : World} (h1 : Dg w A c [1]) (h2 : PsL w P (lz.map PdZ.to)) (h3 : Dg w A2 1 [1]) (h4 : PsL w P2 (lz.map PdZ.to)) :
    Calls Tryd.prog 9 #[.agg #[.int .i64 3, .int .i64 0, .bool false, .slice A 1 c, .int .i64 0, .int .i64 0, .int .i64 4, .int .i64 1, .slice P 1 k], .agg #[.int .i64 3, .int .i64 0, .bool false, .slice A2 1 1, .int .i64 0, .int .i64 0, .int .i64 4, .int .i64 1, .slice P2 1 1]] w fun e w' => e = .returned (.bool true) ∧ Below w.heap.size w w' := by
  have e1 : digs ((1, 0) : Int × Int).1.natAbs = [1] := digs_one (by decide) (by decide)
  have h := tsame_any (A := A) (P := P) (A' := A2) (P' := P2) (c := c) (k := k) (c' := 1) (k' := 1) (F := 3) (O := 0) (W := 0) (Q := 4) (D := 1) (a := (1, 0)) (zs := lz) (w := w) (by rw [e1]; exact h1) h2 (by rw [e1]; exact h3) h4 (by rw [e1]; decide) (fun p hp => ?_) (by decide)
  · rw [e1] at h; exact h
  · unfold lz at hp
    rw [List.mem_singleton] at hp
    subst hp
    have d0 : (digs (0 : Int).natAbs).length = 0 := by rw [show digs (0 : Int).natAbs = [] from digs_zero]; rfl
    refine ⟨⟨by show (digs (1 : Int).natAbs).length ≤ 10000; rw [show digs (1 : Int).natAbs = [1] from e1]; decide, by show (digs (0 : Int).natAbs).length ≤ 400; omega, fun q hq => ?_⟩, by decide⟩
    simp at hq
    rcases hq with rfl | rfl
    · show (digs (1 : Int).natAbs).length ≤ 400; rw [show digs (1 : Int).natAbs = [1] from e1]; decide
    · show (digs (0 : Int).natAbs).length ≤ 400; omega
set_option maxHeartbeats 4000000 in
set_option maxRecDepth 100000 in
theorem examples_any (w : World) (hT : T32 w) :
    Calls Tryd.prog 5 #[] w fun e w' => e = .returned (.bool true) ∧ Below w.heap.size w w' := by
  have HT := Lib.hid hT
  obtain ⟨bt, hbt⟩ : ∃ d : ByteArray, (⟨encL.toArray⟩ : ByteArray) = d := ⟨_, rfl⟩
  have HS := Lib.hid (show bt.size = 32 by rw [← hbt]; exact encL_len)
  have HE := Lib.hid (fun (A P : Option Addr) (V : World) (hd : Dg V A 1 [1]) (hp : PsL V P (lz.map PdZ.to)) (hT : T32 V) => enc_line hd hp hT)
  have HDL := Lib.hid dec_line
  rw [hbt] at HE HDL
  clear hT hbt
  go_enter Tryd.func5, Tryd.ntmps5
  go_wp2_with fail
  refine (line_any w).mono ?_
  rintro e w1 ⟨A1, P1, rfl, hd, hp, hb⟩
  have D1 := Lib.hid hd
  have P1' := Lib.hid hp
  have B1 := Lib.hid hb
  clear hd hp hb
  go_wp2_with fail
  refine (HE.out A1 P1 w1 D1.out P1'.out (t32_below HT.out B1.out)).mono ?_
  rintro e w2 ⟨rfl, hb⟩
  have B2 := Lib.hid (B1.out.trans (hb.mono B1.out.size))
  clear hb D1 P1'
  go_wp2_with fail
  refine (HDL.out w2 (t32_below HT.out B2.out)).mono ?_
  rintro e w3 ⟨A3, c3, P3, k3, rfl, hd, hp, hb⟩
  have B3 := Lib.hid (B2.out.trans (hb.mono B2.out.size))
  have D3 := Lib.hid hd
  have P3' := Lib.hid hp
  clear hd hp hb
  go_upto_region 3 with fail
  obtain ⟨w4, hW⟩ : ∃ V : World, w3.alloc (.cells #[.int .i64 3, .int .i64 0, .bool false, .slice A3 1 c3, .int .i64 0, .int .i64 0, .int .i64 4, .int .i64 1, .slice P3 1 k3] 29) = V := ⟨_, rfl⟩
  rw [hW]
  have hb : Below w3.heap.size w3 w4 := by rw [← hW]; exact below1 _ _
  obtain ⟨tb, htb⟩ : ∃ n, w3.heap.size = n := ⟨_, rfl⟩
  have R4 := Lib.hid (show w4.heap[tb]? = some (.cells #[.int .i64 3, .int .i64 0, .bool false, .slice A3 1 c3, .int .i64 0, .int .i64 0, .int .i64 4, .int .i64 1, .slice P3 1 k3] 29 (0, 0)) by rw [← hW, ← htb]; exact heap_alloc_new _ _)
  have B4 := Lib.hid (B3.out.trans (hb.mono B3.out.size))
  have D4 := Lib.hid (D3.out.below hb)
  have P4 := Lib.hid (P3'.out.below hb)
  rw [htb]
  clear hb hW htb D3 P3'
  go_wp2_with fail
  refine (dec_empty w4 (t32_below HT.out B4.out)).mono ?_
  rintro e w5 ⟨rfl, hb⟩
  have B5 := Lib.hid (B4.out.trans (hb.mono B4.out.size))
  have R5 := co R4 hb
  have D5 := Lib.hid (D4.out.below hb)
  have P5 := Lib.hid (P4.out.below hb)
  clear hb D4 P4
  go_upto_region 4 with (fail)
  obtain ⟨w6, hW⟩ : ∃ V : World, w5.alloc (.cells #[.int .i64 0, .int .i64 0, .bool false, .slice none 0 0, .int .i64 0, .int .i64 0, .int .i64 0, .int .i64 0, .slice none 0 0] 29) = V := ⟨_, rfl⟩
  rw [hW]
  have hb : Below w5.heap.size w5 w6 := by rw [← hW]; exact below1 _ _
  have B6 := Lib.hid (B5.out.trans (hb.mono B5.out.size))
  have R6 := co R5 hb
  have D6 := Lib.hid (D5.out.below hb)
  have P6 := Lib.hid (P5.out.below hb)
  clear hb hW D5 P5
  have r0 := row_c (i := 0) R6.out rfl
  have r1 := row_c (i := 1) R6.out rfl
  have r2 := row_c (i := 2) R6.out rfl
  have r3 := row_c (i := 3) R6.out rfl
  have r4 := row_c (i := 4) R6.out rfl
  have r5 := row_c (i := 5) R6.out rfl
  have r6 := row_c (i := 6) R6.out rfl
  have r7 := row_c (i := 7) R6.out rfl
  have r8 := row_c (i := 8) R6.out rfl
  have xr := heap_lt R6.out
  have KD := Lib.hid (bd0 w6)
  go_region_held3 (fun w' => ∀ b o, b < w6.heap.size → w'.cell? ⟨b, o, none⟩ = w6.cell? ⟨b, o, none⟩)
    (first | with_reducible exact (bcell KD.out).1 | with_reducible exact (bcell K7.out).1 | with_reducible exact (bcell K8.out).1)
    (first
      | (go_at_call 11; (refine (line_any _).mono ?_); rintro e w7 ⟨A7, P7, rfl, hd, hp, hb⟩; (have K7 := Lib.hid (Below.trans KD.out (Below.mono hb KD.out.size))); (have D7 := Lib.hid hd); (have P7' := Lib.hid hp); clear hb hd hp)
      | (go_at_call 9; (with_reducible refine (same_line (D6.out.below K7.out) (P6.out.below K7.out) D7.out P7'.out).mono ?_); rintro e w8 ⟨rfl, hb⟩; (have K8 := Lib.hid (Below.trans K7.out (Below.mono hb K7.out.size))); clear hb))
  rename_i hHeld
  clear hHeld
  have B8 := Lib.hid (B6.out.trans (K8.out.mono B6.out.size))
  clear r0 r1 r2 r3 r4 r5 r6 r7 r8 xr KD K7 K8 D7 P7' D6 P6
  have hsz : ((bt.size : Nat) : Int) = 32 := by rw [HS.out]; rfl
  go_wp2_with fail
  refine (line_any w8).mono ?_
  rintro e w9 ⟨A9, P9, rfl, hd, hp, hb⟩
  have B9 := Lib.hid (B8.out.trans (hb.mono B8.out.size))
  have D9 := Lib.hid hd
  have P9' := Lib.hid hp
  clear hd hp hb
  go_wp2_with fail
  refine (size_line D9.out P9'.out (t32_below HT.out B9.out)).mono ?_
  rintro e wA ⟨rfl, hb⟩
  have BA := Lib.hid (B9.out.trans (hb.mono B9.out.size))
  clear hb
  go_wp2
  go_ret
  exact ⟨rfl, BA.out⟩
end Go.Proofs.YtfhdhldgflbpjaaDoor
end

section
/-
  A table of at most eight digits: its words.
-/
namespace Go.Proofs.YtfhdhldgflbpjaaDoor
open Go.RowKit
set_option linter.unusedSimpArgs false
set_option linter.unusedVariables false
set_option maxHeartbeats 4000000 in
set_option maxRecDepth 100000 in
theorem cut_ (A : Option Addr) (c : Nat) (s : Bool) (xs : List Nat) (v N K : Int) (w : World) (hmin : min (xs.length : Int) N = K) (k0 : 0 ≤ K) (k1 : K ≤ (c : Int)):
    Calls Tryd.prog 12 #[.agg #[.bool s, .slice A xs.length c, .int .i64 v], .int .i64 N] w fun e w' => e = .returned (.agg #[.bool s, .slice A K.toNat c, .int .i64 v]) ∧ Below w.heap.size w w' := by
  have L0 := Lib.hid (live_start w)
  go_enter Tryd.func12, Tryd.ntmps12
  go_upto_region 1 with fail
  obtain ⟨v1, hW, hb, Rx_1, Rr_1⟩ := new2 w (.cells #[.bool s, .slice A xs.length c, .int .i64 v] 26) (.cells #[.bool false, .slice none 0 0, .int .i64 0] 26)
  rw [← hW]
  have L1 := ls L0 hb
  have Gx := gl0 L0.out
  have Gr := gl1 L0.out
  have Nxr : w.heap.size < w.heap.size + 1 := by omega
  clear hW hb
  refine wp_operands (W := v1) rfl 17 [5, 6, 7, 8, 9, 10, 11, 12, 13, 14, 15, 16, 17, 18, 19, 20, 21] (fun i u ww => match i with | 0 => u = .pointer (some ⟨w.heap.size, 0, none⟩) | 1 => u = .pointer (some ⟨w.heap.size, 0, none⟩) | 2 => u = .bool s | 3 => u = .pointer (some ⟨w.heap.size, 0, none⟩) | 4 => u = .pointer (some ⟨w.heap.size, 1, none⟩) | 5 => u = .slice A xs.length c | 6 => u = .pointer (some ⟨w.heap.size, 0, none⟩) | 7 => u = .pointer (some ⟨w.heap.size, 1, none⟩) | 8 => u = .slice A xs.length c | 9 => u = .int .i64 xs.length | 10 => u = .int .i64 N | 11 => u = .int .i64 K | 12 => u = .slice A K.toNat c | 13 => u = .agg #[.bool s, .slice A K.toNat c] | 14 => u = .pointer (some ⟨w.heap.size, 2, none⟩) | 15 => u = .int .i64 v | 16 => u = .agg #[.bool s, .slice A K.toNat c, .int .i64 v] | _ => True) (fun i => decide (i ∈ ([] : List Nat)))
    (by decide) rfl (by kernel_rfl) (by kernel_rfl) (by decide) (by kernel_rfl) ?_ ?_ ?_ ?_
  · intro i u x y hi h hb
    have hi' : i = 0 ∨ i = 1 ∨ i = 2 ∨ i = 3 ∨ i = 4 ∨ i = 5 ∨ i = 6 ∨ i = 7 ∨ i = 8 ∨ i = 9 ∨ i = 10 ∨ i = 11 ∨ i = 12 ∨ i = 13 ∨ i = 14 ∨ i = 15 ∨ i = 16 := by omega
    rcases hi' with rfl | rfl | rfl | rfl | rfl | rfl | rfl | rfl | rfl | rfl | rfl | rfl | rfl | rfl | rfl | rfl | rfl
    · exact h
    · exact h
    · exact h
    · exact h
    · exact h
    · exact h
    · exact h
    · exact h
    · exact h
    · exact h
    · exact h
    · exact h
    · exact h
    · exact h
    · exact h
    · exact h
    · exact h
  · intro i u x hi; simp at hi
  · intro i a x KK hi hF hb hw hK
    have hi' : i = 0 ∨ i = 1 ∨ i = 2 ∨ i = 3 ∨ i = 4 ∨ i = 5 ∨ i = 6 ∨ i = 7 ∨ i = 8 ∨ i = 9 ∨ i = 10 ∨ i = 11 ∨ i = 12 ∨ i = 13 ∨ i = 14 ∨ i = 15 ∨ i = 16 := by omega
    rcases hi' with rfl | rfl | rfl | rfl | rfl | rfl | rfl | rfl | rfl | rfl | rfl | rfl | rfl | rfl | rfl | rfl | rfl
    · simp only [wpOp, List.getElem?_toArray, List.getElem?_cons_zero, Region.wanted, if_true]
      refine Or.inl ?_
      have e0 : a.eval (.tmp 2) = .pointer (some ⟨w.heap.size, 0, none⟩) := hF.2.2 2 (by decide)
      clear hw hF
      simp only [Oper.wp, execOp]
      rw [e0]
      go_simp
      exact hK _ x (by first | rfl | simp) (Below.refl _ _) (fun h => by simp at h)
    · simp only [wpOp, List.getElem?_toArray, List.getElem?_cons_succ, List.getElem?_cons_zero, Region.wanted, if_true]
      refine Or.inl ?_
      have e0 : a.eval (.tmp 5) = .pointer (some ⟨w.heap.size, 0, none⟩) := hw 0 (by kernel_rfl)
      clear hw hF
      simp only [Oper.wp, execOp]
      rw [e0]
      go_simp
      exact hK _ x (by first | rfl | simp) (Below.refl _ _) (fun h => by simp at h)
    · simp only [wpOp, List.getElem?_toArray, List.getElem?_cons_succ, List.getElem?_cons_zero, Region.wanted, if_true]
      refine Or.inl ?_
      have e0 : a.eval (.tmp 6) = .pointer (some ⟨w.heap.size, 0, none⟩) := hw 1 (by kernel_rfl)
      have f0 := row_cell Rx_1.out hb 0
      have f1 := row_cell Rx_1.out hb 1
      have f2 := row_cell Rx_1.out hb 2
      simp only [List.getElem?_toArray, List.getElem?_cons_succ, List.getElem?_cons_zero] at f0 f1 f2
      clear hw hF
      simp only [Oper.wp, execOp]
      rw [e0]
      go_simp
      exact hK _ x (by first | rfl | simp) (Below.refl _ _) (fun h => by simp at h)
    · simp only [wpOp, List.getElem?_toArray, List.getElem?_cons_succ, List.getElem?_cons_zero, Region.wanted, if_true]
      refine Or.inl ?_
      have e0 : a.eval (.tmp 2) = .pointer (some ⟨w.heap.size, 0, none⟩) := hF.2.2 2 (by decide)
      clear hw hF
      simp only [Oper.wp, execOp]
      rw [e0]
      go_simp
      exact hK _ x (by first | rfl | simp) (Below.refl _ _) (fun h => by simp at h)
    · simp only [wpOp, List.getElem?_toArray, List.getElem?_cons_succ, List.getElem?_cons_zero, Region.wanted, if_true]
      refine Or.inl ?_
      have e0 : a.eval (.tmp 8) = .pointer (some ⟨w.heap.size, 0, none⟩) := hw 3 (by kernel_rfl)
      clear hw hF
      simp only [Oper.wp, execOp]
      rw [e0]
      go_simp
      exact hK _ x (by first | rfl | simp) (Below.refl _ _) (fun h => by simp at h)
    · simp only [wpOp, List.getElem?_toArray, List.getElem?_cons_succ, List.getElem?_cons_zero, Region.wanted, if_true]
      refine Or.inl ?_
      have e0 : a.eval (.tmp 9) = .pointer (some ⟨w.heap.size, 1, none⟩) := hw 4 (by kernel_rfl)
      have f0 := row_cell Rx_1.out hb 0
      have f1 := row_cell Rx_1.out hb 1
      have f2 := row_cell Rx_1.out hb 2
      simp only [List.getElem?_toArray, List.getElem?_cons_succ, List.getElem?_cons_zero] at f0 f1 f2
      clear hw hF
      simp only [Oper.wp, execOp]
      rw [e0]
      go_simp
      exact hK _ x (by first | rfl | simp) (Below.refl _ _) (fun h => by simp at h)
    · simp only [wpOp, List.getElem?_toArray, List.getElem?_cons_succ, List.getElem?_cons_zero, Region.wanted, if_true]
      refine Or.inl ?_
      have e0 : a.eval (.tmp 2) = .pointer (some ⟨w.heap.size, 0, none⟩) := hF.2.2 2 (by decide)
      clear hw hF
      simp only [Oper.wp, execOp]
      rw [e0]
      go_simp
      exact hK _ x (by first | rfl | simp) (Below.refl _ _) (fun h => by simp at h)
    · simp only [wpOp, List.getElem?_toArray, List.getElem?_cons_succ, List.getElem?_cons_zero, Region.wanted, if_true]
      refine Or.inl ?_
      have e0 : a.eval (.tmp 11) = .pointer (some ⟨w.heap.size, 0, none⟩) := hw 6 (by kernel_rfl)
      clear hw hF
      simp only [Oper.wp, execOp]
      rw [e0]
      go_simp
      exact hK _ x (by first | rfl | simp) (Below.refl _ _) (fun h => by simp at h)
    · simp only [wpOp, List.getElem?_toArray, List.getElem?_cons_succ, List.getElem?_cons_zero, Region.wanted, if_true]
      refine Or.inl ?_
      have e0 : a.eval (.tmp 12) = .pointer (some ⟨w.heap.size, 1, none⟩) := hw 7 (by kernel_rfl)
      have f0 := row_cell Rx_1.out hb 0
      have f1 := row_cell Rx_1.out hb 1
      have f2 := row_cell Rx_1.out hb 2
      simp only [List.getElem?_toArray, List.getElem?_cons_succ, List.getElem?_cons_zero] at f0 f1 f2
      clear hw hF
      simp only [Oper.wp, execOp]
      rw [e0]
      go_simp
      exact hK _ x (by first | rfl | simp) (Below.refl _ _) (fun h => by simp at h)
    · simp only [wpOp, List.getElem?_toArray, List.getElem?_cons_succ, List.getElem?_cons_zero, Region.wanted, if_true]
      refine Or.inl ?_
      have e0 : a.tmps.getD 13 undef = .slice A xs.length c := hw 8 (by kernel_rfl)
      clear hw hF
      simp only [Oper.wp, execOp]
      go_simp
      exact hK _ x (by first | rfl | simp) (Below.refl _ _) (fun h => by simp at h)
    · simp only [wpOp, List.getElem?_toArray, List.getElem?_cons_succ, List.getElem?_cons_zero, Region.wanted, if_true]
      refine Or.inl ?_
      have e0 : a.eval (.tmp 1) = .int .i64 N := hF.2.2 1 (by decide)
      clear hw hF
      simp only [Oper.wp, execOp]
      rw [e0]
      go_simp
      exact hK _ x (by first | rfl | simp) (Below.refl _ _) (fun h => by simp at h)
    · simp only [wpOp, List.getElem?_toArray, List.getElem?_cons_succ, List.getElem?_cons_zero, Region.wanted, if_true]
      refine Or.inl ?_
      have e0 : a.tmps.getD 14 undef = .int .i64 xs.length := hw 9 (by kernel_rfl)
      have e1 : a.tmps.getD 15 undef = .int .i64 N := hw 10 (by kernel_rfl)
      clear hw hF
      simp only [Oper.wp, execOp]
      go_simp
      exact hK _ x (by first | rfl | simp) (Below.refl _ _) (fun h => by simp at h)
    · simp only [wpOp, List.getElem?_toArray, List.getElem?_cons_succ, List.getElem?_cons_zero, Region.wanted, if_true]
      refine Or.inl ?_
      have e0 : a.tmps.getD 10 undef = .slice A xs.length c := hw 5 (by kernel_rfl)
      have e1 : a.tmps.getD 16 undef = .int .i64 K := hw 11 (by kernel_rfl)
      clear hw hF
      simp only [Oper.wp, execOp]
      go_simp
      exact hK _ x (by first | rfl | simp) (Below.refl _ _) (fun h => by simp at h)
    · simp only [wpOp, List.getElem?_toArray, List.getElem?_cons_succ, List.getElem?_cons_zero, Region.wanted, if_true]
      refine Or.inl ?_
      have e0 : a.eval (.tmp 7) = .bool s := hw 2 (by kernel_rfl)
      have e1 : a.eval (.tmp 17) = .slice A K.toNat c := hw 12 (by kernel_rfl)
      clear hw hF
      simp only [Oper.wp, execOp]
      simp only [List.map_toArray, List.map_cons, List.map_nil, e0, e1]
      go_simp
      exact hK _ x (by first | rfl | simp) (Below.refl _ _) (fun h => by simp at h)
    · simp only [wpOp, List.getElem?_toArray, List.getElem?_cons_succ, List.getElem?_cons_zero, Region.wanted, if_true]
      refine Or.inl ?_
      have e0 : a.eval (.tmp 2) = .pointer (some ⟨w.heap.size, 0, none⟩) := hF.2.2 2 (by decide)
      clear hw hF
      simp only [Oper.wp, execOp]
      rw [e0]
      go_simp
      exact hK _ x (by first | rfl | simp) (Below.refl _ _) (fun h => by simp at h)
    · simp only [wpOp, List.getElem?_toArray, List.getElem?_cons_succ, List.getElem?_cons_zero, Region.wanted, if_true]
      refine Or.inl ?_
      have e0 : a.eval (.tmp 19) = .pointer (some ⟨w.heap.size, 2, none⟩) := hw 14 (by kernel_rfl)
      have f0 := row_cell Rx_1.out hb 0
      have f1 := row_cell Rx_1.out hb 1
      have f2 := row_cell Rx_1.out hb 2
      simp only [List.getElem?_toArray, List.getElem?_cons_succ, List.getElem?_cons_zero] at f0 f1 f2
      clear hw hF
      simp only [Oper.wp, execOp]
      rw [e0]
      go_simp
      exact hK _ x (by first | rfl | simp) (Below.refl _ _) (fun h => by simp at h)
    · simp only [wpOp, List.getElem?_toArray, List.getElem?_cons_succ, List.getElem?_cons_zero, Region.wanted, if_true]
      refine Or.inl ?_
      have e0 : a.eval (.tmp 18) = .agg #[.bool s, .slice A K.toNat c] := hw 13 (by kernel_rfl)
      have e1 : a.eval (.tmp 20) = .int .i64 v := hw 15 (by kernel_rfl)
      clear hw hF
      simp only [Oper.wp, execOp]
      simp only [List.map_toArray, List.map_cons, List.map_nil, e0, e1]
      go_simp
      exact hK _ x (by first | rfl | simp) (Below.refl _ _) (fun h => by simp at h)
  · intro a x hF0 hb hR _
    have hF : Fr6 [5, 6, 7, 8, 9, 10, 11, 12, 13, 14, 15, 16, 17, 18, 19, 20, 21] _ a := hF0
    have e0 : a.tmps.getD 5 undef = .pointer (some ⟨w.heap.size, 0, none⟩) := hR 0 (by decide)
    have e1 : a.tmps.getD 6 undef = .pointer (some ⟨w.heap.size, 0, none⟩) := hR 1 (by decide)
    have e2 : a.tmps.getD 7 undef = .bool s := hR 2 (by decide)
    have e3 : a.tmps.getD 8 undef = .pointer (some ⟨w.heap.size, 0, none⟩) := hR 3 (by decide)
    have e4 : a.tmps.getD 9 undef = .pointer (some ⟨w.heap.size, 1, none⟩) := hR 4 (by decide)
    have e5 : a.tmps.getD 10 undef = .slice A xs.length c := hR 5 (by decide)
    have e6 : a.tmps.getD 11 undef = .pointer (some ⟨w.heap.size, 0, none⟩) := hR 6 (by decide)
    have e7 : a.tmps.getD 12 undef = .pointer (some ⟨w.heap.size, 1, none⟩) := hR 7 (by decide)
    have e8 : a.tmps.getD 13 undef = .slice A xs.length c := hR 8 (by decide)
    have e9 : a.tmps.getD 14 undef = .int .i64 xs.length := hR 9 (by decide)
    have e10 : a.tmps.getD 15 undef = .int .i64 N := hR 10 (by decide)
    have e11 : a.tmps.getD 16 undef = .int .i64 K := hR 11 (by decide)
    have e12 : a.tmps.getD 17 undef = .slice A K.toNat c := hR 12 (by decide)
    have e13 : a.tmps.getD 18 undef = .agg #[.bool s, .slice A K.toNat c] := hR 13 (by decide)
    have e14 : a.tmps.getD 19 undef = .pointer (some ⟨w.heap.size, 2, none⟩) := hR 14 (by decide)
    have e15 : a.tmps.getD 20 undef = .int .i64 v := hR 15 (by decide)
    have e16 : a.tmps.getD 21 undef = .agg #[.bool s, .slice A K.toNat c, .int .i64 v] := hR 16 (by decide)
    rw [hF.fold (by kernel_rfl)]
    simp only [List.foldl_cons, List.foldl_nil, e0, e1, e2, e3, e4, e5, e6, e7, e8, e9, e10, e11, e12, e13, e14, e15, e16]
    simp only [Act.put, List.setIfInBounds_toArray, List.set_cons_zero, List.set_cons_succ]
    clear e0 e1 e2 e3 e4 e5 e6 e7 e8 e9 e10 e11 e12 e13 e14 e15 e16 hR hF hF0
    obtain ⟨w2, hW⟩ : ∃ W : World, W = x := ⟨_, rfl⟩
    rw [← hW]
    rw [← hW] at hb 
    have L2 := ls L1 hb
    have Rx_2 := co Rx_1 hb
    have Rr_2 := co Rr_1 hb
    clear hW hb 
    obtain ⟨fr0, zr0, fr1, zr1, fr2, zr2, xr⟩ := ly3 Rr_2.out
    first | simp only [wpOps_cons] | rw [wpOps_cons] | (change wpOps _ _ _ [17] _ _; simp only [wpOps_cons])
    simp only [wpOp, List.getElem?_toArray, List.getElem?_cons_succ, List.getElem?_cons_zero, Region.wanted, if_true]
    refine Or.inl ?_
    simp only [Oper.wp, execOp]
    go_simp
    try simp only [wpOps]
    clear fr0 zr0 fr1 zr1 fr2 zr2 xr
    obtain ⟨w3, hW⟩ : ∃ W : World, W = (((w2.setCell ⟨w.heap.size + 1, 0, none⟩ (.bool s)).setCell ⟨w.heap.size + 1, 1, none⟩ (.slice A K.toNat c)).setCell ⟨w.heap.size + 1, 2, none⟩ (.int .i64 v)) := ⟨_, rfl⟩
    rw [← hW]
    have hO : Only (w.heap.size + 1) w2 w3 := by rw [hW]; exact ((((Only.refl (w.heap.size + 1) w2).setCell 0 _).setCell 1 _).setCell 2 _)
    have L3 := Lib.hid (live_only L2.out hO Rr_2.out noint_dy Gr)
    have Rx_3 := Lib.hid ((hO.block _ (by omega)).trans Rx_2.out)
    have Rr_3 := Lib.hid (show w3.heap[w.heap.size + 1]? = some (.cells #[.bool s, .slice A K.toNat c, .int .i64 v] 26 (0, 0)) by rw [hW]; exact (heap_setCell_same _ _ 2 _ _ _ (heap_setCell_same _ _ 1 _ _ _ (heap_setCell_same _ _ 0 _ _ _ Rr_2.out))))
    clear hW hO
    obtain ⟨fr0, zr0, fr1, zr1, fr2, zr2, xr⟩ := ly3 Rr_3.out
    go_wp2
    refine bodyPost_ret (v := .agg #[.bool s, .slice A K.toNat c, .int .i64 v]) (by simp [results, Tryd.results12, go_sem, fr0, fr1, fr2]) rfl ?_
    exact ⟨rfl, L3.out.1⟩
theorem cut_l {A : Option Addr} {c : Nat} {s : Bool} {xs ts : List Nat} {x N : Int} {w : World} (hmin : min (xs.length : Int) N = (ts.length : Int)) (hc : ts.length ≤ c) :
    Calls Tryd.prog 12 #[.agg #[.bool s, .slice A xs.length c, .int .i64 x], .int .i64 N] w fun e w' => e = .returned (.agg #[.bool s, .slice A ts.length c, .int .i64 x]) ∧ Below w.heap.size w w' := by
  have := cut_ A c s xs x N ts.length w hmin (by omega) (by omega)
  rw [Int.toNat_natCast] at this; exact this

/-- A number of at most eight digits; a piece, a table of such. -/
def cutN (v : Nm) : Nm := (v.1, v.2.1.take 8, v.2.2)
def cutP (p : Pd) : Pd := ⟨cutN p.a, p.w, (p.cs.take 20).map cutN, cutN p.er⟩
/-- Numbers in a row: old, or in cells of numbers; their digits are those of W0. -/
def CsR (W0 w : World) (P : Option Addr) (k : Nat) (cs : List Nm) : Prop := cs.length ≤ k ∧ (cs.length ≠ 0 → ∃ b o, P = some ⟨b, o, none⟩ ∧ b < w.heap.size ∧ (b < W0.heap.size ∨ ∃ cur fr, w.heap[b]? = some (.cells cur 26 fr)) ∧
  ∀ (i : Nat) v, cs[i]? = some v → ∃ A c, w.cell? ⟨b, o + i * 3, none⟩ = some (.bool v.1) ∧ w.cell? ⟨b, o + i * 3 + 1, none⟩ = some (.slice A v.2.1.length c) ∧ w.cell? ⟨b, o + i * 3 + 2, none⟩ = some (.int .i64 v.2.2) ∧ Dg W0 A c v.2.1)
theorem NsL.csr {W0 w : World} {P : Option Addr} {k : Nat} {cs : List Nm} (h : NsL W0 P k cs) (hB : Below W0.heap.size W0 w) : CsR W0 w P k cs := by
  have hr := h.rowq
  obtain ⟨A, C, hc, h⟩ := h
  refine ⟨hc, fun h0 => ?_⟩
  obtain ⟨b, o, rfl, hb, _⟩ := h h0
  refine ⟨b, o, rfl, Nat.lt_of_lt_of_le hb hB.size, .inl hb, fun i v hv => ?_⟩
  obtain ⟨b2, o2, A2, c2, e, c0, c1, c2', hd⟩ := hr i v hv
  injection e with e; injection e with e1 e2 e3
  subst e1 e2
  have ce : ∀ j, w.cell? ⟨b, j, none⟩ = W0.cell? ⟨b, j, none⟩ := fun j => hB.cell (p := ⟨b, j, none⟩) hb
  exact ⟨A2, c2, (ce _).trans c0, (ce _).trans c1, (ce _).trans c2', hd⟩
theorem CsR.same {W0 w w' : World} {P : Option Addr} {k : Nat} {cs : List Nm} (h : CsR W0 w P k cs) (hs : w.heap.size ≤ w'.heap.size) (hk : ∀ b, b < w.heap.size → (b < W0.heap.size ∨ ∃ cur fr, w.heap[b]? = some (.cells cur 26 fr)) → w'.heap[b]? = w.heap[b]?) : CsR W0 w' P k cs := by
  refine ⟨h.1, fun h0 => ?_⟩
  obtain ⟨b, o, e, hb, hd, hc⟩ := h.2 h0
  have e1 := hk b hb hd
  have ce : ∀ j, w'.cell? ⟨b, j, none⟩ = w.cell? ⟨b, j, none⟩ := fun j => World.cell?_of_block (a := ⟨b, j, none⟩) e1
  refine ⟨b, o, e, Nat.lt_of_lt_of_le hb hs, hd.imp id (fun ⟨cur, fr, h⟩ => ⟨cur, fr, e1.trans h⟩), fun i v hv => ?_⟩
  obtain ⟨A, c, c0, c1, c2, hg⟩ := hc i v hv
  exact ⟨A, c, (ce _).trans c0, (ce _).trans c1, (ce _).trans c2, hg⟩
/-- The cells of some pieces. -/
def PcR (W0 w : World) (xs : List Value) (ps : List Pd) : Prop := xs.length = ps.length * 8 ∧ ∀ (i : Nat) p, ps[i]? = some p → ∃ A c P k B d, xs[i * 8]? = some (.bool p.a.1) ∧ xs[i * 8 + 1]? = some (.slice A p.a.2.1.length c) ∧ xs[i * 8 + 2]? = some (.int .i64 p.a.2.2) ∧ xs[i * 8 + 3]? = some (.int .i64 p.w) ∧ xs[i * 8 + 4]? = some (.slice P p.cs.length k) ∧ xs[i * 8 + 5]? = some (.bool p.er.1) ∧ xs[i * 8 + 6]? = some (.slice B p.er.2.1.length d) ∧ xs[i * 8 + 7]? = some (.int .i64 p.er.2.2) ∧ Dg W0 A c p.a.2.1 ∧ CsR W0 w P k p.cs ∧ Dg W0 B d p.er.2.1
theorem PcR.same {W0 w w' : World} {xs : List Value} {ps : List Pd} (h : PcR W0 w xs ps) (hs : w.heap.size ≤ w'.heap.size) (hk : ∀ b, b < w.heap.size → (b < W0.heap.size ∨ ∃ cur fr, w.heap[b]? = some (.cells cur 26 fr)) → w'.heap[b]? = w.heap[b]?) : PcR W0 w' xs ps :=
  ⟨h.1, fun i p hp => by obtain ⟨A, c, P, k, B, d, h0, h1, h2, h3, h4, h5, h6, h7, ha, hn, hb⟩ := h.2 i p hp; exact ⟨A, c, P, k, B, d, h0, h1, h2, h3, h4, h5, h6, h7, ha, hn.same hs hk, hb⟩⟩
/-- A copy of a row, out of nothing. -/
theorem wp_append_copy {w : World} {o : Oper} {a : Act} {K : Act → World → Prop} {Q : Exit → Act → World → Prop} (s x : Operand) (t e : TypeId) (ho : o.op = .call { callee := .builtin .append, args := #[s, x], argTypes := #[t, t] }) (base : Nat) (i0 : TypeInfo) (z : Value) (size bytes : Nat) (ht : Tryd.prog.underlying t = some (.slice e)) (hi : Tryd.prog.info? e = some i0) (hz : i0.zero = some z) (hsize : i0.size = size) (hby : i0.bytes = bytes) (hzs : z.cells.size = size) (hsz : 0 < size)
    (X : Option Addr) (n c : Nat) (news : List Value) (hs : a.eval s = .slice none 0 0) (hx : a.eval x = .slice X n c) (hl : news.length = n * size) (hX : n ≠ 0 → ∃ ad, X = some ad ∧ ∀ j u, news[j]? = some u → w.cell? (ad.add j) = some u) (h1 : ∀ u ∈ news, u.oneCell' = true) (h63 : n ≤ maxLen) (hbytes : n * bytes ≤ 140737488355328) (hbase : base ≤ w.heap.size)
    (h : ∀ v' w', w'.ownsRow base e size v' n news → Below w.heap.size w w' → K (a.put o.dst v') w') : o.wp Tryd.prog a w K Q := by
  rcases X with _ | ad
  · obtain rfl : n = 0 := by
      rcases Nat.eq_zero_or_pos n with h0 | h0
      · exact h0
      · obtain ⟨_, e, _⟩ := hX (by omega); cases e
    obtain rfl : news = [] := List.length_eq_zero_iff.1 (by rw [hl]; omega)
    have hrun := run_append_nilcap (P := Tryd.prog) (w := w) base t o.type e i0 size c ht hi (.slice none 0 0) 0 [] (World.ownsRow_nil _ _ _ _)
    unfold Oper.wp
    simp [execOp, ho, resolve, invoke, builtin, hs, hx, hrun, Result.andThen]
    exact h _ w (World.ownsRow_nil _ _ _ _) (Below.refl _ _)
  · refine wp_append_own w s x t ho base e i0 z size bytes ht hi hz hsize hby hzs hsz (.slice none 0 0) 0 [] hs (World.ownsRow_nil _ _ _ _) ad n c news hx hl (fun j u hj => ?_) h1 (by omega) (by rw [Nat.zero_add]; exact hbytes) hbase (fun v' w' h2 h3 _ => ?_)
    · rcases Nat.eq_zero_or_pos n with h0 | h0
      · subst h0
        have e : news = [] := List.length_eq_zero_iff.1 (by rw [hl]; omega)
        rw [e] at hj
        simp at hj
      · obtain ⟨ad2, e2, hc2⟩ := hX (by omega)
        obtain rfl : ad = ad2 := Option.some.inj e2
        exact hc2 j u hj
    · rw [Nat.zero_add] at h2
      exact h v' w' h2 ⟨h3.os, h3.tape, h3.output, h3.size, fun k hk => h3.block k hk (by simp [Value.ownBlock])⟩
set_option maxRecDepth 100000 in
theorem wpList_append_copy {w : World} {ops : Array Oper} {rest : List Oper} {o : Oper} {a : Act} {Q : Exit → Act → World → Prop} (hgd : o.guard = none) (s x : Operand) (t e : TypeId) (ho : o.op = .call { callee := .builtin .append, args := #[s, x], argTypes := #[t, t] }) (base : Nat) (i0 : TypeInfo) (z : Value) (size bytes : Nat) (ht : Tryd.prog.underlying t = some (.slice e)) (hi : Tryd.prog.info? e = some i0) (hz : i0.zero = some z) (hsize : i0.size = size) (hby : i0.bytes = bytes) (hzs : z.cells.size = size) (hsz : 0 < size)
    (X : Option Addr) (n c : Nat) (news : List Value) (hs : a.eval s = .slice none 0 0) (hx : a.eval x = .slice X n c) (hl : news.length = n * size) (hX : n ≠ 0 → ∃ ad, X = some ad ∧ ∀ j u, news[j]? = some u → w.cell? (ad.add j) = some u) (h1 : ∀ u ∈ news, u.oneCell' = true) (h63 : n ≤ maxLen) (hbytes : n * bytes ≤ 140737488355328) (hbase : base ≤ w.heap.size)
    (h : ∀ v' w', w'.ownsRow base e size v' n news → Below w.heap.size w w' → wpList Tryd.prog ops Q rest (a.put o.dst v') w') : wpList Tryd.prog ops Q (o :: rest) a w := by
  refine wpList_plain hgd fun K hK => ?_
  exact wp_append_copy (w := w) (a := a) (Q := Q) s x t e ho base i0 z size bytes ht hi hz hsize hby hzs hsz X n c news hs hx hl hX h1 h63 hbytes hbase (fun v' w' h2 h3 => hK _ _ (h v' w' h2 h3))
/-- The cells that stand from a place on. -/
def cellsAt (w : World) (b o m : Nat) : List Value := (List.range m).map fun j => (w.cell? ⟨b, o + j, none⟩).getD (.bool false)
theorem cellsAt_get {w : World} {b o m j : Nat} {v : Value} (hj : j < m) (h : w.cell? ⟨b, o + j, none⟩ = some v) : (cellsAt w b o m)[j]? = some v := by
  unfold cellsAt
  rw [List.getElem?_map, List.getElem?_range hj]
  simp [h]
theorem own_upd {w : World} {base n size g cap : Nat} {e : TypeId} {xs : List Value} (h : w.ownsRow base e size (.slice (some ⟨g, 0, none⟩) n cap) n xs) {j : Nat} (v : Value) : (w.setCell ⟨g, j, none⟩ v).ownsRow base e size (.slice (some ⟨g, 0, none⟩) n cap) n (xs.set j v) := by
  refine ⟨by rw [List.length_set]; exact h.1, ?_⟩
  rcases h.2 with ⟨h1, _⟩ | ⟨q, cap2, cur, h1, hb, hq, h3, h4, h5, h6⟩
  · cases h1
  · have h1c := h1
    injection h1 with e1 e2 e3
    injection e1 with e1; injection e1 with e1 _ _
    subst e1
    refine .inr ⟨g, cap2, cur.setIfInBounds j v, h1c, hb, heap_setCell_same _ _ j _ _ v hq, h3, h4, by simpa using h5, ?_⟩
    rw [Array.toList_setIfInBounds, List.take_set, h6]
end Go.Proofs.YtfhdhldgflbpjaaDoor
end

section
/-
  A table of at most eight digits: rows that are copied.
-/
namespace Go.Proofs.YtfhdhldgflbpjaaDoor
open Go.RowKit
set_option linter.unusedSimpArgs false
set_option linter.unusedVariables false
theorem mix_get {α β : Type} (f : α → β) (g : α → β) (L : List α) (k : Nat) {x : α} (h : L[k]? = some x) : ((L.take k).map f ++ (L.drop k).map g)[k]? = some (g x) := by
  have hk : k < L.length := by
    rcases Nat.lt_or_ge k L.length with h1 | h1
    · exact h1
    · rw [List.getElem?_eq_none_iff.2 h1] at h; cases h
  rw [List.getElem?_append_right (by simp; omega)]
  simp only [List.length_map, List.length_take, Nat.min_eq_left (Nat.le_of_lt hk), Nat.sub_self, List.getElem?_map, List.getElem?_drop, Nat.add_zero, h, Option.map_some]
theorem mix_set {α : Type} (f : α → α) (L : List α) (k : Nat) {x : α} (h : L[k]? = some x) : ((L.take k).map f ++ L.drop k).set k (f x) = (L.take (k + 1)).map f ++ L.drop (k + 1) := by
  have hk : k < L.length := by
    rcases Nat.lt_or_ge k L.length with h1 | h1
    · exact h1
    · rw [List.getElem?_eq_none_iff.2 h1] at h; cases h
  have e : (L.drop k).set 0 (f x) = f x :: L.drop (k + 1) := by rw [List.drop_eq_getElem_cons hk]; rfl
  have el : ((L.take k).map f).length = k := by simp; omega
  rw [List.set_append_right _ _ (by omega), el, Nat.sub_self, e, List.take_add_one, h, List.map_append]
  simp
theorem mix_at {α : Type} (f : α → α) (L : List α) (k : Nat) {x : α} (h : L[k]? = some x) : ((L.take k).map f ++ L.drop k)[k]? = some x := by
  have := mix_get f id L k h
  simpa using this
/-- The cells of some numbers. -/
def CyR (W0 : World) (ys : List Value) (cs : List Nm) : Prop := ys.length = cs.length * 3 ∧ ∀ (i : Nat) v, cs[i]? = some v → ∃ A c, ys[i * 3]? = some (.bool v.1) ∧ ys[i * 3 + 1]? = some (.slice A v.2.1.length c) ∧ ys[i * 3 + 2]? = some (.int .i64 v.2.2) ∧ Dg W0 A c v.2.1
theorem CyR.set {W0 : World} {ys : List Value} {cs : List Nm} (h : CyR W0 ys cs) {j : Nat} (hj : j < cs.length) {v : Nm} {A : Option Addr} {c : Nat} (hd : Dg W0 A c v.2.1) : CyR W0 (((ys.set (j * 3) (.bool v.1)).set (j * 3 + 1) (.slice A v.2.1.length c)).set (j * 3 + 2) (.int .i64 v.2.2)) (cs.set j v) := by
  have hl := h.1
  refine ⟨by simp only [List.length_set]; exact hl, fun i u hu => ?_⟩
  by_cases e : i = j
  · subst e
    rw [List.getElem?_set_self hj] at hu
    obtain rfl : v = u := Option.some.inj hu
    refine ⟨A, c, ?_, ?_, ?_, hd⟩
    · rw [List.getElem?_set_ne (by omega), List.getElem?_set_ne (by omega), List.getElem?_set_self (by omega)]
    · rw [List.getElem?_set_ne (by omega), List.getElem?_set_self (by simp; omega)]
    · rw [List.getElem?_set_self (by simp; omega)]
  · rw [List.getElem?_set_ne (fun x => e x.symm)] at hu
    obtain ⟨A2, c2, h0, h1, h2, hd2⟩ := h.2 i u hu
    refine ⟨A2, c2, ?_, ?_, ?_, hd2⟩
    · rw [List.getElem?_set_ne (by omega), List.getElem?_set_ne (by omega), List.getElem?_set_ne (by omega)]; exact h0
    · rw [List.getElem?_set_ne (by omega), List.getElem?_set_ne (by omega), List.getElem?_set_ne (by omega)]; exact h1
    · rw [List.getElem?_set_ne (by omega), List.getElem?_set_ne (by omega), List.getElem?_set_ne (by omega)]; exact h2
theorem PcR.upd {W0 w : World} {xs xs' : List Value} {ps : List Pd} (h : PcR W0 w xs ps) {j : Nat} {p : Pd} (hj : j < ps.length) (hl : xs'.length = xs.length) (ho : ∀ i, i / 8 ≠ j → xs'[i]? = xs[i]?) {A P B : Option Addr} {c k d : Nat}
    (hc : xs'[j * 8]? = some (.bool p.a.1) ∧ xs'[j * 8 + 1]? = some (.slice A p.a.2.1.length c) ∧ xs'[j * 8 + 2]? = some (.int .i64 p.a.2.2) ∧ xs'[j * 8 + 3]? = some (.int .i64 p.w) ∧ xs'[j * 8 + 4]? = some (.slice P p.cs.length k) ∧ xs'[j * 8 + 5]? = some (.bool p.er.1) ∧ xs'[j * 8 + 6]? = some (.slice B p.er.2.1.length d) ∧ xs'[j * 8 + 7]? = some (.int .i64 p.er.2.2)) (ha : Dg W0 A c p.a.2.1) (hn : CsR W0 w P k p.cs) (hb : Dg W0 B d p.er.2.1) : PcR W0 w xs' (ps.set j p) := by
  refine ⟨by rw [hl, List.length_set]; exact h.1, fun i u hu => ?_⟩
  by_cases e : i = j
  · subst e
    rw [List.getElem?_set_self hj] at hu
    obtain rfl : p = u := Option.some.inj hu
    obtain ⟨h0, h1, h2, h3, h4, h5, h6, h7⟩ := hc
    exact ⟨A, c, P, k, B, d, h0, h1, h2, h3, h4, h5, h6, h7, ha, hn, hb⟩
  · rw [List.getElem?_set_ne (fun x => e x.symm)] at hu
    obtain ⟨A2, c2, P2, k2, B2, d2, h0, h1, h2, h3, h4, h5, h6, h7, ha2, hn2, hb2⟩ := h.2 i u hu
    have oo : ∀ t, t < 8 → xs'[i * 8 + t]? = xs[i * 8 + t]? := fun t ht => ho _ (by omega)
    exact ⟨A2, c2, P2, k2, B2, d2, (oo 0 (by omega)).trans h0, (oo 1 (by omega)).trans h1, (oo 2 (by omega)).trans h2, (oo 3 (by omega)).trans h3, (oo 4 (by omega)).trans h4, (oo 5 (by omega)).trans h5, (oo 6 (by omega)).trans h6, (oo 7 (by omega)).trans h7, ha2, hn2, hb2⟩
theorem news_of {w : World} {P : Option Addr} {ps : List Pd} (hps : PsL w P ps) (m : Nat) : ∃ news : List Value, news.length = (ps.take m).length * 8 ∧ (∀ u ∈ news, u.oneCell' = true) ∧ PcR w w news (ps.take m) ∧ ((ps.take m).length ≠ 0 → ∃ ad, P = some ad ∧ ∀ j u, news[j]? = some u → w.cell? (ad.add j) = some u) := by
  by_cases h0 : (ps.take m).length = 0
  · refine ⟨[], by rw [h0]; rfl, fun u hu => by simp at hu, ⟨by rw [h0]; rfl, fun i p hp => ?_⟩, fun h => absurd h0 h⟩
    rw [List.getElem?_eq_none (by omega)] at hp; cases hp
  · have hn : ps.length ≠ 0 := by rw [List.length_take] at h0; omega
    obtain ⟨b, o, rfl, hb, hr⟩ := hps hn
    have hlt : (ps.take m).length ≤ ps.length := by rw [List.length_take]; omega
    have hp : ∀ i p, (ps.take m)[i]? = some p → ps[i]? = some p := fun i p h => by
      rw [List.getElem?_take] at h
      split at h
      · exact h
      · cases h
    have key : ∀ i p, (ps.take m)[i]? = some p → ∃ A c P k B d, (cellsAt w b o ((ps.take m).length * 8))[i * 8]? = some (.bool p.a.1) ∧ (cellsAt w b o ((ps.take m).length * 8))[i * 8 + 1]? = some (.slice A p.a.2.1.length c) ∧ (cellsAt w b o ((ps.take m).length * 8))[i * 8 + 2]? = some (.int .i64 p.a.2.2) ∧ (cellsAt w b o ((ps.take m).length * 8))[i * 8 + 3]? = some (.int .i64 p.w) ∧ (cellsAt w b o ((ps.take m).length * 8))[i * 8 + 4]? = some (.slice P p.cs.length k) ∧ (cellsAt w b o ((ps.take m).length * 8))[i * 8 + 5]? = some (.bool p.er.1) ∧ (cellsAt w b o ((ps.take m).length * 8))[i * 8 + 6]? = some (.slice B p.er.2.1.length d) ∧ (cellsAt w b o ((ps.take m).length * 8))[i * 8 + 7]? = some (.int .i64 p.er.2.2) ∧ Dg w A c p.a.2.1 ∧ CsR w w P k p.cs ∧ Dg w B d p.er.2.1 := fun i p h => by
      obtain ⟨A, c, B, d, P2, k2, e0, e1, e2, e3, e4, e5, e6, e7, ha, he, hn⟩ := hr i p (hp i p h)
      have hi : i < (ps.take m).length := by
        rcases Nat.lt_or_ge i (ps.take m).length with h1 | h1
        · exact h1
        · rw [List.getElem?_eq_none_iff.2 h1] at h; cases h
      exact ⟨A, c, P2, k2, B, d, cellsAt_get (by omega) e0, cellsAt_get (j := i * 8 + 1) (by omega) e1, cellsAt_get (j := i * 8 + 2) (by omega) e2, cellsAt_get (j := i * 8 + 3) (by omega) e3, cellsAt_get (j := i * 8 + 4) (by omega) e4, cellsAt_get (j := i * 8 + 5) (by omega) e5, cellsAt_get (j := i * 8 + 6) (by omega) e6, cellsAt_get (j := i * 8 + 7) (by omega) e7, ha, hn.csr (Below.refl _ _), he⟩
    have hlen : (cellsAt w b o ((ps.take m).length * 8)).length = (ps.take m).length * 8 := by unfold cellsAt; simp
    have each : ∀ j, j < (ps.take m).length * 8 → ∃ u, w.cell? ⟨b, o + j, none⟩ = some u ∧ u.oneCell' = true := fun j hj => by
      have hi : j / 8 < (ps.take m).length := by omega
      obtain ⟨p, hpp⟩ : ∃ p, (ps.take m)[j / 8]? = some p := ⟨_, List.getElem?_eq_getElem hi⟩
      obtain ⟨A, c, B, d, P2, k2, e0, e1, e2, e3, e4, e5, e6, e7, _⟩ := hr (j / 8) p (hp _ p hpp)
      have h8 : j % 8 = 0 ∨ j % 8 = 1 ∨ j % 8 = 2 ∨ j % 8 = 3 ∨ j % 8 = 4 ∨ j % 8 = 5 ∨ j % 8 = 6 ∨ j % 8 = 7 := by omega
      rcases h8 with h | h | h | h | h | h | h | h
      · exact ⟨_, by rw [show o + j = o + j / 8 * 8 by omega]; exact e0, rfl⟩
      · exact ⟨_, by rw [show o + j = o + j / 8 * 8 + 1 by omega]; exact e1, rfl⟩
      · exact ⟨_, by rw [show o + j = o + j / 8 * 8 + 2 by omega]; exact e2, rfl⟩
      · exact ⟨_, by rw [show o + j = o + j / 8 * 8 + 3 by omega]; exact e3, rfl⟩
      · exact ⟨_, by rw [show o + j = o + j / 8 * 8 + 4 by omega]; exact e4, rfl⟩
      · exact ⟨_, by rw [show o + j = o + j / 8 * 8 + 5 by omega]; exact e5, rfl⟩
      · exact ⟨_, by rw [show o + j = o + j / 8 * 8 + 6 by omega]; exact e6, rfl⟩
      · exact ⟨_, by rw [show o + j = o + j / 8 * 8 + 7 by omega]; exact e7, rfl⟩
    refine ⟨cellsAt w b o ((ps.take m).length * 8), hlen, fun u hu => ?_, ⟨hlen, key⟩, fun _ => ⟨⟨b, o, none⟩, rfl, fun j u hj => ?_⟩⟩
    · obtain ⟨j, hj, e⟩ := List.mem_map.1 hu
      obtain ⟨u2, h1, h2⟩ := each j (by simpa using hj)
      rw [h1] at e
      simp at e; rw [← e]; exact h2
    · have hj2 : j < (ps.take m).length * 8 := by rw [← hlen]; exact (List.getElem?_eq_some_iff.1 hj).1
      obtain ⟨u2, h1, _⟩ := each j hj2
      rw [cellsAt_get hj2 h1] at hj
      rw [Addr.add_lit, h1]; exact hj
theorem newc_of {W0 w : World} {P : Option Addr} {k : Nat} {cs : List Nm} (hcs : CsR W0 w P k cs) (m : Nat) : ∃ news : List Value, news.length = (cs.take m).length * 3 ∧ (∀ u ∈ news, u.oneCell' = true) ∧ CyR W0 news (cs.take m) ∧ ((cs.take m).length ≠ 0 → ∃ ad, P = some ad ∧ ∀ j u, news[j]? = some u → w.cell? (ad.add j) = some u) := by
  by_cases h0 : (cs.take m).length = 0
  · refine ⟨[], by rw [h0]; rfl, fun u hu => by simp at hu, ⟨by rw [h0]; rfl, fun i p hp => ?_⟩, fun h => absurd h0 h⟩
    rw [List.getElem?_eq_none (by omega)] at hp; cases hp
  · have hn : cs.length ≠ 0 := by rw [List.length_take] at h0; omega
    obtain ⟨b, o, rfl, hb, _, hr⟩ := hcs.2 hn
    have hp : ∀ i p, (cs.take m)[i]? = some p → cs[i]? = some p := fun i p h => by
      rw [List.getElem?_take] at h
      split at h
      · exact h
      · cases h
    have key : ∀ i v, (cs.take m)[i]? = some v → ∃ A c, (cellsAt w b o ((cs.take m).length * 3))[i * 3]? = some (.bool v.1) ∧ (cellsAt w b o ((cs.take m).length * 3))[i * 3 + 1]? = some (.slice A v.2.1.length c) ∧ (cellsAt w b o ((cs.take m).length * 3))[i * 3 + 2]? = some (.int .i64 v.2.2) ∧ Dg W0 A c v.2.1 := fun i v h => by
      obtain ⟨A, c, e0, e1, e2, hd⟩ := hr i v (hp i v h)
      have hi : i < (cs.take m).length := by
        rcases Nat.lt_or_ge i (cs.take m).length with h1 | h1
        · exact h1
        · rw [List.getElem?_eq_none_iff.2 h1] at h; cases h
      exact ⟨A, c, cellsAt_get (by omega) e0, cellsAt_get (j := i * 3 + 1) (by omega) e1, cellsAt_get (j := i * 3 + 2) (by omega) e2, hd⟩
    have hlen : (cellsAt w b o ((cs.take m).length * 3)).length = (cs.take m).length * 3 := by unfold cellsAt; simp
    have each : ∀ j, j < (cs.take m).length * 3 → ∃ u, w.cell? ⟨b, o + j, none⟩ = some u ∧ u.oneCell' = true := fun j hj => by
      have hi : j / 3 < (cs.take m).length := by omega
      obtain ⟨p, hpp⟩ : ∃ p, (cs.take m)[j / 3]? = some p := ⟨_, List.getElem?_eq_getElem hi⟩
      obtain ⟨A, c, e0, e1, e2, _⟩ := hr (j / 3) p (hp _ p hpp)
      have h8 : j % 3 = 0 ∨ j % 3 = 1 ∨ j % 3 = 2 := by omega
      rcases h8 with h | h | h
      · exact ⟨_, by rw [show o + j = o + j / 3 * 3 by omega]; exact e0, rfl⟩
      · exact ⟨_, by rw [show o + j = o + j / 3 * 3 + 1 by omega]; exact e1, rfl⟩
      · exact ⟨_, by rw [show o + j = o + j / 3 * 3 + 2 by omega]; exact e2, rfl⟩
    refine ⟨cellsAt w b o ((cs.take m).length * 3), hlen, fun u hu => ?_, ⟨hlen, key⟩, fun _ => ⟨⟨b, o, none⟩, rfl, fun j u hj => ?_⟩⟩
    · obtain ⟨j, hj, e⟩ := List.mem_map.1 hu
      obtain ⟨u2, h1, h2⟩ := each j (by simpa using hj)
      rw [h1] at e
      simp at e; rw [← e]; exact h2
    · have hj2 : j < (cs.take m).length * 3 := by rw [← hlen]; exact (List.getElem?_eq_some_iff.1 hj).1
      obtain ⟨u2, h1, _⟩ := each j hj2
      rw [cellsAt_get hj2 h1] at hj
      rw [Addr.add_lit, h1]; exact hj
/-- What stands in cells, when a row of the walk's own holds them. -/
theorem own_at8 {w : World} {base n size g cap : Nat} {e : TypeId} {xs : List Value} (h : w.ownsRow base e size (.slice (some ⟨g, 0, none⟩) n cap) n xs) {j : Nat} {u : Value} (hj : xs[j]? = some u) : w.cell? ⟨g, j, none⟩ = some u ∧ w.frozen? ⟨g, j, none⟩ = false := by
  have h1 := h.cells (g := g) rfl j u hj
  rw [Addr.add_lit, Nat.zero_add] at h1
  refine ⟨h1, ?_⟩
  rcases h.2 with ⟨h2, _⟩ | ⟨q, cap2, cur, h2, _, hq, _⟩
  · cases h2
  · injection h2 with e1 _ _
    injection e1 with e1; injection e1 with e1 _ _
    subst e1
    exact frozen_of_row _ _ j _ _ hq
theorem own_formT {w : World} {base n size : Nat} {e : TypeId} {v : Value} {xs : List Value} (h : w.ownsRow base e size v n xs) : ∃ X c, v = .slice X n c ∧ (n ≠ 0 → ∃ g, X = some ⟨g, 0, none⟩) := by
  rcases h.2 with ⟨rfl, h0⟩ | ⟨q, cap, cur, rfl, _⟩
  · exact ⟨none, 0, by rw [h0], fun h => absurd h0 h⟩
  · exact ⟨_, _, rfl, fun _ => ⟨q, rfl⟩⟩
theorem own_blk {w : World} {base n size g cap : Nat} {e : TypeId} {xs : List Value} (h : w.ownsRow base e size (.slice (some ⟨g, 0, none⟩) n cap) n xs) : base ≤ g ∧ ∃ cur, w.heap[g]? = some (.cells cur e (0, 0)) := by
  rcases h.2 with ⟨h2, _⟩ | ⟨q, cap2, cur, h2, hb, hq, _⟩
  · cases h2
  · injection h2 with e1 _ _
    injection e1 with e1; injection e1 with e1 _ _
    subst e1
    exact ⟨hb, cur, hq⟩
theorem own_still {w w' : World} {base n size : Nat} {e : TypeId} {v : Value} {xs : List Value} (h : w.ownsRow base e size v n xs) (hk : ∀ k, v.ownBlock = some k → w'.heap[k]? = w.heap[k]?) : w'.ownsRow base e size v n xs := by
  refine ⟨h.1, ?_⟩
  rcases h.2 with h1 | ⟨g, cap, cur, rfl, hb, hg, hr⟩
  · exact .inl h1
  · exact .inr ⟨g, cap, cur, rfl, hb, (hk g rfl).trans hg, hr⟩
end Go.Proofs.YtfhdhldgflbpjaaDoor
end

section
/-
  A whole box stored, loaded.
-/
namespace Go.Proofs.YtfhdhldgflbpjaaDoor
open Go.RowKit
set_option linter.unusedSimpArgs false
set_option linter.unusedVariables false
theorem only_setRow (w : World) (g : Nat) (cs : Array Value) : Only g w (w.setRow g cs) := ⟨rfl, rfl, rfl, by simp, fun k hk => setRow_other w g k cs hk⟩
/-- A whole struct is stored into a box that is there. -/
theorem wpList_store_box {P : Program} {ops : Array Oper} {rest : List Oper} {o : Oper} {a : Act} {w : World} {Q : Exit → Act → World → Prop} (hgd : o.guard = none) (ty : TypeId) (x v : Operand) (ho : o.op = .store ty x v) (g : Nat) (hx : a.eval x = .pointer (some ⟨g, 0, none⟩)) (cells : Array Value) (hv : a.eval v = .agg cells) (old : Array Value) (T : TypeId) (hg : w.heap[g]? = some (.cells old T (0, 0)))
    (hi : (P.info? ty).map (·.size) = some cells.size) (hz : old.size = cells.size) (h1 : cells.all (·.oneCell') = true) (h : ∀ w', Only g w w' → w'.heap[g]? = some (.cells cells T (0, 0)) → wpList P ops Q rest (a.put o.dst undef) w') : wpList P ops Q (o :: rest) a w :=
  wpList_plain hgd fun K hK => by
    have hs := run_storeVar_row (P := P) w g T ty old cells hg hi hz h1
    unfold Oper.wp execOp
    simp only [ho, hx, hv, Instr.storeAt, Instr.sureAddr, Sem.run_bind, Sem.run_pure, Result.andThen_ok, hs]
    exact hK _ _ (h _ (only_setRow w g cells) (setRow_heap w g old cells T (0, 0) hg))
/-- A whole struct out of a box. -/
theorem wpList_load_box {P : Program} {ops : Array Oper} {rest : List Oper} {o : Oper} {a : Act} {w : World} {Q : Exit → Act → World → Prop} (hgd : o.guard = none) (ty : TypeId) (x : Operand) (ho : o.op = .load ty x) (g : Nat) (hx : a.eval x = .pointer (some ⟨g, 0, none⟩)) (cells : Array Value) (T : TypeId) (hg : w.heap[g]? = some (.cells cells T (0, 0))) (d : TypeDesc)
    (hu : P.underlying ty = some d) (hd : (match d with | .struct _ | .array _ _ => true | _ => false) = true) (hi : (P.info? ty).map (·.size) = some cells.size)
    (h : wpList P ops Q rest (a.put o.dst (.agg cells)) w) : wpList P ops Q (o :: rest) a w :=
  wpList_plain hgd fun _ hK => by
    have hl : (loadCells ⟨g, 0, none⟩ cells.size).run P w = .ok cells w := by
      have hl := run_loadCells_list (P := P) w ⟨g, 0, none⟩ cells.toList (fun j v hv => by
        rw [Addr.add_lit, Nat.zero_add]
        exact row_c hg (by simpa using hv))
      simpa using hl
    have hld : (loadVar ty ⟨g, 0, none⟩).run P w = .ok (.agg cells) w := by
      cases hq : P.info? ty with
      | none => simp [hq] at hi
      | some i =>
        have hs : i.size = cells.size := by simpa [hq] using hi
        have hagg : (isAgg ty).run P w = .ok true w := by
          unfold isAgg
          rw [Sem.run_bind, run_underlying hu w]
          cases d <;> simp_all
        simp [loadVar, Sem.run_bind, hagg, sizeOf, typeInfo, hq, hs, hl]
    unfold Oper.wp execOp
    simp only [ho, hx, Instr.loadAt, Instr.sureAddr, Sem.run_bind, Sem.run_pure, Result.andThen_ok, hld]
    exact hK _ _ h
theorem tab_one {F O W Q D x : Int} {s : Bool} {A P : Option Addr} {n c m k : Nat} : (#[.int .i64 F, .int .i64 O, .bool s, .slice A n c, .int .i64 x, .int .i64 W, .int .i64 Q, .int .i64 D, .slice P m k] : Array Value).all (·.oneCell') = true := by simp [Value.oneCell']
theorem tab_size : (Tryd.prog.info? 29).map (·.size) = some 9 := by kernel_rfl
end Go.Proofs.YtfhdhldgflbpjaaDoor
end

section
/-
  A table of at most eight digits: trims.
-/
namespace Go.Proofs.YtfhdhldgflbpjaaDoor
open Go.RowKit
set_option linter.unusedSimpArgs false
set_option linter.unusedVariables false
theorem set3 (xs : List Value) {a b c : Nat} (u0 u1 u2 : Value) (h1 : a ≠ b) (h2 : a ≠ c) (h3 : b ≠ c) (ha : a < xs.length) (hb : b < xs.length) (hc : c < xs.length) : (((xs.set a u0).set b u1).set c u2).length = xs.length ∧ (((xs.set a u0).set b u1).set c u2)[a]? = some u0 ∧ (((xs.set a u0).set b u1).set c u2)[b]? = some u1 ∧ (((xs.set a u0).set b u1).set c u2)[c]? = some u2 ∧ ∀ i, i ≠ a → i ≠ b → i ≠ c → (((xs.set a u0).set b u1).set c u2)[i]? = xs[i]? := by
  refine ⟨by simp, ?_, ?_, ?_, fun i i1 i2 i3 => ?_⟩
  · rw [List.getElem?_set_ne (Ne.symm h2), List.getElem?_set_ne (Ne.symm h1), List.getElem?_set_self ha]
  · rw [List.getElem?_set_ne (Ne.symm h3), List.getElem?_set_self (by simp; omega)]
  · rw [List.getElem?_set_self (by simp; omega)]
  · rw [List.getElem?_set_ne (Ne.symm i3), List.getElem?_set_ne (Ne.symm i2), List.getElem?_set_ne (Ne.symm i1)]
theorem PcR.only {W0 w w' : World} {xs : List Value} {ps : List Pd} (h : PcR W0 w xs ps) {b : Nat} (hO : Only b w w') (hb : W0.heap.size ≤ b) {cur : Array Value} {T : TypeId} {fr : Nat × Nat} (hT : w.heap[b]? = some (.cells cur T fr)) (hne : T ≠ 26) : PcR W0 w' xs ps :=
  h.same (Nat.le_of_eq hO.size.symm) (fun k _ hk => hO.block k (fun e => by
    subst e
    rcases hk with hk | ⟨c2, f2, hk⟩
    · omega
    · rw [hT] at hk; exact hne (by injection hk with hk; injection hk)))
theorem CsR.only {W0 w w' : World} {P : Option Addr} {k : Nat} {cs : List Nm} (h : CsR W0 w P k cs) {b : Nat} (hO : Only b w w') (hb : W0.heap.size ≤ b) {cur : Array Value} {T : TypeId} {fr : Nat × Nat} (hT : w.heap[b]? = some (.cells cur T fr)) (hne : T ≠ 26) : CsR W0 w' P k cs :=
  h.same (Nat.le_of_eq hO.size.symm) (fun k _ hk => hO.block k (fun e => by
    subst e
    rcases hk with hk | ⟨c2, f2, hk⟩
    · omega
    · rw [hT] at hk; exact hne (by injection hk with hk; injection hk)))
theorem CsR.below {W0 w w' : World} {P : Option Addr} {k : Nat} {cs : List Nm} (h : CsR W0 w P k cs) (hB : Below w.heap.size w w') : CsR W0 w' P k cs := h.same hB.size (fun b h1 _ => hB.block b h1)
theorem PcR.below {W0 w w' : World} {xs : List Value} {ps : List Pd} (h : PcR W0 w xs ps) (hB : Below w.heap.size w w') : PcR W0 w' xs ps := h.same hB.size (fun b h1 _ => hB.block b h1)
theorem own_below {w w' : World} {base n size : Nat} {e : TypeId} {v : Value} {xs : List Value} (h : w.ownsRow base e size v n xs) (hB : Below w.heap.size w w') : w'.ownsRow base e size v n xs := own_still h (fun k hk => hB.block k (h.lt k hk).2)
theorem CsR.ns {W0 w : World} {P : Option Addr} {k : Nat} {cs : List Nm} (h : CsR W0 w P k cs) (hB : Below W0.heap.size W0 w) : NsL w P k cs := by
  by_cases h0 : cs.length = 0
  · have : cs = [] := List.length_eq_zero_iff.1 h0
    subst this
    exact ⟨fun _ => none, fun _ => 0, Nat.zero_le _, fun h => absurd rfl h⟩
  · obtain ⟨b, o, rfl, hb, _, hc⟩ := h.2 h0
    have key : ∀ i, ∃ Ac : Option Addr × Nat, i < cs.length → w.cell? ⟨b, o + i * 3, none⟩ = some (.bool ((cs[i]?.getD (false, [], 0)).1)) ∧ w.cell? ⟨b, o + i * 3 + 1, none⟩ = some (.slice Ac.1 ((cs[i]?.getD (false, [], 0)).2.1).length Ac.2) ∧ w.cell? ⟨b, o + i * 3 + 2, none⟩ = some (.int .i64 (cs[i]?.getD (false, [], 0)).2.2) ∧ Dg w Ac.1 Ac.2 (cs[i]?.getD (false, [], 0)).2.1 := by
      intro i
      by_cases hi : i < cs.length
      · obtain ⟨A, c, c0, c1, c2, hd⟩ := hc i cs[i] (List.getElem?_eq_getElem hi)
        refine ⟨(A, c), fun _ => ?_⟩
        have e : cs[i]?.getD (false, [], 0) = cs[i] := by rw [List.getElem?_eq_getElem hi]; rfl
        rw [e]
        exact ⟨c0, c1, c2, hd.below hB⟩
      · exact ⟨(none, 0), fun h => absurd h hi⟩
    exact ⟨fun i => (Classical.choose (key i)).1, fun i => (Classical.choose (key i)).2, h.1, fun _ => ⟨b, o, rfl, hb, fun i hi => Classical.choose_spec (key i) hi⟩⟩
theorem csr_of_own {W0 w : World} {base n cap : Nat} {Y : Option Addr} {ys : List Value} {cs : List Nm} (h : w.ownsRow base 26 3 (.slice Y n cap) n ys) (hc : CyR W0 ys cs) : CsR W0 w Y cap cs := by
  have hl : n = cs.length := by have h1 := h.1; have h2 := hc.1; omega
  rcases h.2 with ⟨h2, h0⟩ | ⟨q, cap2, cur, h2, hb, hq, h3, _⟩
  · exact ⟨by omega, fun h1 => absurd (by omega) h1⟩
  · injection h2 with e1 _ e3
    subst e1
    refine ⟨by omega, fun _ => ⟨q, 0, rfl, heap_lt hq, .inr ⟨cur, _, hq⟩, fun i v hv => ?_⟩⟩
    obtain ⟨A, c, c0, c1, c2, hd⟩ := hc.2 i v hv
    have ce : ∀ j u, ys[j]? = some u → w.cell? ⟨q, 0 + j, none⟩ = some u := fun j u hu => by
      have := h.cells (g := q) rfl j u hu
      rwa [Addr.add_lit] at this
    exact ⟨A, c, ce _ _ c0, ce _ _ c1, ce _ _ c2, hd⟩
theorem psl_of_own {W0 w : World} {base n cap : Nat} {X : Option Addr} {xs : List Value} {ps : List Pd} (h : w.ownsRow base 46 8 (.slice X n cap) n xs) (hp : PcR W0 w xs ps) (hB : Below W0.heap.size W0 w) : PsL w X ps := by
  intro hn
  have hl : n = ps.length := by have h1 := h.1; have h2 := hp.1; omega
  rcases h.2 with ⟨h2, h0⟩ | ⟨q, cap2, cur, h2, hb, hq, h3, _⟩
  · omega
  · injection h2 with e1 _ e3
    subst e1
    refine ⟨q, 0, rfl, heap_lt hq, fun i p hip => ?_⟩
    obtain ⟨A, c, P, k, B, d, c0, c1, c2, c3, c4, c5, c6, c7, ha, hcs, hb2⟩ := hp.2 i p hip
    have ce : ∀ j u, xs[j]? = some u → w.cell? ⟨q, 0 + j, none⟩ = some u := fun j u hu => by
      have := h.cells (g := q) rfl j u hu
      rwa [Addr.add_lit] at this
    exact ⟨A, c, B, d, P, k, ce _ _ c0, ce _ _ c1, ce _ _ c2, ce _ _ c3, ce _ _ c4, ce _ _ c5, ce _ _ c6, ce _ _ c7, ha.below hB, hb2.below hB, hcs.ns hB⟩
/-- The rows of numbers of the first m pieces lie in cells of numbers. -/
def TyR (w : World) (xs : List Value) (m : Nat) : Prop := ∀ i, i < m → ∀ P n k, xs[i * 8 + 4]? = some (.slice P n k) → n ≠ 0 → ∃ b o cur fr, P = some ⟨b, o, none⟩ ∧ w.heap[b]? = some (.cells cur 26 fr)
theorem TyR.below {w w' : World} {xs : List Value} {m : Nat} (h : TyR w xs m) (hB : Below w.heap.size w w') : TyR w' xs m := fun i hi P n k hx hn => by
  obtain ⟨b, o, cur, fr, e, hc⟩ := h i hi P n k hx hn
  exact ⟨b, o, cur, fr, e, (hB.block b (heap_lt hc)).trans hc⟩
theorem TyR.only {w w' : World} {xs : List Value} {m b : Nat} (h : TyR w xs m) (hO : Only b w w') {cur : Array Value} {T : TypeId} {fr : Nat × Nat} (hT : w.heap[b]? = some (.cells cur T fr)) (hne : T ≠ 26) : TyR w' xs m := fun i hi P n k hx hn => by
  obtain ⟨b2, o, cur2, fr2, e, hc⟩ := h i hi P n k hx hn
  refine ⟨b2, o, cur2, fr2, e, (hO.block b2 (fun e2 => ?_)).trans hc⟩
  subst e2
  rw [hT] at hc; exact hne (by injection hc with hc; injection hc)
theorem TyR.xs {w : World} {xs ys : List Value} {m : Nat} (h : TyR w xs m) (hx : ∀ i, i < m → ys[i * 8 + 4]? = xs[i * 8 + 4]?) : TyR w ys m := fun i hi P n k hc hn => h i hi P n k ((hx i hi).symm.trans hc) hn
/-- Numbers, pieces in cells of their own kind. -/
def CsT (w : World) (P : Option Addr) (k : Nat) (cs : List Nm) : Prop := cs.length ≤ k ∧ (cs.length ≠ 0 → ∃ b o cur fr, P = some ⟨b, o, none⟩ ∧ w.heap[b]? = some (.cells cur 26 fr) ∧ ∀ (i : Nat) v, cs[i]? = some v → ∃ A c, w.cell? ⟨b, o + i * 3, none⟩ = some (.bool v.1) ∧ w.cell? ⟨b, o + i * 3 + 1, none⟩ = some (.slice A v.2.1.length c) ∧ w.cell? ⟨b, o + i * 3 + 2, none⟩ = some (.int .i64 v.2.2) ∧ Dg w A c v.2.1)
def PsT (w : World) (P : Option Addr) (ps : List Pd) : Prop := ps.length ≠ 0 → ∃ b o cur fr, P = some ⟨b, o, none⟩ ∧ w.heap[b]? = some (.cells cur 46 fr) ∧ ∀ (i : Nat) p, ps[i]? = some p → ∃ A c B d P k, w.cell? ⟨b, o + i * 8, none⟩ = some (.bool p.a.1) ∧ w.cell? ⟨b, o + i * 8 + 1, none⟩ = some (.slice A p.a.2.1.length c) ∧ w.cell? ⟨b, o + i * 8 + 2, none⟩ = some (.int .i64 p.a.2.2) ∧ w.cell? ⟨b, o + i * 8 + 3, none⟩ = some (.int .i64 p.w) ∧ w.cell? ⟨b, o + i * 8 + 4, none⟩ = some (.slice P p.cs.length k) ∧ w.cell? ⟨b, o + i * 8 + 5, none⟩ = some (.bool p.er.1) ∧ w.cell? ⟨b, o + i * 8 + 6, none⟩ = some (.slice B p.er.2.1.length d) ∧ w.cell? ⟨b, o + i * 8 + 7, none⟩ = some (.int .i64 p.er.2.2) ∧ Dg w A c p.a.2.1 ∧ Dg w B d p.er.2.1 ∧ CsT w P k p.cs
theorem CsT.ns {w : World} {P : Option Addr} {k : Nat} {cs : List Nm} (h : CsT w P k cs) : NsL w P k cs := by
  refine CsR.ns (W0 := w) ⟨h.1, fun h0 => ?_⟩ (Below.refl _ _)
  obtain ⟨b, o, cur, fr, e, hc, hr⟩ := h.2 h0
  exact ⟨b, o, e, heap_lt hc, .inl (heap_lt hc), hr⟩
theorem PsT.ps {w : World} {P : Option Addr} {ps : List Pd} (h : PsT w P ps) : PsL w P ps := fun h0 => by
  obtain ⟨b, o, cur, fr, e, hc, hr⟩ := h h0
  refine ⟨b, o, e, heap_lt hc, fun i p hp => ?_⟩
  obtain ⟨A, c, B, d, P2, k, e0, e1, e2, e3, e4, e5, e6, e7, ha, he, hn⟩ := hr i p hp
  exact ⟨A, c, B, d, P2, k, e0, e1, e2, e3, e4, e5, e6, e7, ha, he, hn.ns⟩
theorem PsT.keep {w w' : World} {P : Option Addr} {ps : List Pd} (h : PsT w P ps) (hk : Kept w w') (hb : ∀ (b : Nat) (cur : Array Value) (T : TypeId) (fr : Nat × Nat), w.heap[b]? = some (.cells cur T fr) → (T = 46 ∨ T = 26) → w'.heap[b]? = some (.cells cur T fr)) : PsT w' P ps := fun h0 => by
  obtain ⟨b, o, cur, fr, e, hc, hr⟩ := h h0
  have hc' := hb b cur _ fr hc (.inl rfl)
  have ce : ∀ j, w'.cell? ⟨b, j, none⟩ = w.cell? ⟨b, j, none⟩ := fun j => World.cell?_of_block (a := ⟨b, j, none⟩) (hc'.trans hc.symm)
  refine ⟨b, o, cur, fr, e, hc', fun i p hp => ?_⟩
  obtain ⟨A, c, B, d, P2, k, e0, e1, e2, e3, e4, e5, e6, e7, ha, he, hn⟩ := hr i p hp
  refine ⟨A, c, B, d, P2, k, (ce _).trans e0, (ce _).trans e1, (ce _).trans e2, (ce _).trans e3, (ce _).trans e4, (ce _).trans e5, (ce _).trans e6, (ce _).trans e7, ha.kept hk, he.kept hk, hn.1, fun h1 => ?_⟩
  obtain ⟨b2, o2, cur2, fr2, e8, hc2, hr2⟩ := hn.2 h1
  have hc2' := hb b2 cur2 _ fr2 hc2 (.inr rfl)
  have ce2 : ∀ j, w'.cell? ⟨b2, j, none⟩ = w.cell? ⟨b2, j, none⟩ := fun j => World.cell?_of_block (a := ⟨b2, j, none⟩) (hc2'.trans hc2.symm)
  refine ⟨b2, o2, cur2, fr2, e8, hc2', fun i v hv => ?_⟩
  obtain ⟨A3, c3, x0, x1, x2, hd⟩ := hr2 i v hv
  exact ⟨A3, c3, (ce2 _).trans x0, (ce2 _).trans x1, (ce2 _).trans x2, hd.kept hk⟩
theorem PsT.below {w w' : World} {P : Option Addr} {ps : List Pd} (h : PsT w P ps) (hB : Below w.heap.size w w') : PsT w' P ps := h.keep (Kept.below hB) (fun b cur T fr hc _ => (hB.block b (heap_lt hc)).trans hc)
theorem PsT.only {w w' : World} {P : Option Addr} {ps : List Pd} (h : PsT w P ps) {g : Nat} (hO : Only g w w') {cur : Array Value} {T : TypeId} (hT : w.heap[g]? = some (.cells cur T (0, 0))) (hz : ∀ (i : Nat) (n : Int), cur[i]? ≠ some (.int .u32 n)) (h1 : T ≠ 46) (h2 : T ≠ 26) : PsT w' P ps :=
  h.keep (hO.kept hT hz) (fun b cur2 T2 fr2 hc hT2 => (hO.block b (fun e => by
    subst e
    rw [hT] at hc
    injection hc with hc; injection hc with _ e2 _
    rcases hT2 with e3 | e3
    · exact h1 (e2.trans e3)
    · exact h2 (e2.trans e3))).trans hc)
theorem pst_of_own {W0 w : World} {base n cap : Nat} {X : Option Addr} {xs : List Value} {ps : List Pd} (h : w.ownsRow base 46 8 (.slice X n cap) n xs) (hp : PcR W0 w xs ps) (hB : Below W0.heap.size W0 w) (hy : TyR w xs n) : PsT w X ps := by
  intro hn
  have hl : n = ps.length := by have h1 := h.1; have h2 := hp.1; omega
  rcases h.2 with ⟨h2, h0⟩ | ⟨q, cap2, cur, h2, hb, hq, h3, _⟩
  · omega
  · injection h2 with e1 _ e3
    subst e1
    refine ⟨q, 0, cur, _, rfl, hq, fun i p hip => ?_⟩
    have hi : i < n := by
      rcases Nat.lt_or_ge i ps.length with h1 | h1
      · omega
      · rw [List.getElem?_eq_none_iff.2 h1] at hip; cases hip
    obtain ⟨A, c, P, k, B, d, c0, c1, c2, c3, c4, c5, c6, c7, ha, hcs, hb2⟩ := hp.2 i p hip
    have ce : ∀ j u, xs[j]? = some u → w.cell? ⟨q, 0 + j, none⟩ = some u := fun j u hu => by
      have := h.cells (g := q) rfl j u hu
      rwa [Addr.add_lit] at this
    refine ⟨A, c, B, d, P, k, ce _ _ c0, ce _ _ c1, ce _ _ c2, ce _ _ c3, ce _ _ c4, ce _ _ c5, ce _ _ c6, ce _ _ c7, ha.below hB, hb2.below hB, hcs.1, fun h1 => ?_⟩
    obtain ⟨b, o, cur3, fr3, e8, hc3⟩ := hy i hi P _ k c4 h1
    obtain ⟨b2, o2, e9, _, _, hr⟩ := hcs.2 h1
    rw [e8] at e9
    injection e9 with e9; injection e9 with e10 e11 _
    subst e10 e11
    refine ⟨b, o, cur3, fr3, e8, hc3, fun i2 v hv => ?_⟩
    obtain ⟨A3, c3', x0, x1, x2, hd⟩ := hr i2 v hv
    exact ⟨A3, c3', x0, x1, x2, hd.below hB⟩
theorem own_neT {w : World} {base n size k : Nat} {e : TypeId} {v : Value} {xs : List Value} (h : w.ownsRow base e size v n xs) {cs : Array Value} {T : TypeId} {fr : Nat × Nat} (hr : w.heap[k]? = some (.cells cs T fr)) (hT : T ≠ e) : v.ownBlock ≠ some k := by
  intro ek
  rcases h.2 with ⟨rfl, _⟩ | ⟨q, cap, cur, rfl, _, hq, _⟩
  · cases ek
  · obtain rfl : q = k := by simpa [Value.ownBlock] using ek
    rw [hq] at hr
    exact hT (by injection hr with hr; injection hr with _ h2 _; exact h2.symm)
theorem cell_ltA {w : World} {p : Addr} {v : Value} (h : w.cell? p = some v) : p.block < w.heap.size := by
  rcases Nat.lt_or_ge p.block w.heap.size with h' | h'
  · exact h'
  · simp [World.cell?, Array.getElem?_eq_none h'] at h
theorem NXB {w w3 : World} {P : Option Addr} {n : Nat} {news : List Value} (h : n ≠ 0 → ∃ ad, P = some ad ∧ ∀ j u, news[j]? = some u → w.cell? (ad.add j) = some u) (hB : Below w.heap.size w w3) (h0 : n ≠ 0) : ∃ ad, P = some ad ∧ ∀ j u, news[j]? = some u → w3.cell? (ad.add j) = some u := by
  obtain ⟨ad, e, hc⟩ := h h0
  refine ⟨ad, e, fun j u hj => ?_⟩
  have h1 := hc j u hj
  have hb : (ad.add j).block < w.heap.size := cell_ltA h1
  exact (hB.cell (p := ad.add j) hb).trans h1

set_option maxHeartbeats 8000000 in
set_option maxRecDepth 100000 in
theorem trims_any (A P : Option Addr) (c k : Nat) (F O W Q D : Int) (a : Nm) (ps : List Pd) (w : World) (h : Dg w A c a.2.1) (hps : PsL w P ps) (hk : ps.length ≤ k) (hk2 : ps.length ≤ 9223372036854775807) (hk3 : a.2.1.length ≤ 9223372036854775807) :
    Calls Tryd.prog 6 #[.agg #[.int .i64 F, .int .i64 O, .bool a.1, .slice A a.2.1.length c, .int .i64 a.2.2, .int .i64 W, .int .i64 Q, .int .i64 D, .slice P ps.length k]] w fun e w' => ∃ P2 k2, e = .returned (.agg #[.int .i64 F, .int .i64 O, .bool a.1, .slice A (a.2.1.take 8).length c, .int .i64 a.2.2, .int .i64 W, .int .i64 Q, .int .i64 D, .slice P2 ((ps.take 40).map cutP).length k2]) ∧ PsT w' P2 ((ps.take 40).map cutP) ∧ Below w.heap.size w w' := by
  have HD := Lib.hid h
  obtain ⟨n, hn⟩ : ∃ n, (ps.take 40).length = n := ⟨_, rfl⟩
  have HNE := Lib.hid hn
  have hmin : min (ps.length : Int) 40 = (n : Int) := by rw [← hn, List.length_take]; omega
  have n0 : (0 : Int) ≤ (n : Int) := by omega
  have n1 : (n : Int) ≤ (k : Int) := by rw [← hn, List.length_take]; omega
  have NB := Lib.hid (show n ≤ 40 by rw [← hn, List.length_take]; omega)
  obtain ⟨news, hnl, hno, hnc, hnx⟩ := news_of hps 40
  rw [hn] at hnl hnx
  have HNL := Lib.hid hnl
  have HNO := Lib.hid hno
  have HNC := Lib.hid hnc
  have HNX := Lib.hid hnx
  have C8 := Lib.hid (And.intro (show min (a.2.1.length : Int) 8 = ((a.2.1.take 8).length : Int) by rw [List.length_take]; omega) (show (a.2.1.take 8).length ≤ c by have := h.1; rw [List.length_take]; omega))
  obtain ⟨qs, hqs⟩ : ∃ l, ps.take 40 = l := ⟨_, rfl⟩
  rw [hqs] at HNE HNC ⊢
  clear hqs
  obtain ⟨i0, hi, hz0, hz1, hz2⟩ := pc_info
  obtain ⟨j0, hj, hy0, hy1, hy2⟩ := dy_info
  have II := Lib.hid (And.intro hi (And.intro hz0 (And.intro hz1 hz2)))
  have JJ := Lib.hid (And.intro hj (And.intro hy0 (And.intro hy1 hy2)))
  clear h hps hk hk3 hn hnl hno hnc hnx hi hz0 hz1 hz2 hj hy0 hy1 hy2
  obtain ⟨s, ds, ax⟩ := a
  dsimp only at *
  obtain ⟨es, hes⟩ : ∃ l, ds.take 8 = l := ⟨_, rfl⟩
  have HES := Lib.hid hes
  rw [hes] at C8 ⊢
  clear hes
  go_enter Tryd.func6, Tryd.ntmps6
  go_wp2_with fail
  obtain ⟨v1, hW⟩ : ∃ V : World, (w.alloc (.cells #[.int .i64 F, .int .i64 O, .bool s, .slice A ds.length c, .int .i64 ax, .int .i64 W, .int .i64 Q, .int .i64 D, .slice P ps.length k] 29)).alloc (.cells #[.int .i64 0, .int .i64 0, .bool false, .slice none 0 0, .int .i64 0, .int .i64 0, .int .i64 0, .int .i64 0, .slice none 0 0] 29) = V := ⟨_, rfl⟩
  rw [hW]
  have B1 := Lib.hid (show Below w.heap.size w v1 by rw [← hW]; exact ((Below.refl _ _).alloc (by simp <;> omega) _).alloc (by simp <;> omega) _)
  have T1 := Lib.hid (show v1.heap[w.heap.size]? = some (.cells #[.int .i64 F, .int .i64 O, .bool s, .slice A ds.length c, .int .i64 ax, .int .i64 W, .int .i64 Q, .int .i64 D, .slice P ps.length k] 29 (0, 0)) by rw [← hW, heap_alloc_old _ _ (by simp)]; exact heap_alloc_new _ _)
  have R1 := Lib.hid (show v1.heap[w.heap.size + 1]? = some (.cells #[.int .i64 0, .int .i64 0, .bool false, .slice none 0 0, .int .i64 0, .int .i64 0, .int .i64 0, .int .i64 0, .slice none 0 0] 29 (0, 0)) by rw [← hW]; have := heap_alloc_new (w.alloc (.cells #[.int .i64 F, .int .i64 O, .bool s, .slice A ds.length c, .int .i64 ax, .int .i64 W, .int .i64 Q, .int .i64 D, .slice P ps.length k] 29)) (.cells #[.int .i64 0, .int .i64 0, .bool false, .slice none 0 0, .int .i64 0, .int .i64 0, .int .i64 0, .int .i64 0, .slice none 0 0] 29); simpa using this)
  clear hW
  refine (cut_l (A := A) (c := c) (s := s) (xs := ds) (ts := es) (x := ax) (N := 8) C8.out.1 C8.out.2).mono ?_
  rintro e w2 ⟨rfl, hb⟩
  have T2 := co T1 hb
  have R2 := co R1 hb
  have B2 := Lib.hid (B1.out.trans (hb.mono B1.out.size))
  clear hb
  have f0 := row_c (i := 0) T2.out rfl
  have z0 := frozen_of_row _ _ 0 _ _ T2.out
  have f1 := row_c (i := 1) T2.out rfl
  have z1 := frozen_of_row _ _ 1 _ _ T2.out
  have f2 := row_c (i := 2) T2.out rfl
  have z2 := frozen_of_row _ _ 2 _ _ T2.out
  have f3 := row_c (i := 3) T2.out rfl
  have z3 := frozen_of_row _ _ 3 _ _ T2.out
  have f4 := row_c (i := 4) T2.out rfl
  have z4 := frozen_of_row _ _ 4 _ _ T2.out
  have f5 := row_c (i := 5) T2.out rfl
  have z5 := frozen_of_row _ _ 5 _ _ T2.out
  have f6 := row_c (i := 6) T2.out rfl
  have z6 := frozen_of_row _ _ 6 _ _ T2.out
  have f7 := row_c (i := 7) T2.out rfl
  have z7 := frozen_of_row _ _ 7 _ _ T2.out
  have f8 := row_c (i := 8) T2.out rfl
  have z8 := frozen_of_row _ _ 8 _ _ T2.out
  have xt := heap_lt T2.out
  go_upto_region 2 with fail
  clear f0 z0 f1 z1 f2 z2 f3 z3 f4 z4 f5 z5 f6 z6 f7 z7 f8 z8 xt
  obtain ⟨w3, hW⟩ : ∃ V : World, ((w2.setCell ⟨w.heap.size, 2, none⟩ (.bool s)).setCell ⟨w.heap.size, 3, none⟩ (.slice A es.length c)).setCell ⟨w.heap.size, 4, none⟩ (.int .i64 ax) = V := ⟨_, rfl⟩
  rw [hW]
  have hO : Only w.heap.size w2 w3 := by rw [← hW]; exact (((Only.refl _ w2).setCell 2 _).setCell 3 _).setCell 4 _
  have T3 := Lib.hid (show w3.heap[w.heap.size]? = some (.cells #[.int .i64 F, .int .i64 O, .bool s, .slice A es.length c, .int .i64 ax, .int .i64 W, .int .i64 Q, .int .i64 D, .slice P ps.length k] 29 (0, 0)) by rw [← hW]; exact heap_setCell_same _ _ 4 _ _ _ (heap_setCell_same _ _ 3 _ _ _ (heap_setCell_same _ _ 2 _ _ _ T2.out)))
  have R3 := Lib.hid ((hO.block _ (by omega)).trans R2.out)
  have B3 := Lib.hid (hO.below B2.out (Nat.le_refl _))
  clear hW hO
  have f8 := row_c (i := 8) T3.out rfl
  have hb3 := B3.out.size
  go_wp2_with (at_builtin; refine wpList_append_copy rfl _ _ 27 46 rfl w.heap.size i0 zpc 8 112 Tryd.underlying27 II.out.1 II.out.2.1 II.out.2.2.1 II.out.2.2.2 rfl (by decide) P n k news rfl rfl HNL.out (fun h0 => NXB HNX.out B3.out h0) HNO.out (by have := NB.out; unfold maxLen; omega) (by have := NB.out; omega) hb3 ?_)
  intro v4 w4 hown hb
  obtain ⟨X, cap, rfl, hX⟩ := own_formT hown
  have O4 := Lib.hid hown
  have P4 := Lib.hid (show PcR w w4 news ((List.map cutP (qs.take 0)) ++ qs.drop 0) by simpa using HNC.out.same (B3.out.trans (hb.mono B3.out.size)).size (fun b h1 _ => (B3.out.trans (hb.mono B3.out.size)).block b h1))
  have T4 := co T3 hb
  have R4 := co R3 hb
  have B4 := Lib.hid (B3.out.trans (hb.mono B3.out.size))
  have HXX := Lib.hid hX
  clear hown hb hX f8 hb3 hmin n0 n1
  go_wp2_with fail
  go_loopw [4] (fun i wr => ∃ (j : Nat) (xs : List Value), j ≤ n ∧ i = .int .i64 j ∧ Hid (wr.ownsRow w.heap.size 46 8 (.slice X n cap) n xs) ∧ Hid (PcR w wr xs ((qs.take j).map cutP ++ qs.drop j) ∧ TyR wr xs j) ∧ Hid (Below w.heap.size w wr) ∧ Hid (wr.heap[w.heap.size]? = some (.cells #[.int .i64 F, .int .i64 O, .bool s, .slice A es.length c, .int .i64 ax, .int .i64 W, .int .i64 Q, .int .i64 D, .slice P ps.length k] 29 (0, 0))) ∧ Hid (wr.heap[w.heap.size + 1]? = some (.cells #[.int .i64 0, .int .i64 0, .bool false, .slice none 0 0, .int .i64 0, .int .i64 0, .int .i64 0, .int .i64 0, .slice none 0 0] 29 (0, 0)))) (fun i _ => n - (intOf i).toNat)
  case atStart => exact ⟨0, news, Nat.zero_le _, rfl, O4, Lib.hid ⟨P4.out, fun i hi => absurd hi (Nat.not_lt_zero i)⟩, B4, T4, R4⟩
  case round =>
    obtain ⟨j, xs, hj, rfl, HO, HPY, HB, HTT, HRR⟩ := hrel
    have HP := Lib.hid HPY.out.1
    have HTY := Lib.hid HPY.out.2
    clear HPY
    by_cases hlt : j < n
    · obtain ⟨lb, rfl⟩ := HXX.out (by omega)
      obtain ⟨p, hp⟩ : ∃ p, qs[j]? = some p := ⟨_, List.getElem?_eq_getElem (by rw [HNE.out]; exact hlt)⟩
      have HPQ := Lib.hid hp
      obtain ⟨A1, c1, P1, k1, B1, d1, e0, e1, e2, e3, e4, e5, e6, e7, hda, hcs, hde⟩ := HP.out.2 j p (mix_at cutP qs j hp)
      have HXL := Lib.hid (show xs.length = n * 8 by rw [HP.out.1]; simp; rw [HNE.out]; omega)
      have HE := Lib.hid (And.intro e0 (And.intro e1 (And.intro e2 (And.intro e3 (And.intro e4 (And.intro e5 (And.intro e6 e7)))))))
      obtain ⟨x1, hx1⟩ : ∃ l, p.a.2.1.take 8 = l := ⟨_, rfl⟩
      obtain ⟨x2, hx2⟩ : ∃ l, p.er.2.1.take 8 = l := ⟨_, rfl⟩
      have CA := Lib.hid (And.intro (show min (p.a.2.1.length : Int) 8 = (x1.length : Int) by rw [← hx1, List.length_take]; omega) (show x1.length ≤ c1 by have := hda.1; rw [← hx1, List.length_take]; omega))
      have CE := Lib.hid (And.intro (show min (p.er.2.1.length : Int) 8 = (x2.length : Int) by rw [← hx2, List.length_take]; omega) (show x2.length ≤ d1 by have := hde.1; rw [← hx2, List.length_take]; omega))
      have HA1 := Lib.hid (show Dg w A1 c1 x1 by rw [← hx1]; exact hda.take 8)
      have HE1 := Lib.hid (show Dg w B1 d1 x2 by rw [← hx2]; exact hde.take 8)
      have HX1 := Lib.hid hx1
      have HX2 := Lib.hid hx2
      have HCS := Lib.hid hcs
      have HDA := Lib.hid hda
      have HDE := Lib.hid hde
      have HLT := Lib.hid hlt
      have LB := Lib.hid (own_blk HO.out)
      have hjn : ((j : Nat) : Int) < (n : Int) := by omega
      clear hp e0 e1 e2 e3 e4 e5 e6 e7 hda hcs hde hx1 hx2
      obtain ⟨g0, y0⟩ := own_at8 HO.out HE.out.1
      obtain ⟨g1, y1⟩ := own_at8 HO.out HE.out.2.1
      obtain ⟨g2, y2⟩ := own_at8 HO.out HE.out.2.2.1
      go_wp2_with fail
      clear g0 g1 g2 y0 y1 y2
      refine (cut_l (A := A1) (c := c1) (s := p.a.1) (xs := p.a.2.1) (ts := x1) (x := p.a.2.2) (N := 8) CA.out.1 CA.out.2).mono ?_
      rintro e wa ⟨rfl, hb⟩
      have OA := Lib.hid (own_still HO.out (fun k hk => hb.block k (HO.out.lt k hk).2))
      have PA := Lib.hid (HP.out.same hb.size (fun b h1 _ => hb.block b h1))
      have BA := Lib.hid (HB.out.trans (hb.mono HB.out.size))
      have HWA := Lib.hid hb
      have TA := co HTT hb
      have RA := co HRR hb
      clear hb
      obtain ⟨g0, y0⟩ := own_at8 OA.out HE.out.1
      obtain ⟨g1, y1⟩ := own_at8 OA.out HE.out.2.1
      obtain ⟨g2, y2⟩ := own_at8 OA.out HE.out.2.2.1
      go_upto_region 7 with fail
      clear g0 g1 g2 y0 y1 y2
      obtain ⟨wb, hW⟩ : ∃ V : World, ((wa.setCell ⟨lb, j * 8, none⟩ (.bool p.a.1)).setCell ⟨lb, j * 8 + 1, none⟩ (.slice A1 x1.length c1)).setCell ⟨lb, j * 8 + 2, none⟩ (.int .i64 p.a.2.2) = V := ⟨_, rfl⟩
      rw [hW]
      obtain ⟨xb, hxb⟩ : ∃ l, ((xs.set (j * 8) (.bool p.a.1)).set (j * 8 + 1) (.slice A1 x1.length c1)).set (j * 8 + 2) (.int .i64 p.a.2.2) = l := ⟨_, rfl⟩
      have S3 := set3 xs (a := j * 8) (b := j * 8 + 1) (c := j * 8 + 2) (.bool p.a.1) (.slice A1 x1.length c1) (.int .i64 p.a.2.2) (by omega) (by omega) (by omega) (by have := HXL.out; omega) (by have := HXL.out; omega) (by have := HXL.out; omega)
      rw [hxb] at S3
      have OB := Lib.hid (show wb.ownsRow w.heap.size 46 8 (.slice (some ⟨lb, 0, none⟩) n cap) n xb by rw [← hW, ← hxb]; exact own_upd (own_upd (own_upd OA.out _) _) _)
      have hO : Only lb wa wb := by rw [← hW]; exact (((Only.refl lb wa).setCell _ _).setCell _ _).setCell _ _
      obtain ⟨hlb, cura, hcura⟩ := own_blk OA.out
      have hjl : j < ((qs.take j).map cutP ++ qs.drop j).length := by simp; rw [HNE.out]; omega
      have PB := Lib.hid (PcR.upd (PA.out.only hO hlb hcura (by decide)) (j := j) (p := ⟨(p.a.1, x1, p.a.2.2), p.w, p.cs, p.er⟩) hjl S3.1 (fun i hi => S3.2.2.2.2 i (by omega) (by omega) (by omega)) (A := A1) (c := c1) (P := P1) (k := k1) (B := B1) (d := d1) ⟨S3.2.1, S3.2.2.1, S3.2.2.2.1, (S3.2.2.2.2 _ (by omega) (by omega) (by omega)).trans HE.out.2.2.2.1, (S3.2.2.2.2 _ (by omega) (by omega) (by omega)).trans HE.out.2.2.2.2.1, (S3.2.2.2.2 _ (by omega) (by omega) (by omega)).trans HE.out.2.2.2.2.2.1, (S3.2.2.2.2 _ (by omega) (by omega) (by omega)).trans HE.out.2.2.2.2.2.2.1, (S3.2.2.2.2 _ (by omega) (by omega) (by omega)).trans HE.out.2.2.2.2.2.2.2⟩ HA1.out ((HCS.out.same (by have := HWA.out.size; exact this) (fun b h1 _ => HWA.out.block b h1)).only hO hlb hcura (by decide)) HDE.out)
      have EB := Lib.hid (And.intro S3.2.1 (And.intro S3.2.2.1 (And.intro S3.2.2.2.1 (And.intro ((S3.2.2.2.2 (j * 8 + 3) (by omega) (by omega) (by omega)).trans HE.out.2.2.2.1) (And.intro ((S3.2.2.2.2 (j * 8 + 4) (by omega) (by omega) (by omega)).trans HE.out.2.2.2.2.1) (And.intro ((S3.2.2.2.2 (j * 8 + 5) (by omega) (by omega) (by omega)).trans HE.out.2.2.2.2.2.1) (And.intro ((S3.2.2.2.2 (j * 8 + 6) (by omega) (by omega) (by omega)).trans HE.out.2.2.2.2.2.2.1) ((S3.2.2.2.2 (j * 8 + 7) (by omega) (by omega) (by omega)).trans HE.out.2.2.2.2.2.2.2))))))))
      have LBX := Lib.hid (show xb.length = n * 8 by rw [S3.1, HXL.out])
      have BB := Lib.hid (hO.below BA.out hlb)
      have TB := Lib.hid ((hO.block _ (fun e => by have := TA.out; rw [e, hcura] at this; injection this with h1; injection h1 with _ h2; exact absurd h2 (by decide))).trans TA.out)
      have RB := Lib.hid ((hO.block _ (fun e => by have := RA.out; rw [e, hcura] at this; injection this with h1; injection h1 with _ h2; exact absurd h2 (by decide))).trans RA.out)
      have YB := Lib.hid (((HTY.out.below HWA.out).only hO hcura (by decide)).xs (fun i hi => S3.2.2.2.2 _ (by omega) (by omega) (by omega)))
      have CSB := Lib.hid ((HCS.out.same (by have := HWA.out.size; exact this) (fun b h1 _ => HWA.out.block b h1)).only hO hlb hcura (by decide))
      clear hW hxb S3 hO hlb hcura hjl
      obtain ⟨g5, y5⟩ := own_at8 OB.out EB.out.2.2.2.2.2.1
      obtain ⟨g6, y6⟩ := own_at8 OB.out EB.out.2.2.2.2.2.2.1
      obtain ⟨g7, y7⟩ := own_at8 OB.out EB.out.2.2.2.2.2.2.2
      go_wp2_with fail
      clear g5 g6 g7 y5 y6 y7
      refine (cut_l (A := B1) (c := d1) (s := p.er.1) (xs := p.er.2.1) (ts := x2) (x := p.er.2.2) (N := 8) CE.out.1 CE.out.2).mono ?_
      rintro e wc ⟨rfl, hb⟩
      have OC := Lib.hid (own_below OB.out hb)
      have PC := Lib.hid (PB.out.below hb)
      have BC := Lib.hid (BB.out.trans (hb.mono BB.out.size))
      have TC := co TB hb
      have RC := co RB hb
      have CSC := Lib.hid (CSB.out.below hb)
      have YC := Lib.hid (YB.out.below hb)
      clear hb
      obtain ⟨g5, y5⟩ := own_at8 OC.out EB.out.2.2.2.2.2.1
      obtain ⟨g6, y6⟩ := own_at8 OC.out EB.out.2.2.2.2.2.2.1
      obtain ⟨g7, y7⟩ := own_at8 OC.out EB.out.2.2.2.2.2.2.2
      go_upto_region 8 with (fail)
      clear g5 g6 g7 y5 y6 y7
      obtain ⟨wd, hW⟩ : ∃ V : World, ((wc.setCell ⟨lb, j * 8 + 5, none⟩ (.bool p.er.1)).setCell ⟨lb, j * 8 + 6, none⟩ (.slice B1 x2.length d1)).setCell ⟨lb, j * 8 + 7, none⟩ (.int .i64 p.er.2.2) = V := ⟨_, rfl⟩
      rw [hW]
      obtain ⟨xd, hxd⟩ : ∃ l, ((xb.set (j * 8 + 5) (.bool p.er.1)).set (j * 8 + 6) (.slice B1 x2.length d1)).set (j * 8 + 7) (.int .i64 p.er.2.2) = l := ⟨_, rfl⟩
      have S3 := set3 xb (a := j * 8 + 5) (b := j * 8 + 6) (c := j * 8 + 7) (.bool p.er.1) (.slice B1 x2.length d1) (.int .i64 p.er.2.2) (by omega) (by omega) (by omega) (by have := LBX.out; omega) (by have := LBX.out; omega) (by have := LBX.out; omega)
      rw [hxd] at S3
      have OD := Lib.hid (show wd.ownsRow w.heap.size 46 8 (.slice (some ⟨lb, 0, none⟩) n cap) n xd by rw [← hW, ← hxd]; exact own_upd (own_upd (own_upd OC.out _) _) _)
      have hO : Only lb wc wd := by rw [← hW]; exact (((Only.refl lb wc).setCell _ _).setCell _ _).setCell _ _
      obtain ⟨hlb, cura, hcura⟩ := own_blk OC.out
      have hjl : j < (((qs.take j).map cutP ++ qs.drop j).set j ⟨(p.a.1, x1, p.a.2.2), p.w, p.cs, p.er⟩).length := by simp; rw [HNE.out]; omega
      have CSD := Lib.hid (CSC.out.only hO hlb hcura (by decide))
      have YD := Lib.hid ((YC.out.only hO hcura (by decide)).xs (fun i hi => S3.2.2.2.2 _ (by omega) (by omega) (by omega)))
      have ED := Lib.hid (And.intro ((S3.2.2.2.2 (j * 8) (by omega) (by omega) (by omega)).trans EB.out.1) (And.intro ((S3.2.2.2.2 (j * 8 + 1) (by omega) (by omega) (by omega)).trans EB.out.2.1) (And.intro ((S3.2.2.2.2 (j * 8 + 2) (by omega) (by omega) (by omega)).trans EB.out.2.2.1) (And.intro ((S3.2.2.2.2 (j * 8 + 3) (by omega) (by omega) (by omega)).trans EB.out.2.2.2.1) (And.intro ((S3.2.2.2.2 (j * 8 + 4) (by omega) (by omega) (by omega)).trans EB.out.2.2.2.2.1) (And.intro S3.2.1 (And.intro S3.2.2.1 S3.2.2.2.1)))))))
      have PD := Lib.hid (PcR.upd (PC.out.only hO hlb hcura (by decide)) (j := j) (p := ⟨(p.a.1, x1, p.a.2.2), p.w, p.cs, (p.er.1, x2, p.er.2.2)⟩) hjl S3.1 (fun i hi => S3.2.2.2.2 i (by omega) (by omega) (by omega)) (A := A1) (c := c1) (P := P1) (k := k1) (B := B1) (d := d1) ED.out HA1.out CSD.out HE1.out)
      have LDX := Lib.hid (show xd.length = n * 8 by rw [S3.1, LBX.out])
      have BD := Lib.hid (hO.below BC.out hlb)
      have TD := Lib.hid ((hO.block _ (fun e => by have := TC.out; rw [e, hcura] at this; injection this with h1; injection h1 with _ h2; exact absurd h2 (by decide))).trans TC.out)
      have RD := Lib.hid ((hO.block _ (fun e => by have := RC.out; rw [e, hcura] at this; injection this with h1; injection h1 with _ h2; exact absurd h2 (by decide))).trans RC.out)
      clear hW hxd S3 hO hlb hcura hjl
      rw [List.set_set] at PD
      obtain ⟨cs2, hcs2⟩ : ∃ l, p.cs.take 20 = l := ⟨_, rfl⟩
      obtain ⟨q, hq⟩ : ∃ n, cs2.length = n := ⟨_, rfl⟩
      obtain ⟨news2, hnl2, hno2, hnc2, hnx2⟩ := newc_of CSD.out 20
      rw [hcs2] at hnl2 hnc2 hnx2
      rw [hq] at hnl2 hnx2
      have hm2 : min ((p.cs.length : Nat) : Int) 20 = ((q : Nat) : Int) := by rw [← hq, ← hcs2, List.length_take]; omega
      have q0 : (0 : Int) ≤ ((q : Nat) : Int) := by omega
      have q1 : ((q : Nat) : Int) ≤ ((k1 : Nat) : Int) := by have := CSD.out.1; rw [← hq, ← hcs2, List.length_take]; omega
      have HQ20 := Lib.hid (show q ≤ 20 by rw [← hq, ← hcs2, List.length_take]; omega)
      have N2L := Lib.hid hnl2
      have N2O := Lib.hid hno2
      have N2C := Lib.hid hnc2
      have N2X := Lib.hid hnx2
      have HCQ := Lib.hid hq
      have HC2 := Lib.hid hcs2
      have FC := Lib.hid (fun (V : World) (hb : Below wd.heap.size wd V) => (own_at8 (own_below OD.out hb) ED.out.2.2.2.2.1).1)
      clear hnl2 hno2 hnc2 hnx2 hq hcs2
      refine wp_operands (W := wd) rfl 13 [45, 46, 47, 48, 49, 50, 51, 52, 53, 54, 55, 56, 57] (fun i u x => match i with | 0 => u = .slice (some ⟨lb, 0, none⟩) n cap | 1 => u = .int .i64 ((j : Nat) : Int) | 2 => u = .pointer (some ⟨lb, j * 8, none⟩) | 3 => u = .pointer (some ⟨lb, j * 8 + 4, none⟩) | 4 => u = .slice P1 p.cs.length k1 | 5 => u = .slice (some ⟨lb, 0, none⟩) n cap | 6 => u = .int .i64 ((j : Nat) : Int) | 7 => u = .pointer (some ⟨lb, j * 8, none⟩) | 8 => u = .pointer (some ⟨lb, j * 8 + 4, none⟩) | 9 => u = .slice P1 p.cs.length k1 | 10 => u = .int .i64 ((p.cs.length : Nat) : Int) | 11 => u = .int .i64 ((q : Nat) : Int) | 12 => u = .slice P1 q k1 | _ => True) (fun _ => false)
        (by decide) rfl (by kernel_rfl) (by kernel_rfl) (by decide) (by kernel_rfl) ?_ (fun _ _ _ h => by cases h) ?_ ?_
      · intro i u x x' hi hR hb'
        have hi' : i = 0 ∨ i = 1 ∨ i = 2 ∨ i = 3 ∨ i = 4 ∨ i = 5 ∨ i = 6 ∨ i = 7 ∨ i = 8 ∨ i = 9 ∨ i = 10 ∨ i = 11 ∨ i = 12 := by omega
        rcases hi' with rfl | rfl | rfl | rfl | rfl | rfl | rfl | rfl | rfl | rfl | rfl | rfl | rfl
        · exact hR
        · exact hR
        · exact hR
        · exact hR
        · exact hR
        · exact hR
        · exact hR
        · exact hR
        · exact hR
        · exact hR
        · exact hR
        · exact hR
        · exact hR
      · intro i av x K hi hF hb' hw hK
        have hi' : i = 0 ∨ i = 1 ∨ i = 2 ∨ i = 3 ∨ i = 4 ∨ i = 5 ∨ i = 6 ∨ i = 7 ∨ i = 8 ∨ i = 9 ∨ i = 10 ∨ i = 11 ∨ i = 12 := by omega
        rcases hi' with rfl | rfl | rfl | rfl | rfl | rfl | rfl | rfl | rfl | rfl | rfl | rfl | rfl
        · simp only [wpOp, List.getElem?_toArray, List.getElem?_cons_zero, Region.wanted, if_true]
          refine Or.inl ?_
          have e0 : av.tmps.getD 3 undef = .slice (some ⟨lb, 0, none⟩) n cap := hF.2.2 3 (by decide)
          have e0e : av.eval (.tmp 3) = .slice (some ⟨lb, 0, none⟩) n cap := e0
          have e0g : av.tmps[3]?.getD undef = .slice (some ⟨lb, 0, none⟩) n cap := by have := e0; simp only [Array.getD_eq_getD_getElem?] at this; exact this
          clear hw hF
          simp only [Oper.wp, execOp]
          try simp only [e0e]
          go_simp
          exact hK _ x (by first | rfl | (simp only [Nat.add_zero]; done) | (congr 1; omega)) (Below.refl _ _) (fun h => by cases h)
        · simp only [wpOp, List.getElem?_toArray, List.getElem?_cons_succ, List.getElem?_cons_zero, Region.wanted, if_true]
          refine Or.inl ?_
          have e0 : av.tmps.getD 4 undef = .int .i64 ((j : Nat) : Int) := hF.2.2 4 (by decide)
          have e0e : av.eval (.tmp 4) = .int .i64 ((j : Nat) : Int) := e0
          have e0g : av.tmps[4]?.getD undef = .int .i64 ((j : Nat) : Int) := by have := e0; simp only [Array.getD_eq_getD_getElem?] at this; exact this
          clear hw hF
          simp only [Oper.wp, execOp]
          try simp only [e0e]
          go_simp
          exact hK _ x (by first | rfl | (simp only [Nat.add_zero]; done) | (congr 1; omega)) (Below.refl _ _) (fun h => by cases h)
        · simp only [wpOp, List.getElem?_toArray, List.getElem?_cons_succ, List.getElem?_cons_zero, Region.wanted, if_true]
          refine Or.inl ?_
          have e0 : av.tmps.getD 45 undef = .slice (some ⟨lb, 0, none⟩) n cap := (hw 0 (by kernel_rfl))
          have e0e : av.eval (.tmp 45) = .slice (some ⟨lb, 0, none⟩) n cap := e0
          have e0g : av.tmps[45]?.getD undef = .slice (some ⟨lb, 0, none⟩) n cap := by have := e0; simp only [Array.getD_eq_getD_getElem?] at this; exact this
          have e1 : av.tmps.getD 46 undef = .int .i64 ((j : Nat) : Int) := (hw 1 (by kernel_rfl))
          have e1e : av.eval (.tmp 46) = .int .i64 ((j : Nat) : Int) := e1
          have e1g : av.tmps[46]?.getD undef = .int .i64 ((j : Nat) : Int) := by have := e1; simp only [Array.getD_eq_getD_getElem?] at this; exact this
          clear hw hF
          simp only [Oper.wp, execOp]
          try simp only [e0e, e1e]
          go_simp
          exact hK _ x (by first | rfl | (simp only [Nat.add_zero]; done) | (congr 1; omega)) (Below.refl _ _) (fun h => by cases h)
        · simp only [wpOp, List.getElem?_toArray, List.getElem?_cons_succ, List.getElem?_cons_zero, Region.wanted, if_true]
          refine Or.inl ?_
          have e0 : av.tmps.getD 47 undef = .pointer (some ⟨lb, j * 8, none⟩) := (hw 2 (by kernel_rfl))
          have e0e : av.eval (.tmp 47) = .pointer (some ⟨lb, j * 8, none⟩) := e0
          have e0g : av.tmps[47]?.getD undef = .pointer (some ⟨lb, j * 8, none⟩) := by have := e0; simp only [Array.getD_eq_getD_getElem?] at this; exact this
          clear hw hF
          simp only [Oper.wp, execOp]
          try simp only [e0e]
          go_simp
          exact hK _ x (by first | rfl | (simp only [Nat.add_zero]; done) | (congr 1; omega)) (Below.refl _ _) (fun h => by cases h)
        · simp only [wpOp, List.getElem?_toArray, List.getElem?_cons_succ, List.getElem?_cons_zero, Region.wanted, if_true]
          refine Or.inl ?_
          have e0 : av.tmps.getD 48 undef = .pointer (some ⟨lb, j * 8 + 4, none⟩) := (hw 3 (by kernel_rfl))
          have e0e : av.eval (.tmp 48) = .pointer (some ⟨lb, j * 8 + 4, none⟩) := e0
          have e0g : av.tmps[48]?.getD undef = .pointer (some ⟨lb, j * 8 + 4, none⟩) := by have := e0; simp only [Array.getD_eq_getD_getElem?] at this; exact this
          have f4 := FC.out x hb'
          clear hw hF
          simp only [Oper.wp, execOp]
          try simp only [e0e]
          go_simp
          exact hK _ x (by first | rfl | (simp only [Nat.add_zero]; done) | (congr 1; omega)) (Below.refl _ _) (fun h => by cases h)
        · simp only [wpOp, List.getElem?_toArray, List.getElem?_cons_succ, List.getElem?_cons_zero, Region.wanted, if_true]
          refine Or.inl ?_
          have e0 : av.tmps.getD 3 undef = .slice (some ⟨lb, 0, none⟩) n cap := hF.2.2 3 (by decide)
          have e0e : av.eval (.tmp 3) = .slice (some ⟨lb, 0, none⟩) n cap := e0
          have e0g : av.tmps[3]?.getD undef = .slice (some ⟨lb, 0, none⟩) n cap := by have := e0; simp only [Array.getD_eq_getD_getElem?] at this; exact this
          clear hw hF
          simp only [Oper.wp, execOp]
          try simp only [e0e]
          go_simp
          exact hK _ x (by first | rfl | (simp only [Nat.add_zero]; done) | (congr 1; omega)) (Below.refl _ _) (fun h => by cases h)
        · simp only [wpOp, List.getElem?_toArray, List.getElem?_cons_succ, List.getElem?_cons_zero, Region.wanted, if_true]
          refine Or.inl ?_
          have e0 : av.tmps.getD 4 undef = .int .i64 ((j : Nat) : Int) := hF.2.2 4 (by decide)
          have e0e : av.eval (.tmp 4) = .int .i64 ((j : Nat) : Int) := e0
          have e0g : av.tmps[4]?.getD undef = .int .i64 ((j : Nat) : Int) := by have := e0; simp only [Array.getD_eq_getD_getElem?] at this; exact this
          clear hw hF
          simp only [Oper.wp, execOp]
          try simp only [e0e]
          go_simp
          exact hK _ x (by first | rfl | (simp only [Nat.add_zero]; done) | (congr 1; omega)) (Below.refl _ _) (fun h => by cases h)
        · simp only [wpOp, List.getElem?_toArray, List.getElem?_cons_succ, List.getElem?_cons_zero, Region.wanted, if_true]
          refine Or.inl ?_
          have e0 : av.tmps.getD 50 undef = .slice (some ⟨lb, 0, none⟩) n cap := (hw 5 (by kernel_rfl))
          have e0e : av.eval (.tmp 50) = .slice (some ⟨lb, 0, none⟩) n cap := e0
          have e0g : av.tmps[50]?.getD undef = .slice (some ⟨lb, 0, none⟩) n cap := by have := e0; simp only [Array.getD_eq_getD_getElem?] at this; exact this
          have e1 : av.tmps.getD 51 undef = .int .i64 ((j : Nat) : Int) := (hw 6 (by kernel_rfl))
          have e1e : av.eval (.tmp 51) = .int .i64 ((j : Nat) : Int) := e1
          have e1g : av.tmps[51]?.getD undef = .int .i64 ((j : Nat) : Int) := by have := e1; simp only [Array.getD_eq_getD_getElem?] at this; exact this
          clear hw hF
          simp only [Oper.wp, execOp]
          try simp only [e0e, e1e]
          go_simp
          exact hK _ x (by first | rfl | (simp only [Nat.add_zero]; done) | (congr 1; omega)) (Below.refl _ _) (fun h => by cases h)
        · simp only [wpOp, List.getElem?_toArray, List.getElem?_cons_succ, List.getElem?_cons_zero, Region.wanted, if_true]
          refine Or.inl ?_
          have e0 : av.tmps.getD 52 undef = .pointer (some ⟨lb, j * 8, none⟩) := (hw 7 (by kernel_rfl))
          have e0e : av.eval (.tmp 52) = .pointer (some ⟨lb, j * 8, none⟩) := e0
          have e0g : av.tmps[52]?.getD undef = .pointer (some ⟨lb, j * 8, none⟩) := by have := e0; simp only [Array.getD_eq_getD_getElem?] at this; exact this
          clear hw hF
          simp only [Oper.wp, execOp]
          try simp only [e0e]
          go_simp
          exact hK _ x (by first | rfl | (simp only [Nat.add_zero]; done) | (congr 1; omega)) (Below.refl _ _) (fun h => by cases h)
        · simp only [wpOp, List.getElem?_toArray, List.getElem?_cons_succ, List.getElem?_cons_zero, Region.wanted, if_true]
          refine Or.inl ?_
          have e0 : av.tmps.getD 53 undef = .pointer (some ⟨lb, j * 8 + 4, none⟩) := (hw 8 (by kernel_rfl))
          have e0e : av.eval (.tmp 53) = .pointer (some ⟨lb, j * 8 + 4, none⟩) := e0
          have e0g : av.tmps[53]?.getD undef = .pointer (some ⟨lb, j * 8 + 4, none⟩) := by have := e0; simp only [Array.getD_eq_getD_getElem?] at this; exact this
          have f4 := FC.out x hb'
          clear hw hF
          simp only [Oper.wp, execOp]
          try simp only [e0e]
          go_simp
          exact hK _ x (by first | rfl | (simp only [Nat.add_zero]; done) | (congr 1; omega)) (Below.refl _ _) (fun h => by cases h)
        · simp only [wpOp, List.getElem?_toArray, List.getElem?_cons_succ, List.getElem?_cons_zero, Region.wanted, if_true]
          refine Or.inl ?_
          have e0 : av.tmps.getD 54 undef = .slice P1 p.cs.length k1 := (hw 9 (by kernel_rfl))
          have e0e : av.eval (.tmp 54) = .slice P1 p.cs.length k1 := e0
          have e0g : av.tmps[54]?.getD undef = .slice P1 p.cs.length k1 := by have := e0; simp only [Array.getD_eq_getD_getElem?] at this; exact this
          clear hw hF
          simp only [Oper.wp, execOp]
          try simp only [e0e]
          go_simp
          exact hK _ x (by first | rfl | (simp only [Nat.add_zero]; done) | (congr 1; omega)) (Below.refl _ _) (fun h => by cases h)
        · simp only [wpOp, List.getElem?_toArray, List.getElem?_cons_succ, List.getElem?_cons_zero, Region.wanted, if_true]
          refine Or.inl ?_
          have e0 : av.tmps.getD 55 undef = .int .i64 ((p.cs.length : Nat) : Int) := (hw 10 (by kernel_rfl))
          have e0e : av.eval (.tmp 55) = .int .i64 ((p.cs.length : Nat) : Int) := e0
          have e0g : av.tmps[55]?.getD undef = .int .i64 ((p.cs.length : Nat) : Int) := by have := e0; simp only [Array.getD_eq_getD_getElem?] at this; exact this
          clear hw hF
          simp only [Oper.wp, execOp]
          try simp only [e0e]
          go_simp
          exact hK _ x (by first | rfl | (simp only [Nat.add_zero]; done) | (congr 1; omega)) (Below.refl _ _) (fun h => by cases h)
        · simp only [wpOp, List.getElem?_toArray, List.getElem?_cons_succ, List.getElem?_cons_zero, Region.wanted, if_true]
          refine Or.inl ?_
          have e0 : av.tmps.getD 49 undef = .slice P1 p.cs.length k1 := (hw 4 (by kernel_rfl))
          have e0e : av.eval (.tmp 49) = .slice P1 p.cs.length k1 := e0
          have e0g : av.tmps[49]?.getD undef = .slice P1 p.cs.length k1 := by have := e0; simp only [Array.getD_eq_getD_getElem?] at this; exact this
          have e1 : av.tmps.getD 56 undef = .int .i64 ((q : Nat) : Int) := (hw 11 (by kernel_rfl))
          have e1e : av.eval (.tmp 56) = .int .i64 ((q : Nat) : Int) := e1
          have e1g : av.tmps[56]?.getD undef = .int .i64 ((q : Nat) : Int) := by have := e1; simp only [Array.getD_eq_getD_getElem?] at this; exact this
          clear hw hF
          simp only [Oper.wp, execOp]
          try simp only [e0e, e1e]
          go_simp
          exact hK _ x (by first | rfl | (simp only [Nat.add_zero]; done) | (congr 1; omega)) (Below.refl _ _) (fun h => by cases h)
      · intro av x hF hb' hR _
        have e0 : av.tmps.getD 45 undef = .slice (some ⟨lb, 0, none⟩) n cap := hR 0 (by decide)
        have e1 : av.tmps.getD 46 undef = .int .i64 ((j : Nat) : Int) := hR 1 (by decide)
        have e2 : av.tmps.getD 47 undef = .pointer (some ⟨lb, j * 8, none⟩) := hR 2 (by decide)
        have e3 : av.tmps.getD 48 undef = .pointer (some ⟨lb, j * 8 + 4, none⟩) := hR 3 (by decide)
        have e4 : av.tmps.getD 49 undef = .slice P1 p.cs.length k1 := hR 4 (by decide)
        have e5 : av.tmps.getD 50 undef = .slice (some ⟨lb, 0, none⟩) n cap := hR 5 (by decide)
        have e6 : av.tmps.getD 51 undef = .int .i64 ((j : Nat) : Int) := hR 6 (by decide)
        have e7 : av.tmps.getD 52 undef = .pointer (some ⟨lb, j * 8, none⟩) := hR 7 (by decide)
        have e8 : av.tmps.getD 53 undef = .pointer (some ⟨lb, j * 8 + 4, none⟩) := hR 8 (by decide)
        have e9 : av.tmps.getD 54 undef = .slice P1 p.cs.length k1 := hR 9 (by decide)
        have e10 : av.tmps.getD 55 undef = .int .i64 ((p.cs.length : Nat) : Int) := hR 10 (by decide)
        have e11 : av.tmps.getD 56 undef = .int .i64 ((q : Nat) : Int) := hR 11 (by decide)
        have e12 : av.tmps.getD 57 undef = .slice P1 q k1 := hR 12 (by decide)
        rw [hF.fold (by kernel_rfl)]
        simp only [List.foldl_cons, List.foldl_nil, e0, e1, e2, e3, e4, e5, e6, e7, e8, e9, e10, e11, e12]
        simp only [Act.put, List.setIfInBounds_toArray, List.set_cons_zero, List.set_cons_succ]
        change wpOps _ _ _ [13, 14] _ _
        simp only [wpOps_cons]
        clear e0 e1 e2 e3 e4 e5 e6 e7 e8 e9 e10 e11 e12 hR hF
        simp only [wpOp, List.getElem?_toArray, List.getElem?_cons_succ, List.getElem?_cons_zero, Region.wanted, if_true]
        refine Or.inl ?_
        refine wp_append_copy _ (.tmp 57) 44 26 rfl wd.heap.size j0 zdy 3 40 Tryd.underlying44 JJ.out.1 JJ.out.2.1 JJ.out.2.2.1 JJ.out.2.2.2 rfl (by decide) P1 q k1 news2 rfl rfl N2L.out (fun h0 => NXB N2X.out hb' h0) N2O.out (by have := HQ20.out; unfold maxLen; omega) (by have := HQ20.out; omega) hb'.size ?_
        intro v5 we hown hb5
        obtain ⟨Y, capm, rfl, hY⟩ := own_formT hown
        have O5 := Lib.hid (hown)
        have BX5 := Lib.hid (hb'.trans (hb5.mono hb'.size))
        have HYY := Lib.hid hY
        have C5 := Lib.hid (show CyR w news2 ((List.map cutN (cs2.take 0)) ++ cs2.drop 0) by simpa using N2C.out)
        clear hown hb5 hb' hY
        try rw [wpOps_cons]
        simp only [wpOp, List.getElem?_toArray, List.getElem?_cons_succ, List.getElem?_cons_zero, Region.wanted, if_true]
        refine Or.inl ?_
        simp only [Oper.wp, execOp]
        go_simp
        try simp only [wpOps]
        clear hm2 q0 q1
        go_wp2
        go_loopw [6] (fun i w2r => ∃ (m : Nat) (ys : List Value), m ≤ q ∧ i = .int .i64 m ∧ Hid (w2r.ownsRow wd.heap.size 26 3 (.slice Y q capm) q ys) ∧ Hid (CyR w ys ((cs2.take m).map cutN ++ cs2.drop m)) ∧ Hid (Below wd.heap.size wd w2r)) (fun i _ => q - (intOf i).toNat)
        case atStart => exact ⟨0, news2, Nat.zero_le _, rfl, O5, C5, BX5⟩
        case round =>
          obtain ⟨m, ys, hm, rfl, HOM, HCM, HBM⟩ := hrel
          by_cases hlm : m < q
          · obtain ⟨mb, rfl⟩ := HYY.out (by omega)
            obtain ⟨v, hv⟩ : ∃ v, cs2[m]? = some v := ⟨_, List.getElem?_eq_getElem (by rw [HCQ.out]; exact hlm)⟩
            obtain ⟨A3, c3, e0, e1, e2, hd3⟩ := HCM.out.2 m v (mix_at cutN cs2 m hv)
            obtain ⟨x3, hx3⟩ : ∃ l, v.2.1.take 8 = l := ⟨_, rfl⟩
            have C3 := Lib.hid (And.intro (show min (v.2.1.length : Int) 8 = (x3.length : Int) by rw [← hx3, List.length_take]; omega) (show x3.length ≤ c3 by have := hd3.1; rw [← hx3, List.length_take]; omega))
            have HMS := Lib.hid (show (((cs2.take m).map cutN ++ cs2.drop m).set m (v.1, x3, v.2.2)) = (cs2.take (m + 1)).map cutN ++ cs2.drop (m + 1) by rw [← hx3]; exact mix_set cutN cs2 m hv)
            have HD3 := Lib.hid (show Dg w A3 c3 x3 by rw [← hx3]; exact hd3.take 8)
            have HE3 := Lib.hid (And.intro e0 (And.intro e1 e2))
            have HLM := Lib.hid hlm
            have hmq : ((m : Nat) : Int) < ((q : Nat) : Int) := by omega
            have HML := Lib.hid (show m < ((cs2.take m).map cutN ++ cs2.drop m).length by simp; rw [HCQ.out]; omega)
            clear hv e0 e1 e2 hd3 hx3
            obtain ⟨g0, y0⟩ := own_at8 HOM.out HE3.out.1
            obtain ⟨g1, y1⟩ := own_at8 HOM.out HE3.out.2.1
            obtain ⟨g2, y2⟩ := own_at8 HOM.out HE3.out.2.2
            go_wp2_with fail
            clear g0 g1 g2 y0 y1 y2
            refine (cut_l (A := A3) (c := c3) (s := v.1) (xs := v.2.1) (ts := x3) (x := v.2.2) (N := 8) C3.out.1 C3.out.2).mono ?_
            rintro e w6 ⟨rfl, hb⟩
            have O6 := Lib.hid (own_below HOM.out hb)
            have B6 := Lib.hid (HBM.out.trans (hb.mono HBM.out.size))
            clear hb
            obtain ⟨g0, y0⟩ := own_at8 O6.out HE3.out.1
            obtain ⟨g1, y1⟩ := own_at8 O6.out HE3.out.2.1
            obtain ⟨g2, y2⟩ := own_at8 O6.out HE3.out.2.2
            go_wp2_with fail
            clear g0 g1 g2 y0 y1 y2
            obtain ⟨w7, hW⟩ : ∃ V : World, ((w6.setCell ⟨mb, m * 3, none⟩ (.bool v.1)).setCell ⟨mb, m * 3 + 1, none⟩ (.slice A3 x3.length c3)).setCell ⟨mb, m * 3 + 2, none⟩ (.int .i64 v.2.2) = V := ⟨_, rfl⟩
            rw [hW]
            have O7 := Lib.hid (show w7.ownsRow wd.heap.size 26 3 (.slice (some ⟨mb, 0, none⟩) q capm) q (((ys.set (m * 3) (.bool v.1)).set (m * 3 + 1) (.slice A3 x3.length c3)).set (m * 3 + 2) (.int .i64 v.2.2)) by rw [← hW]; exact own_upd (own_upd (own_upd O6.out _) _) _)
            have C7 := Lib.hid (HCM.out.set HML.out (v := (v.1, x3, v.2.2)) HD3.out)
            rw [HMS.out] at C7
            have B7 := Lib.hid ((show Only mb w6 w7 by rw [← hW]; exact (((Only.refl mb w6).setCell _ _).setCell _ _).setCell _ _).below B6.out (own_blk O6.out).1)
            clear hW
            go_roundw
            case rel =>
              have hl1 := HLM.out
              have hd1 := HQ20.out
              have hw : wrap64 ((m : Int) + 1) = (m : Int) + 1 := IntWalk.wrap64_in _ ⟨by omega, by omega⟩
              exact ⟨m + 1, _, HLM.out, by rw [hw]; exact congrArg _ (by omega), O7, C7, B7⟩
            case measure =>
              have hl1 := HLM.out
              have hd1 := HQ20.out
              have hw : wrap64 ((m : Int) + 1) = (m : Int) + 1 := IntWalk.wrap64_in _ ⟨by omega, by omega⟩
              rw [hw]
              clear hw
              simp [intOf]; omega
          · obtain rfl : m = q := by omega
            have hmq : ¬ ((m : Nat) : Int) < ((m : Nat) : Int) := by omega
            have HCE := Lib.hid (show CyR w ys (cs2.map cutN) by have h := HCM.out; rw [List.take_of_length_le (by rw [HCQ.out]; exact Nat.le_refl _), List.drop_of_length_le (by rw [HCQ.out]; exact Nat.le_refl _), List.append_nil] at h; exact h)
            have OF := Lib.hid (own_below OD.out HBM.out)
            have CSF := Lib.hid (csr_of_own HOM.out HCE.out)
            obtain ⟨g4, y4⟩ := own_at8 OF.out ED.out.2.2.2.2.1
            go_wp2_with fail
            clear g4 y4 hmq
            obtain ⟨wg, hW⟩ : ∃ V : World, wr.setCell ⟨lb, j * 8 + 4, none⟩ (.slice Y m capm) = V := ⟨_, rfl⟩
            rw [hW]
            have OG := Lib.hid (show wg.ownsRow w.heap.size 46 8 (.slice (some ⟨lb, 0, none⟩) n cap) n (xd.set (j * 8 + 4) (.slice Y m capm)) by rw [← hW]; exact own_upd OF.out _)
            have hO : Only lb wr wg := by rw [← hW]; exact (Only.refl lb wr).setCell _ _
            obtain ⟨hlb, cura, hcura⟩ := own_blk OF.out
            have hne4 : ∀ i, i ≠ j * 8 + 4 → (xd.set (j * 8 + 4) (.slice Y m capm))[i]? = xd[i]? := fun i hi => List.getElem?_set_ne (Ne.symm hi)
            have PG := Lib.hid (PcR.upd ((PD.out.below HBM.out).only hO hlb hcura (by decide)) (j := j) (p := cutP p) (by simp; rw [HNE.out]; omega) (by simp) (fun i hi => hne4 i (by omega)) (A := A1) (c := c1) (P := Y) (k := capm) (B := B1) (d := d1) ⟨(hne4 _ (by omega)).trans ED.out.1, (by rw [hne4 _ (by omega)]; show _ = some (Value.slice A1 (p.a.2.1.take 8).length c1); rw [HX1.out]; exact ED.out.2.1), (hne4 _ (by omega)).trans ED.out.2.2.1, (hne4 _ (by omega)).trans ED.out.2.2.2.1, (by rw [List.getElem?_set_self (by rw [LDX.out]; omega)]; show _ = some (Value.slice Y ((p.cs.take 20).map cutN).length capm); rw [HC2.out, List.length_map, HCQ.out]), (hne4 _ (by omega)).trans ED.out.2.2.2.2.2.1, (by rw [hne4 _ (by omega)]; show _ = some (Value.slice B1 (p.er.2.1.take 8).length d1); rw [HX2.out]; exact ED.out.2.2.2.2.2.2.1), (hne4 _ (by omega)).trans ED.out.2.2.2.2.2.2.2⟩ (by show Dg w A1 c1 (p.a.2.1.take 8); rw [HX1.out]; exact HA1.out) (by show CsR w wg Y capm ((p.cs.take 20).map cutN); rw [HC2.out]; exact CSF.out.only hO hlb hcura (by decide)) (by show Dg w B1 d1 (p.er.2.1.take 8); rw [HX2.out]; exact HE1.out))
            rw [List.set_set, mix_set cutP qs j HPQ.out] at PG
            have YG := Lib.hid (show TyR wg (xd.set (j * 8 + 4) (.slice Y m capm)) (j + 1) from fun i hi P' n' k' hx' hn' => by
              rcases Nat.lt_succ_iff_lt_or_eq.1 hi with h1 | h1
              · rw [hne4 _ (by omega)] at hx'
                exact ((YD.out.below HBM.out).only hO hcura (by decide)) i h1 P' n' k' hx' hn'
              · subst h1
                rw [List.getElem?_set_self (by rw [LDX.out]; omega)] at hx'
                injection hx' with hx'; injection hx' with e1 e2 e3
                subst e1 e2 e3
                obtain ⟨mb, em⟩ := HYY.out hn'
                subst em
                obtain ⟨_, cur5, h5⟩ := own_blk HOM.out
                refine ⟨mb, 0, cur5, _, rfl, (hO.block mb (fun e => ?_)).trans h5⟩
                subst e
                rw [hcura] at h5; injection h5 with h5; injection h5 with _ h6 _; exact absurd h6 (by decide))
            have BF := BD.out.trans (HBM.out.mono BD.out.size)
            have BG := Lib.hid (hO.below BF hlb)
            have TF := cells_of TD.out HBM.out
            have RF := cells_of RD.out HBM.out
            have TG := Lib.hid ((hO.block _ (fun e => by have := TF; rw [e, hcura] at this; injection this with h1; injection h1 with _ h2; exact absurd h2 (by decide))).trans TF)
            have RG := Lib.hid ((hO.block _ (fun e => by have := RF; rw [e, hcura] at this; injection this with h1; injection h1 with _ h2; exact absurd h2 (by decide))).trans RF)
            clear hW hO hlb hcura hne4 BF TF RF
            go_roundw
            case rel =>
              have hl1 := HLT.out
              have hd1 := NB.out
              have hw : wrap64 ((j : Int) + 1) = (j : Int) + 1 := IntWalk.wrap64_in _ ⟨by omega, by omega⟩
              exact ⟨j + 1, _, HLT.out, by rw [hw]; exact congrArg _ (by omega), OG, Lib.hid ⟨PG.out, YG.out⟩, BG, TG, RG⟩
            case measure =>
              have hl1 := HLT.out
              have hd1 := NB.out
              have hw : wrap64 ((j : Int) + 1) = (j : Int) + 1 := IntWalk.wrap64_in _ ⟨by omega, by omega⟩
              rw [hw]
              clear hw
              simp [intOf]; omega
    · obtain rfl : j = n := by omega
      have hjn : ¬ ((j : Nat) : Int) < ((j : Nat) : Int) := by omega
      have HPE := Lib.hid (show PcR w wr xs (qs.map cutP) by have h := HP.out; rw [List.take_of_length_le (by rw [HNE.out]; exact Nat.le_refl _), List.drop_of_length_le (by rw [HNE.out]; exact Nat.le_refl _), List.append_nil] at h; exact h)
      have f8 := row_c (i := 8) HTT.out rfl
      have z8 := frozen_of_row _ _ 8 _ _ HTT.out
      have xt := heap_lt HTT.out
      go_upto_region 15 with fail
      clear f8 z8 xt hjn
      obtain ⟨wt, hW⟩ : ∃ V : World, wr.setCell ⟨w.heap.size, 8, none⟩ (.slice X j cap) = V := ⟨_, rfl⟩
      rw [hW]
      have hO : Only w.heap.size wr wt := by rw [← hW]; exact (Only.refl _ wr).setCell 8 _
      have TT := Lib.hid (show wt.heap[w.heap.size]? = some (.cells #[.int .i64 F, .int .i64 O, .bool s, .slice A es.length c, .int .i64 ax, .int .i64 W, .int .i64 Q, .int .i64 D, .slice X j cap] 29 (0, 0)) by rw [← hW]; exact heap_setCell_same _ _ 8 _ _ _ HTT.out)
      have RT := Lib.hid ((hO.block _ (by omega)).trans HRR.out)
      have BT := Lib.hid (hO.below HB.out (Nat.le_refl _))
      have OT := Lib.hid (own_still HO.out (fun k hk => hO.block k (fun e => own_neT HO.out HTT.out (by decide) (by rw [hk, e]))))
      have PT := Lib.hid (HPE.out.only hO (Nat.le_refl _) HTT.out (by decide))
      have hO2 := hO
      clear hW hO
      have YT := Lib.hid (HTY.out.only hO2 HTT.out (by decide))
      clear hO2
      go_wp2_with (first | (refine wpList_load_box rfl 29 _ rfl w.heap.size rfl #[.int .i64 F, .int .i64 O, .bool s, .slice A es.length c, .int .i64 ax, .int .i64 W, .int .i64 Q, .int .i64 D, .slice X j cap] _ TT.out _ Tryd.underlying29 rfl tab_size ?_) | (refine wpList_store_box rfl 29 _ _ rfl (w.heap.size + 1) rfl #[.int .i64 F, .int .i64 O, .bool s, .slice A es.length c, .int .i64 ax, .int .i64 W, .int .i64 Q, .int .i64 D, .slice X j cap] rfl #[.int .i64 0, .int .i64 0, .bool false, .slice none 0 0, .int .i64 0, .int .i64 0, .int .i64 0, .int .i64 0, .slice none 0 0] 29 RT.out tab_size rfl tab_one ?_))
      intro wz hO hR
      have BZ := Lib.hid (hO.below BT.out (by omega))
      have OZ := Lib.hid (own_still OT.out (fun k hk => hO.block k (fun e => own_neT OT.out RT.out (by decide) (by rw [hk, e]))))
      have PZ := Lib.hid (PT.out.only hO (by omega) RT.out (by decide))
      have YZ := Lib.hid (YT.out.only hO RT.out (by decide))
      have g0 := row_c (i := 0) hR rfl
      have g1 := row_c (i := 1) hR rfl
      have g2 := row_c (i := 2) hR rfl
      have g3 := row_c (i := 3) hR rfl
      have g4 := row_c (i := 4) hR rfl
      have g5 := row_c (i := 5) hR rfl
      have g6 := row_c (i := 6) hR rfl
      have g7 := row_c (i := 7) hR rfl
      have g8 := row_c (i := 8) hR rfl
      clear hO hR
      go_wp2
      refine bodyPost_ret (v := .agg #[.int .i64 F, .int .i64 O, .bool s, .slice A es.length c, .int .i64 ax, .int .i64 W, .int .i64 Q, .int .i64 D, .slice X j cap]) (by simp [results, Tryd.results6, go_sem, g0, g1, g2, g3, g4, g5, g6, g7, g8]) rfl ?_
      exact ⟨X, cap, by rw [List.length_map, HNE.out], pst_of_own OZ.out PZ.out BZ.out YZ.out, BZ.out⟩
end Go.Proofs.YtfhdhldgflbpjaaDoor
end
