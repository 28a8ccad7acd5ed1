import Derived.Test.YtdmfapgclppmhaaGreatDoorMB8
import Derived.Test.YtdmfapgclppmhaaGreatDoorMB7
import Derived.Test.YtdmfapgclppmhaaGreatDoorMB5
import Derived.Test.YtdmfapgclppmhaaGreatDoorRows
import Derived.Test.YtdmfapgclppmhaaGreatDoorMB0
import Derived.WalkKit
import Derived.ProofKit
import Derived.OpenShut
import Derived.ChangeSame
import Derived.Test.YtdmfapgclppmhaaGreatDoorMB1
import Derived.LaidMore
import Derived.Stop.Joined
import Derived.Stop.LaidErr
import Derived.Lib.SmallJoins
section
namespace Go.Proofs.YtdmfapgclppmhaaGreatDoor
open Go.RowKit
set_option linter.unusedSimpArgs false
set_option linter.unusedVariables false
/-- Six bytes, as a string. -/
theorem r16conv6 (x : World) (g : Nat) (a b c d e f : Int) (h : x.heap[g]? = some (.cells #[.int .u8 (a % 256), .int .u8 (b % 256), .int .u8 (c % 256), .int .u8 (d % 256), .int .u8 (e % 256), .int .u8 (f % 256)] 5 (0, 0))) :
    (convert 50 9 (.slice (some ⟨g, 0, none⟩) 6 6)).run Tryz.prog x = .ok (.string ⟨([a, b, c, d, e, f].map by8).toArray⟩) x := by
  have e8 : ∀ n : Int, ((by8 n).toNat : Int) = n % 256 := fun n => by
    unfold by8; rw [UInt8.toNat_ofNat']; omega
  refine run_convert_bytes_back (P := Tryz.prog) x 50 9 5 ⟨g, 0, none⟩ 6 ([a, b, c, d, e, f].map by8) Tryz.underlying50 Tryz.underlying5 Tryz.underlying9 (fun j hj => ?_)
  rw [Addr.add_lit, Nat.zero_add, cell_of_row _ _ _ _ _ _ h]
  match j, hj with
  | 0, _ => simp [e8]
  | 1, _ => simp [e8]
  | 2, _ => simp [e8]
  | 3, _ => simp [e8]
  | 4, _ => simp [e8]
  | 5, _ => simp [e8]
theorem r16conv1 (x : World) (g : Nat) (a : Int) (h : x.heap[g]? = some (.cells #[.int .u8 (a % 256)] 5 (0, 0))) :
    (convert 50 9 (.slice (some ⟨g, 0, none⟩) 1 1)).run Tryz.prog x = .ok (.string ⟨[by8 a].toArray⟩) x := by
  refine run_convert_bytes_back (P := Tryz.prog) x 50 9 5 ⟨g, 0, none⟩ 1 [by8 a] Tryz.underlying50 Tryz.underlying5 Tryz.underlying9 (fun j hj => ?_)
  rw [Addr.add_lit, Nat.zero_add, cell_of_row _ _ _ _ _ _ h]
  match j, hj with
  | 0, _ => simp [by8]; omega
theorem r16append_zero {P : Program} {w : World} (base : Nat) (t ty e : TypeId) (i : TypeInfo) (size c : Nat) (B : Option Addr) (ht : P.underlying t = some (.slice e)) (hi : P.info? e = some i)
    (v : Value) (n : Nat) (xs : List Value) (hown : w.ownsRow base e size v n xs) : (Builtin.append_ #[t, t] ty #[v, .slice B 0 c]).run P w = .ok v w := by
  rcases hown.2 with ⟨rfl, rfl⟩ | ⟨g, cap, cur, rfl, _, _, hnc, _⟩
  · cases B <;> simp [Builtin.append_, run_underlying ht, sizeOf, typeInfo, hi, Builtin.lenOf, Builtin.firstCells, loadCells, loadCellsFrom]
  · cases B <;> simp [Builtin.append_, run_underlying ht, sizeOf, typeInfo, hi, Builtin.lenOf, Builtin.firstCells, hnc, loadCells, loadCellsFrom, storeCells]
theorem grown_new {w w' : World} {o : Obj} (h : (w.alloc o).grownBy w' (some w.heap.size)) : Below w.heap.size w w' :=
  ⟨h.os, h.tape, h.output, Nat.le_trans (by simp) h.size, fun k hk => (h.block k (by simp; omega) (by intro e; injection e; omega)).trans (heap_alloc_old _ _ hk)⟩
theorem own_one3 (w : World) (a b c : Value) : (w.alloc (.cells #[a, b, c] 26)).ownsRow w.heap.size 26 3 (.slice (some ⟨w.heap.size, 0, none⟩) 1 1) 1 [a, b, c] :=
  ⟨rfl, .inr ⟨w.heap.size, 1, _, rfl, Nat.le_refl _, heap_alloc_new _ _, Nat.le_refl _, by decide, rfl, rfl⟩⟩
theorem CyR.cons {W0 : World} {ys : List Value} {cs : List Nm} {v : Nm} {A : Option Addr} {c : Nat} (h : CyR W0 ys cs) (hd : Dg W0 A c v.2.1) : CyR W0 ([.bool v.1, .slice A v.2.1.length c, .int .i64 v.2.2] ++ ys) (v :: cs) := by
  refine ⟨by simp [h.1]; omega, fun i u hu => ?_⟩
  rcases i with _ | i
  · obtain rfl : v = u := by simpa using hu
    exact ⟨A, c, rfl, rfl, rfl, hd⟩
  · obtain ⟨A', c', h0, h1, h2, h3⟩ := h.2 i u (by simpa using hu)
    refine ⟨A', c', ?_, ?_, ?_, h3⟩
    · rw [List.getElem?_append_right (by simp; omega)]; rw [← h0]; congr 1; simp; omega
    · rw [List.getElem?_append_right (by simp; omega)]; rw [← h1]; congr 1; simp; omega
    · rw [List.getElem?_append_right (by simp; omega)]; rw [← h2]; congr 1; simp; omega
/-- What is told where a number has no bytes. -/
theorem enc_bad {F O W Q D : Int} {a : Nm} {ps : List Pd} (h : dyIn a = false ∨ ∃ p, p ∈ ps ∧ ∃ v, v ∈ p.er :: p.cs ∧ dyIn v = false) : ((encS F O a W Q D ps).2 == 0) = false ∧ outB (encS F O a W Q D ps) = [] := by
  have key : (encS F O a W Q D ps).2 ≠ 0 := by
    intro e
    unfold encS at e
    rw [stpPs_snd, stp_snd] at e
    rcases h with h | ⟨p, hp, v, hv, hd⟩
    · rw [e.1.2] at h; cases h
    · have h2 := e.2 p hp
      rcases List.mem_cons.1 hv with rfl | hv
      · rw [h2.1] at hd; cases hd
      · rw [h2.2 v hv] at hd; cases hd
  exact ⟨by simpa using key, by unfold outB; rw [if_neg key]⟩
/-- A number more. -/
theorem stp_yes {L : List UInt8} {v : Nm} (hd : dyIn v = true) : stp (L, 0) v = (L ++ bytT v, 0) := by
  unfold stp errT; rw [if_pos hd]; rfl
theorem fold_snoc {β γ : Type} (f : β → γ → β) {l : List γ} {k : Nat} {v : γ} {s t : β} (h : l[k]? = some v) (hf : (l.take k).foldl f s = t) : (l.take (k + 1)).foldl f s = f t v := by
  rw [List.take_add_one, h, List.foldl_append, hf]; rfl
/-- Append a row of structs to an own one. -/
theorem wpList_append_row {w : World} {ops : Array Oper} {rest : List Oper} {o : Oper} {a : Act} {Q : Exit → Act → World → Prop} (hgd : o.guard = none) (s x : Operand) (t e : TypeId) (ho : o.op = .call { callee := .builtin .append, args := #[s, x], argTypes := #[t, t] }) (base : Nat) (i0 : TypeInfo) (z : Value) (size bytes : Nat) (ht : Tryz.prog.underlying t = some (.slice e)) (hi : Tryz.prog.info? e = some i0) (hz : i0.zero = some z) (hsize : i0.size = size) (hby : i0.bytes = bytes) (hzs : z.cells.size = size) (hsz : 0 < size)
    (v : Value) (n0 : Nat) (vs : List Value) (X : Option Addr) (n c : Nat) (news : List Value) (hs : a.eval s = v) (hown : w.ownsRow base e size v n0 vs) (hx : a.eval x = .slice X n c) (hl : news.length = n * size) (hX : n ≠ 0 → ∃ ad, X = some ad ∧ ∀ j u, news[j]? = some u → w.cell? (ad.add j) = some u) (h1 : ∀ u ∈ news, u.oneCell' = true) (h63 : n0 + n ≤ maxLen) (hbytes : (n0 + n) * bytes ≤ 140737488355328) (hbase : base ≤ w.heap.size)
    (h : ∀ v' w', w'.ownsRow base e size v' (n0 + n) (vs ++ news) → w.grownBy w' v.ownBlock → wpList Tryz.prog ops Q rest (a.put o.dst v') w') : wpList Tryz.prog ops Q (o :: rest) a w := by
  refine wpList_plain hgd fun K hK => ?_
  rcases Nat.eq_zero_or_pos n with h0 | h0
  · subst h0
    obtain rfl : news = [] := List.length_eq_zero_iff.1 (by rw [hl]; omega)
    have hrun := r16append_zero (P := Tryz.prog) (w := w) base t o.type e i0 size c X ht hi v n0 vs hown
    unfold Oper.wp
    simp [execOp, ho, resolve, invoke, builtin, hs, hx, hrun, Result.andThen]
    exact hK _ _ (h v w (by rw [Nat.add_zero, List.append_nil]; exact hown) (World.grownBy.refl _ _))
  · obtain ⟨ad, rfl, hc⟩ := hX (by omega)
    exact wp_append_own w s x t ho base e i0 z size bytes ht hi hz hsize hby hzs hsz v n0 vs hs hown ad n c news hx hl hc h1 h63 hbytes hbase (fun v' w' h2 h3 _ => hK _ _ (h v' w' h2 h3))

set_option maxHeartbeats 4000000 in
set_option maxRecDepth 100000 in
theorem r16encode_no (A P : Option Addr) (c k n : Nat) (F O W Q D : Int) (s : Bool) (xs : List Nat) (x : Int) (ps : List Pd) (w : World) (h : Dg w A c xs) (hl : xs.length ≤ 10000) (hps : PsL w P ps) (hsm : SmP ps) (hn : ps.length = n) (hq : rightT F O (s, xs, x) W Q D ps = false) :
    Calls Tryz.prog 8 #[.agg #[.int .i64 F, .int .i64 O, .bool s, .slice A xs.length c, .int .i64 x, .int .i64 W, .int .i64 Q, .int .i64 D, .slice P n k]] w fun e w' => e = .returned (.tuple #[.string ⟨#[]⟩, .bool false]) ∧ Below w.heap.size w w' := by
  have HR := Lib.hid (fun (V : World) (hV : Below w.heap.size w V) => hn ▸ r15right_any (A := A) (c := c) (k := k) (a := (s, xs, x)) (h.below hV) hl (PsL.below hps hV) hsm hq)
  clear h hl hps hsm hq hn
  go_enter Tryz.func8, Tryz.ntmps8
  go_wp2_with fail
  obtain ⟨v1, hW, hb, Rt_1⟩ := new1 w (.cells #[.int .i64 F, .int .i64 O, .bool s, .slice A xs.length c, .int .i64 x, .int .i64 W, .int .i64 Q, .int .i64 D, .slice P n k] 29)
  rw [← hW]
  have B1 := Lib.hid hb
  clear hW hb
  refine (HR.out _ B1.out).mono ?_
  rintro e w2 ⟨rfl, hb⟩
  have B2 := bt B1 hb
  clear hb
  go_wp2
  exact bodyPost_ret (v := .tuple #[.string ⟨#[]⟩, .bool false]) (by simp [results, Tryz.results8, go_sem]) rfl ⟨rfl, B2.out⟩

set_option maxHeartbeats 8000000 in
set_option maxRecDepth 100000 in
theorem r16encode_go (A P : Option Addr) (c k n : Nat) (F O W Q D : Int) (s : Bool) (xs : List Nat) (x : Int) (ps : List Pd) (w : World) (h : Dg w A c xs) (hl : xs.length ≤ 10000) (hps : PsL w P ps) (hsm : SmP ps) (hn : ps.length = n) (hq : rightT F O (s, xs, x) W Q D ps = true) :
    Calls Tryz.prog 8 #[.agg #[.int .i64 F, .int .i64 O, .bool s, .slice A xs.length c, .int .i64 x, .int .i64 W, .int .i64 Q, .int .i64 D, .slice P n k]] w fun e w' => (∃ t : ByteArray, e = .returned (.tuple #[.string t, .bool ((encS F O (s, xs, x) W Q D ps).2 == 0)]) ∧ t.data.toList = outB (encS F O (s, xs, x) W Q D ps)) ∧ Below w.heap.size w w' := by
  have HR := Lib.hid (fun (V : World) (hV : Below w.heap.size w V) => hn ▸ r15right_any (A := A) (c := c) (k := k) (a := (s, xs, x)) (h.below hV) hl (PsL.below hps hV) hsm hq)
  have H := Lib.hid h
  have HPS := Lib.hid hps
  have HN := Lib.hid hn
  have HP := Lib.hid (right_parts hq)
  have RA := Lib.hid (rightA h.2.1 HP.out.2.2.1)
  clear h hl hps hsm hq hn
  obtain ⟨ta, hta, BA⟩ := r5bytes_any (v := (s, xs, x)) RA.out.2.1 RA.out.2.2.1 RA.out.1
  have TA := Lib.hid hta
  have HBA := Lib.hid BA
  clear hta BA
  obtain ⟨h6, h6e⟩ : ∃ z : ByteArray, (⟨([F, O, Q, D, W + 128, (n : Int)].map by8).toArray⟩ : ByteArray) = z := ⟨_, rfl⟩
  have wW : wrap64 (W + 128) = W + 128 := by have := HP.out.2.2.2.1; exact IntWalk.wrap64_in _ ⟨by omega, by omega⟩
  have H6 := Lib.hid h6e
  clear h6e
  go_enter Tryz.func8, Tryz.ntmps8
  go_wp2_with fail
  obtain ⟨v1, hW, hb, Rt_1⟩ := new1 w (.cells #[.int .i64 F, .int .i64 O, .bool s, .slice A xs.length c, .int .i64 x, .int .i64 W, .int .i64 Q, .int .i64 D, .slice P n k] 29)
  rw [← hW]
  have B1 := Lib.hid hb
  clear hW hb
  refine (HR.out _ B1.out).mono ?_
  rintro e w2 ⟨rfl, hb⟩
  have B2 := bt B1 hb
  have Rt_2 := co Rt_1 hb
  clear hb
  have ft0 := row_c (i := 0) Rt_2.out rfl
  have zt0 := frozen_of_row _ _ 0 _ _ Rt_2.out
  have ft1 := row_c (i := 1) Rt_2.out rfl
  have zt1 := frozen_of_row _ _ 1 _ _ Rt_2.out
  have ft2 := row_c (i := 2) Rt_2.out rfl
  have zt2 := frozen_of_row _ _ 2 _ _ Rt_2.out
  have ft3 := row_c (i := 3) Rt_2.out rfl
  have zt3 := frozen_of_row _ _ 3 _ _ Rt_2.out
  have ft4 := row_c (i := 4) Rt_2.out rfl
  have zt4 := frozen_of_row _ _ 4 _ _ Rt_2.out
  have ft5 := row_c (i := 5) Rt_2.out rfl
  have zt5 := frozen_of_row _ _ 5 _ _ Rt_2.out
  have ft6 := row_c (i := 6) Rt_2.out rfl
  have zt6 := frozen_of_row _ _ 6 _ _ Rt_2.out
  have ft7 := row_c (i := 7) Rt_2.out rfl
  have zt7 := frozen_of_row _ _ 7 _ _ Rt_2.out
  have ft8 := row_c (i := 8) Rt_2.out rfl
  have zt8 := frozen_of_row _ _ 8 _ _ Rt_2.out
  have xt := heap_lt Rt_2.out
  have cv := r16conv6 (w2.alloc (.cells #[.int .u8 (F % 256), .int .u8 (O % 256), .int .u8 (Q % 256), .int .u8 (D % 256), .int .u8 ((W + 128) % 256), .int .u8 ((n : Int) % 256)] 5)) w2.heap.size F O Q D (W + 128) (n : Int) (heap_alloc_new _ _)
  rw [H6.out] at cv
  have s6 : ¬ (9223372036854775807 < 1 + h6.size) := by rw [← H6.out]; show ¬ (9223372036854775807 < 1 + 6); omega
  go_wp2_with fail
  obtain ⟨v3, hW⟩ : ∃ V : World, w2.alloc (.cells #[.int .u8 (F % 256), .int .u8 (O % 256), .int .u8 (Q % 256), .int .u8 (D % 256), .int .u8 ((W + 128) % 256), .int .u8 ((n : Int) % 256)] 5) = V := ⟨_, rfl⟩
  rw [hW]
  have hb : Below w2.heap.size w2 v3 := by rw [← hW]; exact below1 _ _
  have B3 := bt B2 hb
  have Rt_3 := co Rt_2 hb
  clear hW hb cv s6 ft0 zt0 ft1 zt1 ft2 zt2 ft3 zt3 ft4 zt4 ft5 zt5 ft6 zt6 ft7 zt7 ft8 zt8 xt
  refine (HBA.out A c _ (H.out.below B3.out)).mono ?_
  rintro e w4 ⟨rfl, hb⟩
  have B4 := bt B3 hb
  have Rt_4 := co Rt_3 hb
  clear hb
  obtain ⟨o0, ho0⟩ : ∃ z : ByteArray, (⟨#[84]⟩ : ByteArray) ++ h6 = z := ⟨_, rfl⟩
  rw [ho0]
  have O0 := Lib.hid (show o0.data.toList = headB F O W Q D n by rw [← ho0, ← H6.out]; simp [headB]; decide)
  have O0S := Lib.hid (show o0.size = 7 by have h := congrArg List.length O0.out; simpa [headB] using h)
  clear ho0
  cases hda : dyIn (s, xs, x)
  · have ev : errT (s, xs, x) = 4 := by unfold errT; rw [hda]; rfl
    have NB := Lib.hid (enc_bad (F := F) (O := O) (W := W) (Q := Q) (D := D) (ps := ps) (.inl hda))
    rw [ev]
    clear hda ev
    go_wp2
    exact bodyPost_ret (v := .tuple #[.string ⟨#[]⟩, .bool false]) (by simp [results, Tryz.results8, go_sem]) rfl ⟨⟨⟨#[]⟩, by rw [NB.out.1], by rw [NB.out.2]⟩, B4.out⟩
  · have ev : errT (s, xs, x) = 0 := by unfold errT; rw [hda]; rfl
    have S0 := Lib.hid (stp_yes (L := headB F O W Q D n) hda)
    have TS := Lib.hid (show ta.size ≤ 2000 by
      have h1 := stp_len [(s, xs, x)] (fun v hv => by rw [List.mem_singleton] at hv; subst hv; exact RA.out.2) (headB F O W Q D n, 0)
      rw [List.foldl_cons, List.foldl_nil, S0.out] at h1
      have h2 : ta.size = (bytT (s, xs, x)).length := by rw [← TA.out]; simp
      rw [List.length_append] at h1
      rw [h2]; simp at h1; omega)
    rw [ev]
    clear hda ev
    have sa : ¬ (9223372036854775807 < o0.size + ta.size) := by have := O0S.out; have := TS.out; omega
    go_wp2_with fail
    obtain ⟨o1, ho1⟩ : ∃ z : ByteArray, o0 ++ ta = z := ⟨_, rfl⟩
    rw [ho1]
    obtain ⟨L1, hL1⟩ : ∃ L, headB F O W Q D n ++ bytT (s, xs, x) = L := ⟨_, rfl⟩
    have O1 := Lib.hid (show o1.data.toList = L1 by rw [← ho1, ← hL1, ← O0.out, ← TA.out]; simp)
    have L1L := Lib.hid (show L1.length ≤ 10000 by rw [← O1.out, ← ho1]; have := O0S.out; have := TS.out; simp; omega)
    have SS := Lib.hid (show stp (headB F O W Q D n, 0) (s, xs, x) = (L1, 0) by rw [S0.out, hL1])
    clear ho1 hL1 sa
    go_loopw [5, 8] (fun ov i wr => ∃ (j : Nat) (ob : ByteArray) (L : List UInt8), j ≤ n ∧ i = .int .i64 j ∧ ov = .string ob ∧ Hid ((ps.take j).foldl stpP (L1, 0) = (L, 0)) ∧ Hid (ob.data.toList = L) ∧ Hid (L.length ≤ 10000 + 40000 * j) ∧ Hid (Below w.heap.size w wr) ∧ Hid (wr.heap[w.heap.size]? = some (.cells #[.int .i64 F, .int .i64 O, .bool s, .slice A xs.length c, .int .i64 x, .int .i64 W, .int .i64 Q, .int .i64 D, .slice P n k] 29 (0, 0)))) (fun _ i _ => n - (intOf i).toNat)
    case atStart => exact ⟨0, o1, L1, Nat.zero_le _, rfl, rfl, Lib.hid rfl, O1, L1L, B4, Rt_4⟩
    case round =>
      obtain ⟨j, ob, L, hj, rfl, rfl, HF, HOB, HLL, HB, HRT⟩ := hrel
      have N32 := Lib.hid (show n ≤ 32 by have := HP.out.2.2.2.2.2.2.1; have := HN.out; omega)
      have ft8 := row_c (i := 8) HRT.out rfl
      by_cases hlt : j < n
      · obtain ⟨b, o, rfl, hb0, hpw⟩ := HPS.out (by have := HN.out; omega)
        obtain ⟨p, hp⟩ : ∃ p, ps[j]? = some p := ⟨_, List.getElem?_eq_getElem (by have := HN.out; omega)⟩
        obtain ⟨A2, c2, B2, d2, P2, k2, e0, e1, e2, e3, e4, e5, e6, e7, hda, hde, hns⟩ := hpw j p hp
        have HPJ := Lib.hid hp
        have HLT := Lib.hid hlt
        have PB := Lib.hid (rightL_all HP.out.2.2.2.2.2.2.2 p (List.mem_of_getElem? hp))
        have g0 := (HB.out.cell (p := ⟨b, o + j * 8, none⟩) hb0).trans e0
        have g1 := (HB.out.cell (p := ⟨b, o + j * 8 + 1, none⟩) hb0).trans e1
        have g2 := (HB.out.cell (p := ⟨b, o + j * 8 + 2, none⟩) hb0).trans e2
        have g3 := (HB.out.cell (p := ⟨b, o + j * 8 + 3, none⟩) hb0).trans e3
        have g4 := (HB.out.cell (p := ⟨b, o + j * 8 + 4, none⟩) hb0).trans e4
        have g5 := (HB.out.cell (p := ⟨b, o + j * 8 + 5, none⟩) hb0).trans e5
        have g6 := (HB.out.cell (p := ⟨b, o + j * 8 + 6, none⟩) hb0).trans e6
        have g7 := (HB.out.cell (p := ⟨b, o + j * 8 + 7, none⟩) hb0).trans e7
        have RG := Lib.hid (show ∀ v, v ∈ p.er :: p.cs → dyR v.1 v.2.1 v.2.2 = true ∧ ok32 v.2.1 ∧ v.2.1.length ≤ 400 ∧ -131072 ≤ v.2.2 ∧ v.2.2 ≤ 131072 from fun v hv => by
          have hpb := PB.out
          unfold pieceB at hpb
          simp only [Bool.and_eq_true, List.all_eq_true] at hpb
          rcases List.mem_cons.1 hv with rfl | hv
          · exact rightN hde.2.1 hpb.2.2.1.2
          · exact rightN (hns.ok v hv) (hpb.2.2.2.1 v hv))
        have PW := Lib.hid (show -30 ≤ p.w ∧ p.w ≤ 10 by have hpb := PB.out; unfold pieceB at hpb; simp only [Bool.and_eq_true, decide_eq_true_eq] at hpb; exact hpb.1)
        have PQ := Lib.hid (show p.cs.length ≤ 17 by have hpb := PB.out; unfold pieceB at hpb; simp only [Bool.and_eq_true, decide_eq_true_eq] at hpb; have := hpb.2.1; have := HP.out.2.2.2.2.2.1; omega)
        have HDE := Lib.hid hde
        obtain ⟨news, hnl, hno, hnc, hnx⟩ := newc_of (hns.csr (Below.refl _ _)) p.cs.length
        rw [List.take_length] at hnl hnc hnx
        have NL := Lib.hid hnl
        have NO := Lib.hid hno
        have NX := Lib.hid hnx
        have CY := Lib.hid (hnc.cons (v := p.er) hde)
        clear e0 e1 e2 e3 e4 e5 e6 e7 hda hde hns hp hnl hno hnc hnx hb0 hpw
        go_upto_region 13 with fail
        obtain ⟨w3, hW, hb, Rp_3⟩ := new1 wr (.cells #[.bool p.a.1, .slice A2 p.a.2.1.length c2, .int .i64 p.a.2.2, .int .i64 p.w, .slice P2 p.cs.length k2, .bool p.er.1, .slice B2 p.er.2.1.length d2, .int .i64 p.er.2.2] 49)
        rw [← hW]
        have HB3 := bt HB hb
        have HRT3 := co HRT hb
        clear hW hb ft8 g0 g1 g2 g3 g4 g5 g6 g7
        have fp3 := row_c (i := 3) Rp_3.out rfl
        have wpw : wrap64 (p.w + 128) = p.w + 128 := by have := PW.out; exact IntWalk.wrap64_in _ ⟨by omega, by omega⟩
        have cv := r16conv1 (w3.alloc (.cells #[.int .u8 ((p.w + 128) % 256)] 5)) w3.heap.size (p.w + 128) (heap_alloc_new _ _)
        obtain ⟨t1, ht1⟩ : ∃ z : ByteArray, (⟨[by8 (p.w + 128)].toArray⟩ : ByteArray) = z := ⟨_, rfl⟩
        rw [ht1] at cv
        have T1S := Lib.hid (show t1.size = 1 by rw [← ht1]; rfl)
        have OBS := Lib.hid (show ob.size = L.length by rw [← HOB.out]; simp)
        have s1 : ¬ (9223372036854775807 < ob.size + t1.size) := by have := T1S.out; have := OBS.out; have := HLL.out; have := N32.out; omega
        go_upto_region 14 with fail
        obtain ⟨w4x, hW⟩ : ∃ V : World, w3.alloc (.cells #[.int .u8 ((p.w + 128) % 256)] 5) = V := ⟨_, rfl⟩
        rw [hW]
        have hb : Below w3.heap.size w3 w4x := by rw [← hW]; exact below1 _ _
        have HB4 := bt HB3 hb
        have HRT4 := co HRT3 hb
        have Rp_4 := co Rp_3 hb
        clear hW hb cv s1 fp3 wpw
        obtain ⟨ob1, hob1⟩ : ∃ z : ByteArray, ob ++ t1 = z := ⟨_, rfl⟩
        rw [hob1]
        have OB1 := Lib.hid (show ob1.data.toList = L ++ [by8 (p.w + 128)] by rw [← hob1, ← ht1, ← HOB.out]; simp)
        clear hob1 ht1
        have fp0 := row_c (i := 0) Rp_4.out rfl
        have zp0 := frozen_of_row _ _ 0 _ _ Rp_4.out
        have fp1 := row_c (i := 1) Rp_4.out rfl
        have zp1 := frozen_of_row _ _ 1 _ _ Rp_4.out
        have fp2 := row_c (i := 2) Rp_4.out rfl
        have zp2 := frozen_of_row _ _ 2 _ _ Rp_4.out
        have fp3 := row_c (i := 3) Rp_4.out rfl
        have zp3 := frozen_of_row _ _ 3 _ _ Rp_4.out
        have fp4 := row_c (i := 4) Rp_4.out rfl
        have zp4 := frozen_of_row _ _ 4 _ _ Rp_4.out
        have fp5 := row_c (i := 5) Rp_4.out rfl
        have zp5 := frozen_of_row _ _ 5 _ _ Rp_4.out
        have fp6 := row_c (i := 6) Rp_4.out rfl
        have zp6 := frozen_of_row _ _ 6 _ _ Rp_4.out
        have fp7 := row_c (i := 7) Rp_4.out rfl
        have zp7 := frozen_of_row _ _ 7 _ _ Rp_4.out
        have xp := heap_lt Rp_4.out
        obtain ⟨j0, hi0, hy0, hy1, hy2⟩ := dy_info
        go_wp2_with (at_builtin; refine wpList_append_row rfl _ _ 47 26 rfl w4x.heap.size j0 zdy 3 40 Tryz.underlying47 hi0 hy0 hy1 hy2 rfl (by decide) _ 1 _ P2 p.cs.length k2 news rfl (own_one3 _ _ _ _) rfl NL.out (fun h0 => NXB NX.out (HB4.out.trans ((below1 _ _).mono HB4.out.size)) h0) NO.out (by have := PQ.out; unfold maxLen; omega) (by have := PQ.out; omega) (by simp) ?_)
        intro v5 w5 hown hgr
        have hb := grown_new hgr
        obtain ⟨X, cap, rfl, hX⟩ := own_formT hown
        obtain ⟨g, rfl⟩ := hX (by omega)
        have OW := Lib.hid hown
        have HB5 := bt HB4 hb
        have HRT5 := co HRT4 hb
        clear hown hgr hb hX hi0 hy0 hy1 hy2 fp0 zp0 fp1 zp1 fp2 zp2 fp3 zp3 fp4 zp4 fp5 zp5 fp6 zp6 fp7 zp7 xp
        obtain ⟨ls, hls⟩ : ∃ l, p.er :: p.cs = l := ⟨_, rfl⟩
        obtain ⟨m, hm⟩ : ∃ m, 1 + p.cs.length = m := ⟨_, rfl⟩
        rw [hls] at CY RG
        rw [hm] at OW ⊢
        have LSL := Lib.hid (show ls.length = m by rw [← hls, ← hm]; simp; omega)
        have M18 := Lib.hid (show m ≤ 18 by rw [← hm]; have := PQ.out; omega)
        have SP := Lib.hid (show ∀ M, ls.foldl stp (L ++ [by8 (p.w + 128)], 0) = (M, 0) → stpP (L, 0) p = (M, 0) from fun M h => by unfold stpP; rw [← hls] at h; exact h)
        have BAD := Lib.hid (show ∀ v, v ∈ ls → dyIn v = false → ((encS F O (s, xs, x) W Q D ps).2 == 0) = false ∧ outB (encS F O (s, xs, x) W Q D ps) = [] from fun v hv hd => enc_bad (.inr ⟨p, List.mem_of_getElem? HPJ.out, v, by rw [hls]; exact hv, hd⟩))
        clear hls hm
        go_wp2_with fail
        go_loopw [5, 11] (fun ov i wi => ∃ (k2 : Nat) (oc : ByteArray) (M : List UInt8), k2 ≤ m ∧ i = .int .i64 k2 ∧ ov = .string oc ∧ Hid ((ls.take k2).foldl stp (L ++ [by8 (p.w + 128)], 0) = (M, 0)) ∧ Hid (oc.data.toList = M) ∧ Hid (M.length ≤ 10001 + 40000 * j + 2000 * k2) ∧ Hid (Below w5.heap.size w5 wi)) (fun _ i _ => m - (intOf i).toNat)
        case atStart => exact ⟨0, ob1, _, Nat.zero_le _, rfl, rfl, Lib.hid rfl, OB1, Lib.hid (by have := HLL.out; simp; omega), Lib.hid (Below.refl _ _)⟩
        case round =>
          obtain ⟨q2, oc, M, hq2, rfl, rfl, HFM, HOC, HML, HBI⟩ := hrel
          by_cases hlt2 : q2 < m
          · obtain ⟨v, hv⟩ : ∃ v, ls[q2]? = some v := ⟨_, List.getElem?_eq_getElem (by have := LSL.out; omega)⟩
            obtain ⟨A6, c6, y0, y1, y2, hdv⟩ := CY.out.2 q2 v hv
            have OWI := own_later OW.out HBI.out
            have c0 := (own_at8 OWI y0).1
            have c1 := (own_at8 OWI y1).1
            have c2x := (own_at8 OWI y2).1
            have HV := Lib.hid hv
            have GV := Lib.hid (RG.out v (List.mem_of_getElem? hv))
            have HDV := Lib.hid (hdv.below (HB5.out.trans (HBI.out.mono HB5.out.size)))
            obtain ⟨tv, htv, BV⟩ := r5bytes_any GV.out.2.1 GV.out.2.2.1 GV.out.1
            have TV := Lib.hid htv
            have HBV := Lib.hid BV
            clear hv y0 y1 y2 hdv OWI htv BV
            go_wp2_with fail
            refine (HBV.out A6 c6 _ HDV.out).mono ?_
            rintro e wk ⟨rfl, hb⟩
            have HBK := bt HBI hb
            clear hb c0 c1 c2x
            cases hdv : dyIn v
            · have ev : errT v = 4 := by unfold errT; rw [hdv]; rfl
              have NB := Lib.hid (BAD.out v (List.mem_of_getElem? HV.out) hdv)
              rw [ev]
              clear hdv ev
              have BE := Lib.hid (HB5.out.trans (HBK.out.mono HB5.out.size))
              go_wp2
              try rw [Exit.noGoto_ret]
              try rw [Exit.noGoto_ret]
              exact bodyPost_ret (v := .tuple #[.string ⟨#[]⟩, .bool false]) (by simp [results, Tryz.results8, go_sem]) rfl ⟨⟨⟨#[]⟩, by rw [NB.out.1], by rw [NB.out.2]⟩, BE.out⟩
            · have ev : errT v = 0 := by unfold errT; rw [hdv]; rfl
              have S1 := Lib.hid (fold_snoc stp HV.out HFM.out)
              rw [stp_yes hdv] at S1
              have TVS := Lib.hid (show tv.size ≤ 2000 by
                have h1 := stp_len [v] (fun u hu => by rw [List.mem_singleton] at hu; subst hu; exact GV.out.2) (M, 0)
                rw [List.foldl_cons, List.foldl_nil, stp_yes hdv] at h1
                have h2 : tv.size = (bytT v).length := by rw [← TV.out]; simp
                rw [List.length_append] at h1
                rw [h2]; simp at h1; omega)
              rw [ev]
              clear hdv ev
              have OCS := Lib.hid (show oc.size = M.length by rw [← HOC.out]; simp)
              have sv : ¬ (9223372036854775807 < oc.size + tv.size) := by have := TVS.out; have := OCS.out; have := HML.out; have := N32.out; have := M18.out; omega
              go_wp2_with fail
              obtain ⟨od, hod⟩ : ∃ z : ByteArray, oc ++ tv = z := ⟨_, rfl⟩
              rw [hod]
              obtain ⟨M2, hM2⟩ : ∃ z, M ++ bytT v = z := ⟨_, rfl⟩
              have OD := Lib.hid (show od.data.toList = M2 by rw [← hod, ← hM2, ← HOC.out, ← TV.out]; simp)
              have ML2 := Lib.hid (show M2.length ≤ 10001 + 40000 * j + 2000 * (q2 + 1) by rw [← OD.out, ← hod]; have := OCS.out; have := TVS.out; have := HML.out; simp; omega)
              rw [hM2] at S1
              clear hod hM2 sv
              have HQ2 := Lib.hid hlt2
              go_roundw
              case rel =>
                have hq2 := HQ2.out
                have h18 := M18.out
                have hw : wrap64 ((q2 : Int) + 1) = (q2 : Int) + 1 := IntWalk.wrap64_in _ ⟨by omega, by omega⟩
                first
                  | exact ⟨q2 + 1, od, M2, HQ2.out, by rw [hw]; exact congrArg _ (by omega), rfl, S1, OD, ML2, HBK⟩
                  | trace_state
              case measure =>
                have hq2 := HQ2.out
                have h18 := M18.out
                have hw : wrap64 ((q2 : Int) + 1) = (q2 : Int) + 1 := IntWalk.wrap64_in _ ⟨by omega, by omega⟩
                rw [hw]
                simp [intOf]; omega
          · obtain rfl : q2 = m := by omega
            have hf := HFM.out
            rw [← LSL.out, List.take_length] at hf
            have HF2 := Lib.hid (fold_snoc stpP HPJ.out HF.out)
            rw [SP.out M hf] at HF2
            have HL2 := Lib.hid (show M.length ≤ 10000 + 40000 * (j + 1) by have := HML.out; have := M18.out; omega)
            have HBF := Lib.hid (HB5.out.trans (HBI.out.mono HB5.out.size))
            have HRTF := co HRT5 HBI.out
            clear hf
            go_wp2
            go_roundw
            case rel =>
              have hlt := HLT.out
              have h32 := N32.out
              have hw : wrap64 ((j : Int) + 1) = (j : Int) + 1 := IntWalk.wrap64_in _ ⟨by omega, by omega⟩
              first
                | exact ⟨j + 1, oc, M, HLT.out, by rw [hw]; exact congrArg _ (by omega), rfl, HF2, HOC, HL2, HBF, HRTF⟩
                | trace_state
            case measure =>
              have hlt := HLT.out
              have h32 := N32.out
              have hw : wrap64 ((j : Int) + 1) = (j : Int) + 1 := IntWalk.wrap64_in _ ⟨by omega, by omega⟩
              rw [hw]
              simp [intOf]; omega
      · obtain rfl : j = n := by omega
        have hf := HF.out
        rw [← HN.out, List.take_length, ← SS.out, ← HN.out] at hf
        have EF := Lib.hid (show encS F O (s, xs, x) W Q D ps = (L, 0) from hf)
        clear hf
        go_wp2
        exact bodyPost_ret (v := .tuple #[.string ob, .bool true]) (by simp [results, Tryz.results8, go_sem]) rfl ⟨⟨ob, by rw [EF.out]; rfl, by rw [EF.out, HOB.out]; rfl⟩, HB.out⟩
end Go.Proofs.YtdmfapgclppmhaaGreatDoor
end

section
namespace Go.Proofs.YtdmfapgclppmhaaGreatDoor
open Go.RowKit Go.WideShapes Go.ChangeShapes Go.ChangeAt
set_option maxRecDepth 100000
theorem own : ownKnob Tryz.prog.godebug = none := by kernel_rfl
theorem laidOut : laidOutB Tryz.prog = true := by kernel_rfl
theorem below_cell_lt {w : World} {b o : Nat} {v : Value} (h : w.cell? ⟨b, o, none⟩ = some v) : b < w.heap.size := by
  rcases Nat.lt_or_ge b w.heap.size with hlt | hge
  · exact hlt
  · have e := Array.getElem?_eq_none hge
    simp [World.cell?, e] at h
theorem cellsElem : Tryz.prog.cellsOf 67 = 1 := by kernel_rfl
section
variable {H : Type} {enc : TypeId × Value → H} {P : Program}
/-- A law's end: true; older memory stays; each argument reads as it read. -/
theorem law_post {f : Func} {s : ChangeSpec} {W W' : World} {args : Array Value} {ds : List (DataW H)} {before : List MemPlace} {tb : TypeId}
    (hW : DataW.Whole enc P f.params.toList s.vars false W args.toList ds [] before) (hb : Below W.heap.size W W') (hv : s.vars = []) (hrt : f.resultTypes = #[tb]) (htb : P.underlying tb = some .bool)
    (hsr : (s.fn H (ds ++ [])).results = [.lit (.bool true)]) (hsv : (s.fn H (ds ++ [])).vars = [])
    (hargs : ∀ sp : Nat → Bool, (∀ p ∈ before, sp p.block = true) → DataW.TrodAll enc P W' 0 sp true f.params.toList args.toList (s.fn H (ds ++ [])).args before) :
    s.post enc P f false true false false W args (.bool true) W' := by
  have hlt : ∀ p ∈ before, p.block < W.heap.size := fun p hp => hW.lt p hp
  have hold : ∀ p ∈ before, (fun b => decide (b < W.heap.size)) p.block = true := fun p hp => by simpa using hlt p hp
  have hvars : ∀ sp : Nat → Bool, DataW.TrodVars enc P W' sp s.vars (s.fn H (ds ++ [])).vars [] := fun sp => by rw [hv, hsv]; rfl
  refine ⟨ds, [], before, [], before, [], hW, ?_, hargs _ hold, hvars _, World.keptBut_mono (fun p hp => ⟨hp, by simpa using hp⟩) (hb.frame (· ∈ before)), fun h => by cases h⟩
  rw [hrt, hsr]
  exact trodAll_cons_mk (shut_bool htb _) trodAll_mk0
end
/-- An argument reads behind the call as it read ahead of it. -/
theorem again {H : Type} {enc : TypeId × Value → H} {W W' : World} {t : TypeId} {v : Value} {d : DataW H} {ps : List MemPlace} (hr : Tryz.prog.readableRec t = true) (hrow : t < Tryz.prog.types.size)
    (h : DataW.Trod enc Tryz.prog W 0 (fun _ => true) true t v d ps) (hb : Below W.heap.size W W') (hlt : ∀ x ∈ ps, x.block < W.heap.size) (sp : Nat → Bool) (hsp : ∀ x ∈ ps, sp x.block = true) :
    DataW.Trod enc Tryz.prog W' 0 sp true t v d ps :=
  WideElems.Trod_stays laidOut hr hrow h (fun x hx => hb.same (hlt x hx)) hsp
end Go.Proofs.YtdmfapgclppmhaaGreatDoor
end

section
namespace Go.Proofs.YtdmfapgclppmhaaGreatDoor
open Go.RowKit Go.WideShapes Go.ChangeShapes Go.ChangeAt Go.Deep
set_option maxRecDepth 100000
theorem t32Type : (Tryz.prog.globals[0]?).map (·.type) = some 148 := by kernel_rfl
/-- THE TABLE OF BITS, out of the row's condition. -/
theorem t32_laid {W : World} {xs : List (String × DataW Unit)} (h : laidMet Tryz.prog (("math/bits.deBruijn32tab", Lib.tabData .u8 tab32) :: xs) W) : T32 W :=
  Lib.tabIs_of_head g32 t32Type Tryz.underlying148 Tryz.underlying5 (by kernel_rfl) (by kernel_rfl) h
/-- Digits that came in as a part. -/
theorem open_dg0 {H : Type} {enc : TypeId × Value → H} {W : World} {spare : Nat → Bool} {held : Bool} {a0 : Option Addr} {len cap : Nat} {y : DataW H × List MemPlace}
    (hd : ∃ n, DataW.trod enc Tryz.prog W 0 spare held n 22 [.slice a0 len cap] = some y) : ∃ A c xs, Value.slice a0 len cap = .slice A xs.length c ∧ Dg W A c xs ∧ xs.length ≤ 9223372036854775807 := by
  obtain ⟨fuel, hf⟩ := hd
  obtain ⟨d, ps⟩ := y
  rcases open_ints Tryz.underlying22 Tryz.underlying67 cellsElem hf with ⟨hcs, _⟩ | ⟨a, len', cap', zs, hcs, _, hl, hm, hz, _, hcell, hwz⟩
  · simp at hcs
    obtain ⟨rfl, rfl, rfl⟩ := hcs
    exact ⟨none, 0, [], rfl, Dg.nil_ _ _, by simp⟩
  · simp at hcs
    obtain ⟨rfl, rfl, rfl⟩ := hcs
    have hlz : len ≤ zs.length := by rw [hz]; split <;> omega
    have hn : ∀ n ∈ zs, 0 ≤ n ∧ n ≤ 4294967295 := fun n hn => by simpa [Lit.wf, IntKind.min, IntKind.max, IntKind.signed, IntKind.bits] using hwz n hn
    have hxl : ((zs.take len).map Int.toNat).length = len := by simp; omega
    refine ⟨some a, cap, (zs.take len).map Int.toNat, by rw [hxl], ⟨by rw [hxl]; exact hl, ?_, fun h0 => ?_⟩, by rw [hxl]; unfold maxLen at hm; omega⟩
    · intro x hx
      obtain ⟨z, hz', rfl⟩ := List.mem_map.1 hx
      have := hn z (List.mem_of_mem_take hz')
      omega
    · rw [hxl] at h0
      obtain ⟨b, off, spot⟩ := a
      have hspot : spot = none := by simpa [Addr.add] using World.cell?_spot (hcell 0 (by omega))
      subst hspot
      refine ⟨b, off, rfl, below_cell_lt (v := .int .u32 (zs.getD 0 0)) (o := off) (by have := hcell 0 (by omega); simpa [Addr.add] using this), fun j hj => ?_⟩
      rw [hxl] at hj
      have hc := hcell j (by omega)
      rw [Addr.add_lit] at hc
      rw [hc]
      have hjz : j < zs.length := by omega
      have hb := hn zs[j] (List.getElem_mem hjz)
      simp [hj, List.getElem?_eq_getElem hjz]
      omega
end Go.Proofs.YtdmfapgclppmhaaGreatDoor
end

