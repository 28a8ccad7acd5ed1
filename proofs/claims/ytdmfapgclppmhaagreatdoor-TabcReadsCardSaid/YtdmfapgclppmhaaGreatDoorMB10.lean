import Derived.Test.YtdmfapgclppmhaaGreatDoorMB9
import Derived.Test.YtdmfapgclppmhaaGreatDoorRows
import Derived.Test.YtdmfapgclppmhaaGreatDoorMB0
import Derived.WalkKit
import Derived.ProofKit
import Derived.OpenShut
import Derived.ChangeSame
import Derived.Test.YtdmfapgclppmhaaGreatDoorMB1
import Derived.LaidMore
import Derived.Stop.Joined
import Derived.Stop.LaidErr
import Derived.Lib.SmallJoins
set_option maxHeartbeats 16000000
set_option maxRecDepth 100000
section
namespace Go.Proofs.YtdmfapgclppmhaaGreatDoor
open Go.RowKit
def DecR (T : Option TbZ) (e : Ending) (w : World) : Prop := match T with
  | none => e = .returned (.tuple #[.agg #[.int .i64 0, .int .i64 0, .bool false, .slice none 0 0, .int .i64 0, .int .i64 0, .int .i64 0, .int .i64 0, .slice none 0 0], .bool false])
  | some ⟨F, O, Q, D, W, a, ps⟩ => ∃ A c P k, e = .returned (.tuple #[.agg #[.int .i64 F, .int .i64 O, .bool (decide (a.1 < 0)), .slice A (digs a.1.natAbs).length c, .int .i64 a.2, .int .i64 W, .int .i64 Q, .int .i64 D, .slice P ps.length k], .bool true]) ∧ Dg w A c (digs a.1.natAbs) ∧ PsL w P (ps.map PdZ.to)
theorem wp_store_box {P : Program} {o : Oper} {a : Act} {w : World} {K : Act → World → Prop} {Q : Exit → Act → World → Prop} (ty : TypeId) (x v : Operand) (ho : o.op = .store ty x v) (g : Nat) (hx : a.eval x = .pointer (some ⟨g, 0, none⟩)) (cells : Array Value) (hv : a.eval v = .agg cells) (old : Array Value) (T : TypeId) (hg : w.heap[g]? = some (.cells old T (0, 0)))
    (hi : (P.info? ty).map (·.size) = some cells.size) (hz : old.size = cells.size) (h1 : cells.all (·.oneCell') = true) (h : ∀ w', Only g w w' → w'.heap[g]? = some (.cells cells T (0, 0)) → K (a.put o.dst undef) w') : o.wp P a w K Q := by
  have hs := run_storeVar_row (P := P) w g T ty old cells hg hi hz h1
  unfold Oper.wp execOp
  simp only [ho, hx, hv, Instr.storeAt, Instr.sureAddr, Sem.run_bind, Sem.run_pure, Result.andThen_ok, hs]
  exact h _ (only_setRow w g cells) (setRow_heap w g old cells T (0, 0) hg)
theorem ix_run2 (s : ByteArray) (i : Int) (k : Nat) (c : Int) (hi : i = (k : Int)) (h : k < s.size) (hc : ((s[k]'h).toNat : Int) = c) (x : World) : (Instr.index 9 (.string s) (.int .i64 i)).run Tryz.prog x = .ok (.int .u8 c) x := by
  subst hi hc
  rw [run_index_string x 9 s .i64 (k : Int) Tryz.underlying9, dif_pos ⟨by omega, by omega⟩]
  rfl
theorem tot_of {m x W K F V : Int} (h : endq m x W = (K, F)) (hv : endV m x W = V) : tot (nm (endz m x W)) (nx (endz m x W) (min x W)) = (K, F, V) := by
  unfold endq at h
  unfold endV at hv
  have h1 := congrArg Prod.fst h
  have h2 := congrArg Prod.snd h
  dsimp only at h1 h2
  exact Prod.ext h1 (Prod.ext h2 hv)
theorem below_own {W0 a b : World} {N : Nat} {v : Value} (h0 : Below N W0 a) (h : a.grownBy b v.ownBlock) (hN : N ≤ a.heap.size) (hv : ∀ q, v.ownBlock = some q → N ≤ q) : Below N W0 b :=
  ⟨h.os.trans h0.os, h.tape.trans h0.tape, h.output.trans h0.output, Nat.le_trans h0.size h.size, fun k hk => (h.block k (by omega) (fun e => by have := hv k e.symm; omega)).trans (h0.block k hk)⟩
theorem drPs_none {D : Int} {s q : List PdZ × (Int × Int) × List UInt8} {j : Nat} (h : drPs D j s = some q) (hn : drP D q = none) : ∀ n, j < n → drPs D n s = none
  | 0, hj => by omega
  | n + 1, hj => by
    rcases Nat.lt_or_ge j n with h1 | h1
    · unfold drPs; rw [drPs_none h hn n h1]; rfl
    · obtain rfl : j = n := by omega
      unfold drPs; rw [h, Option.bind_some, hn]
theorem drC_none {l : List UInt8} {cs : List (Int × Int)} {r : List UInt8} {j : Nat} (h : drC j l = some (cs, r)) (hn : drN r = none) : ∀ n, j < n → drC n l = none
  | 0, hj => by omega
  | n + 1, hj => by
    rcases Nat.lt_or_ge j n with h1 | h1
    · unfold drC; rw [drC_none h hn n h1]; rfl
    · obtain rfl : j = n := by omega
      unfold drC; rw [h, Option.bind_some, hn]; rfl
theorem wpList_append_dyN {w : World} {ops : Array Oper} {rest : List Oper} {o : Oper} {a : Act} {Q : Exit → Act → World → Prop} (hgd : o.guard = none) (s x : Operand)
    (ho : o.op = .call { callee := .builtin .append, args := #[s, x], argTypes := #[47, 47] }) (B : Nat) (v : Value) (L : List (Int × Int)) (m y : Int) (q : Nat) (T' : TypeId) (c cA : Nat) (A : Option Addr)
    (hs : a.eval s = v) (hD : Dw w B v L) (hrow : w.heap[q]? = some (.cells #[.bool (decide (m < 0)), .slice A (digs m.natAbs).length cA, .int .i64 y] T' (0, 0))) (hd : Dg w A cA (digs m.natAbs)) (hx : a.eval x = .slice (some ⟨q, 0, none⟩) 1 c) (hb : L.length + 1 ≤ 1000000) (hbase : B ≤ w.heap.size)
    (h : ∀ g cap w', Dw w' B (.slice (some ⟨g, 0, none⟩) (L.length + 1) cap) (L ++ [(m, y)]) → w.grownBy w' v.ownBlock → Kept w w' → wpList Tryz.prog ops Q rest (a.put o.dst (.slice (some ⟨g, 0, none⟩) (L.length + 1) cap)) w') : wpList Tryz.prog ops Q (o :: rest) a w :=
  wpList_plain hgd fun K hK => wp_append_dy s x ho B v L m y q T' c cA A hs hD hrow hd hx hb hbase (fun g cap w' h1 h2 h3 _ => hK _ _ (h g cap w' h1 h2 h3))
theorem wpList_append_pcN {w : World} {ops : Array Oper} {rest : List Oper} {o : Oper} {a : Act} {Q : Exit → Act → World → Prop} (hgd : o.guard = none) (s x : Operand)
    (ho : o.op = .call { callee := .builtin .append, args := #[s, x], argTypes := #[27, 27] }) (N g0 : Nat) (v : Value) (ps : List PdZ) (p : PdZ) (q : Nat) (T' : TypeId) (n cA k d : Nat) (A P B : Option Addr)
    (hs : a.eval s = v) (hD : PwN w N v ps) (hPB : ∀ b o, P = some ⟨b, o, none⟩ → N ≤ b) (hrow : w.heap[q]? = some (.cells #[.bool (decide (p.a.1 < 0)), .slice A (digs p.a.1.natAbs).length cA, .int .i64 p.a.2, .int .i64 p.w, .slice P p.cs.length k, .bool (decide (p.er.1 < 0)), .slice B (digs p.er.1.natAbs).length d, .int .i64 p.er.2] T' (0, 0))) (ha : Dg w A cA (digs p.a.1.natAbs)) (hn : NrL w P k p.cs) (hb : Dg w B d (digs p.er.1.natAbs)) (hx : a.eval x = .slice (some ⟨q, 0, none⟩) 1 n) (hbd : ps.length + 1 ≤ 1000000) (hbase : N ≤ w.heap.size) {xs : Array Value} {T : TypeId} {fr : Nat × Nat} (hT : w.heap[g0]? = some (.cells xs T fr)) (hne : T ≠ 26)
    (h : ∀ g cap w', PwN w' N (.slice (some ⟨g, 0, none⟩) (ps.length + 1) cap) (ps ++ [p]) → w.grownBy w' v.ownBlock → Gz N g0 w w' → wpList Tryz.prog ops Q rest (a.put o.dst (.slice (some ⟨g, 0, none⟩) (ps.length + 1) cap)) w') : wpList Tryz.prog ops Q (o :: rest) a w :=
  wpList_plain hgd fun K hK => wp_append_pcN s x ho N g0 v ps p q T' n cA k d A P B hs hD hPB hrow ha hn hb hx hbd hbase hT hne (fun g cap w' h1 h2 h3 => hK _ _ (h g cap w' h1 h2 h3))
theorem r16dec_s (b : ByteArray) (w : World) (h : b.size < 7) :
    Calls Tryz.prog 11 #[.string b] w fun e w' => DecR none e w' ∧ Below w.heap.size w w' := by
  obtain ⟨TN, hTN⟩ : ∃ T : Option TbZ, none = T := ⟨_, rfl⟩
  have d0 : decide ((b.size : Int) < 7) = true := decide_eq_true (by omega)
  have d1 : decide (b.size < 7) = true := decide_eq_true h
  clear h
  go_enter Tryz.func11, Tryz.ntmps11
  go_upto_region 1 with fail
  obtain ⟨v1, hW, hb, R1⟩ := new1 w (.cells #[.int .i64 0, .int .i64 0, .bool false, .slice none 0 0, .int .i64 0, .int .i64 0, .int .i64 0, .int .i64 0, .slice none 0 0] 29)
  rw [← hW]
  have B1 := qH hb
  clear hW hb
  go_wp2_with (refine wpList_store_box rfl 29 _ _ rfl w.heap.size rfl #[.int .i64 0, .int .i64 0, .bool false, .slice none 0 0, .int .i64 0, .int .i64 0, .int .i64 0, .int .i64 0, .slice none 0 0] rfl #[.int .i64 0, .int .i64 0, .bool false, .slice none 0 0, .int .i64 0, .int .i64 0, .int .i64 0, .int .i64 0, .slice none 0 0] 29 R1.out tab_size rfl tab_one ?_)
  intro wz hO hrz
  have BZ := hO.below B1.out (Nat.le_refl _)
  obtain ⟨g0, g1, g2, g3, g4, g5, g6, g7, g8, xg⟩ := ly9f hrz
  go_wp2
  try rw [Exit.noGoto_ret]
  try rw [Exit.noGoto_ret]
  refine bodyPost_ret (v := .tuple #[.agg #[.int .i64 0, .int .i64 0, .bool false, .slice none 0 0, .int .i64 0, .int .i64 0, .int .i64 0, .int .i64 0, .slice none 0 0], .bool false]) (by simp [results, Tryz.results11, go_sem, g0, g1, g2, g3, g4, g5, g6, g7, g8]) rfl ?_
  exact ⟨rfl, BZ⟩
theorem r16dec_m (b : ByteArray) (w : World) (h : 7 ≤ b.size) (c : Int) (hx : ∀ x : World, (Instr.index 9 (.string b) (.int .i64 0)).run Tryz.prog x = .ok (.int .u8 c) x) (hc : c ≠ 84) :
    Calls Tryz.prog 11 #[.string b] w fun e w' => DecR none e w' ∧ Below w.heap.size w w' := by
  obtain ⟨TN, hTN⟩ : ∃ T : Option TbZ, none = T := ⟨_, rfl⟩
  have d0 : decide ((b.size : Int) < 7) = false := decide_eq_false (by omega)
  have d1 : decide (b.size < 7) = false := decide_eq_false (by omega)
  have d2 : (c != 84) = true := by simpa using hc
  have HX := qH hx
  clear h hc hx
  go_enter Tryz.func11, Tryz.ntmps11
  go_upto_region 1 with fail
  obtain ⟨v1, hW, hb, R1⟩ := new1 w (.cells #[.int .i64 0, .int .i64 0, .bool false, .slice none 0 0, .int .i64 0, .int .i64 0, .int .i64 0, .int .i64 0, .slice none 0 0] 29)
  rw [← hW]
  have B1 := qH hb
  clear hW hb
  have ix := HX.out v1
  go_wp2_with (refine wpList_store_box rfl 29 _ _ rfl w.heap.size rfl #[.int .i64 0, .int .i64 0, .bool false, .slice none 0 0, .int .i64 0, .int .i64 0, .int .i64 0, .int .i64 0, .slice none 0 0] rfl #[.int .i64 0, .int .i64 0, .bool false, .slice none 0 0, .int .i64 0, .int .i64 0, .int .i64 0, .int .i64 0, .slice none 0 0] 29 R1.out tab_size rfl tab_one ?_)
  intro wz hO hrz
  have BZ := hO.below B1.out (Nat.le_refl _)
  obtain ⟨g0, g1, g2, g3, g4, g5, g6, g7, g8, xg⟩ := ly9f hrz
  go_wp2
  try rw [Exit.noGoto_ret]
  try rw [Exit.noGoto_ret]
  refine bodyPost_ret (v := .tuple #[.agg #[.int .i64 0, .int .i64 0, .bool false, .slice none 0 0, .int .i64 0, .int .i64 0, .int .i64 0, .int .i64 0, .slice none 0 0], .bool false]) (by simp [results, Tryz.results11, go_sem, g0, g1, g2, g3, g4, g5, g6, g7, g8]) rfl ?_
  exact ⟨rfl, BZ⟩
theorem r16dec_go (b : ByteArray) (r : List UInt8) (F O Q D X N : Int) (w : World) (hsz : b.size = r.length + 7) (hlen : r.length ≤ 1000000) (IX : ∀ x : World, (Instr.index 9 (.string b) (.int .i64 0)).run Tryz.prog x = .ok (.int .u8 84) x ∧ (Instr.index 9 (.string b) (.int .i64 1)).run Tryz.prog x = .ok (.int .u8 F) x ∧ (Instr.index 9 (.string b) (.int .i64 2)).run Tryz.prog x = .ok (.int .u8 O) x ∧ (Instr.index 9 (.string b) (.int .i64 3)).run Tryz.prog x = .ok (.int .u8 Q) x ∧ (Instr.index 9 (.string b) (.int .i64 4)).run Tryz.prog x = .ok (.int .u8 D) x ∧ (Instr.index 9 (.string b) (.int .i64 5)).run Tryz.prog x = .ok (.int .u8 X) x ∧ (Instr.index 9 (.string b) (.int .i64 6)).run Tryz.prog x = .ok (.int .u8 N) x) (hex : b.extract 7 (r.length + 7) = ⟨r.toArray⟩)
    (h1 : 0 ≤ F ∧ F ≤ 255) (h2 : 0 ≤ O ∧ O ≤ 255) (h3 : 0 ≤ Q ∧ Q ≤ 255) (h4 : 0 ≤ D ∧ D ≤ 255) (h5 : 0 ≤ X ∧ X ≤ 255) (h6 : 0 ≤ N ∧ N ≤ 255) (T : Option TbZ) (hT : T = (drN r).bind fun a => if D ≤ 16 then (drPs D N.toNat ([], a.1, a.2)).bind fun s => drF b.data.toList ⟨F, O, Q, D, X - 128, a.1, s.1⟩ else none) :
    Calls Tryz.prog 11 #[.string b] w fun e w' => DecR T e w' ∧ Below w.heap.size w w' := by
  have HSZ := qH hsz
  have HLEN := qH hlen
  have HIX := qH IX
  have HEX := qH hex
  have BF := qH (And.intro h1 (And.intro h2 (And.intro h3 (And.intro h4 (And.intro h5 h6)))))
  have HT := qH hT
  have WF := qH (show IntKind.i64.wrap F = F ∧ wrap64 F = F from ⟨IntWalk.i64_in _ (by omega), IntWalk.wrap64_in _ ⟨by omega, by omega⟩⟩)
  have WO := qH (show IntKind.i64.wrap O = O ∧ wrap64 O = O from ⟨IntWalk.i64_in _ (by omega), IntWalk.wrap64_in _ ⟨by omega, by omega⟩⟩)
  have WQ := qH (show IntKind.i64.wrap Q = Q ∧ wrap64 Q = Q from ⟨IntWalk.i64_in _ (by omega), IntWalk.wrap64_in _ ⟨by omega, by omega⟩⟩)
  have WD := qH (show IntKind.i64.wrap D = D ∧ wrap64 D = D from ⟨IntWalk.i64_in _ (by omega), IntWalk.wrap64_in _ ⟨by omega, by omega⟩⟩)
  have WX := qH (show IntKind.i64.wrap X = X ∧ wrap64 X = X from ⟨IntWalk.i64_in _ (by omega), IntWalk.wrap64_in _ ⟨by omega, by omega⟩⟩)
  have WN := qH (show IntKind.i64.wrap N = N ∧ wrap64 N = N from ⟨IntWalk.i64_in _ (by omega), IntWalk.wrap64_in _ ⟨by omega, by omega⟩⟩)
  have WS := qH (show IntKind.i64.wrap (X - 128) = X - 128 ∧ wrap64 (X - 128) = X - 128 from ⟨IntWalk.i64_in _ (by omega), IntWalk.wrap64_in _ ⟨by omega, by omega⟩⟩)
  have d0 : decide ((b.size : Int) < 7) = false := decide_eq_false (by omega)
  have d1 : decide (b.size < 7) = false := decide_eq_false (by omega)
  clear hsz hlen IX hex h1 h2 h3 h4 h5 h6 hT
  go_enter Tryz.func11, Tryz.ntmps11
  go_upto_region 1 with fail
  obtain ⟨v1, hW, hb, R1⟩ := new1 w (.cells #[.int .i64 0, .int .i64 0, .bool false, .slice none 0 0, .int .i64 0, .int .i64 0, .int .i64 0, .int .i64 0, .slice none 0 0] 29)
  rw [← hW]
  have B1 := qH hb
  clear hW hb
  have ix := (HIX.out v1).1
  go_upto_region 3 with fail
  clear ix d0 d1
  refine wp_operands (W := v1) rfl 18 [28, 29, 30, 31, 32, 33, 34, 35, 36, 37, 38, 39, 40, 41, 42, 43, 44, 4] (fun i u x => match i with | 0 => u = .string b | 1 => u = .int .u8 F | 2 => u = .int .i64 F | 3 => u = .string b | 4 => u = .int .u8 O | 5 => u = .int .i64 O | 6 => u = .string b | 7 => u = .int .u8 Q | 8 => u = .int .i64 Q | 9 => u = .string b | 10 => u = .int .u8 D | 11 => u = .int .i64 D | 12 => u = .string b | 13 => u = .int .u8 X | 14 => u = .int .i64 X | 15 => u = .int .i64 (X - 128) | 16 => u = .agg #[.int .i64 F, .int .i64 O, .bool false, .slice none 0 0, .int .i64 0, .int .i64 (X - 128), .int .i64 Q, .int .i64 D, .slice none 0 0] | 17 => ∃ g, u = .pointer (some ⟨g, 0, none⟩) ∧ x.heap[g]? = some (.cells #[.int .i64 0, .int .i64 0, .bool false, .slice none 0 0, .int .i64 0, .int .i64 0, .int .i64 0, .int .i64 0, .slice none 0 0] 29 (0, 0)) ∧ v1.heap.size ≤ g | _ => True) (fun _ => false)
    (by decide) rfl (by kernel_rfl) (by kernel_rfl) (by decide) (by kernel_rfl) ?_ (fun _ _ _ h => by cases h) ?_ ?_
  · intro i u x x' hi hR hb'
    have hi' : i = 0 ∨ i = 1 ∨ i = 2 ∨ i = 3 ∨ i = 4 ∨ i = 5 ∨ i = 6 ∨ i = 7 ∨ i = 8 ∨ i = 9 ∨ i = 10 ∨ i = 11 ∨ i = 12 ∨ i = 13 ∨ i = 14 ∨ i = 15 ∨ i = 16 ∨ i = 17 := by omega
    rcases hi' with rfl | rfl | rfl | rfl | rfl | rfl | rfl | rfl | rfl | rfl | rfl | rfl | rfl | rfl | rfl | rfl | rfl | rfl
    · exact hR
    · exact hR
    · exact hR
    · exact hR
    · exact hR
    · exact hR
    · exact hR
    · exact hR
    · exact hR
    · exact hR
    · exact hR
    · exact hR
    · exact hR
    · exact hR
    · exact hR
    · exact hR
    · exact hR
    · obtain ⟨g, e, hg, hge⟩ := hR; exact ⟨g, e, cells_of hg hb', hge⟩
  · intro i av x K hi hF hb' hw hK
    have hi' : i = 0 ∨ i = 1 ∨ i = 2 ∨ i = 3 ∨ i = 4 ∨ i = 5 ∨ i = 6 ∨ i = 7 ∨ i = 8 ∨ i = 9 ∨ i = 10 ∨ i = 11 ∨ i = 12 ∨ i = 13 ∨ i = 14 ∨ i = 15 ∨ i = 16 ∨ i = 17 := by omega
    rcases hi' with rfl | rfl | rfl | rfl | rfl | rfl | rfl | rfl | rfl | rfl | rfl | rfl | rfl | rfl | rfl | rfl | rfl | rfl
    · simp only [wpOp, gAy, gZy, Region.wanted, if_true]
      refine Or.inl ?_
      have e0 : av.tmps.getD 0 undef = .string b := hF.2.2 0 (by decide)
      have e0e : av.eval (.tmp 0) = .string b := e0
      have e0g : av.tmps[0]?.getD undef = .string b := by have := e0; simp only [Array.getD_eq_getD_getElem?] at this; exact this
      clear hw hF
      simp only [Oper.wp, execOp]
      try simp only [e0e]
      go_simp
      exact hK _ x (by first | rfl | (simp only [Nat.add_zero]; done) | (congr 1; omega)) (Below.refl _ _) (fun h => by cases h)
    · simp only [wpOp, gAy, gSy, gZy, Region.wanted, if_true]
      refine Or.inl ?_
      have e0 : av.tmps.getD 28 undef = .string b := (hw 0 (by kernel_rfl))
      have e0e : av.eval (.tmp 28) = .string b := e0
      have e0g : av.tmps[28]?.getD undef = .string b := by have := e0; simp only [Array.getD_eq_getD_getElem?] at this; exact this
      have ix := (HIX.out x).2.1
      clear hw hF
      simp only [Oper.wp, execOp]
      try simp only [e0e]
      go_simp
      exact hK _ x (by first | rfl | (simp only [Nat.add_zero]; done) | (congr 1; omega)) (Below.refl _ _) (fun h => by cases h)
    · simp only [wpOp, gAy, gSy, gZy, Region.wanted, if_true]
      refine Or.inl ?_
      have e0 : av.tmps.getD 29 undef = .int .u8 F := (hw 1 (by kernel_rfl))
      have e0e : av.eval (.tmp 29) = .int .u8 F := e0
      have e0g : av.tmps[29]?.getD undef = .int .u8 F := by have := e0; simp only [Array.getD_eq_getD_getElem?] at this; exact this
      have iw := WF.out
      clear hw hF
      simp only [Oper.wp, execOp]
      try simp only [e0e]
      go_simp
      exact hK _ x (by first | rfl | (simp only [Nat.add_zero]; done) | (congr 1; omega)) (Below.refl _ _) (fun h => by cases h)
    · simp only [wpOp, gAy, gSy, gZy, Region.wanted, if_true]
      refine Or.inl ?_
      have e0 : av.tmps.getD 0 undef = .string b := hF.2.2 0 (by decide)
      have e0e : av.eval (.tmp 0) = .string b := e0
      have e0g : av.tmps[0]?.getD undef = .string b := by have := e0; simp only [Array.getD_eq_getD_getElem?] at this; exact this
      clear hw hF
      simp only [Oper.wp, execOp]
      try simp only [e0e]
      go_simp
      exact hK _ x (by first | rfl | (simp only [Nat.add_zero]; done) | (congr 1; omega)) (Below.refl _ _) (fun h => by cases h)
    · simp only [wpOp, gAy, gSy, gZy, Region.wanted, if_true]
      refine Or.inl ?_
      have e0 : av.tmps.getD 31 undef = .string b := (hw 3 (by kernel_rfl))
      have e0e : av.eval (.tmp 31) = .string b := e0
      have e0g : av.tmps[31]?.getD undef = .string b := by have := e0; simp only [Array.getD_eq_getD_getElem?] at this; exact this
      have ix := (HIX.out x).2.2.1
      clear hw hF
      simp only [Oper.wp, execOp]
      try simp only [e0e]
      go_simp
      exact hK _ x (by first | rfl | (simp only [Nat.add_zero]; done) | (congr 1; omega)) (Below.refl _ _) (fun h => by cases h)
    · simp only [wpOp, gAy, gSy, gZy, Region.wanted, if_true]
      refine Or.inl ?_
      have e0 : av.tmps.getD 32 undef = .int .u8 O := (hw 4 (by kernel_rfl))
      have e0e : av.eval (.tmp 32) = .int .u8 O := e0
      have e0g : av.tmps[32]?.getD undef = .int .u8 O := by have := e0; simp only [Array.getD_eq_getD_getElem?] at this; exact this
      have iw := WO.out
      clear hw hF
      simp only [Oper.wp, execOp]
      try simp only [e0e]
      go_simp
      exact hK _ x (by first | rfl | (simp only [Nat.add_zero]; done) | (congr 1; omega)) (Below.refl _ _) (fun h => by cases h)
    · simp only [wpOp, gAy, gSy, gZy, Region.wanted, if_true]
      refine Or.inl ?_
      have e0 : av.tmps.getD 0 undef = .string b := hF.2.2 0 (by decide)
      have e0e : av.eval (.tmp 0) = .string b := e0
      have e0g : av.tmps[0]?.getD undef = .string b := by have := e0; simp only [Array.getD_eq_getD_getElem?] at this; exact this
      clear hw hF
      simp only [Oper.wp, execOp]
      try simp only [e0e]
      go_simp
      exact hK _ x (by first | rfl | (simp only [Nat.add_zero]; done) | (congr 1; omega)) (Below.refl _ _) (fun h => by cases h)
    · simp only [wpOp, gAy, gSy, gZy, Region.wanted, if_true]
      refine Or.inl ?_
      have e0 : av.tmps.getD 34 undef = .string b := (hw 6 (by kernel_rfl))
      have e0e : av.eval (.tmp 34) = .string b := e0
      have e0g : av.tmps[34]?.getD undef = .string b := by have := e0; simp only [Array.getD_eq_getD_getElem?] at this; exact this
      have ix := (HIX.out x).2.2.2.1
      clear hw hF
      simp only [Oper.wp, execOp]
      try simp only [e0e]
      go_simp
      exact hK _ x (by first | rfl | (simp only [Nat.add_zero]; done) | (congr 1; omega)) (Below.refl _ _) (fun h => by cases h)
    · simp only [wpOp, gAy, gSy, gZy, Region.wanted, if_true]
      refine Or.inl ?_
      have e0 : av.tmps.getD 35 undef = .int .u8 Q := (hw 7 (by kernel_rfl))
      have e0e : av.eval (.tmp 35) = .int .u8 Q := e0
      have e0g : av.tmps[35]?.getD undef = .int .u8 Q := by have := e0; simp only [Array.getD_eq_getD_getElem?] at this; exact this
      have iw := WQ.out
      clear hw hF
      simp only [Oper.wp, execOp]
      try simp only [e0e]
      go_simp
      exact hK _ x (by first | rfl | (simp only [Nat.add_zero]; done) | (congr 1; omega)) (Below.refl _ _) (fun h => by cases h)
    · simp only [wpOp, gAy, gSy, gZy, Region.wanted, if_true]
      refine Or.inl ?_
      have e0 : av.tmps.getD 0 undef = .string b := hF.2.2 0 (by decide)
      have e0e : av.eval (.tmp 0) = .string b := e0
      have e0g : av.tmps[0]?.getD undef = .string b := by have := e0; simp only [Array.getD_eq_getD_getElem?] at this; exact this
      clear hw hF
      simp only [Oper.wp, execOp]
      try simp only [e0e]
      go_simp
      exact hK _ x (by first | rfl | (simp only [Nat.add_zero]; done) | (congr 1; omega)) (Below.refl _ _) (fun h => by cases h)
    · simp only [wpOp, gAy, gSy, gZy, Region.wanted, if_true]
      refine Or.inl ?_
      have e0 : av.tmps.getD 37 undef = .string b := (hw 9 (by kernel_rfl))
      have e0e : av.eval (.tmp 37) = .string b := e0
      have e0g : av.tmps[37]?.getD undef = .string b := by have := e0; simp only [Array.getD_eq_getD_getElem?] at this; exact this
      have ix := (HIX.out x).2.2.2.2.1
      clear hw hF
      simp only [Oper.wp, execOp]
      try simp only [e0e]
      go_simp
      exact hK _ x (by first | rfl | (simp only [Nat.add_zero]; done) | (congr 1; omega)) (Below.refl _ _) (fun h => by cases h)
    · simp only [wpOp, gAy, gSy, gZy, Region.wanted, if_true]
      refine Or.inl ?_
      have e0 : av.tmps.getD 38 undef = .int .u8 D := (hw 10 (by kernel_rfl))
      have e0e : av.eval (.tmp 38) = .int .u8 D := e0
      have e0g : av.tmps[38]?.getD undef = .int .u8 D := by have := e0; simp only [Array.getD_eq_getD_getElem?] at this; exact this
      have iw := WD.out
      clear hw hF
      simp only [Oper.wp, execOp]
      try simp only [e0e]
      go_simp
      exact hK _ x (by first | rfl | (simp only [Nat.add_zero]; done) | (congr 1; omega)) (Below.refl _ _) (fun h => by cases h)
    · simp only [wpOp, gAy, gSy, gZy, Region.wanted, if_true]
      refine Or.inl ?_
      have e0 : av.tmps.getD 0 undef = .string b := hF.2.2 0 (by decide)
      have e0e : av.eval (.tmp 0) = .string b := e0
      have e0g : av.tmps[0]?.getD undef = .string b := by have := e0; simp only [Array.getD_eq_getD_getElem?] at this; exact this
      clear hw hF
      simp only [Oper.wp, execOp]
      try simp only [e0e]
      go_simp
      exact hK _ x (by first | rfl | (simp only [Nat.add_zero]; done) | (congr 1; omega)) (Below.refl _ _) (fun h => by cases h)
    · simp only [wpOp, gAy, gSy, gZy, Region.wanted, if_true]
      refine Or.inl ?_
      have e0 : av.tmps.getD 40 undef = .string b := (hw 12 (by kernel_rfl))
      have e0e : av.eval (.tmp 40) = .string b := e0
      have e0g : av.tmps[40]?.getD undef = .string b := by have := e0; simp only [Array.getD_eq_getD_getElem?] at this; exact this
      have ix := (HIX.out x).2.2.2.2.2.1
      clear hw hF
      simp only [Oper.wp, execOp]
      try simp only [e0e]
      go_simp
      exact hK _ x (by first | rfl | (simp only [Nat.add_zero]; done) | (congr 1; omega)) (Below.refl _ _) (fun h => by cases h)
    · simp only [wpOp, gAy, gSy, gZy, Region.wanted, if_true]
      refine Or.inl ?_
      have e0 : av.tmps.getD 41 undef = .int .u8 X := (hw 13 (by kernel_rfl))
      have e0e : av.eval (.tmp 41) = .int .u8 X := e0
      have e0g : av.tmps[41]?.getD undef = .int .u8 X := by have := e0; simp only [Array.getD_eq_getD_getElem?] at this; exact this
      have iw := WX.out
      clear hw hF
      simp only [Oper.wp, execOp]
      try simp only [e0e]
      go_simp
      exact hK _ x (by first | rfl | (simp only [Nat.add_zero]; done) | (congr 1; omega)) (Below.refl _ _) (fun h => by cases h)
    · simp only [wpOp, gAy, gSy, gZy, Region.wanted, if_true]
      refine Or.inl ?_
      have e0 : av.tmps.getD 42 undef = .int .i64 X := (hw 14 (by kernel_rfl))
      have e0e : av.eval (.tmp 42) = .int .i64 X := e0
      have e0g : av.tmps[42]?.getD undef = .int .i64 X := by have := e0; simp only [Array.getD_eq_getD_getElem?] at this; exact this
      have iw := WS.out
      clear hw hF
      simp only [Oper.wp, execOp]
      try simp only [e0e]
      go_simp
      exact hK _ x (by first | rfl | (simp only [Nat.add_zero]; done) | (congr 1; omega)) (Below.refl _ _) (fun h => by cases h)
    · simp only [wpOp, gAy, gSy, gZy, Region.wanted, if_true]
      refine Or.inl ?_
      have e0 : av.tmps.getD 30 undef = .int .i64 F := (hw 2 (by kernel_rfl))
      have e0e : av.eval (.tmp 30) = .int .i64 F := e0
      have e0g : av.tmps[30]?.getD undef = .int .i64 F := by have := e0; simp only [Array.getD_eq_getD_getElem?] at this; exact this
      have e1 : av.tmps.getD 33 undef = .int .i64 O := (hw 5 (by kernel_rfl))
      have e1e : av.eval (.tmp 33) = .int .i64 O := e1
      have e1g : av.tmps[33]?.getD undef = .int .i64 O := by have := e1; simp only [Array.getD_eq_getD_getElem?] at this; exact this
      have e2 : av.tmps.getD 36 undef = .int .i64 Q := (hw 8 (by kernel_rfl))
      have e2e : av.eval (.tmp 36) = .int .i64 Q := e2
      have e2g : av.tmps[36]?.getD undef = .int .i64 Q := by have := e2; simp only [Array.getD_eq_getD_getElem?] at this; exact this
      have e3 : av.tmps.getD 39 undef = .int .i64 D := (hw 11 (by kernel_rfl))
      have e3e : av.eval (.tmp 39) = .int .i64 D := e3
      have e3g : av.tmps[39]?.getD undef = .int .i64 D := by have := e3; simp only [Array.getD_eq_getD_getElem?] at this; exact this
      have e4 : av.tmps.getD 43 undef = .int .i64 (X - 128) := (hw 15 (by kernel_rfl))
      have e4e : av.eval (.tmp 43) = .int .i64 (X - 128) := e4
      have e4g : av.tmps[43]?.getD undef = .int .i64 (X - 128) := by have := e4; simp only [Array.getD_eq_getD_getElem?] at this; exact this
      clear hw hF
      simp only [Oper.wp, execOp]
      try simp only [e0e, e1e, e2e, e3e, e4e]
      go_simp
      exact hK _ x (by first | rfl | (simp only [Nat.add_zero]; done) | (congr 1; omega)) (Below.refl _ _) (fun h => by cases h)
    · simp only [wpOp, gAy, gSy, gZy, Region.wanted, if_true]
      refine Or.inl ?_
      clear hw hF
      simp only [Oper.wp, execOp]
      go_simp
      exact hK _ _ ⟨_, rfl, heap_alloc_new _ _, hb'.size⟩ (below1 _ _) (fun h => by cases h)
  · intro av x hF hb' hR _
    have e0 : av.tmps.getD 28 undef = .string b := hR 0 (by decide)
    have e1 : av.tmps.getD 29 undef = .int .u8 F := hR 1 (by decide)
    have e2 : av.tmps.getD 30 undef = .int .i64 F := hR 2 (by decide)
    have e3 : av.tmps.getD 31 undef = .string b := hR 3 (by decide)
    have e4 : av.tmps.getD 32 undef = .int .u8 O := hR 4 (by decide)
    have e5 : av.tmps.getD 33 undef = .int .i64 O := hR 5 (by decide)
    have e6 : av.tmps.getD 34 undef = .string b := hR 6 (by decide)
    have e7 : av.tmps.getD 35 undef = .int .u8 Q := hR 7 (by decide)
    have e8 : av.tmps.getD 36 undef = .int .i64 Q := hR 8 (by decide)
    have e9 : av.tmps.getD 37 undef = .string b := hR 9 (by decide)
    have e10 : av.tmps.getD 38 undef = .int .u8 D := hR 10 (by decide)
    have e11 : av.tmps.getD 39 undef = .int .i64 D := hR 11 (by decide)
    have e12 : av.tmps.getD 40 undef = .string b := hR 12 (by decide)
    have e13 : av.tmps.getD 41 undef = .int .u8 X := hR 13 (by decide)
    have e14 : av.tmps.getD 42 undef = .int .i64 X := hR 14 (by decide)
    have e15 : av.tmps.getD 43 undef = .int .i64 (X - 128) := hR 15 (by decide)
    have e16 : av.tmps.getD 44 undef = .agg #[.int .i64 F, .int .i64 O, .bool false, .slice none 0 0, .int .i64 0, .int .i64 (X - 128), .int .i64 Q, .int .i64 D, .slice none 0 0] := hR 16 (by decide)
    obtain ⟨gt17, e17, hgt17, hge17⟩ := hR 17 (by decide)
    replace e17 : av.tmps.getD 4 undef = .pointer (some ⟨gt17, 0, none⟩) := e17
    rw [hF.fold (by kernel_rfl)]
    simp only [List.foldl_cons, List.foldl_nil, e0, e1, e2, e3, e4, e5, e6, e7, e8, e9, e10, e11, e12, e13, e14, e15, e16, e17]
    simp only [Act.put, List.setIfInBounds_toArray, List.set_cons_zero, List.set_cons_succ]
    change wpOps _ _ _ [18] _ _
    simp only [wpOps_cons]
    clear e0 e1 e2 e3 e4 e5 e6 e7 e8 e9 e10 e11 e12 e13 e14 e15 e16 e17 hR hF
    have HGT := qH hgt17
    have GE := qH hge17
    have XB := qH hb'
    clear hgt17 hge17 hb'
    simp only [wpOp, gAy, gSy, gZy, Region.wanted, if_true]
    refine Or.inl ?_
    refine wp_store_box 29 _ _ rfl gt17 rfl #[.int .i64 F, .int .i64 O, .bool false, .slice none 0 0, .int .i64 0, .int .i64 (X - 128), .int .i64 Q, .int .i64 D, .slice none 0 0] rfl #[.int .i64 0, .int .i64 0, .bool false, .slice none 0 0, .int .i64 0, .int .i64 0, .int .i64 0, .int .i64 0, .slice none 0 0] 29 HGT.out tab_size rfl tab_one ?_
    intro v2 hO hrt
    try simp only [wpOps, Act.put]
    have G0 := qH (show w.heap.size < gt17 by have := heap_lt R1.out; have := GE.out; omega)
    have B2 := qH (hO.below (B1.out.trans (XB.out.mono B1.out.size)) (Nat.le_of_lt G0.out))
    have R2 := qH ((hO.block _ (Nat.ne_of_lt G0.out)).trans (cells_of R1.out XB.out))
    have T2 := qH hrt
    clear hO hrt HGT GE XB R1 B1
    have ix := (HIX.out v2).2.2.2.2.2.2
    have iw := WN.out
    have hs := HSZ.out
    have hx := HEX.out
    have k7 : (7 : Int) ≤ (r.length : Int) + 7 := by omega
    have k8 : 7 ≤ r.length + 7 := by omega
    go_wp2_with fail
    clear ix iw hs hx k7 k8
    refine (r5take_any (l := r) (by have := HLEN.out; omega) _).mono ?_
    rintro e v3 ⟨(⟨hn, rfl⟩ | ⟨m, x0, r1, A, c, hs, rfl, hd⟩), hb⟩
    · have TN := qH (show T = none by rw [HT.out, hn]; rfl)
      have B3 := bt B2 hb
      have R3 := co R2 hb
      clear hb hn
      go_upto_region 6 with fail
      obtain ⟨v4, hW, hb, RA⟩ := new1 v3 (.cells #[.bool false, .slice none 0 0, .int .i64 0] 26)
      rw [← hW]
      have B4 := bt B3 hb
      have R4 := co R3 hb
      clear hW hb
      go_wp2_with (refine wpList_store_box rfl 29 _ _ rfl w.heap.size rfl #[.int .i64 0, .int .i64 0, .bool false, .slice none 0 0, .int .i64 0, .int .i64 0, .int .i64 0, .int .i64 0, .slice none 0 0] rfl #[.int .i64 0, .int .i64 0, .bool false, .slice none 0 0, .int .i64 0, .int .i64 0, .int .i64 0, .int .i64 0, .slice none 0 0] 29 R4.out tab_size rfl tab_one ?_)
      intro wz hO hrz
      have BZ := hO.below B4.out (Nat.le_refl _)
      obtain ⟨g0, g1, g2, g3, g4, g5, g6, g7, g8, xg⟩ := ly9f hrz
      go_wp2
      try rw [Exit.noGoto_ret]
      try rw [Exit.noGoto_ret]
      refine bodyPost_ret (v := .tuple #[.agg #[.int .i64 0, .int .i64 0, .bool false, .slice none 0 0, .int .i64 0, .int .i64 0, .int .i64 0, .int .i64 0, .slice none 0 0], .bool false]) (by simp [results, Tryz.results11, go_sem, g0, g1, g2, g3, g4, g5, g6, g7, g8]) rfl ?_
      rw [TN.out]
      exact ⟨rfl, BZ⟩
    · have B3 := bt B2 hb
      have R3 := co R2 hb
      have T3 := co T2 hb
      have DI := qH (drN_is hs)
      have HS := qH hs
      have HD := qH hd
      clear hb hs hd
      go_upto_region 6 with fail
      obtain ⟨v4, hW, hb, A4⟩ := new1 v3 (.cells #[.bool (decide (m < 0)), .slice A (digs m.natAbs).length c, .int .i64 x0] 26)
      rw [← hW]
      have B4 := bt B3 hb
      have R4 := co R3 hb
      have T4 := co T3 hb
      have HD4 := qH (HD.out.below hb)
      have GA := qH (show gt17 < v3.heap.size from heap_lt T3.out)
      clear hW hb
      have t7 := row_c (i := 7) T4.out rfl
      by_cases h16 : 16 < D
      · have d16 : decide (16 < D) = true := decide_eq_true h16
        have TN := qH (show T = none by rw [HT.out, HS.out, Option.bind_some, if_neg (by omega)])
        clear h16
        go_wp2_with (refine wpList_store_box rfl 29 _ _ rfl w.heap.size rfl #[.int .i64 0, .int .i64 0, .bool false, .slice none 0 0, .int .i64 0, .int .i64 0, .int .i64 0, .int .i64 0, .slice none 0 0] rfl #[.int .i64 0, .int .i64 0, .bool false, .slice none 0 0, .int .i64 0, .int .i64 0, .int .i64 0, .int .i64 0, .slice none 0 0] 29 R4.out tab_size rfl tab_one ?_)
        intro wz hO hrz
        have BZ := hO.below B4.out (Nat.le_refl _)
        obtain ⟨g0, g1, g2, g3, g4, g5, g6, g7, g8, xg⟩ := ly9f hrz
        go_wp2
        try rw [Exit.noGoto_ret]
        try rw [Exit.noGoto_ret]
        refine bodyPost_ret (v := .tuple #[.agg #[.int .i64 0, .int .i64 0, .bool false, .slice none 0 0, .int .i64 0, .int .i64 0, .int .i64 0, .int .i64 0, .slice none 0 0], .bool false]) (by simp [results, Tryz.results11, go_sem, g0, g1, g2, g3, g4, g5, g6, g7, g8]) rfl ?_
        rw [TN.out]
        exact ⟨rfl, BZ⟩
      · have d16 : decide (16 < D) = false := decide_eq_false h16
        have HT2 := qH (show T = (drPs D N.toNat ([], (m, x0), r1)).bind fun s => drF b.data.toList ⟨F, O, Q, D, X - 128, (m, x0), s.1⟩ by rw [HT.out, HS.out, Option.bind_some, if_pos (by omega)])
        have D16 := qH (show D ≤ 16 by omega)
        clear h16 t7
        obtain ⟨t0, zt0, t1, zt1, t2, zt2, t3, zt3, t4, zt4, t5, zt5, t6, zt6, t7, zt7, t8, zt8, xt⟩ := ly9z T4.out
        obtain ⟨a0, za0, a1, za1, a2, za2, xa⟩ := ly3 A4.out
        go_wp2
        clear d16 t0 zt0 t1 zt1 t2 zt2 t3 zt3 t4 zt4 t5 zt5 t6 zt6 t7 zt7 t8 zt8 xt a0 za0 a1 za1 a2 za2 xa
        obtain ⟨v5, hW⟩ : ∃ V : World, ((v4.setCell ⟨gt17, 2, none⟩ (.bool (decide (m < 0)))).setCell ⟨gt17, 3, none⟩ (.slice A (digs m.natAbs).length c)).setCell ⟨gt17, 4, none⟩ (.int .i64 x0) = V := ⟨_, rfl⟩
        rw [hW]
        have hO : Only gt17 v4 v5 := by rw [← hW]; exact (((Only.refl gt17 v4).setCell 2 _).setCell 3 _).setCell 4 _
        have T5 := qH (show v5.heap[gt17]? = some (.cells #[.int .i64 F, .int .i64 O, .bool (decide (m < 0)), .slice A (digs m.natAbs).length c, .int .i64 x0, .int .i64 (X - 128), .int .i64 Q, .int .i64 D, .slice none 0 0] 29 (0, 0)) by rw [← hW]; exact heap_setCell_same _ _ 4 _ _ _ (heap_setCell_same _ _ 3 _ _ _ (heap_setCell_same _ _ 2 _ _ _ T4.out)))
        have B5 := qH (hO.below B4.out (Nat.le_of_lt G0.out))
        have R5 := qH ((hO.block _ (Nat.ne_of_lt G0.out)).trans R4.out)
        have A5 := qH ((hO.block _ (Nat.ne_of_gt GA.out)).trans A4.out)
        have HD5 := qH (HD4.out.kept (hO.kept T4.out (noint_of (by intro u hu n e; subst e; simp at hu))))
        clear hW hO T4 R4 A4 HD4 B4
        clear HT
        go_loopw [7, 9] (fun rv i wr => ∃ (j : Nat) (ps : List PdZ) (Kn En : Int) (l : List UInt8) (A1 : Option Addr) (c1 : Nat) (Pv : Value), j ≤ N.toNat ∧ i = .int .i64 j ∧ rv = .string ⟨l.toArray⟩ ∧ Hid (drPs D j ([], (m, x0), r1) = some (ps, (Kn, En), l)) ∧ Hid (Rt Kn En ∧ (digs Kn.natAbs).length ≤ 10000) ∧ Hid ((∀ p, p ∈ ps → SmZ p) ∧ ps.length = j ∧ l.length ≤ 1000000) ∧ Hid (Below w.heap.size w wr) ∧ Hid (wr.heap[w.heap.size]? = some (.cells #[.int .i64 0, .int .i64 0, .bool false, .slice none 0 0, .int .i64 0, .int .i64 0, .int .i64 0, .int .i64 0, .slice none 0 0] 29 (0, 0))) ∧ Hid (wr.heap[gt17]? = some (.cells #[.int .i64 F, .int .i64 O, .bool (decide (m < 0)), .slice A (digs m.natAbs).length c, .int .i64 x0, .int .i64 (X - 128), .int .i64 Q, .int .i64 D, Pv] 29 (0, 0))) ∧ Hid (wr.heap[v3.heap.size]? = some (.cells #[.bool (decide (Kn < 0)), .slice A1 (digs Kn.natAbs).length c1, .int .i64 En] 26 (0, 0))) ∧ Hid (Dg wr A c (digs m.natAbs)) ∧ Hid (Dg wr A1 c1 (digs Kn.natAbs)) ∧ Hid (PwN wr v5.heap.size Pv ps ∧ v5.heap.size ≤ wr.heap.size)) (fun _ i _ => N.toNat - (intOf i).toNat)
        case atStart => exact ⟨0, [], m, x0, r1, A, c, .slice none 0 0, Nat.zero_le _, rfl, rfl, qH rfl, qH ⟨DI.out.2.2.1, Nat.le_trans DI.out.2.1 (by omega)⟩, qH ⟨fun p hp => by simp at hp, rfl, by have h1 := congrArg List.length DI.out.1; have := HLEN.out; rw [List.length_append] at h1; omega⟩, B5, R5, T5, A5, HD5, HD5, qH ⟨pwN_nil _ _, Nat.le_refl _⟩⟩
        case round =>
          have GTA := qH (show gt17 < v5.heap.size ∧ v3.heap.size < v5.heap.size ∧ w.heap.size < v5.heap.size from ⟨heap_lt T5.out, heap_lt A5.out, heap_lt R5.out⟩)
          obtain ⟨j, ps, Kn, En, l, A1, c1, Pv, hj, rfl, rfl, HDR, HK, HSM, HB, HR, HTB, HAB, HDM, HDK, HPW⟩ := hrel
          by_cases hlt : j < N.toNat
          · have hji : (j : Int) < N := by omega
            have HLT := qH hlt
            obtain ⟨lb, hlb⟩ : ∃ z : ByteArray, (⟨l.toArray⟩ : ByteArray) = z := ⟨_, rfl⟩
            have HLB := qH hlb
            rw [hlb]
            have hdl : lb.data.toList = l := by rw [← hlb]
            cases l with
            | nil =>
              have TN := qH (show T = none by rw [HT2.out, drPs_none HDR.out rfl N.toNat HLT.out]; rfl)
              have em : lb.toList.isEmpty = true := by rw [ByteArray.toList_eq, hdl]; rfl
              clear hlb hdl
              go_wp2_with (refine wpList_store_box rfl 29 _ _ rfl w.heap.size rfl #[.int .i64 0, .int .i64 0, .bool false, .slice none 0 0, .int .i64 0, .int .i64 0, .int .i64 0, .int .i64 0, .slice none 0 0] rfl #[.int .i64 0, .int .i64 0, .bool false, .slice none 0 0, .int .i64 0, .int .i64 0, .int .i64 0, .int .i64 0, .slice none 0 0] 29 HR.out tab_size rfl tab_one ?_)
              intro wz hO hrz
              have BZ := hO.below HB.out (Nat.le_refl _)
              obtain ⟨g0, g1, g2, g3, g4, g5, g6, g7, g8, xg⟩ := ly9f hrz
              go_wp2
              try rw [Exit.noGoto_ret]
              try rw [Exit.noGoto_ret]
              refine bodyPost_ret (v := .tuple #[.agg #[.int .i64 0, .int .i64 0, .bool false, .slice none 0 0, .int .i64 0, .int .i64 0, .int .i64 0, .int .i64 0, .slice none 0 0], .bool false]) (by simp [results, Tryz.results11, go_sem, g0, g1, g2, g3, g4, g5, g6, g7, g8]) rfl ?_
              rw [TN.out]
              exact ⟨rfl, BZ⟩
            | cons y l2 =>
              have em : lb.toList.isEmpty = false := by rw [ByteArray.toList_eq, hdl]; rfl
              have sb : lb.size = l2.length + 1 := by have h := congrArg List.length hdl; simpa using h
              have yn := y.toNat_lt
              obtain ⟨Y, hY⟩ : ∃ z : Int, (y.toNat : Int) = z := ⟨_, rfl⟩
              have HY := qH hY
              have IY := qH (fun x : World => ix_run2 lb 0 0 Y rfl (by omega) (by
                have h0 : lb[0]'(by omega) = y := by
                  have h1 : lb.data.toList[0]? = some y := by rw [hdl]; rfl
                  have h2 : lb.data[0]? = some y := by simpa using h1
                  have h3 : lb.data[0]'(by have := sb; exact (by omega : 0 < lb.size)) = y := by
                    rw [Array.getElem?_eq_getElem (by exact (by omega : 0 < lb.size))] at h2
                    exact Option.some.inj h2
                  exact h3
                rw [h0]; exact hY) x)
              have WY := qH (show (IntKind.i64.wrap Y = Y ∧ wrap64 Y = Y) ∧ (IntKind.i64.wrap (Y - 128) = Y - 128 ∧ wrap64 (Y - 128) = Y - 128) from ⟨⟨IntWalk.i64_in _ (by omega), IntWalk.wrap64_in _ ⟨by omega, by omega⟩⟩, IntWalk.i64_in _ (by omega), IntWalk.wrap64_in _ ⟨by omega, by omega⟩⟩)
              have YB := qH (show 0 ≤ Y ∧ Y ≤ 255 by omega)
              have x1 : lb.extract 1 (l2.length + 1) = ⟨l2.toArray⟩ := by
                apply ByteArray.ext; apply Array.toList_inj.1
                simp [hdl]
              have iy := IY.out wr
              have w1 := WY.out.1
              have w2 := WY.out.2
              have SB := qH sb
              have X1 := qH x1
              clear hlb hdl hY yn sb x1
              go_upto_region 15 with fail
              obtain ⟨v6, hW, hb, P6⟩ := new1 wr (.cells #[.bool false, .slice none 0 0, .int .i64 0, .int .i64 (Y - 128), .slice none 0 0, .bool false, .slice none 0 0, .int .i64 0] 49)
              rw [← hW]
              have GR6 := qH hb
              clear hW em iy w1 w2
              have sb := SB.out
              have x1 := X1.out
              have k1 : (1 : Int) ≤ (l2.length : Int) + 1 := by omega
              go_wp2_with fail
              clear sb x1 k1
              refine (r5take_any (l := l2) (by have := HSM.out.2.2; simp at this; omega) _).mono ?_
              rintro e v7 ⟨(⟨hn, rfl⟩ | ⟨me, xe, l3, A3, c3, hs, rfl, hd⟩), hb2⟩
              · have TN := qH (show T = none by rw [HT2.out, drPs_none HDR.out (by unfold drP; dsimp only; rw [hn]; rfl) N.toNat HLT.out]; rfl)
                have P7 := co P6 hb2
                have B7 := qH (HB.out.trans ((hb.trans (hb2.mono hb.size)).mono HB.out.size))
                have R7 := co (co HR hb) hb2
                have GP := qH (show w.heap.size < wr.heap.size from heap_lt HR.out)
                clear hb hb2 hn
                obtain ⟨p0, zp0, p1, zp1, p2, zp2, p3, zp3, p4, zp4, p5, zp5, p6, zp6, p7, zp7, xp⟩ := ly8z P7.out
                go_upto_region 17 with fail
                clear p0 zp0 p1 zp1 p2 zp2 p3 zp3 p4 zp4 p5 zp5 p6 zp6 p7 zp7 xp
                obtain ⟨v8, hW⟩ : ∃ V : World, ((v7.setCell ⟨wr.heap.size, 5, none⟩ (.bool false)).setCell ⟨wr.heap.size, 6, none⟩ (.slice none 0 0)).setCell ⟨wr.heap.size, 7, none⟩ (.int .i64 0) = V := ⟨_, rfl⟩
                rw [hW]
                have hO : Only wr.heap.size v7 v8 := by rw [← hW]; exact (((Only.refl _ v7).setCell 5 _).setCell 6 _).setCell 7 _
                have B8 := qH (hO.below B7.out (Nat.le_of_lt GP.out))
                have R8 := qH ((hO.block _ (Nat.ne_of_lt GP.out)).trans R7.out)
                clear hW hO
                go_wp2_with (refine wpList_store_box rfl 29 _ _ rfl w.heap.size rfl #[.int .i64 0, .int .i64 0, .bool false, .slice none 0 0, .int .i64 0, .int .i64 0, .int .i64 0, .int .i64 0, .slice none 0 0] rfl #[.int .i64 0, .int .i64 0, .bool false, .slice none 0 0, .int .i64 0, .int .i64 0, .int .i64 0, .int .i64 0, .slice none 0 0] 29 R8.out tab_size rfl tab_one ?_)
                intro wz hO hrz
                have BZ := hO.below B8.out (Nat.le_refl _)
                obtain ⟨g0, g1, g2, g3, g4, g5, g6, g7, g8, xg⟩ := ly9f hrz
                go_wp2
                try rw [Exit.noGoto_ret]
                try rw [Exit.noGoto_ret]
                refine bodyPost_ret (v := .tuple #[.agg #[.int .i64 0, .int .i64 0, .bool false, .slice none 0 0, .int .i64 0, .int .i64 0, .int .i64 0, .int .i64 0, .slice none 0 0], .bool false]) (by simp [results, Tryz.results11, go_sem, g0, g1, g2, g3, g4, g5, g6, g7, g8]) rfl ?_
                rw [TN.out]
                exact ⟨rfl, BZ⟩
              · have DE := qH (drN_is hs)
                have HDP := qH (show drP D (ps, (Kn, En), y :: l2) = (drC (D + 1).toNat l3).bind fun c => if endV Kn En (Y - 128) = 0 then some (ps ++ [⟨(Kn, En), Y - 128, c.1, (me, xe)⟩], endq Kn En (Y - 128), c.2) else none by unfold drP; dsimp only; rw [hs, Option.bind_some, HY.out])
                have L3L := qH (show l3.length ≤ 1000000 by have h1 := congrArg List.length DE.out.1; have := HSM.out.2.2; simp at h1 this; omega)
                have P7 := co P6 hb2
                have hb7 : Below wr.heap.size wr v7 := hb.trans (hb2.mono hb.size)
                have B7 := qH (HB.out.trans (hb7.mono HB.out.size))
                have R7 := co HR hb7
                have T7 := co HTB hb7
                have A7 := co HAB hb7
                have DM7 := qH (HDM.out.below hb7)
                have DK7 := qH (HDK.out.below hb7)
                have PW7 := qH (PwN.below (g := 0) HPW.out.1 hb7)
                have PVF := qH HPW.out.1.pw.form
                have OWN := qH (show ∀ k, Pv.ownBlock = some k → k < wr.heap.size from fun k hk => (HPW.out.1.own hk).2)
                have DE7 := qH hd
                have GP := qH (show w.heap.size < wr.heap.size ∧ gt17 < wr.heap.size ∧ v3.heap.size < wr.heap.size ∧ v5.heap.size ≤ wr.heap.size from ⟨heap_lt HR.out, heap_lt HTB.out, heap_lt HAB.out, HPW.out.2⟩)
                obtain ⟨gp, hgp⟩ : ∃ g, wr.heap.size = g := ⟨_, rfl⟩
                rw [hgp] at P7 OWN GP ⊢
                clear hb hb2 hb7 hs hd hgp P6 HR HTB HAB HDM HDK HPW HB
                obtain ⟨p0, zp0, p1, zp1, p2, zp2, p3, zp3, p4, zp4, p5, zp5, p6, zp6, p7, zp7, xp⟩ := ly8z P7.out
                go_upto_region 17 with fail
                clear p0 zp0 p1 zp1 p2 zp2 p3 zp3 p4 zp4 p5 zp5 p6 zp6 p7 zp7 xp
                obtain ⟨v8, hW⟩ : ∃ V : World, ((v7.setCell ⟨gp, 5, none⟩ (.bool (decide (me < 0)))).setCell ⟨gp, 6, none⟩ (.slice A3 (digs me.natAbs).length c3)).setCell ⟨gp, 7, none⟩ (.int .i64 xe) = V := ⟨_, rfl⟩
                rw [hW]
                have hO : Only gp v7 v8 := by rw [← hW]; exact (((Only.refl _ v7).setCell 5 _).setCell 6 _).setCell 7 _
                have P8 := qH (show v8.heap[gp]? = some (.cells #[.bool false, .slice none 0 0, .int .i64 0, .int .i64 (Y - 128), .slice none 0 0, .bool (decide (me < 0)), .slice A3 (digs me.natAbs).length c3, .int .i64 xe] 49 (0, 0)) by rw [← hW]; exact heap_setCell_same _ _ 7 _ _ _ (heap_setCell_same _ _ 6 _ _ _ (heap_setCell_same _ _ 5 _ _ _ P7.out)))
                have hK : Kept v7 v8 := hO.kept P7.out (noint_of (by intro u hu n e; subst e; simp at hu))
                have B8 := qH (hO.below B7.out (Nat.le_of_lt GP.out.1))
                have R8 := qH ((hO.block _ (Nat.ne_of_lt GP.out.1)).trans R7.out)
                have T8 := qH ((hO.block _ (Nat.ne_of_lt GP.out.2.1)).trans T7.out)
                have A8 := qH ((hO.block _ (Nat.ne_of_lt GP.out.2.2.1)).trans A7.out)
                have DM8 := qH (DM7.out.kept hK)
                have DK8 := qH (DK7.out.kept hK)
                have DE8 := qH (DE7.out.kept hK)
                have PW8 := qH (PW7.out.grow (only_grow hO) hK (fun k hk => Nat.ne_of_lt (OWN.out k hk)) (.inr ⟨_, _, _, P7.out, by decide⟩))
                have GS := qH (show gp < v8.heap.size from heap_lt P8.out)
                clear hW hO hK B7 R7 T7 A7 DM7 DK7 DE7 PW7 P7
                go_wp2_with fail
                go_loopw [7, 11] (fun rv i wi => ∃ (k : Nat) (cs : List (Int × Int)) (l4 : List UInt8) (C : Value), k ≤ (D + 1).toNat ∧ i = .int .i64 k ∧ rv = .string ⟨l4.toArray⟩ ∧ Hid (drC k l3 = some (cs, l4)) ∧ Hid (cs.length = k ∧ (∀ q, q ∈ cs → (digs q.1.natAbs).length ≤ 400) ∧ l4.length ≤ 1000000) ∧ Hid (wi.heap[gp]? = some (.cells #[.bool false, .slice none 0 0, .int .i64 0, .int .i64 (Y - 128), C, .bool (decide (me < 0)), .slice A3 (digs me.natAbs).length c3, .int .i64 xe] 49 (0, 0))) ∧ Hid (Dw wi v8.heap.size C cs) ∧ Hid (v8.grownBy wi (some gp) ∧ Kept v8 wi)) (fun _ i _ => (D + 1).toNat - (intOf i).toNat)
                case atStart => exact ⟨0, [], l3, .slice none 0 0, Nat.zero_le _, rfl, rfl, qH rfl, qH ⟨rfl, fun q hq => by simp at hq, L3L.out⟩, P8, qH (dw_nil _ _), qH ⟨⟨rfl, rfl, rfl, Nat.le_refl _, fun _ _ _ => rfl⟩, Kept.refl _⟩⟩
                case round =>
                  obtain ⟨k, cs, l4, C, hk, rfl, rfl, HC, HCS, HPB, HDW, HG⟩ := hrel
                  have B9 := qH (grow_base B8.out HG.out.1 B8.out.size (Nat.le_of_lt GP.out.1))
                  have R9 := qH (grow_row HG.out.1 R8.out (Nat.ne_of_lt GP.out.1))
                  have T9 := qH (grow_row HG.out.1 T8.out (Nat.ne_of_lt GP.out.2.1))
                  have t7 := row_c (i := 7) T9.out rfl
                  have bf := BF.out.2.2.2.1
                  by_cases hk2 : k < (D + 1).toNat
                  · have dk : decide ((k : Int) ≤ D) = true := decide_eq_true (by omega)
                    have HK2 := qH hk2
                    go_wp2_with fail
                    refine (r5take_any (l := l4) (by have := HCS.out.2.2; omega) _).mono ?_
                    rintro e v9 ⟨(⟨hn, rfl⟩ | ⟨mx, xx, l5, A5, c5, hs, rfl, hd⟩), hb⟩
                    · have TN := qH (show T = none by rw [HT2.out, drPs_none HDR.out (by rw [HDP.out, drC_none HC.out hn _ HK2.out]; rfl) N.toNat HLT.out]; rfl)
                      have B10 := bt B9 hb
                      have R10 := co R9 hb
                      clear hb hn t7 dk
                      go_upto_region 23 with fail
                      obtain ⟨v10, hW, hb, X10⟩ := new1 v9 (.cells #[.bool false, .slice none 0 0, .int .i64 0] 26)
                      rw [← hW]
                      have B11 := bt B10 hb
                      have R11 := co R10 hb
                      clear hW hb
                      go_wp2_with (refine wpList_store_box rfl 29 _ _ rfl w.heap.size rfl #[.int .i64 0, .int .i64 0, .bool false, .slice none 0 0, .int .i64 0, .int .i64 0, .int .i64 0, .int .i64 0, .slice none 0 0] rfl #[.int .i64 0, .int .i64 0, .bool false, .slice none 0 0, .int .i64 0, .int .i64 0, .int .i64 0, .int .i64 0, .slice none 0 0] 29 R11.out tab_size rfl tab_one ?_)
                      intro wz hO hrz
                      have BZ := hO.below B11.out (Nat.le_refl _)
                      obtain ⟨g0, g1, g2, g3, g4, g5, g6, g7, g8, xg⟩ := ly9f hrz
                      go_wp2
                      try rw [Exit.noGoto_ret]
                      try rw [Exit.noGoto_ret]
                      refine bodyPost_ret (v := .tuple #[.agg #[.int .i64 0, .int .i64 0, .bool false, .slice none 0 0, .int .i64 0, .int .i64 0, .int .i64 0, .int .i64 0, .slice none 0 0], .bool false]) (by simp [results, Tryz.results11, go_sem, g0, g1, g2, g3, g4, g5, g6, g7, g8]) rfl ?_
                      rw [TN.out]
                      exact ⟨rfl, BZ⟩
                    · have DX := qH (drN_is hs)
                      have HC1 := qH (show drC (k + 1) l3 = some (cs ++ [(mx, xx)], l5) by unfold drC; rw [HC.out, Option.bind_some]; dsimp only; rw [hs]; rfl)
                      have HCS1 := qH (show (cs ++ [(mx, xx)]).length = k + 1 ∧ (∀ q, q ∈ cs ++ [(mx, xx)] → (digs q.1.natAbs).length ≤ 400) ∧ l5.length ≤ 1000000 from ⟨by rw [List.length_append, HCS.out.1]; rfl, fun q hq => by
                        rcases List.mem_append.1 hq with hq | hq
                        · exact HCS.out.2.1 q hq
                        · rw [List.mem_singleton] at hq; subst hq; exact DX.out.2.1, by have h1 := congrArg List.length DX.out.1; have := HCS.out.2.2; rw [List.length_append] at h1; omega⟩)
                      have P10 := co HPB hb
                      have DW10 := qH (HDW.out.below hb)
                      have HG10 := qH (And.intro (grow_step_below HG.out.1 hb) (HG.out.2.trans (Kept.below hb)))
                      have HDX := qH hd
                      clear hb hs hd t7 dk
                      go_upto_region 25 with fail
                      obtain ⟨v10, hW, hb, X10⟩ := new1 v9 (.cells #[.bool (decide (mx < 0)), .slice A5 (digs mx.natAbs).length c5, .int .i64 xx] 26)
                      rw [← hW]
                      have P11 := co P10 hb
                      have DW11 := qH (DW10.out.below hb)
                      have HG11 := qH (And.intro (grow_step_below HG10.out.1 hb) (HG10.out.2.trans (Kept.below hb)))
                      have HDX1 := qH (HDX.out.below hb)
                      clear hW hb
                      have p4 := row_c (i := 4) P11.out rfl
                      have xp := heap_lt P11.out
                      obtain ⟨fx0, zx0, fx1, zx1, fx2, zx2, xx2⟩ := ly3 X10.out
                      have b1 := below1 v10 (.cells #[.bool (decide (mx < 0)), .slice A5 (digs mx.natAbs).length c5, .int .i64 xx] 26)
                      go_wp2_with (at_builtin; refine wpList_append_dyN rfl _ _ rfl v8.heap.size C cs mx xx v10.heap.size 26 1 c5 A5 rfl (DW11.out.below b1) (heap_alloc_new _ _) (HDX1.out.below b1) rfl (by have := HCS.out.1; have := BF.out.2.2.2.1; omega) (by have := HG11.out.1.size; simp; omega) ?_)
                      intro g2 cap v12 hdw hgr hk12
                      have P12 := qH ((hgr.block gp (by simp; omega) (fun e => by have h1 := (DW11.out.own e.symm).1; have := GS.out; omega)).trans (cells_of P11.out b1))
                      have HG12 := qH (And.intro (grow_step_own (grow_step_below HG11.out.1 b1) hgr (fun q hq => (DW11.out.own hq).1)) ((HG11.out.2.trans (Kept.below b1)).trans hk12))
                      have DW12 := qH hdw
                      clear hdw hgr hk12 b1 p4 xp fx0 zx0 fx1 zx1 fx2 zx2 xx2
                      have p4 := row_c (i := 4) P12.out rfl
                      have z4 := frozen_of_row _ _ 4 _ _ P12.out
                      have xp := heap_lt P12.out
                      go_wp2
                      clear p4 z4 xp
                      obtain ⟨v13, hW⟩ : ∃ V : World, v12.setCell ⟨gp, 4, none⟩ (.slice (some ⟨g2, 0, none⟩) (cs.length + 1) cap) = V := ⟨_, rfl⟩
                      rw [hW]
                      have hO : Only gp v12 v13 := by rw [← hW]; exact (Only.refl _ v12).setCell 4 _
                      have P13 := qH (show v13.heap[gp]? = some (.cells #[.bool false, .slice none 0 0, .int .i64 0, .int .i64 (Y - 128), .slice (some ⟨g2, 0, none⟩) (cs.length + 1) cap, .bool (decide (me < 0)), .slice A3 (digs me.natAbs).length c3, .int .i64 xe] 49 (0, 0)) by rw [← hW]; exact heap_setCell_same _ _ 4 _ _ _ P12.out)
                      have hK : Kept v12 v13 := hO.kept P12.out (noint_of (by intro u hu n e; subst e; obtain ⟨q1, q2, q3, hq⟩ := DW10.out.form; subst hq; simp at hu))
                      have DW13 := qH (show Dw v13 v8.heap.size (.slice (some ⟨g2, 0, none⟩) (cs.length + 1) cap) (cs ++ [(mx, xx)]) from DW12.out.grown (only_grow hO) hK GS.out)
                      have HG13 := qH (And.intro (grow_step HG12.out.1 ⟨hO.os, hO.tape, hO.output⟩ (Nat.le_of_eq hO.size.symm) (fun q hq hne => hO.block q hne)) (HG12.out.2.trans hK))
                      clear hW hO hK
                      go_roundw
                      case rel =>
                        have hk2 := HK2.out
                        have bf := BF.out.2.2.2.1
                        have hw : wrap64 ((k : Int) + 1) = (k : Int) + 1 := IntWalk.wrap64_in _ ⟨by omega, by omega⟩
                        first
                          | exact ⟨k + 1, cs ++ [(mx, xx)], l5, _, HK2.out, by (try rw [hw]); exact congrArg _ (by omega), rfl, HC1, HCS1, P13, DW13, HG13⟩
                          | trace_state
                      case measure =>
                        have hk2 := HK2.out
                        have bf := BF.out.2.2.2.1
                        have hw : wrap64 ((k : Int) + 1) = (k : Int) + 1 := IntWalk.wrap64_in _ ⟨by omega, by omega⟩
                        try rw [hw]
                        simp [intOf]; omega
                  · obtain rfl : k = (D + 1).toNat := by omega
                    have dk : decide ((((D + 1).toNat : Nat) : Int) ≤ D) = false := decide_eq_false (by omega)
                    have A9 := qH (grow_row HG.out.1 A8.out (Nat.ne_of_lt GP.out.2.2.1))
                    have HDP2 := qH (show drP D (ps, (Kn, En), y :: l2) = if endV Kn En (Y - 128) = 0 then some (ps ++ [⟨(Kn, En), Y - 128, cs, (me, xe)⟩], endq Kn En (Y - 128), l4) else none by rw [HDP.out, HC.out]; rfl)
                    obtain ⟨PC, nC, kC, rfl⟩ := HDW.out.form
                    obtain ⟨rfl, hnr⟩ := HDW.out.nrl
                    have NR := qH hnr
                    have DM9 := qH (DM8.out.kept HG.out.2)
                    have DK9 := qH (DK8.out.kept HG.out.2)
                    have DE9 := qH (DE8.out.kept HG.out.2)
                    have PW9 := qH (PW8.out.grow HG.out.1 HG.out.2 (fun q hq => Nat.ne_of_lt (OWN.out q hq)) (.inr ⟨_, _, _, P8.out, by decide⟩))
                    have GW := qH (show gp < wr.heap.size ∧ v8.heap.size ≤ wr.heap.size from ⟨heap_lt HPB.out, HG.out.1.size⟩)
                    clear hnr
                    obtain ⟨a0, za0, a1, za1, a2, za2, xa⟩ := ly3 A9.out
                    obtain ⟨p0, zp0, p1, zp1, p2, zp2, p3, zp3, p4, zp4, p5, zp5, p6, zp6, p7, zp7, xp⟩ := ly8z HPB.out
                    go_upto_region 28 with fail
                    clear dk t7 bf a0 za0 a1 za1 a2 za2 xa p0 zp0 p1 zp1 p2 zp2 p3 zp3 p4 zp4 p5 zp5 p6 zp6 p7 zp7 xp
                    obtain ⟨v14, hW⟩ : ∃ V : World, ((wr.setCell ⟨gp, 0, none⟩ (.bool (decide (Kn < 0)))).setCell ⟨gp, 1, none⟩ (.slice A1 (digs Kn.natAbs).length c1)).setCell ⟨gp, 2, none⟩ (.int .i64 En) = V := ⟨_, rfl⟩
                    rw [hW]
                    have hO : Only gp wr v14 := by rw [← hW]; exact (((Only.refl _ wr).setCell 0 _).setCell 1 _).setCell 2 _
                    have P14 := qH (show v14.heap[gp]? = some (.cells #[.bool (decide (Kn < 0)), .slice A1 (digs Kn.natAbs).length c1, .int .i64 En, .int .i64 (Y - 128), .slice PC cs.length kC, .bool (decide (me < 0)), .slice A3 (digs me.natAbs).length c3, .int .i64 xe] 49 (0, 0)) by rw [← hW]; exact heap_setCell_same _ _ 2 _ _ _ (heap_setCell_same _ _ 1 _ _ _ (heap_setCell_same _ _ 0 _ _ _ HPB.out)))
                    have hK : Kept wr v14 := hO.kept HPB.out (noint_of (by intro u hu n e; subst e; simp at hu))
                    have B14 := qH (hO.below B9.out (Nat.le_of_lt GP.out.1))
                    have R14 := qH ((hO.block _ (Nat.ne_of_lt GP.out.1)).trans R9.out)
                    have T14 := qH ((hO.block _ (Nat.ne_of_lt GP.out.2.1)).trans T9.out)
                    have A14 := qH ((hO.block _ (Nat.ne_of_lt GP.out.2.2.1)).trans A9.out)
                    have DM14 := qH (DM9.out.kept hK)
                    have DK14 := qH (DK9.out.kept hK)
                    have DE14 := qH (DE9.out.kept hK)
                    have PW14 := qH (PW9.out.grow (only_grow hO) hK (fun q hq => Nat.ne_of_lt (OWN.out q hq)) (.inr ⟨_, _, _, HPB.out, by decide⟩))
                    have NR14 := qH (NR.out.grow (fun q cur fr e hh => hO.block q (fun e2 => by have h1 := HDW.out.at e; have := GS.out; omega)) hK)
                    have PCB := qH (show ∀ q o, PC = some ⟨q, o, none⟩ → v5.heap.size ≤ q from fun q o e => by have h1 := HDW.out.at e; have := GP.out.2.2.2; have := GS.out; omega)
                    have SZ14 := qH (show v5.heap.size ≤ v14.heap.size ∧ gp < v14.heap.size from ⟨by have := heap_lt P14.out; have := GP.out.2.2.2; omega, heap_lt P14.out⟩)
                    clear hW hO hK B9 R9 T9 A9 DM9 DK9 DE9 PW9
                    have t8 := row_c (i := 8) T14.out rfl
                    obtain ⟨p0, zp0, p1, zp1, p2, zp2, p3, zp3, p4, zp4, p5, zp5, p6, zp6, p7, zp7, xp⟩ := ly8z P14.out
                    have b1 := below1 v14 (.cells #[.bool (decide (Kn < 0)), .slice A1 (digs Kn.natAbs).length c1, .int .i64 En, .int .i64 (Y - 128), .slice PC cs.length kC, .bool (decide (me < 0)), .slice A3 (digs me.natAbs).length c3, .int .i64 xe] 49)
                    go_wp2_with (at_builtin; refine wpList_append_pcN rfl _ _ rfl v5.heap.size gt17 Pv ps ⟨(Kn, En), Y - 128, cs, (me, xe)⟩ v14.heap.size 49 1 c1 kC c3 A1 PC A3 rfl (PwN.below (g := 0) PW14.out b1) PCB.out (heap_alloc_new _ _) (DK14.out.below b1) (NR14.out.grow (fun q cur fr _ hh => b1.block q (heap_lt hh)) (Kept.below b1)) (DE14.out.below b1) rfl (by have := HSM.out.2.1; have := BF.out.2.2.2.2.2; omega) (by have := SZ14.out.1; simp; omega) (cells_of T14.out b1) (by decide) ?_)
                    intro g2 cap v16 hpw hgr hgz
                    have GO := qH (show ∀ q, Pv.ownBlock = some q → v5.heap.size ≤ q ∧ q < gp from fun q hq => ⟨(PW14.out.own hq).1, OWN.out q hq⟩)
                    have ko : ∀ (q : Nat) (ob : Obj), q < v5.heap.size → v14.heap[q]? = some ob → v16.heap[q]? = some ob := fun q ob hq hh => (hgr.block q (by have := SZ14.out.1; simp; omega) (fun e => by have := (GO.out q e.symm).1; omega)).trans ((heap_alloc_old v14 (.cells #[.bool (decide (Kn < 0)), .slice A1 (digs Kn.natAbs).length c1, .int .i64 En, .int .i64 (Y - 128), .slice PC cs.length kC, .bool (decide (me < 0)), .slice A3 (digs me.natAbs).length c3, .int .i64 xe] 49) (by have := SZ14.out.1; omega)).trans hh)
                    have B16 := qH (below_own (B14.out.trans (b1.mono B14.out.size)) hgr (by have := B14.out.size; simp; omega) (fun q hq => by have := (GO.out q hq).1; have := GTA.out.2.2; omega))
                    have R16 := qH (ko _ _ GTA.out.2.2 R14.out)
                    have T16 := qH (ko _ _ GTA.out.1 T14.out)
                    have A16 := qH (ko _ _ GTA.out.2.1 A14.out)
                    have P16 := qH ((hgr.block gp (by have := SZ14.out.2; simp; omega) (fun e => by have := (GO.out gp e.symm).2; omega)).trans ((heap_alloc_old v14 (.cells #[.bool (decide (Kn < 0)), .slice A1 (digs Kn.natAbs).length c1, .int .i64 En, .int .i64 (Y - 128), .slice PC cs.length kC, .bool (decide (me < 0)), .slice A3 (digs me.natAbs).length c3, .int .i64 xe] 49) SZ14.out.2).trans P14.out))
                    have hK16 : Kept v14 v16 := (Kept.below b1).trans hgz.1
                    have DM16 := qH (DM14.out.kept hK16)
                    have DK16 := qH (DK14.out.kept hK16)
                    have PW16 := qH hpw
                    have NW16 := qH (show ∀ q, (Value.slice (some ⟨g2, 0, none⟩) (ps.length + 1) cap).ownBlock = some q → v5.heap.size ≤ q from fun q hq => (hpw.own hq).1)
                    clear hpw hgr hgz ko hK16 b1 t8 p0 zp0 p1 zp1 p2 zp2 p3 zp3 p4 zp4 p5 zp5 p6 zp6 p7 zp7 xp B14 R14 T14 A14 DM14 DK14 DE14 PW14 NR14 P14
                    have t8 := row_c (i := 8) T16.out rfl
                    have zt8 := frozen_of_row _ _ 8 _ _ T16.out
                    have xt := heap_lt T16.out
                    go_upto_region 29 with fail
                    clear t8 zt8 xt
                    obtain ⟨v17, hW⟩ : ∃ V : World, v16.setCell ⟨gt17, 8, none⟩ (.slice (some ⟨g2, 0, none⟩) (ps.length + 1) cap) = V := ⟨_, rfl⟩
                    rw [hW]
                    have hO : Only gt17 v16 v17 := by rw [← hW]; exact (Only.refl _ v16).setCell 8 _
                    have T17 := qH (show v17.heap[gt17]? = some (.cells #[.int .i64 F, .int .i64 O, .bool (decide (m < 0)), .slice A (digs m.natAbs).length c, .int .i64 x0, .int .i64 (X - 128), .int .i64 Q, .int .i64 D, .slice (some ⟨g2, 0, none⟩) (ps.length + 1) cap] 29 (0, 0)) by rw [← hW]; exact heap_setCell_same _ _ 8 _ _ _ T16.out)
                    have hK : Kept v16 v17 := hO.kept T16.out (noint_of (by intro u hu n e; subst e; obtain ⟨q1, q2, q3, hq⟩ := PVF.out; subst hq; simp at hu))
                    have B17 := qH (hO.below B16.out (Nat.le_of_lt G0.out))
                    have R17 := qH ((hO.block _ (Nat.ne_of_lt G0.out)).trans R16.out)
                    have A17 := qH ((hO.block _ (Nat.ne_of_gt GA.out)).trans A16.out)
                    have P17 := qH ((hO.block _ (Nat.ne_of_gt GP.out.2.1)).trans P16.out)
                    have DM17 := qH (DM16.out.kept hK)
                    have DK17 := qH (DK16.out.kept hK)
                    have PW17 := qH (PW16.out.grow (only_grow hO) hK (fun q hq => by have := NW16.out q hq; have := GTA.out.1; omega) (.inl GTA.out.1))
                    clear hW hO hK B16 R16 T16 A16 P16 DM16 DK16 PW16
                    obtain ⟨⟨K2, F2⟩, hkf⟩ : ∃ z, endq Kn En (Y - 128) = z := ⟨_, rfl⟩
                    obtain ⟨VV, hvv⟩ : ∃ z, endV Kn En (Y - 128) = z := ⟨_, rfl⟩
                    obtain ⟨t1, ht1⟩ : ∃ z : Int, z = 1 := ⟨_, rfl⟩
                    have RK2 := qH (endq_rt Kn En (Y - 128))
                    rw [hkf] at RK2
                    have HQ := qH (show tot (nm (endz Kn En (Y - 128))) (nx (endz Kn En (Y - 128)) (min En (Y - 128))) = (K2, F2, VV) from tot_of hkf hvv)
                    have HIS := qH (show IsD (dv Kn En + dv t1 (Y - 128)) (nm (endz Kn En (Y - 128))) (nx (endz Kn En (Y - 128)) (min En (Y - 128))) by rw [ht1]; exact endz_is Kn En (Y - 128))
                    have HHF := qH (fun V : World => r5half_u (Y - 128) t1 V (by have := YB.out; omega) (by have := YB.out; omega) ht1)
                    have L1 := qH (show (digs t1.natAbs).length ≤ 10000 from Nat.le_trans (digs_small (by omega)) (by omega : 2 ≤ 10000))
                    have RT1 := qH (show Rt t1 (Y - 128) by rw [ht1]; have := YB.out; exact ⟨.inr rfl, by omega, by omega⟩)
                    rw [hkf, hvv] at HDP2
                    have HDP3 := qH HDP2.out
                    clear hkf hvv ht1 HDP2
                    go_cut [15, 16] from 121 to 127 (fun pv ev wx => ∃ (gn : Nat) (A7 : Option Addr) (c7 : Nat), pv = .pointer (some ⟨gn, 0, none⟩) ∧ ev = .int .i64 VV ∧ Hid (wx.heap[gn]? = some (.cells #[.bool (decide (K2 < 0)), .slice A7 (digs K2.natAbs).length c7, .int .i64 F2] 26 (0, 0))) ∧ Hid (Dg wx A7 c7 (digs K2.natAbs)) ∧ Hid (Below v17.heap.size v17 wx))
                    case first =>
                      refine wp_operands_late (W := v17) rfl 7 9 10 [0, 1, 2, 3, 4, 5, 6, 8] [121, 122, 123, 124, 125, 120, 126, 127, 15] (fun i u x => match i with | 7 => u = .int .i64 VV | 0 => u = .agg #[.bool (decide (Kn < 0)), .slice A1 (digs Kn.natAbs).length c1, .int .i64 En] | 1 => u = .pointer (some ⟨gp, 3, none⟩) | 2 => u = .int .i64 (Y - 128) | 3 => ∃ A c, u = .agg #[.bool (decide (t1 < 0)), .slice A (digs t1.natAbs).length c, .int .i64 (Y - 128)] ∧ Dg x A c (digs t1.natAbs) | 4 => ∃ A c, u = .tuple #[.agg #[.bool (decide (K2 < 0)), .slice A (digs K2.natAbs).length c, .int .i64 F2], .int .i64 VV] ∧ Dg x A c (digs K2.natAbs) | 5 => ∃ A c, u = .tuple #[.agg #[.bool (decide (K2 < 0)), .slice A (digs K2.natAbs).length c, .int .i64 F2], .int .i64 VV] ∧ Dg x A c (digs K2.natAbs) | 6 => ∃ A c, u = .agg #[.bool (decide (K2 < 0)), .slice A (digs K2.natAbs).length c, .int .i64 F2] ∧ Dg x A c (digs K2.natAbs) | 8 => ∃ g, u = .pointer (some ⟨g, 0, none⟩) ∧ x.heap[g]? = some (.cells #[.bool false, .slice none 0 0, .int .i64 0] 26 (0, 0)) ∧ v17.heap.size ≤ g | _ => True)
                        (by kernel_rfl) (by kernel_rfl) (by decide) (by kernel_rfl) (by kernel_rfl) (by kernel_rfl) (by decide) (by kernel_rfl) (by kernel_rfl) (by kernel_rfl) (by kernel_rfl) (by kernel_rfl) (by kernel_rfl) (by kernel_rfl) (by kernel_rfl) ?_ ?_ ?_
                      · intro i u x x' hi hR hb'
                        have hi' : i = 7 ∨ i = 0 ∨ i = 1 ∨ i = 2 ∨ i = 3 ∨ i = 4 ∨ i = 5 ∨ i = 6 ∨ i = 8 := by simpa using hi
                        rcases hi' with rfl | rfl | rfl | rfl | rfl | rfl | rfl | rfl | rfl
                        · exact hR
                        · exact hR
                        · exact hR
                        · exact hR
                        · obtain ⟨A, c, e, hd⟩ := hR; exact ⟨A, c, e, hd.below hb'⟩
                        · obtain ⟨A, c, e, hd⟩ := hR; exact ⟨A, c, e, hd.below hb'⟩
                        · obtain ⟨A, c, e, hd⟩ := hR; exact ⟨A, c, e, hd.below hb'⟩
                        · obtain ⟨A, c, e, hd⟩ := hR; exact ⟨A, c, e, hd.below hb'⟩
                        · obtain ⟨g, e, hg, hge⟩ := hR; exact ⟨g, e, cells_of hg hb', hge⟩
                      · intro i av x K hi hF hb' hw hK
                        have hi' : i = 7 ∨ i = 0 ∨ i = 1 ∨ i = 2 ∨ i = 3 ∨ i = 4 ∨ i = 5 ∨ i = 6 ∨ i = 8 := by simpa using hi
                        rcases hi' with rfl | rfl | rfl | rfl | rfl | rfl | rfl | rfl | rfl
                        · simp only [wpOp, gAy, gSy, gZy, Region.wanted, if_true]
                          refine Or.inl ?_
                          obtain ⟨Aq0, cq0, e0, hd0⟩ := hw 5 (by kernel_rfl)
                          have e0e : av.eval (.tmp 120) = .tuple #[.agg #[.bool (decide (K2 < 0)), .slice Aq0 (digs K2.natAbs).length cq0, .int .i64 F2], .int .i64 VV] := e0
                          have e0g : av.tmps[120]?.getD undef = .tuple #[.agg #[.bool (decide (K2 < 0)), .slice Aq0 (digs K2.natAbs).length cq0, .int .i64 F2], .int .i64 VV] := by have := e0; simp only [Array.getD_eq_getD_getElem?] at this; exact this
                          clear hw hF
                          simp only [Oper.wp, execOp]
                          try simp only [e0e]
                          go_simp
                          exact hK _ x (by first | rfl | (simp only [Nat.add_zero]; done) | (congr 1; omega)) (Below.refl _ _)
                        · simp only [wpOp, gAy, gZy, Region.wanted, if_true]
                          refine Or.inl ?_
                          have e0 : av.tmps.getD 6 undef = .pointer (some ⟨v3.heap.size, 0, none⟩) := hF.2.2 6 (by decide)
                          have e0e : av.eval (.tmp 6) = .pointer (some ⟨v3.heap.size, 0, none⟩) := e0
                          have e0g : av.tmps[6]?.getD undef = .pointer (some ⟨v3.heap.size, 0, none⟩) := by have := e0; simp only [Array.getD_eq_getD_getElem?] at this; exact this
                          have f0 := row_cell A17.out hb' 0
                          have f1 := row_cell A17.out hb' 1
                          have f2 := row_cell A17.out hb' 2
                          simp only [gAy, gSy, gZy] at f0 f1 f2
                          clear hw hF
                          simp only [Oper.wp, execOp]
                          try simp only [e0e]
                          go_simp
                          exact hK _ x (by first | rfl | (simp only [Nat.add_zero]; done) | (congr 1; omega)) (Below.refl _ _)
                        · simp only [wpOp, gAy, gSy, gZy, Region.wanted, if_true]
                          refine Or.inl ?_
                          have e0 : av.tmps.getD 10 undef = .pointer (some ⟨gp, 0, none⟩) := hF.2.2 10 (by decide)
                          have e0e : av.eval (.tmp 10) = .pointer (some ⟨gp, 0, none⟩) := e0
                          have e0g : av.tmps[10]?.getD undef = .pointer (some ⟨gp, 0, none⟩) := by have := e0; simp only [Array.getD_eq_getD_getElem?] at this; exact this
                          clear hw hF
                          simp only [Oper.wp, execOp]
                          try simp only [e0e]
                          go_simp
                          exact hK _ x (by first | rfl | (simp only [Nat.add_zero]; done) | (congr 1; omega)) (Below.refl _ _)
                        · simp only [wpOp, gAy, gSy, gZy, Region.wanted, if_true]
                          refine Or.inl ?_
                          have e0 : av.tmps.getD 122 undef = .pointer (some ⟨gp, 3, none⟩) := hw 1 (by kernel_rfl)
                          have e0e : av.eval (.tmp 122) = .pointer (some ⟨gp, 3, none⟩) := e0
                          have e0g : av.tmps[122]?.getD undef = .pointer (some ⟨gp, 3, none⟩) := by have := e0; simp only [Array.getD_eq_getD_getElem?] at this; exact this
                          have f0 := row_cell P17.out hb' 3
                          simp only [gAy, gSy, gZy] at f0
                          clear hw hF
                          simp only [Oper.wp, execOp]
                          try simp only [e0e]
                          go_simp
                          exact hK _ x (by first | rfl | (simp only [Nat.add_zero]; done) | (congr 1; omega)) (Below.refl _ _)
                        · simp only [wpOp, gAy, gSy, gZy, Region.wanted, if_true]
                          refine Or.inl ?_
                          have e0 : av.tmps.getD 123 undef = .int .i64 (Y - 128) := hw 2 (by kernel_rfl)
                          have e0e : av.eval (.tmp 123) = .int .i64 (Y - 128) := e0
                          have e0g : av.tmps[123]?.getD undef = .int .i64 (Y - 128) := by have := e0; simp only [Array.getD_eq_getD_getElem?] at this; exact this
                          clear hw hF
                          simp only [Oper.wp, execOp]
                          try simp only [e0e]
                          go_simp
                          refine (HHF.out _).mono ?_
                          rintro e yw ⟨A2, c2, rfl, hd2, hbb⟩
                          exact hK _ yw ⟨A2, c2, rfl, hd2⟩ hbb
                        · simp only [wpOp, gAy, gSy, gZy, Region.wanted, if_true]
                          refine Or.inl ?_
                          have e0 : av.tmps.getD 121 undef = .agg #[.bool (decide (Kn < 0)), .slice A1 (digs Kn.natAbs).length c1, .int .i64 En] := hw 0 (by kernel_rfl)
                          have e0e : av.eval (.tmp 121) = .agg #[.bool (decide (Kn < 0)), .slice A1 (digs Kn.natAbs).length c1, .int .i64 En] := e0
                          have e0g : av.tmps[121]?.getD undef = .agg #[.bool (decide (Kn < 0)), .slice A1 (digs Kn.natAbs).length c1, .int .i64 En] := by have := e0; simp only [Array.getD_eq_getD_getElem?] at this; exact this
                          obtain ⟨Aq1, cq1, e1, hd1⟩ := hw 3 (by kernel_rfl)
                          have e1e : av.eval (.tmp 124) = .agg #[.bool (decide (t1 < 0)), .slice Aq1 (digs t1.natAbs).length cq1, .int .i64 (Y - 128)] := e1
                          have e1g : av.tmps[124]?.getD undef = .agg #[.bool (decide (t1 < 0)), .slice Aq1 (digs t1.natAbs).length cq1, .int .i64 (Y - 128)] := by have := e1; simp only [Array.getD_eq_getD_getElem?] at this; exact this
                          clear hw hF
                          simp only [Oper.wp, execOp]
                          try simp only [e0e, e1e]
                          go_simp
                          refine (r5add_t (DK17.out.below hb') hd1 HK.out.2 L1.out HK.out.1 RT1.out HIS.out HQ.out).mono ?_
                          rintro e yw ⟨A2, c2, rfl, hd2, hbb⟩
                          exact hK _ yw ⟨A2, c2, rfl, hd2⟩ hbb
                        · simp only [wpOp, gAy, gSy, gZy, Region.wanted, if_true]
                          refine Or.inl ?_
                          obtain ⟨Aq0, cq0, e0, hd0⟩ := hw 4 (by kernel_rfl)
                          have e0e : av.eval (.tmp 125) = .tuple #[.agg #[.bool (decide (K2 < 0)), .slice Aq0 (digs K2.natAbs).length cq0, .int .i64 F2], .int .i64 VV] := e0
                          have e0g : av.tmps[125]?.getD undef = .tuple #[.agg #[.bool (decide (K2 < 0)), .slice Aq0 (digs K2.natAbs).length cq0, .int .i64 F2], .int .i64 VV] := by have := e0; simp only [Array.getD_eq_getD_getElem?] at this; exact this
                          clear hw hF
                          simp only [Oper.wp, execOp]
                          try simp only [e0e]
                          go_simp
                          exact hK _ x ⟨Aq0, cq0, rfl, hd0⟩ (Below.refl _ _)
                        · simp only [wpOp, gAy, gSy, gZy, Region.wanted, if_true]
                          refine Or.inl ?_
                          obtain ⟨Aq0, cq0, e0, hd0⟩ := hw 5 (by kernel_rfl)
                          have e0e : av.eval (.tmp 120) = .tuple #[.agg #[.bool (decide (K2 < 0)), .slice Aq0 (digs K2.natAbs).length cq0, .int .i64 F2], .int .i64 VV] := e0
                          have e0g : av.tmps[120]?.getD undef = .tuple #[.agg #[.bool (decide (K2 < 0)), .slice Aq0 (digs K2.natAbs).length cq0, .int .i64 F2], .int .i64 VV] := by have := e0; simp only [Array.getD_eq_getD_getElem?] at this; exact this
                          clear hw hF
                          simp only [Oper.wp, execOp]
                          try simp only [e0e]
                          go_simp
                          exact hK _ x ⟨Aq0, cq0, rfl, hd0⟩ (Below.refl _ _)
                        · simp only [wpOp, gAy, gSy, gZy, Region.wanted, if_true]
                          refine Or.inl ?_
                          clear hw hF
                          simp only [Oper.wp, execOp]
                          go_simp
                          exact hK _ _ ⟨_, rfl, heap_alloc_new _ _, hb'.size⟩ (below1 _ _)
                      · intro av x hF0 hb' hR
                        have hF : Fr6 [127, 121, 122, 123, 124, 125, 120, 126, 15] _ av := hF0
                        have e0 : av.tmps.getD 121 undef = .agg #[.bool (decide (Kn < 0)), .slice A1 (digs Kn.natAbs).length c1, .int .i64 En] := hR 0 (by decide)
                        have e1 : av.tmps.getD 122 undef = .pointer (some ⟨gp, 3, none⟩) := hR 1 (by decide)
                        have e2 : av.tmps.getD 123 undef = .int .i64 (Y - 128) := hR 2 (by decide)
                        obtain ⟨Aq3, cq3, e3, hd3⟩ := hR 3 (by decide)
                        replace e3 : av.tmps.getD 124 undef = .agg #[.bool (decide (t1 < 0)), .slice Aq3 (digs t1.natAbs).length cq3, .int .i64 (Y - 128)] := e3
                        obtain ⟨Aq4, cq4, e4, hd4⟩ := hR 4 (by decide)
                        replace e4 : av.tmps.getD 125 undef = .tuple #[.agg #[.bool (decide (K2 < 0)), .slice Aq4 (digs K2.natAbs).length cq4, .int .i64 F2], .int .i64 VV] := e4
                        obtain ⟨Aq5, cq5, e5, hd5⟩ := hR 5 (by decide)
                        replace e5 : av.tmps.getD 120 undef = .tuple #[.agg #[.bool (decide (K2 < 0)), .slice Aq5 (digs K2.natAbs).length cq5, .int .i64 F2], .int .i64 VV] := e5
                        obtain ⟨Aq6, cq6, e6, hd6⟩ := hR 6 (by decide)
                        replace e6 : av.tmps.getD 126 undef = .agg #[.bool (decide (K2 < 0)), .slice Aq6 (digs K2.natAbs).length cq6, .int .i64 F2] := e6
                        obtain ⟨gn8, e8, hgn8, hge8⟩ := hR 8 (by decide)
                        replace e8 : av.tmps.getD 15 undef = .pointer (some ⟨gn8, 0, none⟩) := e8
                        refine ⟨⟨?_, ?_⟩, fun hx => ?_⟩
                        · rw [hF.fold (by kernel_rfl)]
                          simp only [List.foldl_cons, List.foldl_nil, e0, e1, e2, e3, e4, e5, e6, e8]
                          generalize av.tmps.getD 127 undef = vx at *
                          simp only [Act.put, List.setIfInBounds_toArray, List.set_cons_zero, List.set_cons_succ]
                          clear e0 e1 e2 e3 e4 e5 e6 e8 hR hF hF0
                          obtain ⟨fq0, zq0, fq1, zq1, fq2, zq2, xq⟩ := ly3 hgn8
                          try rw [wpOps_cons]
                          simp only [wpOp, gAy, gSy, gZy, Region.wanted, if_true]
                          refine Or.inl ?_
                          simp only [Oper.wp, execOp]
                          go_simp
                          try rw [wpOps_cons]
                          simp only [wpOp, gAy, gSy, gZy, Region.wanted, if_true]
                          refine Or.inl ?_
                          simp only [Oper.wp, execOp]
                          go_simp
                          try rw [wpOps_cons]
                          simp only [wpOp, gAy, gSy, gZy, Region.wanted, if_true]
                          refine Or.inl ?_
                          simp only [Oper.wp, execOp]
                          go_simp
                          try simp only [wpOps]
                          go_wp2_with fail
                          obtain ⟨v18, hW⟩ : ∃ V : World, ((x.setCell ⟨gn8, 0, none⟩ (.bool (decide (K2 < 0)))).setCell ⟨gn8, 1, none⟩ (.slice Aq6 (digs K2.natAbs).length cq6)).setCell ⟨gn8, 2, none⟩ (.int .i64 F2) = V := ⟨_, rfl⟩
                          rw [hW]
                          have hO : Only gn8 x v18 := by rw [← hW]; exact (((Only.refl _ x).setCell 0 _).setCell 1 _).setCell 2 _
                          have hN : v18.heap[gn8]? = some (.cells #[.bool (decide (K2 < 0)), .slice Aq6 (digs K2.natAbs).length cq6, .int .i64 F2] 26 (0, 0)) := by rw [← hW]; exact heap_setCell_same _ _ 2 _ _ _ (heap_setCell_same _ _ 1 _ _ _ (heap_setCell_same _ _ 0 _ _ _ hgn8))
                          have hK := hO.kept hgn8 (noint_of (by intro u hu n e; subst e; simp at hu))
                          go_meet
                          exact ⟨gn8, Aq6, cq6, rfl, rfl, qH hN, qH (hd6.kept hK), qH (hO.below hb' hge8)⟩
                        · rw [hF.fold (by kernel_rfl)]
                          simp only [List.foldl_cons, List.foldl_nil, e0, e1, e2, e3, e4, e5, e6, e8]
                          generalize av.tmps.getD 127 undef = vx at *
                          simp only [Act.put, List.setIfInBounds_toArray, List.set_cons_zero, List.set_cons_succ]
                          clear e0 e1 e2 e3 e4 e5 e6 e8 hR hF hF0
                          obtain ⟨fq0, zq0, fq1, zq1, fq2, zq2, xq⟩ := ly3 hgn8
                          try rw [wpOps_cons]
                          simp only [wpOp, gAy, gSy, gZy, Region.wanted, if_true]
                          refine Or.inl ?_
                          simp only [Oper.wp, execOp]
                          go_simp
                          try rw [wpOps_cons]
                          simp only [wpOp, gAy, gSy, gZy, Region.wanted, if_true]
                          refine Or.inl ?_
                          simp only [Oper.wp, execOp]
                          go_simp
                          try rw [wpOps_cons]
                          simp only [wpOp, gAy, gSy, gZy, Region.wanted, if_true]
                          refine Or.inl ?_
                          simp only [Oper.wp, execOp]
                          go_simp
                          try simp only [wpOps]
                          go_wp2_with fail
                          obtain ⟨v18, hW⟩ : ∃ V : World, ((x.setCell ⟨gn8, 0, none⟩ (.bool (decide (K2 < 0)))).setCell ⟨gn8, 1, none⟩ (.slice Aq6 (digs K2.natAbs).length cq6)).setCell ⟨gn8, 2, none⟩ (.int .i64 F2) = V := ⟨_, rfl⟩
                          rw [hW]
                          have hO : Only gn8 x v18 := by rw [← hW]; exact (((Only.refl _ x).setCell 0 _).setCell 1 _).setCell 2 _
                          have hN : v18.heap[gn8]? = some (.cells #[.bool (decide (K2 < 0)), .slice Aq6 (digs K2.natAbs).length cq6, .int .i64 F2] 26 (0, 0)) := by rw [← hW]; exact heap_setCell_same _ _ 2 _ _ _ (heap_setCell_same _ _ 1 _ _ _ (heap_setCell_same _ _ 0 _ _ _ hgn8))
                          have hK := hO.kept hgn8 (noint_of (by intro u hu n e; subst e; simp at hu))
                          go_meet
                          exact ⟨gn8, Aq6, cq6, rfl, rfl, qH hN, qH (hd6.kept hK), qH (hO.below hb' hge8)⟩
                        · have e7 : av.tmps.getD 127 undef = .int .i64 VV := hx
                          rw [hF.fold (by kernel_rfl)]
                          simp only [List.foldl_cons, List.foldl_nil, e0, e1, e2, e3, e4, e5, e6, e8, e7]
                          simp only [Act.put, List.setIfInBounds_toArray, List.set_cons_zero, List.set_cons_succ]
                          clear e0 e1 e2 e3 e4 e5 e6 e8 e7 hR hF hF0 hx
                          obtain ⟨fq0, zq0, fq1, zq1, fq2, zq2, xq⟩ := ly3 hgn8
                          try rw [wpOps_cons]
                          simp only [wpOp, gAy, gSy, gZy, Region.wanted, if_true]
                          refine Or.inl ?_
                          simp only [Oper.wp, execOp]
                          go_simp
                          try rw [wpOps_cons]
                          simp only [wpOp, gAy, gSy, gZy, Region.wanted, if_true]
                          refine Or.inl ?_
                          simp only [Oper.wp, execOp]
                          go_simp
                          try simp only [wpOps]
                          go_wp2_with fail
                          obtain ⟨v18, hW⟩ : ∃ V : World, ((x.setCell ⟨gn8, 0, none⟩ (.bool (decide (K2 < 0)))).setCell ⟨gn8, 1, none⟩ (.slice Aq6 (digs K2.natAbs).length cq6)).setCell ⟨gn8, 2, none⟩ (.int .i64 F2) = V := ⟨_, rfl⟩
                          rw [hW]
                          have hO : Only gn8 x v18 := by rw [← hW]; exact (((Only.refl _ x).setCell 0 _).setCell 1 _).setCell 2 _
                          have hN : v18.heap[gn8]? = some (.cells #[.bool (decide (K2 < 0)), .slice Aq6 (digs K2.natAbs).length cq6, .int .i64 F2] 26 (0, 0)) := by rw [← hW]; exact heap_setCell_same _ _ 2 _ _ _ (heap_setCell_same _ _ 1 _ _ _ (heap_setCell_same _ _ 0 _ _ _ hgn8))
                          have hK := hO.kept hgn8 (noint_of (by intro u hu n e; subst e; simp at hu))
                          go_meet
                          exact ⟨gn8, Aq6, cq6, rfl, rfl, qH hN, qH (hd6.kept hK), qH (hO.below hb' hge8)⟩
                    case rest =>
                      obtain ⟨gn, A7, c7, rfl, rfl, N18, D18, BL⟩ := hcut
                      have B18 := bt B17 BL.out
                      have R18 := co R17 BL.out
                      have T18 := co T17 BL.out
                      have A18 := co A17 BL.out
                      have DM18 := qH (DM17.out.below BL.out)
                      have PW18 := qH (PwN.below (g := 0) PW17.out BL.out)
                      by_cases hv0 : VV = 0
                      · subst hv0
                        have HS1 := qH (show drPs D (j + 1) ([], (m, x0), r1) = some (ps ++ [⟨(Kn, En), Y - 128, cs, (me, xe)⟩], (K2, F2), l4) by unfold drPs; rw [HDR.out, Option.bind_some, HDP3.out, if_pos rfl])
                        have SM1 := qH (show (∀ p, p ∈ ps ++ [(⟨(Kn, En), Y - 128, cs, (me, xe)⟩ : PdZ)] → SmZ p) ∧ (ps ++ [(⟨(Kn, En), Y - 128, cs, (me, xe)⟩ : PdZ)]).length = j + 1 ∧ l4.length ≤ 1000000 from ⟨fun p hp => by
                          rcases List.mem_append.1 hp with hp | hp
                          · exact HSM.out.1 p hp
                          · rw [List.mem_singleton] at hp; subst hp; exact ⟨HK.out.2, DE.out.2.1, HCS.out.2.1⟩, by rw [List.length_append, HSM.out.2.1]; rfl, HCS.out.2.2⟩)
                        obtain ⟨fn0, zn0, fn1, zn1, fn2, zn2, xn⟩ := ly3 N18.out
                        obtain ⟨fa0, za0, fa1, za1, fa2, za2, xa⟩ := ly3 A18.out
                        go_wp2
                        clear fn0 zn0 fn1 zn1 fn2 zn2 xn fa0 za0 fa1 za1 fa2 za2 xa
                        obtain ⟨v19, hW⟩ : ∃ V : World, ((wc.setCell ⟨v3.heap.size, 0, none⟩ (.bool (decide (K2 < 0)))).setCell ⟨v3.heap.size, 1, none⟩ (.slice A7 (digs K2.natAbs).length c7)).setCell ⟨v3.heap.size, 2, none⟩ (.int .i64 F2) = V := ⟨_, rfl⟩
                        rw [hW]
                        have hO : Only v3.heap.size wc v19 := by rw [← hW]; exact (((Only.refl _ wc).setCell 0 _).setCell 1 _).setCell 2 _
                        have A19 := qH (show v19.heap[v3.heap.size]? = some (.cells #[.bool (decide (K2 < 0)), .slice A7 (digs K2.natAbs).length c7, .int .i64 F2] 26 (0, 0)) by rw [← hW]; exact heap_setCell_same _ _ 2 _ _ _ (heap_setCell_same _ _ 1 _ _ _ (heap_setCell_same _ _ 0 _ _ _ A18.out)))
                        have hK : Kept wc v19 := hO.kept A18.out (noint_of (by intro u hu n e; subst e; simp at hu))
                        have B19 := qH (hO.below B18.out (Nat.le_of_lt (Nat.lt_trans G0.out GA.out)))
                        have R19 := qH ((hO.block _ (Nat.ne_of_lt (Nat.lt_trans G0.out GA.out))).trans R18.out)
                        have T19 := qH ((hO.block _ (Nat.ne_of_lt GA.out)).trans T18.out)
                        have DM19 := qH (DM18.out.kept hK)
                        have D19 := qH (D18.out.kept hK)
                        have PW19 := qH (And.intro (PW18.out.grow (only_grow hO) hK (fun q hq => by have := NW16.out q hq; have := GTA.out.2.1; omega) (.inl GTA.out.2.1)) (show v5.heap.size ≤ v19.heap.size by have h1 := BL.out.size; have h2 := heap_lt P17.out; have h3 := GP.out.2.2.2; have h4 := Nat.le_of_eq hO.size.symm; omega))
                        clear hW hO hK
                        go_roundw
                        case rel =>
                          have hlt := HLT.out
                          have bf := BF.out.2.2.2.2.2
                          have hw : wrap64 ((j : Int) + 1) = (j : Int) + 1 := IntWalk.wrap64_in _ ⟨by omega, by omega⟩
                          first
                            | exact ⟨j + 1, _, K2, F2, l4, A7, c7, _, HLT.out, by (try rw [hw]); exact congrArg _ (by omega), rfl, HS1, RK2, SM1, B19, R19, T19, A19, DM19, D19, PW19⟩
                            | trace_state
                        case measure =>
                          have hlt := HLT.out
                          have bf := BF.out.2.2.2.2.2
                          have hw : wrap64 ((j : Int) + 1) = (j : Int) + 1 := IntWalk.wrap64_in _ ⟨by omega, by omega⟩
                          try rw [hw]
                          simp [intOf]; omega
                      · have TN := qH (show T = none by rw [HT2.out, drPs_none HDR.out (by rw [HDP3.out, if_neg hv0]) N.toNat HLT.out]; rfl)
                        have dv0 : (VV != 0) = true := by simpa using hv0
                        clear hv0
                        go_wp2_with (refine wpList_store_box rfl 29 _ _ rfl w.heap.size rfl #[.int .i64 0, .int .i64 0, .bool false, .slice none 0 0, .int .i64 0, .int .i64 0, .int .i64 0, .int .i64 0, .slice none 0 0] rfl #[.int .i64 0, .int .i64 0, .bool false, .slice none 0 0, .int .i64 0, .int .i64 0, .int .i64 0, .int .i64 0, .slice none 0 0] 29 R18.out tab_size rfl tab_one ?_)
                        intro wz hO hrz
                        have BZ := hO.below B18.out (Nat.le_refl _)
                        obtain ⟨g0, g1, g2, g3, g4, g5, g6, g7, g8, xg⟩ := ly9f hrz
                        go_wp2
                        try rw [Exit.noGoto_ret]
                        try rw [Exit.noGoto_ret]
                        refine bodyPost_ret (v := .tuple #[.agg #[.int .i64 0, .int .i64 0, .bool false, .slice none 0 0, .int .i64 0, .int .i64 0, .int .i64 0, .int .i64 0, .slice none 0 0], .bool false]) (by simp [results, Tryz.results11, go_sem, g0, g1, g2, g3, g4, g5, g6, g7, g8]) rfl ?_
                        rw [TN.out]
                        exact ⟨rfl, BZ⟩
          · obtain rfl : j = N.toNat := by omega
            have hji : ¬ ((N.toNat : Nat) : Int) < N := by have := BF.out.2.2.2.2.2; omega
            have HTF := qH (show T = drF b.data.toList ⟨F, O, Q, D, X - 128, (m, x0), ps⟩ by rw [HT2.out, HDR.out]; rfl)
            obtain ⟨P, nP, kP, rfl⟩ := HPW.out.1.pw.form
            obtain ⟨rfl, hps⟩ := HPW.out.1.pw.ps
            obtain ⟨tb, htb, HEN⟩ := r16enc_z (A := A) (P := P) (c := c) (k := kP) (F := F) (O := O) (W := X - 128) (Q := Q) (D := D) (a := (m, x0)) (ps := ps) HDM.out (Nat.le_trans DI.out.2.1 (by omega)) hps (smz_of HSM.out.1)
            have HTBB := qH htb
            have HE := qH HEN
            clear hps htb HEN hj
            go_wp2_with (refine wpList_load_box rfl 29 _ rfl gt17 rfl #[.int .i64 F, .int .i64 O, .bool (decide (m < 0)), .slice A (digs m.natAbs).length c, .int .i64 x0, .int .i64 (X - 128), .int .i64 Q, .int .i64 D, .slice P ps.length kP] _ HTB.out _ Tryz.underlying29 rfl tab_size ?_)
            refine HE.out.mono ?_
            rintro e v20 ⟨rfl, hb⟩
            have B20 := bt HB hb
            have R20 := co HR hb
            have T20 := co HTB hb
            have DM20 := qH (HDM.out.below hb)
            have PW20 := qH (PwN.below (g := 0) HPW.out.1 hb)
            have OW20 := qH (show ∀ q, (Value.slice P ps.length kP).ownBlock = some q → v5.heap.size ≤ q from fun q hq => (HPW.out.1.own hq).1)
            clear hb
            by_cases hz : outE (TbZ.enc ⟨F, O, Q, D, X - 128, (m, x0), ps⟩) = 0
            · rw [show (outE (TbZ.enc ⟨F, O, Q, D, X - 128, (m, x0), ps⟩) == 0) = true by rw [hz]; rfl]
              by_cases hq : outB (TbZ.enc ⟨F, O, Q, D, X - 128, (m, x0), ps⟩) = b.data.toList
              · have HTS := qH (show T = some ⟨F, O, Q, D, X - 128, (m, x0), ps⟩ by rw [HTF.out]; unfold drF; rw [if_pos ⟨hz, hq⟩])
                obtain rfl : tb = b := by apply ByteArray.ext; apply Array.toList_inj.1; rw [HTBB.out, hq]
                clear hz hq
                obtain ⟨t0, t1, t2, t3, t4, t5, t6, t7, t8, xt⟩ := ly9f T20.out
                go_wp2_with (refine wpList_store_box rfl 29 _ _ rfl w.heap.size rfl #[.int .i64 F, .int .i64 O, .bool (decide (m < 0)), .slice A (digs m.natAbs).length c, .int .i64 x0, .int .i64 (X - 128), .int .i64 Q, .int .i64 D, .slice P ps.length kP] rfl #[.int .i64 0, .int .i64 0, .bool false, .slice none 0 0, .int .i64 0, .int .i64 0, .int .i64 0, .int .i64 0, .slice none 0 0] 29 R20.out tab_size rfl tab_one ?_)
                intro wz hO hrz
                have BZ := hO.below B20.out (Nat.le_refl _)
                have hK : Kept v20 wz := hO.kept R20.out (noint_of (by intro u hu n e; subst e; simp at hu))
                have PZ := (PW20.out.grow (only_grow hO) hK (fun q hq => by have := OW20.out q hq; have := GTA.out.2.2; omega) (.inl GTA.out.2.2)).pw.ps.2
                have DZ := DM20.out.kept hK
                obtain ⟨g0, g1, g2, g3, g4, g5, g6, g7, g8, xg⟩ := ly9f hrz
                go_wp2
                refine bodyPost_ret (v := .tuple #[.agg #[.int .i64 F, .int .i64 O, .bool (decide (m < 0)), .slice A (digs m.natAbs).length c, .int .i64 x0, .int .i64 (X - 128), .int .i64 Q, .int .i64 D, .slice P ps.length kP], .bool true]) (by simp [results, Tryz.results11, go_sem, g0, g1, g2, g3, g4, g5, g6, g7, g8]) rfl ?_
                rw [HTS.out]
                exact ⟨⟨A, c, P, kP, rfl, DZ, PZ⟩, BZ⟩
              · have TN := qH (show T = none by rw [HTF.out]; unfold drF; rw [if_neg (fun h => hq h.2)])
                have hnt : ¬ tb = b := fun h => hq (by rw [← HTBB.out, h])
                have hn2 : (tb.toList == b.toList) = false := beq_eq_false_iff_ne.2 (fun h => hnt (by rw [ByteArray.toList_eq, ByteArray.toList_eq] at h; apply ByteArray.ext; exact Array.toList_inj.1 h))
                clear hq hnt hz
                go_wp2_with (refine wpList_store_box rfl 29 _ _ rfl w.heap.size rfl #[.int .i64 0, .int .i64 0, .bool false, .slice none 0 0, .int .i64 0, .int .i64 0, .int .i64 0, .int .i64 0, .slice none 0 0] rfl #[.int .i64 0, .int .i64 0, .bool false, .slice none 0 0, .int .i64 0, .int .i64 0, .int .i64 0, .int .i64 0, .slice none 0 0] 29 R20.out tab_size rfl tab_one ?_)
                intro wz hO hrz
                have BZ := hO.below B20.out (Nat.le_refl _)
                obtain ⟨g0, g1, g2, g3, g4, g5, g6, g7, g8, xg⟩ := ly9f hrz
                go_wp2
                try rw [Exit.noGoto_ret]
                try rw [Exit.noGoto_ret]
                refine bodyPost_ret (v := .tuple #[.agg #[.int .i64 0, .int .i64 0, .bool false, .slice none 0 0, .int .i64 0, .int .i64 0, .int .i64 0, .int .i64 0, .slice none 0 0], .bool false]) (by simp [results, Tryz.results11, go_sem, g0, g1, g2, g3, g4, g5, g6, g7, g8]) rfl ?_
                rw [TN.out]
                exact ⟨rfl, BZ⟩
            · rw [show (outE (TbZ.enc ⟨F, O, Q, D, X - 128, (m, x0), ps⟩) == 0) = false by simpa using hz]
              have TN := qH (show T = none by rw [HTF.out]; unfold drF; rw [if_neg (fun h => hz h.1)])
              clear hz
              go_wp2_with (refine wpList_store_box rfl 29 _ _ rfl w.heap.size rfl #[.int .i64 0, .int .i64 0, .bool false, .slice none 0 0, .int .i64 0, .int .i64 0, .int .i64 0, .int .i64 0, .slice none 0 0] rfl #[.int .i64 0, .int .i64 0, .bool false, .slice none 0 0, .int .i64 0, .int .i64 0, .int .i64 0, .int .i64 0, .slice none 0 0] 29 R20.out tab_size rfl tab_one ?_)
              intro wz hO hrz
              have BZ := hO.below B20.out (Nat.le_refl _)
              obtain ⟨g0, g1, g2, g3, g4, g5, g6, g7, g8, xg⟩ := ly9f hrz
              go_wp2
              try rw [Exit.noGoto_ret]
              try rw [Exit.noGoto_ret]
              refine bodyPost_ret (v := .tuple #[.agg #[.int .i64 0, .int .i64 0, .bool false, .slice none 0 0, .int .i64 0, .int .i64 0, .int .i64 0, .int .i64 0, .slice none 0 0], .bool false]) (by simp [results, Tryz.results11, go_sem, g0, g1, g2, g3, g4, g5, g6, g7, g8]) rfl ?_
              rw [TN.out]
              exact ⟨rfl, BZ⟩
theorem r16decode_any {L : List UInt8} (hl : L.length ≤ 1000000) (w : World) :
    Calls Tryz.prog 11 #[.string ⟨L.toArray⟩] w fun e w' => DecR (decT L) e w' ∧ Below w.heap.size w w' := by
  rw [← dr_eq]
  match L, hl with
  | [], _ => exact r16dec_s _ w (by decide)
  | [_], _ => exact r16dec_s _ w (show (1 : Nat) < 7 by decide)
  | [_, _], _ => exact r16dec_s _ w (show (2 : Nat) < 7 by decide)
  | [_, _, _], _ => exact r16dec_s _ w (show (3 : Nat) < 7 by decide)
  | [_, _, _, _], _ => exact r16dec_s _ w (show (4 : Nat) < 7 by decide)
  | [_, _, _, _, _], _ => exact r16dec_s _ w (show (5 : Nat) < 7 by decide)
  | [_, _, _, _, _, _], _ => exact r16dec_s _ w (show (6 : Nat) < 7 by decide)
  | t :: f :: o :: p :: d :: x :: n :: r, hl =>
    obtain ⟨b, hb⟩ : ∃ z : ByteArray, (⟨(t :: f :: o :: p :: d :: x :: n :: r).toArray⟩ : ByteArray) = z := ⟨_, rfl⟩
    have hbd : b.data.toList = t :: f :: o :: p :: d :: x :: n :: r := by rw [← hb]
    have hsz : b.size = r.length + 7 := by have h := congrArg List.length hbd; simpa using h
    have at7 : ∀ (k : Nat) (y : UInt8), (t :: f :: o :: p :: d :: x :: n :: r)[k]? = some y → k < b.size → ∀ z : World, (Instr.index 9 (.string b) (.int .i64 (k : Int))).run Tryz.prog z = .ok (.int .u8 (y.toNat : Int)) z := fun k y hy hk z => ix_run2 b (k : Int) k (y.toNat : Int) rfl hk (by
      have h1 : b.data[k]? = some y := by rw [← hbd] at hy; simpa using hy
      have h2 : b.data[k]'hk = y := by rw [Array.getElem?_eq_getElem hk] at h1; exact Option.some.inj h1
      have h3 : b[k]'hk = y := h2
      rw [h3]) z
    have tn := t.toNat_lt
    have fn := f.toNat_lt
    have on := o.toNat_lt
    have pn := p.toNat_lt
    have dn := d.toNat_lt
    have xn := x.toNat_lt
    have nn := n.toNat_lt
    rw [hb]
    by_cases h84 : t.toNat = 84
    · refine r16dec_go b r (f.toNat : Int) (o.toNat : Int) (p.toNat : Int) (d.toNat : Int) (x.toNat : Int) (n.toNat : Int) w hsz (by simp at hl; omega) (fun z => ⟨?_, at7 1 f rfl (by omega) z, at7 2 o rfl (by omega) z, at7 3 p rfl (by omega) z, at7 4 d rfl (by omega) z, at7 5 x rfl (by omega) z, at7 6 n rfl (by omega) z⟩) ?_ (by omega) (by omega) (by omega) (by omega) (by omega) (by omega) _ ?_
      · have h := at7 0 t rfl (by omega) z
        rw [h84] at h; exact h
      · apply ByteArray.ext; apply Array.toList_inj.1; simp [hbd]
      · unfold drT
        dsimp only
        rw [if_pos h84, hbd]
        rfl
    · have hn : drT (t :: f :: o :: p :: d :: x :: n :: r) = none := by unfold drT; dsimp only; rw [if_neg h84]
      rw [hn]
      exact r16dec_m b w (by omega) (t.toNat : Int) (at7 0 t rfl (by omega)) (by omega)
theorem dec_form (L : List UInt8) : ∃ (F O W Q D : Int) (a : Int × Int) (zs : List PdZ) (cd : Int) (ok : Bool),
    (∀ e w, DecP (decT L) e w → ∃ A c P k, e = .returned (.tuple #[.agg #[.int .i64 F, .int .i64 O, .bool (decide (a.1 < 0)), .slice A (digs a.1.natAbs).length c, .int .i64 a.2, .int .i64 W, .int .i64 Q, .int .i64 D, .slice P zs.length k], .int .i64 cd]) ∧ Dg w A c (digs a.1.natAbs) ∧ PsL w P (zs.map PdZ.to)) ∧
    (∀ e w, DecR (decT L) e w → ∃ A c P k, e = .returned (.tuple #[.agg #[.int .i64 F, .int .i64 O, .bool (decide (a.1 < 0)), .slice A (digs a.1.natAbs).length c, .int .i64 a.2, .int .i64 W, .int .i64 Q, .int .i64 D, .slice P zs.length k], .bool ok]) ∧ Dg w A c (digs a.1.natAbs) ∧ PsL w P (zs.map PdZ.to)) ∧
    (digs a.1.natAbs).length ≤ 10000 ∧ (∀ p, p ∈ zs → SmZ p ∧ p.cs.length ≤ 1000000) ∧ zs.length ≤ 1000000 ∧ (cd = 0 ∧ ok = true ∨ cd = 2 ∧ ok = false) := by
  have dz : digs (0 : Int).natAbs = [] := digs_zero
  cases hT : decT L with
  | none =>
    refine ⟨0, 0, 0, 0, 0, (0, 0), [], 2, false, fun e w h => ?_, fun e w h => ?_, ?_, fun p hp => by simp at hp, by simp, .inr ⟨rfl, rfl⟩⟩
    · unfold DecP at h
      refine ⟨none, 0, none, 0, ?_, ?_, fun h0 => absurd rfl h0⟩
      · dsimp only; rw [dz]; exact h
      · dsimp only; rw [dz]; exact Dg.nil_ _ _
    · unfold DecR at h
      refine ⟨none, 0, none, 0, ?_, ?_, fun h0 => absurd rfl h0⟩
      · dsimp only; rw [dz]; exact h
      · dsimp only; rw [dz]; exact Dg.nil_ _ _
    · dsimp only; rw [dz]; simp
  | some T =>
    obtain ⟨F, O, Q, D, W, a, zs⟩ := T
    obtain ⟨g0, g1⟩ := dec_back hT
    have hr := right_sm (enc_parts (F := F) (O := O) (a := nmOf a) (W := W) (Q := Q) (D := D) (ps := zs.map PdZ.to) g0).1
    exact ⟨F, O, W, Q, D, a, zs, 0, true, fun e w h => h, fun e w h => h, Nat.le_trans hr.1 (by decide), hr.2.1, hr.2.2.1, .inl ⟨rfl, rfl⟩⟩
end Go.Proofs.YtdmfapgclppmhaaGreatDoor
end
section
namespace Go.Proofs.YtdmfapgclppmhaaGreatDoor
open Go.RowKit Go.WideShapes Go.ChangeShapes Go.ChangeAt
set_option maxRecDepth 100000
theorem own : ownKnob Tryz.prog.godebug = none := by kernel_rfl
theorem laidOut : laidOutB Tryz.prog = true := by kernel_rfl
section
variable {H : Type} {enc : TypeId × Value → H} {P : Program}
theorem law_post {f : Func} {s : ChangeSpec} {W W' : World} {args : Array Value} {ds : List (DataW H)} {before : List MemPlace} {tb : TypeId}
    (hW : DataW.Whole enc P f.params.toList s.vars false W args.toList ds [] before) (hb : Below W.heap.size W W') (hv : s.vars = []) (hrt : f.resultTypes = #[tb]) (htb : P.underlying tb = some .bool)
    (hsr : (s.fn H (ds ++ [])).results = [.lit (.bool true)]) (hsv : (s.fn H (ds ++ [])).vars = [])
    (hargs : ∀ sp : Nat → Bool, (∀ p ∈ before, sp p.block = true) → DataW.TrodAll enc P W' 0 sp true f.params.toList args.toList (s.fn H (ds ++ [])).args before) :
    s.post enc P f false true false false W args (.bool true) W' := by
  have hlt : ∀ p ∈ before, p.block < W.heap.size := fun p hp => hW.lt p hp
  have hold : ∀ p ∈ before, (fun b => decide (b < W.heap.size)) p.block = true := fun p hp => by simpa using hlt p hp
  have hvars : ∀ sp : Nat → Bool, DataW.TrodVars enc P W' sp s.vars (s.fn H (ds ++ [])).vars [] := fun sp => by rw [hv, hsv]; rfl
  refine ⟨ds, [], before, [], before, [], hW, ?_, hargs _ hold, hvars _, World.keptBut_mono (fun p hp => ⟨hp, by simpa using hp⟩) (hb.frame (· ∈ before)), fun h => by cases h⟩
  rw [hrt, hsr]
  exact trodAll_cons_mk (shut_bool htb _) trodAll_mk0
end
theorem again {H : Type} {enc : TypeId × Value → H} {W W' : World} {t : TypeId} {v : Value} {d : DataW H} {ps : List MemPlace} (hr : Tryz.prog.readableRec t = true) (hrow : t < Tryz.prog.types.size)
    (h : DataW.Trod enc Tryz.prog W 0 (fun _ => true) true t v d ps) (hb : Below W.heap.size W W') (hlt : ∀ x ∈ ps, x.block < W.heap.size) (sp : Nat → Bool) (hsp : ∀ x ∈ ps, sp x.block = true) :
    DataW.Trod enc Tryz.prog W' 0 sp true t v d ps :=
  WideElems.Trod_stays laidOut hr hrow h (fun x hx => hb.same (hlt x hx)) hsp
end Go.Proofs.YtdmfapgclppmhaaGreatDoor
end
section
namespace Go.Proofs.YtdmfapgclppmhaaGreatDoor
open Go.RowKit Go.WideShapes Go.ChangeShapes Go.ChangeAt Go.Deep
set_option maxRecDepth 100000
theorem t32Type : (Tryz.prog.globals[0]?).map (·.type) = some 148 := by kernel_rfl
theorem t32_laid {W : World} {xs : List (String × DataW Unit)} (h : laidMet Tryz.prog (("math/bits.deBruijn32tab", Lib.tabData .u8 tab32) :: xs) W) : T32 W :=
  Lib.tabIs_of_head g32 t32Type Tryz.underlying148 Tryz.underlying5 (by kernel_rfl) (by kernel_rfl) h
end Go.Proofs.YtdmfapgclppmhaaGreatDoor
end
