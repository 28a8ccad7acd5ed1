import Derived.Test.YtfhdhldgflbpjaaDoorMB6
import Derived.Test.YtfhdhldgflbpjaaDoorMB3
import Derived.Test.YtfhdhldgflbpjaaDoorMB1
import Derived.Test.YtfhdhldgflbpjaaDoorRows
import Derived.Test.YtfhdhldgflbpjaaDoorMB0
import Derived.WalkKit
import Derived.ProofKit
import Derived.OpenShut
import Derived.ChangeSame
import Derived.LaidMore
import Derived.Stop.Joined
import Derived.Stop.LaidErr
import Derived.Lib.SmallJoins
section
/-
  Words for the laws of tables.
-/
namespace Go.Proofs.YtfhdhldgflbpjaaDoor
open Go.RowKit
set_option linter.unusedSimpArgs false
set_option linter.unusedVariables false
theorem decode_str {d : ByteArray} {w : World} (hT : T32 w) (hl : d.size ≤ 9223372036854775807) :
    Calls Tryd.prog 8 #[.string d] w fun e w' => DecP (decT d.data.toList) e w' ∧ Below w.heap.size w w' := by
  have h := decode_any (l := d.data.toList) hT (by simpa using hl)
  have e : (⟨d.data.toList.toArray⟩ : ByteArray) = d := by apply ByteArray.ext; simp
  rw [e] at h; exact h
theorem right_sm {F O : Int} {a : Int × Int} {W Q D : Int} {zs : List PdZ} (h : rightT F O (nmOf a) W Q D (zs.map PdZ.to) = true) : (digs a.1.natAbs).length ≤ 400 ∧ (∀ p, p ∈ zs → SmZ p ∧ p.cs.length ≤ 1000000) ∧ zs.length ≤ 1000000 ∧ SmP (zs.map PdZ.to) := by
  obtain ⟨_, _, h2, _, _, h5, h6, h7⟩ := right_parts h
  have hk := okZ a zs
  have ra := rightA hk.1 h2
  have key : ∀ p, p ∈ zs → SmZ p ∧ p.cs.length ≤ 1000000 := fun p hp => by
    have hm : p.to ∈ zs.map PdZ.to := List.mem_map_of_mem hp
    have hb := rightL_all h7 _ hm
    obtain ⟨k1, k2, k3⟩ := hk.2 _ hm
    unfold pieceB at hb
    simp only [Bool.and_eq_true, List.all_eq_true, decide_eq_true_eq] at hb
    obtain ⟨_, hl, ⟨ha, her⟩, hcs, _⟩ := hb
    refine ⟨⟨Nat.le_trans (rightN k1 ha).2.2.1 (by omega), (rightN k2 her).2.2.1, fun q hq => ?_⟩, ?_⟩
    · have hm2 : nmOf q ∈ p.to.cs := List.mem_map_of_mem hq
      exact (rightN (k3 _ hm2) (hcs _ hm2)).2.2.1
    · have e : p.to.cs.length = p.cs.length := List.length_map _
      rw [e] at hl; omega
  refine ⟨ra.2.2.1, key, ?_, smz_of (fun p hp => (key p hp).1)⟩
  rw [List.length_map] at h6; omega
/-- What Encode answers of a table. -/
theorem enc_tab {A P : Option Addr} {c k : Nat} {F O W Q D : Int} {a : Nm} {ps : List Pd} {w : World} (h : Dg w A c a.2.1) (hl : a.2.1.length ≤ 10000) (hT : T32 w) (hps : PsL w P ps) (hsm : SmP ps) {E : Int} {t : ByteArray} (hE : outE (encO F O a W Q D ps) = E) (ht : t.data.toList = outB (encO F O a W Q D ps)) :
    Calls Tryd.prog 7 #[.agg #[.int .i64 F, .int .i64 O, .bool a.1, .slice A a.2.1.length c, .int .i64 a.2.2, .int .i64 W, .int .i64 Q, .int .i64 D, .slice P ps.length k]] w fun e w' => e = .returned (.tuple #[.string t, .int .i64 E]) ∧ Below w.heap.size w w' := by
  refine (encode_any (F := F) (O := O) (W := W) (Q := Q) (D := D) (k := k) h hl hT hps hsm).mono ?_
  rintro e w' ⟨⟨t2, rfl, h2⟩, hb⟩
  obtain rfl : t2 = t := by apply ByteArray.ext; apply Array.toList_inj.1; rw [h2, ht]
  rw [hE]
  exact ⟨rfl, hb⟩
theorem trims_v {A P : Option Addr} {c k : Nat} {F O W Q D : Int} {a : Nm} {ps : List Pd} {w : World} (h : Dg w A c a.2.1) (hps : PsL w P ps) (hk : ps.length ≤ k) (hk2 : ps.length ≤ 9223372036854775807) (hk3 : a.2.1.length ≤ 9223372036854775807) {a2 : Nm} (ha2 : cutN a = a2) {ps2 : List Pd} (hp2 : (ps.take 40).map cutP = ps2) :
    Calls Tryd.prog 6 #[.agg #[.int .i64 F, .int .i64 O, .bool a.1, .slice A a.2.1.length c, .int .i64 a.2.2, .int .i64 W, .int .i64 Q, .int .i64 D, .slice P ps.length k]] w fun e w' => ∃ P2 k2, e = .returned (.agg #[.int .i64 F, .int .i64 O, .bool a2.1, .slice A a2.2.1.length c, .int .i64 a2.2.2, .int .i64 W, .int .i64 Q, .int .i64 D, .slice P2 ps2.length k2]) ∧ PsT w' P2 ps2 ∧ Below w.heap.size w w' := by
  subst ha2 hp2
  exact trims_any A P c k F O W Q D a ps w h hps hk hk2 hk3
theorem cut_sm {a : Nm} {ps : List Pd} : (cutN a).2.1.length ≤ 8 ∧ SmP ((ps.take 40).map cutP) := by
  refine ⟨by unfold cutN; simp; omega, fun p hp => ?_⟩
  obtain ⟨z, _, rfl⟩ := List.mem_map.1 hp
  refine ⟨by unfold cutP cutN; simp; omega, by unfold cutP cutN; simp; omega, fun v hv => ?_⟩
  obtain ⟨u, _, rfl⟩ := List.mem_map.1 hv
  unfold cutN; simp; omega
/-- A table that is written: in its one form, and read again. -/
theorem enc_canon {F O : Int} {a : Nm} {W Q D : Int} {ps : List Pd} (h : outE (encO F O a W Q D ps) = 0) (hk : OkT a ps) : ∃ (q : Int × Int) (zs : List PdZ) (L : List UInt8), nmOf q = a ∧ zs.map PdZ.to = ps ∧ outB (encO F O a W Q D ps) = L ∧ 7 < L.length ∧ decT L = some ⟨F, O, Q, D, W, q, zs⟩ ∧ (∀ r, r ≠ [] → decT (L ++ r) = none) ∧ (∀ k, k < L.length → decT (L.take k) = none) ∧ rightT F O a W Q D ps = true ∧ L.take 7 = headB F O W Q D ps.length ∧ L.length ≤ 100000000 := by
  obtain ⟨hr, he, ee⟩ := enc_parts h
  obtain ⟨b1, b2⟩ := tOf_back hr hk he
  obtain ⟨ha, hp⟩ := wn_of hr hk he
  obtain ⟨_, _, h2, _, _, h5, h6, h7⟩ := right_parts hr
  have hL : outB (encO F O a W Q D ps) = (encS F O a W Q D ps).1 := by rw [ee]; unfold outB; rw [if_pos he]
  have hf := encS_fst hr hk he
  have h8 : (headB F O W Q D ps.length).length = 7 := rfl
  refine ⟨(nmv a, a.2.2), ps.map zOf, (encS F O a W Q D ps).1, b1, b2, hL, ?_, ?_, fun r h0 => dec_more hr hk he h0, fun k h0 => dec_cut hr hk he h0, hr, ?_, ?_⟩
  · rw [hf, List.length_append, List.length_append, h8]
    have := zb_pos (nmv a)
    unfold nbB; rw [List.length_append]; omega
  · exact dec_enc hr hk he
  · rw [hf, List.append_assoc, List.take_left' h8]
  · have h9 : (encS F O a W Q D ps).1.length ≤ 3000 + 40000 * ps.length := by
      have key : ∀ (l : List Pd) (s : List UInt8 × Int), (∀ p, p ∈ l → p ∈ ps) → (l.foldl stpP s).1.length ≤ s.1.length + 40000 * l.length := by
        intro l
        induction l with
        | nil => intro s _; simp
        | cons p l ih =>
          intro s hm
          have h10 := ih (stpP s p) (fun u hu => hm u (List.mem_cons_of_mem _ hu))
          have h11 := hp p (hm p (List.mem_cons_self ..))
          have h12 := stpP_len h5.2 h11.1 h11.2.1.1 (fun v hv => (h11.2.2 v hv).1) s
          rw [List.foldl_cons, List.length_cons]; omega
      have h13 := key ps (stp (headB F O W Q D ps.length, 0) a) (fun p h => h)
      have h14 := stp_len [a] (fun u hu => by rw [List.mem_singleton] at hu; subst hu; exact (rightA hk.1 h2).2) (headB F O W Q D ps.length, 0)
      simp only [List.foldl_cons, List.foldl_nil, List.length_singleton] at h14
      rw [h8] at h14
      unfold encS; omega
    omega
theorem psl_ok {w : World} {A P : Option Addr} {c : Nat} {a : Nm} {ps : List Pd} (h : Dg w A c a.2.1) (hp : PsL w P ps) : OkT a ps := by
  refine ⟨h.2.1, fun p hm => ?_⟩
  obtain ⟨i, hi⟩ := List.mem_iff_getElem?.1 hm
  obtain ⟨b, o, _, _, hr⟩ := hp (fun h0 => by rw [List.length_eq_zero_iff.1 h0] at hm; simp at hm)
  obtain ⟨_, _, _, _, _, _, _, _, _, _, _, _, _, _, ha, he, hn⟩ := hr i p hi
  exact ⟨ha.2.1, he.2.1, hn.ok⟩
end Go.Proofs.YtfhdhldgflbpjaaDoor
end

section
/-
  Operations under a guard, in a region whose operands come in whatever order.
-/
namespace Go.Proofs.YtfhdhldgflbpjaaDoor
open Go.RowKit
theorem ite_yes {c : Prop} [Decidable c] {a b : Prop} (hc : c) (ha : a) : if c then a else b := by rw [if_pos hc]; exact ha
theorem ite_not {c : Prop} [Decidable c] {a b : Prop} (hc : ¬ c) (hb : b) : if c then a else b := by rw [if_neg hc]; exact hb
theorem yielded_of {ops : Array Oper} {tmps : Array Value} {j : Nat} {t : Tmp} {b : Bool} (h1 : (ops[j]?).bind (·.dst) = some t) (h2 : tmps.getD t undef = .bool b) : yielded ops tmps j = some b := by
  unfold yielded
  rw [h1]
  simp only [Option.bind_some]
  rcases h : tmps[t]? with _ | v
  · rw [Array.getD_eq_getD_getElem?, h] at h2; cases h2
  · rw [Array.getD_eq_getD_getElem?, h] at h2
    simp only [Option.getD_some] at h2
    rw [h2]
theorem yielded_none {ops : Array Oper} {tmps : Array Value} {j : Nat} {t : Tmp} (h1 : (ops[j]?).bind (·.dst) = some t) (h2 : tmps.getD t undef = undef) : yielded ops tmps j = none := by
  unfold yielded
  rw [h1]
  simp only [Option.bind_some]
  rcases h : tmps[t]? with _ | v
  · rfl
  · rw [Array.getD_eq_getD_getElem?, h] at h2
    simp only [Option.getD_some] at h2
    rw [h2]; rfl
theorem wanted_none {o : Oper} {f : Nat → Option Bool} {j : Nat} {b : Bool} (hg : o.guard = some (j, b)) (hf : f j = none) : ¬ Region.wanted o f = true := by
  simp [Region.wanted, hg, hf]
theorem wanted_yes {o : Oper} {f : Nat → Option Bool} {j : Nat} {b : Bool} (hg : o.guard = some (j, b)) (hf : f j = some b) : Region.wanted o f = true := by
  simp [Region.wanted, hg, hf]
theorem wanted_not {o : Oper} {f : Nat → Option Bool} {j : Nat} {b : Bool} (hg : o.guard = some (j, b)) (hf : f j = some (!b)) : ¬ Region.wanted o f = true := by
  cases b <;> simp [Region.wanted, hg, hf]
end Go.Proofs.YtfhdhldgflbpjaaDoor
end

section
/-
  From a law's walk to its statement: what comes in is opened, read again behind the call, and handed on.
-/
namespace Go.Proofs.YtfhdhldgflbpjaaDoor
open Go.RowKit Go.WideShapes Go.ChangeShapes Go.ChangeAt
set_option maxRecDepth 100000
theorem own : ownKnob Tryd.prog.godebug = none := by kernel_rfl
theorem laidOut : laidOutB Tryd.prog = true := by kernel_rfl
theorem below_cell_lt {w : World} {b o : Nat} {v : Value} (h : w.cell? ⟨b, o, none⟩ = some v) : b < w.heap.size := by
  rcases Nat.lt_or_ge b w.heap.size with hlt | hge
  · exact hlt
  · have e := Array.getElem?_eq_none hge
    simp [World.cell?, e] at h
theorem cellsElem : Tryd.prog.cellsOf 56 = 1 := by kernel_rfl
/-- A slice of digits that came in. -/
theorem open_dg {H : Type} {enc : TypeId × Value → H} {W : World} {base : Nat} {spare : Nat → Bool} {held : Bool} {v : Value} {d : DataW H} {ps : List MemPlace}
    (hval : Value.okWide Tryd.prog W .any base 22 v) (hd : DataW.Trod enc Tryd.prog W 0 spare held 22 v d ps) : ∃ A c xs, v = .slice A xs.length c ∧ Dg W A c xs := by
  obtain ⟨a0, len, cap, rfl⟩ := okWide_slice Tryd.underlying22 hval
  obtain ⟨fuel, hf⟩ := hd
  rcases open_ints Tryd.underlying22 Tryd.underlying56 cellsElem hf with ⟨hcs, _⟩ | ⟨a, len', cap', zs, hcs, _, hl, hm, hz, _, hcell, hwz⟩
  · simp [Value.cells] at hcs
    obtain ⟨rfl, rfl, rfl⟩ := hcs
    exact ⟨none, 0, [], rfl, Dg.nil_ _ _⟩
  · simp [Value.cells] at hcs
    obtain ⟨rfl, rfl, rfl⟩ := hcs
    have hlz : len ≤ zs.length := by rw [hz]; split <;> omega
    have hn : ∀ n ∈ zs, 0 ≤ n ∧ n ≤ 4294967295 := fun n hn => by simpa [Lit.wf, IntKind.min, IntKind.max, IntKind.signed, IntKind.bits] using hwz n hn
    have hxl : ((zs.take len).map Int.toNat).length = len := by simp; omega
    refine ⟨some a, cap, (zs.take len).map Int.toNat, by rw [hxl], by rw [hxl]; exact hl, ?_, fun h0 => ?_⟩
    · intro x hx
      obtain ⟨z, hz', rfl⟩ := List.mem_map.1 hx
      have := hn z (List.mem_of_mem_take hz')
      omega
    · rw [hxl] at h0
      obtain ⟨b, off, spot⟩ := a
      have hspot : spot = none := by simpa [Addr.add] using World.cell?_spot (hcell 0 (by omega))
      subst hspot
      refine ⟨b, off, rfl, below_cell_lt (v := .int .u32 (zs.getD 0 0)) (o := off) (by have := hcell 0 (by omega); simpa [Addr.add] using this), fun j hj => ?_⟩
      rw [hxl] at hj
      have hc := hcell j (by omega)
      rw [Addr.add_lit] at hc
      rw [hc]
      have hjz : j < zs.length := by omega
      have hb := hn zs[j] (List.getElem_mem hjz)
      simp [hj, List.getElem?_eq_getElem hjz]
      omega
section
variable {H : Type} {enc : TypeId × Value → H} {P : Program}
/-- A law's end: true; older memory stays; each argument reads as it read. -/
theorem law_post {f : Func} {s : ChangeSpec} {W W' : World} {args : Array Value} {ds : List (DataW H)} {before : List MemPlace} {tb : TypeId}
    (hW : DataW.Whole enc P f.params.toList s.vars false W args.toList ds [] before) (hb : Below W.heap.size W W') (hv : s.vars = []) (hrt : f.resultTypes = #[tb]) (htb : P.underlying tb = some .bool)
    (hsr : (s.fn H (ds ++ [])).results = [.lit (.bool true)]) (hsv : (s.fn H (ds ++ [])).vars = [])
    (hargs : ∀ sp : Nat → Bool, (∀ p ∈ before, sp p.block = true) → DataW.TrodAll enc P W' 0 sp true f.params.toList args.toList (s.fn H (ds ++ [])).args before) :
    s.post enc P f false true false false W args (.bool true) W' := by
  have hlt : ∀ p ∈ before, p.block < W.heap.size := fun p hp => hW.lt p hp
  have hold : ∀ p ∈ before, (fun b => decide (b < W.heap.size)) p.block = true := fun p hp => by simpa using hlt p hp
  have hvars : ∀ sp : Nat → Bool, DataW.TrodVars enc P W' sp s.vars (s.fn H (ds ++ [])).vars [] := fun sp => by rw [hv, hsv]; rfl
  refine ⟨ds, [], before, [], before, [], hW, ?_, hargs _ hold, hvars _, World.keptBut_mono (fun p hp => ⟨hp, by simpa using hp⟩) (hb.frame (· ∈ before)), fun h => by cases h⟩
  rw [hrt, hsr]
  exact trodAll_cons_mk (shut_bool htb _) trodAll_mk0
end
/-- An argument reads behind the call as it read ahead of it. -/
theorem again {H : Type} {enc : TypeId × Value → H} {W W' : World} {t : TypeId} {v : Value} {d : DataW H} {ps : List MemPlace} (hr : Tryd.prog.readableRec t = true) (hrow : t < Tryd.prog.types.size)
    (h : DataW.Trod enc Tryd.prog W 0 (fun _ => true) true t v d ps) (hb : Below W.heap.size W W') (hlt : ∀ x ∈ ps, x.block < W.heap.size) (sp : Nat → Bool) (hsp : ∀ x ∈ ps, sp x.block = true) :
    DataW.Trod enc Tryd.prog W' 0 sp true t v d ps :=
  WideElems.Trod_stays laidOut hr hrow h (fun x hx => hb.same (hlt x hx)) hsp
end Go.Proofs.YtfhdhldgflbpjaaDoor
end

section
/-
  From a walk of layer 5 to its card: what the laid table gives, and a number that comes in.
-/
namespace Go.Proofs.YtfhdhldgflbpjaaDoor
open Go.RowKit Go.WideShapes Go.ChangeShapes Go.ChangeAt Go.Deep
set_option maxRecDepth 100000
theorem i64_lo {a : Int} (g : (Lit.int .i64 a).wf = true) : -9223372036854775808 ≤ a := by
  simp only [Lit.wf, Bool.and_eq_true, decide_eq_true_eq] at g; exact g.1
theorem i64_hi {a : Int} (g : (Lit.int .i64 a).wf = true) : a ≤ 9223372036854775807 := by
  simp only [Lit.wf, Bool.and_eq_true, decide_eq_true_eq] at g; exact g.2
theorem i32_lo {a : Int} (g : (Lit.int .i32 a).wf = true) : -2147483648 ≤ a := by
  simp only [Lit.wf, Bool.and_eq_true, decide_eq_true_eq] at g; exact g.1
theorem i32_hi {a : Int} (g : (Lit.int .i32 a).wf = true) : a ≤ 2147483647 := by
  simp only [Lit.wf, Bool.and_eq_true, decide_eq_true_eq] at g; exact g.2
theorem t32Type : (Tryd.prog.globals[0]?).map (·.type) = some 127 := by kernel_rfl
/-- THE TABLE OF BITS, out of the row's condition. -/
theorem t32_laid {W : World} {xs : List (String × DataW Unit)} (h : laidMet Tryd.prog (("math/bits.deBruijn32tab", Lib.tabData .u8 tab32) :: xs) W) : T32 W :=
  Lib.tabIs_of_head g32 t32Type Tryd.underlying127 Tryd.underlying5 (by kernel_rfl) (by kernel_rfl) h
/-- Digits that came in as a part. -/
theorem open_dg0 {H : Type} {enc : TypeId × Value → H} {W : World} {spare : Nat → Bool} {held : Bool} {a0 : Option Addr} {len cap : Nat} {y : DataW H × List MemPlace}
    (hd : ∃ n, DataW.trod enc Tryd.prog W 0 spare held n 22 [.slice a0 len cap] = some y) : ∃ A c xs, Value.slice a0 len cap = .slice A xs.length c ∧ Dg W A c xs ∧ xs.length ≤ 9223372036854775807 := by
  obtain ⟨fuel, hf⟩ := hd
  obtain ⟨d, ps⟩ := y
  rcases open_ints Tryd.underlying22 Tryd.underlying56 cellsElem hf with ⟨hcs, _⟩ | ⟨a, len', cap', zs, hcs, _, hl, hm, hz, _, hcell, hwz⟩
  · simp at hcs
    obtain ⟨rfl, rfl, rfl⟩ := hcs
    exact ⟨none, 0, [], rfl, Dg.nil_ _ _, by simp⟩
  · simp at hcs
    obtain ⟨rfl, rfl, rfl⟩ := hcs
    have hlz : len ≤ zs.length := by rw [hz]; split <;> omega
    have hn : ∀ n ∈ zs, 0 ≤ n ∧ n ≤ 4294967295 := fun n hn => by simpa [Lit.wf, IntKind.min, IntKind.max, IntKind.signed, IntKind.bits] using hwz n hn
    have hxl : ((zs.take len).map Int.toNat).length = len := by simp; omega
    refine ⟨some a, cap, (zs.take len).map Int.toNat, by rw [hxl], ⟨by rw [hxl]; exact hl, ?_, fun h0 => ?_⟩, by rw [hxl]; unfold maxLen at hm; omega⟩
    · intro x hx
      obtain ⟨z, hz', rfl⟩ := List.mem_map.1 hx
      have := hn z (List.mem_of_mem_take hz')
      omega
    · rw [hxl] at h0
      obtain ⟨b, off, spot⟩ := a
      have hspot : spot = none := by simpa [Addr.add] using World.cell?_spot (hcell 0 (by omega))
      subst hspot
      refine ⟨b, off, rfl, below_cell_lt (v := .int .u32 (zs.getD 0 0)) (o := off) (by have := hcell 0 (by omega); simpa [Addr.add] using this), fun j hj => ?_⟩
      rw [hxl] at hj
      have hc := hcell j (by omega)
      rw [Addr.add_lit] at hc
      rw [hc]
      have hjz : j < zs.length := by omega
      have hb := hn zs[j] (List.getElem_mem hjz)
      simp [hj, List.getElem?_eq_getElem hjz]
      omega
/-- A number that came in. -/
theorem open_d {H : Type} {enc : TypeId × Value → H} {W : World} {base : Nat} {v : Value} {d : DataW H} {ps : List MemPlace}
    (hval : Value.okWide Tryd.prog W .any base 26 v) (hd : DataW.Trod enc Tryd.prog W 0 (fun _ => true) true 26 v d ps) :
    ∃ s A c xs e, v = .agg #[.bool s, .slice A xs.length c, .int .i64 e] ∧ Dg W A c xs ∧ xs.length ≤ 9223372036854775807 ∧ -9223372036854775808 ≤ e ∧ e ≤ 9223372036854775807 := by
  obtain ⟨cs, rfl, hsz⟩ := okWide_struct Tryd.underlying26 hval
  obtain ⟨v0, v1, v2, rfl⟩ := Go.Joins.array3 (hsz.trans (by kernel_rfl))
  obtain ⟨fuel, hf⟩ := hd
  obtain ⟨y0, y1, n, _, _, h0, h1⟩ := trod_struct2 Tryd.underlying26 hf
  have c0 : Tryd.prog.cellsOf 24 = 2 := by kernel_rfl
  have c1 : Tryd.prog.cellsOf 3 = 1 := by kernel_rfl
  have c2 : Tryd.prog.cellsOf 4 = 1 := by kernel_rfl
  have c3 : Tryd.prog.cellsOf 22 = 1 := by kernel_rfl
  simp only [Value.cells, c0, c1, List.drop_zero] at h0 h1
  obtain ⟨z0, z1, k, _, _, g0, g1⟩ := trod_struct2 Tryd.underlying24 h0
  simp only [c2, c3] at g0 g1
  obtain ⟨s, e0, _⟩ := DataW.trod_bool Tryd.underlying4 g0
  obtain rfl : v0 = .bool s := by simpa using e0
  obtain ⟨a0, len, cap, e1⟩ := Go.Joins.slice_form Tryd.underlying22 g1
  obtain rfl : v1 = .slice a0 len cap := by simpa using e1
  obtain ⟨e, e2, _, hw⟩ := DataW.trod_int Tryd.underlying3 h1
  obtain rfl : v2 = .int .i64 e := by simpa using e2
  obtain ⟨A, c, xs, ee, g, gl⟩ := open_dg0 ⟨k, g1⟩
  exact ⟨s, A, c, xs, e, by rw [ee], g, gl, i64_lo hw, i64_hi hw⟩
end Go.Proofs.YtfhdhldgflbpjaaDoor
end
