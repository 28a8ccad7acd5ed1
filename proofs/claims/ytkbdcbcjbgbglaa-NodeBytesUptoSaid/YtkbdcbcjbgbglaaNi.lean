/-
  node.Decode.
-/
import Derived.Test.YtkbdcbcjbgbglaaNh
import Derived.Test.YtkbdcbcjbgbglaaRegZ
namespace Go.Proofs.Ytkbdcbcjbgbglaa
open Go.RowKit
set_option linter.unusedVariables false
/-- What stands in a text, each key behind its length, and its kid. -/
def pents : List UInt8 → Option (List (List UInt8 × Int))
  | [] => some []
  | a :: r => if r.length < a.toNat + 2 then none else (pents (r.drop (a.toNat + 2))).map ((r.take a.toNat, ((rdB ((r.drop a.toNat).take 2) : Nat) : Int)) :: ·)
termination_by l => l.length
decreasing_by simp; omega
def decS : List UInt8 → Option (Bool × List (List UInt8) × List Int)
  | [] => none
  | a :: r => if a = 1 then (pents r).map (fun es => (true, es.map Prod.fst, es.map Prod.snd)) else if r.length < 2 then none else (pents (r.drop 2)).map (fun es => (false, es.map Prod.fst, ((rdB (r.take 2) : Nat) : Int) :: es.map Prod.snd))
def okB (S : List UInt8) (n : Bool × List (List UInt8) × List Int) : Bool := rightB n.1 n.2.1 n.2.2 && (encL n.1 n.2.1 n.2.2 == S)
/-- The node whose text it is. -/
def decA (S : List UInt8) : Option (Bool × List (List UInt8) × List Int) := (decS S).filter (okB S)
def DJ (v1 v2 : Value) : Prop := ∀ k, v1.ownBlock = some k → v2.ownBlock ≠ some k
theorem wp_append1 {α : Type} {g : α → Value} (hg : ∀ x, (g x).oneCell' = true) {w : World} {o : Oper} {a : Act} {K : Act → World → Prop} {Q : Exit → Act → World → Prop} {T e : TypeId} (hT : ET T e) (s x : Operand)
    (ho : o.op = .call { callee := .builtin .append, args := #[s, x], argTypes := #[T, T] }) (base : Nat) (v : Value) (n : Nat) (zs : List α) (y : α) (q : Nat) (T' : TypeId) (fr : Nat × Nat) (c : Nat)
    (hs : a.eval s = v) (hown : w.ownsRow base e 1 v n (zs.map g)) (hrow : w.heap[q]? = some (.cells #[g y] T' fr)) (hx : a.eval x = .slice (some ⟨q, 0, none⟩) 1 c) (hb : n + 1 ≤ 4000000) (hbase : base ≤ w.heap.size)
    (h : ∀ A' c' w', w'.ownsRow base e 1 (.slice A' (n + 1) c') (n + 1) ((zs ++ [y]).map g) → w.grownBy w' v.ownBlock → (∀ k, (Value.slice A' (n + 1) c').ownBlock = some k → v.ownBlock = some k ∨ w.heap.size ≤ k) → K (a.put o.dst (.slice A' (n + 1) c')) w') : o.wp Try.prog a w K Q := by
  obtain ⟨hu, i0, z, b, hi, hz0, hz1, hz2, hb16, hzc⟩ := hT
  have hbb : (n + 1) * b ≤ 140737488355328 := Nat.le_trans (Nat.mul_le_mul hb hb16) (by decide)
  refine wp_append_lies w s x T ho base e i0 z 1 b hu hi hz0 hz1 hz2 hzc (by decide) v n (zs.map g) hs hown ⟨q, 0, none⟩ 1 c [g y] hx rfl (fun j u hj => ?_) (fun u hu => by simp at hu; subst hu; exact hg y) (by decide) (by unfold maxLen; omega) hbb hbase w.heap.size rfl (fun g' cap w' h2 h3 h4 h5 => h (some ⟨g', 0, none⟩) cap w' (by rw [List.map_append]; exact h2) h3 (fun k hk => ?_))
  · obtain rfl : j = 0 := by have := (List.getElem?_eq_some_iff.1 hj).1; simpa using this
    rw [Addr.add_lit]
    exact row_c hrow (by simpa using hj)
  · have hkg : g' = k := by simpa [Value.ownBlock] using hk
    subst hkg
    rcases h4 with h1 | h1
    · exact .inl h1
    · exact .inr (by omega)
theorem rl_own' {α : Type} {g : α → Value} {w : World} {base : Nat} {e : TypeId} {A : Option Addr} {c n : Nat} {xs : List α} (h : w.ownsRow base e 1 (.slice A n c) n (xs.map g)) : Rl g w A c xs ∧ Fr base A := by
  obtain ⟨A', c', hv, h1, h2⟩ := rl_of_own h
  injection hv with e1 e2 e3
  subst e1 e3
  exact ⟨h1, h2⟩
theorem own_later_g {B gr : Nat} {e : TypeId} {k : Nat} {v : Value} {n : Nat} {xs : List Value} {w w' : World} (h : w.ownsRow B e k v n xs) (hb : w.grownBy w' (some gr)) (hB : gr < B) : w'.ownsRow B e k v n xs :=
  World.ownsRow.kept h hb (by
    cases hv : v.ownBlock with
    | none => exact .inl rfl
    | some k => exact .inr (fun e => by injection e with e; have := (h.lt k hv).1; omega))
theorem DJ.symm {a b : Value} (h : DJ a b) : DJ b a := fun k h1 h2 => h k h2 h1
theorem dj_new {v v' u : Value} {w : World} {base n k : Nat} {e : TypeId} {xs : List Value} (h : DJ v u) (hn : ∀ k, v'.ownBlock = some k → v.ownBlock = some k ∨ w.heap.size ≤ k) (hu : w.ownsRow base e k u n xs) : DJ v' u := fun j h1 h2 => by
  rcases hn j h1 with h3 | h3
  · exact h j h3 h2
  · have := (hu.lt j h2).2; omega
theorem own_other {w w' : World} {base n k : Nat} {e : TypeId} {u v : Value} {xs : List Value} (hu : w.ownsRow base e k u n xs) (hg : w.grownBy w' v.ownBlock) (hd : DJ v u) : w'.ownsRow base e k u n xs :=
  World.ownsRow.kept hu hg (by
    cases hv : u.ownBlock with
    | none => exact .inl rfl
    | some j => exact .inr (fun e => hd j e.symm hv))
theorem row_own {w w' : World} {base n e k : Nat} {T : TypeId} {v : Value} {xs : List Value} {o : Obj} (hv : w.ownsRow base T e v n xs) (hg : w.grownBy w' v.ownBlock) (hk : k < base) (h : w.heap[k]? = some o) : w'.heap[k]? = some o :=
  (hg.block k (heap_lt h) (fun e => by have := (hv.lt k e.symm).1; omega)).trans h
theorem below_own {B : Nat} {w w' : World} {base n e : Nat} {T : TypeId} {v : Value} {xs : List Value} (hv : w.ownsRow base T e v n xs) (hg : w.grownBy w' v.ownBlock) (hB : B ≤ base) (hs : base ≤ w.heap.size) : Below B w w' :=
  (Below.refl _ _).grown hg (by omega) (fun k hk => by have := (hv.lt k hk).1; omega)
theorem below_g {B gr : Nat} {w w' : World} (hg : w.grownBy w' (some gr)) (hB : B ≤ gr) (hs : B ≤ w.heap.size) : Below B w w' :=
  (Below.refl _ _).grown hg hs (fun k hk => by injection hk with hk; omega)
theorem tk1 (a : UInt8) (r : List UInt8) : tkL 1 (a :: r) = [a] ∧ tkR 1 (a :: r) = r ∧ ∀ b, tkM 1 (a :: r) b = b := by
  unfold tkL tkR tkM
  simp
theorem rdB1 (a : UInt8) : rdB [a] = a.toNat := by simp [rdB]
theorem tk_len (m : Nat) (L : List UInt8) : (tkL m L).length + (tkR m L).length ≤ L.length := by
  unfold tkL tkR
  split
  · simp only [List.length_take, List.length_drop]; omega
  · simp
theorem tk_no {m : Nat} {L : List UInt8} (h : ¬ m ≤ L.length) (b : Bool) : tkL m L = [] ∧ tkR m L = [] ∧ tkM m L b = true := by unfold tkL tkR tkM; simp [h]
theorem tk_yes {m : Nat} {L : List UInt8} (h : m ≤ L.length) (b : Bool) : tkL m L = L.take m ∧ tkR m L = L.drop m ∧ tkM m L b = b := by unfold tkL tkR tkM; simp [h]
/-- What holds between two rounds. -/
def Dst (S : List UInt8) (lf : Bool) (L : List UInt8) (mb : Bool) (ks : List (List UInt8)) (ds : List Int) : Prop :=
  sumN ks + L.length ≤ S.length ∧ ds.length ≤ ks.length + 1 ∧ (mb = false → decS S = (pents L).map (fun es => (lf, ks ++ es.map Prod.fst, ds ++ es.map Prod.snd))) ∧ (mb = true → decS S = none ∧ L = [])
theorem Dst.step {S : List UInt8} {lf : Bool} {L : List UInt8} {mb : Bool} {ks : List (List UInt8)} {ds : List Int} (h : Dst S lf L mb ks ds) (hL : L ≠ []) {a : Nat} (ha : rdB (tkL 1 L) = a) {m1 m2 : Bool} (h1 : tkM 1 L mb = m1) {L1 L2 : List UInt8} (e1 : tkR 1 L = L1) (h2 : tkM a L1 m1 = m2) (e2 : tkR a L1 = L2) :
    Dst S lf (tkR 2 L2) (tkM 2 L2 m2) (ks ++ [tkL a L1]) (ds ++ [((rdB (tkL 2 L2) : Nat) : Int)]) := by
  obtain ⟨s1, s2, s3, s4⟩ := h
  cases mb with
  | true => exact absurd (s4 rfl).2 hL
  | false =>
    cases L with
    | nil => exact absurd rfl hL
    | cons b r =>
      obtain ⟨q1, q2, q3⟩ := tk1 b r
      rw [q1, rdB1] at ha
      subst ha
      rw [q3] at h1
      rw [q2] at e1
      subst h1 e1
      have s3 := s3 rfl
      have hp : pents (b :: r) = if r.length < b.toNat + 2 then none else (pents (r.drop (b.toNat + 2))).map ((r.take b.toNat, ((rdB ((r.drop b.toNat).take 2) : Nat) : Int)) :: ·) := by rw [pents]
      have k1 := tk_len b.toNat r
      have k2 := tk_len 2 L2
      rw [e2] at k1
      refine ⟨?_, by simp; omega, fun hm => ?_, fun hm => ?_⟩
      · rw [sumN_app]; simp only [sumN, List.map_cons, List.map_nil, List.sum_cons, List.sum_nil, List.length_cons] at s1 ⊢; omega
      · by_cases c1 : b.toNat ≤ r.length
        · obtain ⟨t1, t2, t3⟩ := tk_yes c1 false
          rw [t2] at e2
          rw [t3] at h2
          subst e2 h2
          by_cases c2 : 2 ≤ (r.drop b.toNat).length
          · obtain ⟨u1, u2, u3⟩ := tk_yes c2 false
            rw [List.length_drop] at c2
            rw [s3, hp, if_neg (by omega), t1, u1, u2, List.drop_drop]
            cases pents (r.drop (b.toNat + 2)) <;> simp
          · rw [(tk_no c2 false).2.2] at hm; cases hm
        · obtain ⟨t1, t2, t3⟩ := tk_no c1 false
          rw [t3] at h2
          subst h2
          unfold tkM at hm
          split at hm <;> cases hm
      · by_cases c1 : b.toNat ≤ r.length
        · obtain ⟨t1, t2, t3⟩ := tk_yes c1 false
          rw [t2] at e2
          rw [t3] at h2
          subst e2 h2
          by_cases c2 : 2 ≤ (r.drop b.toNat).length
          · rw [(tk_yes c2 false).2.2] at hm; cases hm
          · rw [List.length_drop] at c2
            exact ⟨by rw [s3, hp, if_pos (by omega)]; rfl, (tk_no (by rw [List.length_drop]; exact c2) false).2.1⟩
        · obtain ⟨t1, t2, t3⟩ := tk_no c1 false
          rw [t2] at e2
          subst e2
          exact ⟨by rw [s3, hp, if_pos (by omega)]; rfl, (tk_no (by simp) false).2.1⟩
theorem Dst.leaf {S : List UInt8} (h : rdB (tkL 1 S) = 1) : Dst S true (tkR 1 S) (tkM 1 S false) [] [] := by
  cases S with
  | nil => simp [tkL, rdB] at h
  | cons a r =>
    obtain ⟨q1, q2, q3⟩ := tk1 a r
    rw [q1, rdB1] at h
    have ha : a = 1 := UInt8.toNat_inj.1 (by rw [h]; rfl)
    rw [q2, q3]
    refine ⟨by simp [sumN], by simp, fun _ => ?_, fun h => by cases h⟩
    simp [decS, ha]
theorem Dst.inner {S : List UInt8} (h : rdB (tkL 1 S) ≠ 1) {m1 : Bool} {L1 : List UInt8} (h1 : tkM 1 S false = m1) (e1 : tkR 1 S = L1) : Dst S false (tkR 2 L1) (tkM 2 L1 m1) [] [((rdB (tkL 2 L1) : Nat) : Int)] := by
  cases S with
  | nil =>
    obtain ⟨q1, q2, q3⟩ := tk_no (m := 1) (L := []) (by simp) false
    rw [q2] at e1
    rw [q3] at h1
    subst e1 h1
    refine ⟨by simp [sumN, tkR], by simp, fun h => by simp [tkM] at h, fun _ => ⟨by simp [decS], by simp [tkR]⟩⟩
  | cons a r =>
    obtain ⟨q1, q2, q3⟩ := tk1 a r
    rw [q1, rdB1] at h
    have ha : a ≠ 1 := fun e => h (by rw [e]; rfl)
    rw [q2] at e1
    rw [q3] at h1
    subst e1 h1
    have k2 := tk_len 2 r
    have hd : decS (a :: r) = if r.length < 2 then none else (pents (r.drop 2)).map (fun es => (false, es.map Prod.fst, ((rdB (r.take 2) : Nat) : Int) :: es.map Prod.snd)) := by simp only [decS, if_neg ha]
    refine ⟨by simp [sumN]; omega, by simp, fun hm => ?_, fun hm => ?_⟩
    · by_cases c2 : 2 ≤ r.length
      · obtain ⟨u1, u2, u3⟩ := tk_yes c2 false
        rw [hd, if_neg (by omega), u1, u2]
        rfl
      · rw [(tk_no c2 false).2.2] at hm; cases hm
    · by_cases c2 : 2 ≤ r.length
      · rw [(tk_yes c2 false).2.2] at hm; cases hm
      · exact ⟨by rw [hd, if_pos (by omega)], (tk_no c2 false).2.1⟩
theorem row_grow {w w' : World} {g : Nat} {o : Obj} {r : Option Nat} (h : w.heap[g]? = some o) (hg : w.grownBy w' r) (hne : some g ≠ r) : w'.heap[g]? = some o := (hg.block g (heap_lt h) hne).trans h
set_option maxHeartbeats 4000000 in
set_option maxRecDepth 100000 in
theorem decode_any (S : List UInt8) (w : World) (hS : S.length ≤ 1048576) :
    Calls Try.prog 15 #[sv S] w fun e w' => (∀ lf ks ds, decA S = some (lf, ks, ds) → ∃ A c B d, e = .returned (.tuple #[.agg #[.bool lf, .slice A ks.length c, .slice B ds.length d], .int .i64 0]) ∧ Rl sv w' A c ks ∧ Rl nv w' B d ds) ∧ (decA S = none → e = .returned (.tuple #[.agg #[.bool false, .slice none 0 0, .slice none 0 0], .int .i64 2])) ∧ Below w.heap.size w w' := by
  have HS := Lib.hid hS
  obtain ⟨W, hW⟩ : ∃ W : World, W = (w.alloc (.cells #[.bool false, .slice none 0 0, .slice none 0 0] 25)).alloc (.cells #[sv S, .bool false] 72) := ⟨_, rfl⟩
  have r1 : W.heap[w.heap.size + 1]? = some (.cells #[sv S, .bool false] 72 (0, 0)) := by rw [hW]; have := heap_alloc_new (w.alloc (.cells #[.bool false, .slice none 0 0, .slice none 0 0] 25)) (.cells #[sv S, .bool false] 72); simpa using this
  have r0 : W.heap[w.heap.size]? = some (.cells #[.bool false, .slice none 0 0, .slice none 0 0] 25 (0, 0)) := by rw [hW]; exact row_on (heap_alloc_new w _) (bda _ _)
  have B0 := Lib.hid (show Below w.heap.size w W by rw [hW]; exact bon (bda _ _) (bda _ _))
  have HW := Lib.hid hW
  have NA := Lib.hid (number_any (w.heap.size + 1) 1 S false W r1 (by omega) (by omega))
  have R0 := Lib.hid r0
  obtain ⟨lf, hlf⟩ : ∃ b, (((rdB (tkL 1 S) : Nat) : Int) == 1) = b := ⟨_, rfl⟩
  obtain ⟨a0, ha0⟩ : ∃ a, rdB (tkL 1 S) = a := ⟨_, rfl⟩
  rw [ha0] at NA hlf
  have HA0 := Lib.hid ha0
  have HLF := Lib.hid hlf
  clear hW r0 r1 ha0 hS
  unfold sv at HW ⊢
  go_enter Try.func15, Try.ntmps15
  go_wp2_with fail
  rw [← HW.out]
  refine NA.out.mono ?_
  rintro e w2 ⟨rfl, hr, hg⟩
  have R2 := Lib.hid hr
  have Q2 := Lib.hid (row_grow R0.out hg (by simp))
  have K2 := Lib.hid (B0.out.trans (below_g hg (by omega) B0.out.size))
  clear hr hg
  cases lf
  · go_wp2_with fail
    obtain ⟨V, hV⟩ : ∃ V : World, V = w2.alloc (.cells #[.bool false, .slice none 0 0, .slice none 0 0] 25) := ⟨_, rfl⟩
    have N3 := Lib.hid (show V.heap[w2.heap.size]? = some (.cells #[.bool false, .slice none 0 0, .slice none 0 0] 25 (0, 0)) by rw [hV]; exact heap_alloc_new _ _)
    have R3 := Lib.hid (show V.heap[w.heap.size + 1]? = some _ by rw [hV]; exact row_on R2.out (bda _ _))
    have Q3 := Lib.hid (show V.heap[w.heap.size]? = some _ by rw [hV]; exact row_on Q2.out (bda _ _))
    have K3 := Lib.hid (show Below w.heap.size w V by rw [hV]; exact K2.out.alloc K2.out.size _)
    have SV := Lib.hid (show V.heap.size = w2.heap.size + 1 by rw [hV]; simp)
    rw [← hV]
    have GB1 := Lib.hid (show w.heap.size + 1 < w2.heap.size from heap_lt R2.out)
    obtain ⟨gn, hgn⟩ : ∃ g, w2.heap.size = g := ⟨_, rfl⟩
    obtain ⟨gr, hgr⟩ : ∃ g, w.heap.size + 1 = g := ⟨_, rfl⟩
    obtain ⟨base, hbase⟩ : ∃ b, gn + 1 = b := ⟨_, rfl⟩
    rw [hgn] at N3 SV GB1
    rw [hgr] at R3 GB1
    rw [hgn, hgr]
    rw [hbase] at SV
    have GB2 := Lib.hid (show gr < gn ∧ w.heap.size < gr from ⟨GB1.out, by omega⟩)
    have GB := Lib.hid (show gr < base ∧ (w.heap.size ≤ gr ∧ w.heap.size ≤ base) ∧ some gn ≠ some gr ∧ some w.heap.size ≠ some gr ∧ gn < base ∧ w.heap.size < base by have := GB1.out; refine ⟨by omega, ⟨by omega, by omega⟩, by simp; omega, by simp; omega, by omega, by omega⟩)
    have BZ := Lib.hid (show base ≤ V.heap.size by have := SV.out; omega)
    clear hV hgn hgr hbase HW NA R0 B0 R2 Q2 K2 GB1 SV
    obtain ⟨L1, hL1⟩ : ∃ L, tkR 1 S = L := ⟨_, rfl⟩
    obtain ⟨m1, hm1⟩ : ∃ m, tkM 1 S false = m := ⟨_, rfl⟩
    rw [hL1, hm1] at R3
    have HL1 := Lib.hid hL1
    have HM1 := Lib.hid hm1
    clear hL1 hm1 hlf
    have ha1 : a0 ≠ 1 := fun e => by have := HLF.out; rw [e] at this; cases this
    obtain ⟨q, hq⟩ : ∃ k, rdB (tkL 2 L1) = k := ⟨_, rfl⟩
    obtain ⟨L2, hL2⟩ : ∃ x, tkR 2 L1 = x := ⟨_, rfl⟩
    obtain ⟨m2, hm2⟩ : ∃ x, tkM 2 L1 m1 = x := ⟨_, rfl⟩
    have ST := Lib.hid (Dst.inner (by rw [HA0.out]; exact ha1) HM1.out HL1.out)
    have lL1 : L1.length ≤ 1048576 := by have := tk_len 1 S; rw [HL1.out] at this; have := HS.out; omega
    have C3 := Lib.hid (fun V (hV : V.heap[gr]? = some (.cells #[sv L1, .bool m1] 72 (0, 0))) => number_any gr 2 L1 m1 V hV (by omega) (by omega))
    rw [hq, hL2, hm2] at C3 ST
    clear ha1 hq hL2 hm2 lL1
    have n0 := row_c N3.out (i := 0) rfl
    have FK := Lib.hid (fun x (K : V.grownBy x (some gr)) => row_c (row_grow N3.out K GB.out.2.2.1) (i := 2) rfl)
    have RZ := Lib.hid (show V.drew.heap[gr]? = some (.cells #[sv L1, .bool m1] 72 (0, 0)) from R3.out)
    have OW := Lib.hid (World.ownsRow_nil V base 3 1)
    have PW := Lib.hid (World.ownsRow_nil V base 9 1)
    have DW := Lib.hid (show DJ (.slice none 0 0) (.slice none 0 0) from fun k h => by cases h)
    go_upto_region 4 with (fail)
    clear n0
    refine wp_operandsZ (W := V) rfl 4 [16, 17, 18, 19] (fun i u x => match i with | 0 => u = .pointer (some ⟨gn, 2, none⟩) | 1 => u = .slice none 0 0 | 2 => u = .int .i64 (q : Int) | 3 => ∃ g, u = .slice (some ⟨g, 0, none⟩) 1 1 ∧ x.heap[g]? = some (.cells #[.int .i64 (q : Int)] 3 (0, 0)) ∧ g ≠ gr | _ => True) (fun a b => a.grownBy b (some gr)) (fun l x => x.heap[gr]? = some (.cells (if l 2 then #[sv L2, .bool m2] else #[sv L1, .bool m1]) 72 (0, 0)))
      (by decide) rfl (by kernel_rfl) (by kernel_rfl) (by decide) (by kernel_rfl) (fun _ _ _ => grow_trans) ?_ (grow_below (bd0 V)) (by simpa using RZ.out) ?_ ?_
    · intro i u x x' hi hR hb'
      have hi' : i = 0 ∨ i = 1 ∨ i = 2 ∨ i = 3 := by omega
      rcases hi' with rfl | rfl | rfl | rfl
      · exact hR
      · exact hR
      · exact hR
      · obtain ⟨g, e, hg, hn⟩ := hR; exact ⟨g, e, (hb'.block g (heap_lt hg) (fun h => hn (by simpa using h))).trans hg, hn⟩
    · intro i av x l K hi hF hb' hl hw hZ hK
      have hi' : i = 0 ∨ i = 1 ∨ i = 2 ∨ i = 3 := by omega
      rcases hi' with rfl | rfl | rfl | rfl
      · simp only [wpOp, List.getElem?_toArray, List.getElem?_cons_zero, Region.wanted, if_true]
        refine Or.inl ?_
        have e0 : av.tmps.getD 5 undef = .pointer (some ⟨gn, 0, none⟩) := hF.2.2 5 (by decide)
        have e0e : av.eval (.tmp 5) = .pointer (some ⟨gn, 0, none⟩) := e0
        have e0g : av.tmps[5]?.getD undef = .pointer (some ⟨gn, 0, none⟩) := by have := e0; simp only [Array.getD_eq_getD_getElem?] at this; exact this
        clear hw hF
        simp only [Oper.wp, execOp]
        try simp only [e0e]
        go_simp
        exact hK _ x (by first | rfl | (simp only [Nat.add_zero]; done) | (congr 1; omega)) (World.grownBy.refl _ _) (by simpa using hZ)
      · simp only [wpOp, List.getElem?_toArray, List.getElem?_cons_succ, List.getElem?_cons_zero, Region.wanted, if_true]
        refine Or.inl ?_
        have e0 : av.tmps.getD 16 undef = .pointer (some ⟨gn, 2, none⟩) := (hw 0 (by kernel_rfl)).2
        have e0e : av.eval (.tmp 16) = .pointer (some ⟨gn, 2, none⟩) := e0
        have e0g : av.tmps[16]?.getD undef = .pointer (some ⟨gn, 2, none⟩) := by have := e0; simp only [Array.getD_eq_getD_getElem?] at this; exact this
        have fq := FK.out x hb'
        clear hw hF
        simp only [Oper.wp, execOp]
        try simp only [e0e]
        go_simp
        exact hK _ x (by first | rfl | (simp only [Nat.add_zero]; done) | (congr 1; omega)) (World.grownBy.refl _ _) (by simpa using hZ)
      · simp only [wpOp, List.getElem?_toArray, List.getElem?_cons_succ, List.getElem?_cons_zero, Region.wanted, if_true]
        refine Or.inl ?_
        have e0 : av.tmps.getD 4 undef = .pointer (some ⟨gr, 0, none⟩) := hF.2.2 4 (by decide)
        have e0e : av.eval (.tmp 4) = .pointer (some ⟨gr, 0, none⟩) := e0
        have e0g : av.tmps[4]?.getD undef = .pointer (some ⟨gr, 0, none⟩) := by have := e0; simp only [Array.getD_eq_getD_getElem?] at this; exact this
        have hrow : x.heap[gr]? = some (.cells #[sv L1, .bool m1] 72 (0, 0)) := by have := hZ; simpa only [hl, if_false, Bool.false_eq_true] using this
        clear hw hF
        simp only [Oper.wp, execOp]
        try simp only [e0e]
        go_simp
        refine (C3.out x hrow).mono ?_
        rintro e x' ⟨rfl, hr, hg⟩
        exact hK _ x' rfl hg (by simpa using hr)
      · simp only [wpOp, List.getElem?_toArray, List.getElem?_cons_succ, List.getElem?_cons_zero, Region.wanted, if_true]
        refine Or.inl ?_
        have e0 : av.tmps.getD 18 undef = .int .i64 (q : Int) := (hw 2 (by kernel_rfl)).2
        have e0e : av.eval (.tmp 18) = .int .i64 (q : Int) := e0
        have e0g : av.tmps[18]?.getD undef = .int .i64 (q : Int) := by have := e0; simp only [Array.getD_eq_getD_getElem?] at this; exact this
        clear hw hF
        simp only [Oper.wp, execOp]
        try simp only [e0e]
        go_simp
        refine hK _ _ ⟨_, rfl, heap_alloc_new _ _, ?_⟩ (grow_below (bda _ _)) ?_
        · have := heap_lt hZ; omega
        · have hz := row_on hZ (bda x (.cells #[.int .i64 (q : Int)] 3)); exact by simpa using hz
    · intro av x l hF hb' hR hl hZ
      have e0 : av.tmps.getD 16 undef = .pointer (some ⟨gn, 2, none⟩) := hR 0 (by decide)
      have e1 : av.tmps.getD 17 undef = .slice none 0 0 := hR 1 (by decide)
      have e2 : av.tmps.getD 18 undef = .int .i64 (q : Int) := hR 2 (by decide)
      obtain ⟨gg3, e3, hg3, hn3⟩ := hR 3 (by decide)
      replace e3 : av.tmps.getD 19 undef = .slice (some ⟨gg3, 0, none⟩) 1 1 := e3
      rw [hF.fold (by kernel_rfl)]
      simp only [List.foldl_cons, List.foldl_nil, e0, e1, e2, e3]
      simp only [Act.put, List.setIfInBounds_toArray, List.set_cons_zero, List.set_cons_succ]
      change wpOps _ _ _ [4, 5, 6] _ _
      simp only [wpOps_cons]
      clear e0 e1 e2 e3 hR hF
      have k2 := hl 2 (by decide)
      have RX := Lib.hid (show x.heap[gr]? = some (.cells #[sv L2, .bool m2] 72 (0, 0)) by have := hZ; simpa only [k2, if_true] using this)
      have OX := Lib.hid (own_later_g OW.out hb' GB.out.1)
      have PX := Lib.hid (own_later_g PW.out hb' GB.out.1)
      have NX := Lib.hid (row_grow N3.out hb' GB.out.2.2.1)
      have QX := Lib.hid (row_grow Q3.out hb' GB.out.2.2.2.1)
      have HG := Lib.hid hg3
      have KX := Lib.hid (below_g hb' GB.out.2.1.1 (Nat.le_trans GB.out.2.1.2 BZ.out))
      have bzx := Lib.hid (Nat.le_trans BZ.out hb'.size)
      clear hZ hl hb' hg3 hn3 k2
      simp only [wpOp, List.getElem?_toArray, List.getElem?_cons_succ, List.getElem?_cons_zero, Region.wanted, if_true]
      refine Or.inl ?_
      refine wp_append1 nv_one et_i (.tmp 17) (.tmp 19) rfl base _ _ ([] : List Int) (q : Int) gg3 _ _ 1 rfl OX.out HG.out rfl (by have := GB.out.1; omega) bzx.out ?_
      intro Av cv x9 ho9 hg9 hn9
      have O9 := Lib.hid ho9
      have P9 := Lib.hid (own_other PX.out hg9 DW.out)
      have N9 := Lib.hid (row_own OX.out hg9 GB.out.2.2.2.2.1 NX.out)
      have Q9 := Lib.hid (row_own OX.out hg9 GB.out.2.2.2.2.2 QX.out)
      have R9 := Lib.hid (row_own OX.out hg9 GB.out.1 RX.out)
      have K9 := Lib.hid (below_own OX.out hg9 GB.out.2.1.2 bzx.out)
      have Jv := Lib.hid (dj_new DW.out hn9 PX.out)
      have Z9 := Lib.hid (Nat.le_trans bzx.out hg9.size)
      clear ho9 hg9 hn9
      have f9 := row_c N9.out (i := 2) rfl
      have q9 := frozen_of_row _ _ 2 _ _ N9.out
      go_simp
      try rw [wpOps_cons]
      simp only [wpOp, List.getElem?_toArray, List.getElem?_cons_succ, List.getElem?_cons_zero, Region.wanted, if_true]
      refine Or.inl ?_
      simp only [Oper.wp, execOp]
      go_simp
      try rw [wpOps_cons]
      simp only [wpOp, List.getElem?_toArray, List.getElem?_cons_succ, List.getElem?_cons_zero, Region.wanted, if_true]
      refine Or.inl ?_
      simp only [Oper.wp, execOp]
      go_simp
      try simp only [wpOps]
      obtain ⟨Uv, hU⟩ : ∃ U : World, U = x9.setCell ⟨gn, 2, none⟩ (.slice Av (0 + 1) cv) := ⟨_, rfl⟩
      have Ov := Lib.hid (show Uv.ownsRow base _ 1 _ _ _ by rw [hU]; exact own_set O9.out GB.out.2.2.2.2.1 _ _)
      have Pv := Lib.hid (show Uv.ownsRow base _ 1 _ _ _ by rw [hU]; exact own_set P9.out GB.out.2.2.2.2.1 _ _)
      have Nv := Lib.hid (show Uv.heap[gn]? = some (.cells #[.bool false, .slice none 0 0, .slice Av (0 + 1) cv] 25 (0, 0)) by rw [hU]; have := row_set (i := 2) N9.out (.slice Av (0 + 1) cv); simpa using this)
      have Qv := Lib.hid (by have := row_far (g := gn) (i := 2) Q9.out (by have := GB2.out; omega) (.slice Av (0 + 1) cv); rw [← hU] at this; exact this)
      have Rv := Lib.hid (by have := row_far (g := gn) (i := 2) R9.out (by have := GB2.out; omega) (.slice Av (0 + 1) cv); rw [← hU] at this; exact this)
      have Kv := Lib.hid (show Below w.heap.size w Uv by rw [hU]; exact ((K3.out.trans KX.out).trans K9.out).setCell (by have := GB2.out; simp; omega) _)
      have Zv := Lib.hid (show base ≤ Uv.heap.size by rw [hU]; simpa using Z9.out)
      rw [← hU]
      clear hU O9 P9 N9 Q9 R9 K9 Z9 KX bzx OX PX NX QX RX HG f9 q9
      have ST2 := ST
      go_wp2_with fail
      go_loopw [] (fun wr => ∃ (L : List UInt8) (mb : Bool) (A : Option Addr) (c : Nat) (ks : List (List UInt8)) (B : Option Addr) (d : Nat) (ds : List Int), Hid (wr.heap[gr]? = some (.cells #[sv L, .bool mb] 72 (0, 0))) ∧ Hid (wr.heap[gn]? = some (.cells #[.bool false, .slice A ks.length c, .slice B ds.length d] 25 (0, 0))) ∧ Hid (wr.heap[w.heap.size]? = some (.cells #[.bool false, .slice none 0 0, .slice none 0 0] 25 (0, 0))) ∧ Hid (wr.ownsRow base 9 1 (.slice A ks.length c) ks.length (ks.map sv)) ∧ Hid (wr.ownsRow base 3 1 (.slice B ds.length d) ds.length (ds.map nv)) ∧ Hid (DJ (.slice A ks.length c) (.slice B ds.length d)) ∧ Hid (Below w.heap.size w wr) ∧ Hid (base ≤ wr.heap.size) ∧ Hid (Dst S false L mb ks ds)) (fun wr => match wr.cell? ⟨gr, 0, none⟩ with | some (.string b) => b.size | _ => 0)
      case atStart => exact ⟨L2, m2, none, 0, [], Av, cv, [(q : Int)], Rv, by simpa using Nv, Qv, by simpa using Pv, by simpa using Ov, Lib.hid (fun k h => by cases h), Kv, Zv, ST2⟩
      case round =>
        obtain ⟨L, mb, A, c, ks, B, d, ds, r1, r2, r3, o1, o2, dj, kb, BZ, sp⟩ := hrel
        have f1 := row_c r1.out (i := 0) rfl
        unfold sv at f1
        have hsl := str_size L
        by_cases hL : L = []
        · have HL := Lib.hid hL
          have e1 : decide ((0 : Int) < (L.length : Int)) = false := decide_eq_false (by rw [hL]; simp)
          have e2 : decide (0 < L.length) = false := decide_eq_false (by rw [hL]; simp)
          clear hL
          have f2 := row_c r1.out (i := 1) rfl
          cases mb
          · have DE := Lib.hid (show decS S = some (false, ks, ds) by rw [sp.out.2.2.1 rfl, HL.out]; simp [pents])
            have lk : ks.length ≤ 4000000 := by have := sp.out.1; have := sumN_ge ks; have := HS.out; omega
            have ld : ds.length ≤ 4000001 := by have := sp.out.2.1; omega
            have lz : sizeN ks ds < 4611686018427387904 := by have := sp.out.1; have := HS.out; unfold sizeN; omega
            have V1 := Lib.hid (rl_own' o1.out).1
            have V2 := Lib.hid (rl_own' o2.out).1
            have n0 := row_c r2.out (i := 0) rfl
            have n1 := row_c r2.out (i := 1) rfl
            have n2 := row_c r2.out (i := 2) rfl
            cases hrb : rightB false ks ds
            · have DA := Lib.hid (show decA S = none by unfold decA; rw [DE.out]; simp [okB, hrb])
              have EN := Lib.hid (encode_no false A c ks B d ds wr V1.out V2.out lk ld lz hrb)
              clear hrb
              go_wp2_with fail
              refine EN.out.mono ?_
              rintro e w5 ⟨rfl, hb⟩
              have Q5 := Lib.hid (row_on r3.out hb)
              have K5 := Lib.hid (kb.out.trans (hb.mono kb.out.size))
              clear hb f1 f2 n0 n1 n2
              have p0 := row_c Q5.out (i := 0) rfl
              have p1 := row_c Q5.out (i := 1) rfl
              have p2 := row_c Q5.out (i := 2) rfl
              have y0 := frozen_of_row _ _ 0 _ _ Q5.out
              have y1 := frozen_of_row _ _ 1 _ _ Q5.out
              have y2 := frozen_of_row _ _ 2 _ _ Q5.out
              go_wp2
              refine bodyPost_ret (v := .tuple #[.agg #[.bool false, .slice none 0 0, .slice none 0 0], .int .i64 2]) (by simp [results, Try.results15, go_sem, p0, p1, p2]) rfl ⟨fun lf ks ds h => (by rw [DA.out] at h; cases h), fun _ => rfl, ?_⟩
              exact ((K5.out.setCell (Nat.le_refl _) _).setCell (Nat.le_refl _) _).setCell (Nat.le_refl _) _
            · have EY := Lib.hid (encode_yes false A c ks B d ds wr V1.out V2.out hrb)
              by_cases hen : encL false ks ds = S
              · have DA := Lib.hid (show decA S = some (false, ks, ds) by unfold decA; rw [DE.out]; simp [okB, hrb, hen])
                rw [hen] at EY
                have e9 : (S == S) = true := beq_self_eq_true S
                clear hrb hen
                go_wp2_with fail
                refine EY.out.mono ?_
                rintro e w5 ⟨rfl, hb⟩
                have Q5 := Lib.hid (row_on r3.out hb)
                have K5 := Lib.hid (kb.out.trans (hb.mono kb.out.size))
                have r5 := Lib.hid (row_on r2.out hb)
                have V5 := Lib.hid (V1.out.below hb)
                have V6 := Lib.hid (V2.out.below hb)
                clear hb f1 f2 n0 n1 n2
                have p0 := row_c Q5.out (i := 0) rfl
                have p1 := row_c Q5.out (i := 1) rfl
                have p2 := row_c Q5.out (i := 2) rfl
                have y0 := frozen_of_row _ _ 0 _ _ Q5.out
                have y1 := frozen_of_row _ _ 1 _ _ Q5.out
                have y2 := frozen_of_row _ _ 2 _ _ Q5.out
                have n0 := row_c r5.out (i := 0) rfl
                have n1 := row_c r5.out (i := 1) rfl
                have n2 := row_c r5.out (i := 2) rfl
                go_wp2
                refine bodyPost_ret (v := .tuple #[.agg #[.bool false, .slice A ks.length c, .slice B ds.length d], .int .i64 0]) (by simp [results, Try.results15, go_sem, p0, p1, p2]) rfl ⟨fun lf_ ks_ ds_ h => ?_, fun h => (by rw [DA.out] at h; cases h), ?_⟩
                · rw [DA.out] at h
                  injection h with h
                  injection h with h1 h2
                  injection h2 with h2 h3
                  subst h1 h2 h3
                  exact ⟨A, c, B, d, rfl, ((V5.out.set (rl_own' o1.out).2 GB.out.2.2.2.2.2 _ _).set (rl_own' o1.out).2 GB.out.2.2.2.2.2 _ _).set (rl_own' o1.out).2 GB.out.2.2.2.2.2 _ _, ((V6.out.set (rl_own' o2.out).2 GB.out.2.2.2.2.2 _ _).set (rl_own' o2.out).2 GB.out.2.2.2.2.2 _ _).set (rl_own' o2.out).2 GB.out.2.2.2.2.2 _ _⟩
                · exact ((K5.out.setCell (Nat.le_refl _) _).setCell (Nat.le_refl _) _).setCell (Nat.le_refl _) _
              · have DA := Lib.hid (show decA S = none by unfold decA; rw [DE.out]; simp [okB, hrb, hen])
                have e9 : (encL false ks ds == S) = false := beq_eq_false_iff_ne.2 hen
                clear hrb hen
                go_wp2_with fail
                refine EY.out.mono ?_
                rintro e w5 ⟨rfl, hb⟩
                have Q5 := Lib.hid (row_on r3.out hb)
                have K5 := Lib.hid (kb.out.trans (hb.mono kb.out.size))
                have r5 := Lib.hid (row_on r2.out hb)
                have V5 := Lib.hid (V1.out.below hb)
                have V6 := Lib.hid (V2.out.below hb)
                clear hb f1 f2 n0 n1 n2
                have p0 := row_c Q5.out (i := 0) rfl
                have p1 := row_c Q5.out (i := 1) rfl
                have p2 := row_c Q5.out (i := 2) rfl
                have y0 := frozen_of_row _ _ 0 _ _ Q5.out
                have y1 := frozen_of_row _ _ 1 _ _ Q5.out
                have y2 := frozen_of_row _ _ 2 _ _ Q5.out
                go_wp2
                refine bodyPost_ret (v := .tuple #[.agg #[.bool false, .slice none 0 0, .slice none 0 0], .int .i64 2]) (by simp [results, Try.results15, go_sem, p0, p1, p2]) rfl ⟨fun lf ks ds h => (by rw [DA.out] at h; cases h), fun _ => rfl, ?_⟩
                exact ((K5.out.setCell (Nat.le_refl _) _).setCell (Nat.le_refl _) _).setCell (Nat.le_refl _) _
          · have DA := Lib.hid (show decA S = none by unfold decA; rw [(sp.out.2.2.2 rfl).1]; rfl)
            have Q5 := r3
            have K5 := kb
            have p0 := row_c Q5.out (i := 0) rfl
            have p1 := row_c Q5.out (i := 1) rfl
            have p2 := row_c Q5.out (i := 2) rfl
            have y0 := frozen_of_row _ _ 0 _ _ Q5.out
            have y1 := frozen_of_row _ _ 1 _ _ Q5.out
            have y2 := frozen_of_row _ _ 2 _ _ Q5.out
            go_wp2
            refine bodyPost_ret (v := .tuple #[.agg #[.bool false, .slice none 0 0, .slice none 0 0], .int .i64 2]) (by simp [results, Try.results15, go_sem, p0, p1, p2]) rfl ⟨fun lf ks ds h => (by rw [DA.out] at h; cases h), fun _ => rfl, ?_⟩
            exact ((K5.out.setCell (Nat.le_refl _) _).setCell (Nat.le_refl _) _).setCell (Nat.le_refl _) _
        · have HL := Lib.hid hL
          have e2 : decide (0 < L.length) = true := decide_eq_true (by cases L with | nil => exact absurd rfl hL | cons a r => simp)
          have e1 : decide ((0 : Int) < (L.length : Int)) = true := decide_eq_true (by have := of_decide_eq_true e2; omega)
          clear hL
          obtain ⟨a, ha⟩ : ∃ a, rdB (tkL 1 L) = a := ⟨_, rfl⟩
          obtain ⟨L1, hL1⟩ : ∃ x, tkR 1 L = x := ⟨_, rfl⟩
          obtain ⟨m1, hm1⟩ : ∃ x, tkM 1 L mb = x := ⟨_, rfl⟩
          obtain ⟨L2, hL2⟩ : ∃ x, tkR a L1 = x := ⟨_, rfl⟩
          obtain ⟨m2, hm2⟩ : ∃ x, tkM a L1 m1 = x := ⟨_, rfl⟩
          have ST := Lib.hid (sp.out.step HL.out ha hm1 hL1 hm2 hL2)
          have lL : L.length ≤ 1048576 := by have := sp.out.1; have := HS.out; omega
          have lL1 : L1.length ≤ 1048576 := by have := tk_len 1 L; rw [hL1] at this; omega
          have lL2 : L2.length ≤ 1048576 := by have := tk_len a L1; rw [hL2] at this; omega
          have la : a ≤ 255 := by have h1 := rdB_lt (tkL 1 L); have h2 := tkL_len 1 L; have h3 : 256 ^ (tkL 1 L).length ≤ 256 ^ 1 := Nat.pow_le_pow_right (by omega) h2; omega
          have C1 := Lib.hid (fun V (hV : V.heap[gr]? = some (.cells #[sv L, .bool mb] 72 (0, 0))) => number_any gr 1 L mb V hV (by omega) (by omega))
          rw [ha, hL1, hm1] at C1
          have C2 := Lib.hid (fun V (hV : V.heap[gr]? = some (.cells #[sv L1, .bool m1] 72 (0, 0))) => take_any gr a L1 m1 V hV la (by omega))
          rw [hL2, hm2] at C2
          obtain ⟨key, hkey⟩ : ∃ k, tkL a L1 = k := ⟨_, rfl⟩
          rw [hkey] at C2 ST
          have C3 := Lib.hid (fun V (hV : V.heap[gr]? = some (.cells #[sv L2, .bool m2] 72 (0, 0))) => number_any gr 2 L2 m2 V hV (by omega) (by omega))
          obtain ⟨q, hq⟩ : ∃ k, rdB (tkL 2 L2) = k := ⟨_, rfl⟩
          obtain ⟨L3, hL3⟩ : ∃ x, tkR 2 L2 = x := ⟨_, rfl⟩
          obtain ⟨m3, hm3⟩ : ∃ x, tkM 2 L2 m2 = x := ⟨_, rfl⟩
          rw [hq, hL3, hm3] at C3 ST
          have h3 : L1.length < L.length := by
            rw [← hL1]
            have h4 := HL.out
            cases L with
            | nil => exact absurd rfl h4
            | cons b r => rw [(tk1 b r).2.1]; exact Nat.lt_succ_self _
          have MS := Lib.hid (show L3.length < L.length by have h1 := tk_len a L1; have h2 := tk_len 2 L2; rw [hL2] at h1; rw [hL3] at h2; omega)
          clear h3
          clear ha hL1 hm1 hL2 hm2 hkey hq hL3 hm3 la lL lL1 lL2
          have n1 := row_c r2.out (i := 1) rfl
          have FK := Lib.hid (fun x (K : wr.grownBy x (some gr)) => row_c (row_grow r2.out K GB.out.2.2.1) (i := 1) rfl)
          have RZ := Lib.hid (show (false = true → false = true) ∧ wr.drew.heap[gr]? = some (.cells #[sv L, .bool mb] 72 (0, 0)) from ⟨fun h => h, r1.out⟩)
          have LK := Lib.hid (show ks.length ≤ 1048577 by have := sp.out.1; have := sumN_ge ks; have := HS.out; omega)
          have LD := Lib.hid (show ds.length ≤ 1048578 by have := sp.out.2.1; have := LK.out; omega)
          go_upto_region 6 with (fail)
          clear f1 n1 e1 e2 hsl
          refine wp_operandsZ (W := wr) rfl 5 [26, 27, 28, 29, 30] (fun i u x => match i with | 0 => u = .pointer (some ⟨gn, 1, none⟩) | 1 => u = .slice A ks.length c | 2 => u = .int .i64 (a : Int) | 3 => u = .string ⟨key.toArray⟩ | 4 => ∃ g, u = .slice (some ⟨g, 0, none⟩) 1 1 ∧ x.heap[g]? = some (.cells #[.string ⟨key.toArray⟩] 9 (0, 0)) ∧ g ≠ gr | _ => True) (fun a b => a.grownBy b (some gr)) (fun l x => (l 3 = true → l 2 = true) ∧ x.heap[gr]? = some (.cells (if l 3 then #[sv L2, .bool m2] else if l 2 then #[sv L1, .bool m1] else #[sv L, .bool mb]) 72 (0, 0)))
            (by decide) rfl (by kernel_rfl) (by kernel_rfl) (by decide) (by kernel_rfl) (fun _ _ _ => grow_trans) ?_ (grow_below (bd0 wr)) (by simpa using RZ.out) ?_ ?_
          · intro i u x x' hi hR hb'
            have hi' : i = 0 ∨ i = 1 ∨ i = 2 ∨ i = 3 ∨ i = 4 := by omega
            rcases hi' with rfl | rfl | rfl | rfl | rfl
            · exact hR
            · exact hR
            · exact hR
            · exact hR
            · obtain ⟨g, e, hg, hn⟩ := hR; exact ⟨g, e, (hb'.block g (heap_lt hg) (fun h => hn (by simpa using h))).trans hg, hn⟩
          · intro i av x l K hi hF hb' hl hw hZ hK
            have hi' : i = 0 ∨ i = 1 ∨ i = 2 ∨ i = 3 ∨ i = 4 := by omega
            rcases hi' with rfl | rfl | rfl | rfl | rfl
            · simp only [wpOp, List.getElem?_toArray, List.getElem?_cons_zero, Region.wanted, if_true]
              refine Or.inl ?_
              have e0 : av.tmps.getD 5 undef = .pointer (some ⟨gn, 0, none⟩) := hF.2.2 5 (by decide)
              have e0e : av.eval (.tmp 5) = .pointer (some ⟨gn, 0, none⟩) := e0
              have e0g : av.tmps[5]?.getD undef = .pointer (some ⟨gn, 0, none⟩) := by have := e0; simp only [Array.getD_eq_getD_getElem?] at this; exact this
              clear hw hF
              simp only [Oper.wp, execOp]
              try simp only [e0e]
              go_simp
              exact hK _ x (by first | rfl | (simp only [Nat.add_zero]; done) | (congr 1; omega)) (World.grownBy.refl _ _) (by simpa using hZ)
            · simp only [wpOp, List.getElem?_toArray, List.getElem?_cons_succ, List.getElem?_cons_zero, Region.wanted, if_true]
              refine Or.inl ?_
              have e0 : av.tmps.getD 26 undef = .pointer (some ⟨gn, 1, none⟩) := (hw 0 (by kernel_rfl)).2
              have e0e : av.eval (.tmp 26) = .pointer (some ⟨gn, 1, none⟩) := e0
              have e0g : av.tmps[26]?.getD undef = .pointer (some ⟨gn, 1, none⟩) := by have := e0; simp only [Array.getD_eq_getD_getElem?] at this; exact this
              have fq := FK.out x hb'
              clear hw hF
              simp only [Oper.wp, execOp]
              try simp only [e0e]
              go_simp
              exact hK _ x (by first | rfl | (simp only [Nat.add_zero]; done) | (congr 1; omega)) (World.grownBy.refl _ _) (by simpa using hZ)
            · simp only [wpOp, List.getElem?_toArray, List.getElem?_cons_succ, List.getElem?_cons_zero, Region.wanted, if_true]
              refine Or.inl ?_
              have e0 : av.tmps.getD 4 undef = .pointer (some ⟨gr, 0, none⟩) := hF.2.2 4 (by decide)
              have e0e : av.eval (.tmp 4) = .pointer (some ⟨gr, 0, none⟩) := e0
              have e0g : av.tmps[4]?.getD undef = .pointer (some ⟨gr, 0, none⟩) := by have := e0; simp only [Array.getD_eq_getD_getElem?] at this; exact this
              have l3 : l 3 = false := by cases h3 : l 3 with | false => rfl | true => (have := hZ.1 h3; rw [hl] at this; cases this)
              have hrow : x.heap[gr]? = some (.cells #[sv L, .bool mb] 72 (0, 0)) := by have := hZ.2; simpa only [l3, hl, if_false, Bool.false_eq_true] using this
              clear hw hF
              simp only [Oper.wp, execOp]
              try simp only [e0e]
              go_simp
              refine (C1.out x hrow).mono ?_
              rintro e x' ⟨rfl, hr, hg⟩
              exact hK _ x' rfl hg ⟨fun _ => by simp, by simpa [l3] using hr⟩
            · simp only [wpOp, List.getElem?_toArray, List.getElem?_cons_succ, List.getElem?_cons_zero, Region.wanted, if_true]
              refine Or.inl ?_
              have e0 : av.tmps.getD 4 undef = .pointer (some ⟨gr, 0, none⟩) := hF.2.2 4 (by decide)
              have e0e : av.eval (.tmp 4) = .pointer (some ⟨gr, 0, none⟩) := e0
              have e0g : av.tmps[4]?.getD undef = .pointer (some ⟨gr, 0, none⟩) := by have := e0; simp only [Array.getD_eq_getD_getElem?] at this; exact this
              have e1 : av.tmps.getD 28 undef = .int .i64 (a : Int) := (hw 2 (by kernel_rfl)).2
              have e1e : av.eval (.tmp 28) = .int .i64 (a : Int) := e1
              have e1g : av.tmps[28]?.getD undef = .int .i64 (a : Int) := by have := e1; simp only [Array.getD_eq_getD_getElem?] at this; exact this
              have l2 := (hw 2 (by kernel_rfl)).1
              have hrow : x.heap[gr]? = some (.cells #[sv L1, .bool m1] 72 (0, 0)) := by have := hZ.2; simpa only [hl, l2, if_true, if_false, Bool.false_eq_true] using this
              clear hw hF
              simp only [Oper.wp, execOp]
              try simp only [e0e, e1e]
              go_simp
              refine (C2.out x hrow).mono ?_
              rintro e x' ⟨rfl, hr, hg⟩
              exact hK _ x' rfl hg ⟨fun _ => by simp [l2], by simpa using hr⟩
            · simp only [wpOp, List.getElem?_toArray, List.getElem?_cons_succ, List.getElem?_cons_zero, Region.wanted, if_true]
              refine Or.inl ?_
              have e0 : av.tmps.getD 29 undef = .string ⟨key.toArray⟩ := (hw 3 (by kernel_rfl)).2
              have e0e : av.eval (.tmp 29) = .string ⟨key.toArray⟩ := e0
              have e0g : av.tmps[29]?.getD undef = .string ⟨key.toArray⟩ := by have := e0; simp only [Array.getD_eq_getD_getElem?] at this; exact this
              clear hw hF
              simp only [Oper.wp, execOp]
              try simp only [e0e]
              go_simp
              refine hK _ _ ⟨_, rfl, heap_alloc_new _ _, ?_⟩ (grow_below (bda _ _)) ?_
              · have := heap_lt hZ.2; omega
              · have hz := row_on hZ.2 (bda x (.cells #[.string ⟨key.toArray⟩] 9)); exact ⟨by simpa using hZ.1, by simpa using hz⟩
          · intro av x l hF hb' hR hl hZ
            have e0 : av.tmps.getD 26 undef = .pointer (some ⟨gn, 1, none⟩) := hR 0 (by decide)
            have e1 : av.tmps.getD 27 undef = .slice A ks.length c := hR 1 (by decide)
            have e2 : av.tmps.getD 28 undef = .int .i64 (a : Int) := hR 2 (by decide)
            have e3 : av.tmps.getD 29 undef = .string ⟨key.toArray⟩ := hR 3 (by decide)
            obtain ⟨gg4, e4, hg4, hn4⟩ := hR 4 (by decide)
            replace e4 : av.tmps.getD 30 undef = .slice (some ⟨gg4, 0, none⟩) 1 1 := e4
            rw [hF.fold (by kernel_rfl)]
            simp only [List.foldl_cons, List.foldl_nil, e0, e1, e2, e3, e4]
            simp only [Act.put, List.setIfInBounds_toArray, List.set_cons_zero, List.set_cons_succ]
            change wpOps _ _ _ [5, 6, 7] _ _
            simp only [wpOps_cons]
            clear e0 e1 e2 e3 e4 hR hF
            have k2 := hl 2 (by decide)
            have k3 := hl 3 (by decide)
            have RX := Lib.hid (show x.heap[gr]? = some (.cells #[sv L2, .bool m2] 72 (0, 0)) by have := hZ.2; simpa only [k3, k2, if_true] using this)
            have OX := Lib.hid (own_later_g o1.out hb' GB.out.1)
            have PX := Lib.hid (own_later_g o2.out hb' GB.out.1)
            have NX := Lib.hid (row_grow r2.out hb' GB.out.2.2.1)
            have QX := Lib.hid (row_grow r3.out hb' GB.out.2.2.2.1)
            have HG := Lib.hid hg4
            have KX := Lib.hid (below_g hb' GB.out.2.1.1 (Nat.le_trans GB.out.2.1.2 BZ.out))
            have bzx := Lib.hid (Nat.le_trans BZ.out hb'.size)
            clear hZ hl hb' hg4 hn4 k2 k3
            simp only [wpOp, List.getElem?_toArray, List.getElem?_cons_succ, List.getElem?_cons_zero, Region.wanted, if_true]
            refine Or.inl ?_
            refine wp_append1 sv_one et_s (.tmp 27) (.tmp 30) rfl base _ _ ks key gg4 _ _ 1 rfl OX.out HG.out rfl (by have := LK.out; omega) bzx.out ?_
            intro Au cu x9 ho9 hg9 hn9
            have O9 := Lib.hid ho9
            have P9 := Lib.hid (own_other PX.out hg9 dj.out)
            have N9 := Lib.hid (row_own OX.out hg9 GB.out.2.2.2.2.1 NX.out)
            have Q9 := Lib.hid (row_own OX.out hg9 GB.out.2.2.2.2.2 QX.out)
            have R9 := Lib.hid (row_own OX.out hg9 GB.out.1 RX.out)
            have K9 := Lib.hid (below_own OX.out hg9 GB.out.2.1.2 bzx.out)
            have Ju := Lib.hid (dj_new dj.out hn9 PX.out)
            have Z9 := Lib.hid (Nat.le_trans bzx.out hg9.size)
            clear ho9 hg9 hn9
            have f9 := row_c N9.out (i := 1) rfl
            have q9 := frozen_of_row _ _ 1 _ _ N9.out
            go_simp
            try rw [wpOps_cons]
            simp only [wpOp, List.getElem?_toArray, List.getElem?_cons_succ, List.getElem?_cons_zero, Region.wanted, if_true]
            refine Or.inl ?_
            simp only [Oper.wp, execOp]
            go_simp
            try rw [wpOps_cons]
            simp only [wpOp, List.getElem?_toArray, List.getElem?_cons_succ, List.getElem?_cons_zero, Region.wanted, if_true]
            refine Or.inl ?_
            simp only [Oper.wp, execOp]
            go_simp
            try simp only [wpOps]
            obtain ⟨Uu, hU⟩ : ∃ U : World, U = x9.setCell ⟨gn, 1, none⟩ (.slice Au (ks.length + 1) cu) := ⟨_, rfl⟩
            have Ou := Lib.hid (show Uu.ownsRow base _ 1 _ _ _ by rw [hU]; exact own_set O9.out GB.out.2.2.2.2.1 _ _)
            have Pu := Lib.hid (show Uu.ownsRow base _ 1 _ _ _ by rw [hU]; exact own_set P9.out GB.out.2.2.2.2.1 _ _)
            have Nu := Lib.hid (show Uu.heap[gn]? = some (.cells #[.bool false, .slice Au (ks.length + 1) cu, .slice B ds.length d] 25 (0, 0)) by rw [hU]; have := row_set (i := 1) N9.out (.slice Au (ks.length + 1) cu); simpa using this)
            have Qu := Lib.hid (by have := row_far (g := gn) (i := 1) Q9.out (by have := GB2.out; omega) (.slice Au (ks.length + 1) cu); rw [← hU] at this; exact this)
            have Ru := Lib.hid (by have := row_far (g := gn) (i := 1) R9.out (by have := GB2.out; omega) (.slice Au (ks.length + 1) cu); rw [← hU] at this; exact this)
            have Ku := Lib.hid (show Below w.heap.size w Uu by rw [hU]; exact ((kb.out.trans KX.out).trans K9.out).setCell (by have := GB2.out; simp; omega) _)
            have Zu := Lib.hid (show base ≤ Uu.heap.size by rw [hU]; simpa using Z9.out)
            rw [← hU]
            clear hU O9 P9 N9 Q9 R9 K9 Z9 KX bzx OX PX NX QX RX HG f9 q9
            have FK2 := Lib.hid (fun x (K : Uu.grownBy x (some gr)) => row_c (row_grow Nu.out K GB.out.2.2.1) (i := 2) rfl)
            have RZ2 := Lib.hid (show Uu.drew.heap[gr]? = some (.cells #[sv L2, .bool m2] 72 (0, 0)) from Ru.out)
            have Dj := Lib.hid Ju.out.symm
            go_upto_region 7 with (fail)
            refine wp_operandsZ (W := Uu) rfl 4 [33, 34, 35, 36] (fun i u x => match i with | 0 => u = .pointer (some ⟨gn, 2, none⟩) | 1 => u = .slice B ds.length d | 2 => u = .int .i64 (q : Int) | 3 => ∃ g, u = .slice (some ⟨g, 0, none⟩) 1 1 ∧ x.heap[g]? = some (.cells #[.int .i64 (q : Int)] 3 (0, 0)) ∧ g ≠ gr | _ => True) (fun a b => a.grownBy b (some gr)) (fun l x => x.heap[gr]? = some (.cells (if l 2 then #[sv L3, .bool m3] else #[sv L2, .bool m2]) 72 (0, 0)))
              (by decide) rfl (by kernel_rfl) (by kernel_rfl) (by decide) (by kernel_rfl) (fun _ _ _ => grow_trans) ?_ (grow_below (bd0 Uu)) (by simpa using RZ2.out) ?_ ?_
            · intro i u x x' hi hR hb'
              have hi' : i = 0 ∨ i = 1 ∨ i = 2 ∨ i = 3 := by omega
              rcases hi' with rfl | rfl | rfl | rfl
              · exact hR
              · exact hR
              · exact hR
              · obtain ⟨g, e, hg, hn⟩ := hR; exact ⟨g, e, (hb'.block g (heap_lt hg) (fun h => hn (by simpa using h))).trans hg, hn⟩
            · intro i av x l K hi hF hb' hl hw hZ hK
              have hi' : i = 0 ∨ i = 1 ∨ i = 2 ∨ i = 3 := by omega
              rcases hi' with rfl | rfl | rfl | rfl
              · simp only [wpOp, List.getElem?_toArray, List.getElem?_cons_zero, Region.wanted, if_true]
                refine Or.inl ?_
                have e0 : av.tmps.getD 5 undef = .pointer (some ⟨gn, 0, none⟩) := hF.2.2 5 (by decide)
                have e0e : av.eval (.tmp 5) = .pointer (some ⟨gn, 0, none⟩) := e0
                have e0g : av.tmps[5]?.getD undef = .pointer (some ⟨gn, 0, none⟩) := by have := e0; simp only [Array.getD_eq_getD_getElem?] at this; exact this
                clear hw hF
                simp only [Oper.wp, execOp]
                try simp only [e0e]
                go_simp
                exact hK _ x (by first | rfl | (simp only [Nat.add_zero]; done) | (congr 1; omega)) (World.grownBy.refl _ _) (by simpa using hZ)
              · simp only [wpOp, List.getElem?_toArray, List.getElem?_cons_succ, List.getElem?_cons_zero, Region.wanted, if_true]
                refine Or.inl ?_
                have e0 : av.tmps.getD 33 undef = .pointer (some ⟨gn, 2, none⟩) := (hw 0 (by kernel_rfl)).2
                have e0e : av.eval (.tmp 33) = .pointer (some ⟨gn, 2, none⟩) := e0
                have e0g : av.tmps[33]?.getD undef = .pointer (some ⟨gn, 2, none⟩) := by have := e0; simp only [Array.getD_eq_getD_getElem?] at this; exact this
                have fq := FK2.out x hb'
                clear hw hF
                simp only [Oper.wp, execOp]
                try simp only [e0e]
                go_simp
                exact hK _ x (by first | rfl | (simp only [Nat.add_zero]; done) | (congr 1; omega)) (World.grownBy.refl _ _) (by simpa using hZ)
              · simp only [wpOp, List.getElem?_toArray, List.getElem?_cons_succ, List.getElem?_cons_zero, Region.wanted, if_true]
                refine Or.inl ?_
                have e0 : av.tmps.getD 4 undef = .pointer (some ⟨gr, 0, none⟩) := hF.2.2 4 (by decide)
                have e0e : av.eval (.tmp 4) = .pointer (some ⟨gr, 0, none⟩) := e0
                have e0g : av.tmps[4]?.getD undef = .pointer (some ⟨gr, 0, none⟩) := by have := e0; simp only [Array.getD_eq_getD_getElem?] at this; exact this
                have hrow : x.heap[gr]? = some (.cells #[sv L2, .bool m2] 72 (0, 0)) := by have := hZ; simpa only [hl, if_false, Bool.false_eq_true] using this
                clear hw hF
                simp only [Oper.wp, execOp]
                try simp only [e0e]
                go_simp
                refine (C3.out x hrow).mono ?_
                rintro e x' ⟨rfl, hr, hg⟩
                exact hK _ x' rfl hg (by simpa using hr)
              · simp only [wpOp, List.getElem?_toArray, List.getElem?_cons_succ, List.getElem?_cons_zero, Region.wanted, if_true]
                refine Or.inl ?_
                have e0 : av.tmps.getD 35 undef = .int .i64 (q : Int) := (hw 2 (by kernel_rfl)).2
                have e0e : av.eval (.tmp 35) = .int .i64 (q : Int) := e0
                have e0g : av.tmps[35]?.getD undef = .int .i64 (q : Int) := by have := e0; simp only [Array.getD_eq_getD_getElem?] at this; exact this
                clear hw hF
                simp only [Oper.wp, execOp]
                try simp only [e0e]
                go_simp
                refine hK _ _ ⟨_, rfl, heap_alloc_new _ _, ?_⟩ (grow_below (bda _ _)) ?_
                · have := heap_lt hZ; omega
                · have hz := row_on hZ (bda x (.cells #[.int .i64 (q : Int)] 3)); exact by simpa using hz
            · intro av x l hF hb' hR hl hZ
              have e0 : av.tmps.getD 33 undef = .pointer (some ⟨gn, 2, none⟩) := hR 0 (by decide)
              have e1 : av.tmps.getD 34 undef = .slice B ds.length d := hR 1 (by decide)
              have e2 : av.tmps.getD 35 undef = .int .i64 (q : Int) := hR 2 (by decide)
              obtain ⟨gg3, e3, hg3, hn3⟩ := hR 3 (by decide)
              replace e3 : av.tmps.getD 36 undef = .slice (some ⟨gg3, 0, none⟩) 1 1 := e3
              rw [hF.fold (by kernel_rfl)]
              simp only [List.foldl_cons, List.foldl_nil, e0, e1, e2, e3]
              simp only [Act.put, List.setIfInBounds_toArray, List.set_cons_zero, List.set_cons_succ]
              change wpOps _ _ _ [4, 5, 6] _ _
              simp only [wpOps_cons]
              clear e0 e1 e2 e3 hR hF
              have k2 := hl 2 (by decide)
              have RX := Lib.hid (show x.heap[gr]? = some (.cells #[sv L3, .bool m3] 72 (0, 0)) by have := hZ; simpa only [k2, if_true] using this)
              have OX := Lib.hid (own_later_g Pu.out hb' GB.out.1)
              have PX := Lib.hid (own_later_g Ou.out hb' GB.out.1)
              have NX := Lib.hid (row_grow Nu.out hb' GB.out.2.2.1)
              have QX := Lib.hid (row_grow Qu.out hb' GB.out.2.2.2.1)
              have HG := Lib.hid hg3
              have KX := Lib.hid (below_g hb' GB.out.2.1.1 (Nat.le_trans GB.out.2.1.2 Zu.out))
              have bzx := Lib.hid (Nat.le_trans Zu.out hb'.size)
              clear hZ hl hb' hg3 hn3 k2
              simp only [wpOp, List.getElem?_toArray, List.getElem?_cons_succ, List.getElem?_cons_zero, Region.wanted, if_true]
              refine Or.inl ?_
              refine wp_append1 nv_one et_i (.tmp 34) (.tmp 36) rfl base _ _ ds (q : Int) gg3 _ _ 1 rfl OX.out HG.out rfl (by have := LD.out; omega) bzx.out ?_
              intro At ct x9 ho9 hg9 hn9
              have O9 := Lib.hid ho9
              have P9 := Lib.hid (own_other PX.out hg9 Dj.out)
              have N9 := Lib.hid (row_own OX.out hg9 GB.out.2.2.2.2.1 NX.out)
              have Q9 := Lib.hid (row_own OX.out hg9 GB.out.2.2.2.2.2 QX.out)
              have R9 := Lib.hid (row_own OX.out hg9 GB.out.1 RX.out)
              have K9 := Lib.hid (below_own OX.out hg9 GB.out.2.1.2 bzx.out)
              have Jt := Lib.hid (dj_new Dj.out hn9 PX.out)
              have Z9 := Lib.hid (Nat.le_trans bzx.out hg9.size)
              clear ho9 hg9 hn9
              have f9 := row_c N9.out (i := 2) rfl
              have q9 := frozen_of_row _ _ 2 _ _ N9.out
              go_simp
              try rw [wpOps_cons]
              simp only [wpOp, List.getElem?_toArray, List.getElem?_cons_succ, List.getElem?_cons_zero, Region.wanted, if_true]
              refine Or.inl ?_
              simp only [Oper.wp, execOp]
              go_simp
              try rw [wpOps_cons]
              simp only [wpOp, List.getElem?_toArray, List.getElem?_cons_succ, List.getElem?_cons_zero, Region.wanted, if_true]
              refine Or.inl ?_
              simp only [Oper.wp, execOp]
              go_simp
              try simp only [wpOps]
              obtain ⟨Ut, hU⟩ : ∃ U : World, U = x9.setCell ⟨gn, 2, none⟩ (.slice At (ds.length + 1) ct) := ⟨_, rfl⟩
              have Ot := Lib.hid (show Ut.ownsRow base _ 1 _ _ _ by rw [hU]; exact own_set O9.out GB.out.2.2.2.2.1 _ _)
              have Pt := Lib.hid (show Ut.ownsRow base _ 1 _ _ _ by rw [hU]; exact own_set P9.out GB.out.2.2.2.2.1 _ _)
              have Nt := Lib.hid (show Ut.heap[gn]? = some (.cells #[.bool false, .slice Au (ks.length + 1) cu, .slice At (ds.length + 1) ct] 25 (0, 0)) by rw [hU]; have := row_set (i := 2) N9.out (.slice At (ds.length + 1) ct); simpa using this)
              have Qt := Lib.hid (by have := row_far (g := gn) (i := 2) Q9.out (by have := GB2.out; omega) (.slice At (ds.length + 1) ct); rw [← hU] at this; exact this)
              have Rt := Lib.hid (by have := row_far (g := gn) (i := 2) R9.out (by have := GB2.out; omega) (.slice At (ds.length + 1) ct); rw [← hU] at this; exact this)
              have Kt := Lib.hid (show Below w.heap.size w Ut by rw [hU]; exact ((Ku.out.trans KX.out).trans K9.out).setCell (by have := GB2.out; simp; omega) _)
              have Zt := Lib.hid (show base ≤ Ut.heap.size by rw [hU]; simpa using Z9.out)
              rw [← hU]
              clear hU O9 P9 N9 Q9 R9 K9 Z9 KX bzx OX PX NX QX RX HG f9 q9
              go_wp2
              go_roundw
              case rel => exact ⟨L3, m3, Au, cu, ks ++ [key], At, ct, ds ++ [(q : Int)], Rt, by simpa using Nt, Qt, by simpa using Pt, by simpa using Ot, Lib.hid (by simpa using Jt.out.symm), Kt, Zt, ST⟩
              case measure =>
                have m1 := row_c r1.out (i := 0) rfl
                have m2 := row_c Rt.out (i := 0) rfl
                unfold sv at m1 m2
                simp only [m1, m2]
                exact MS.out
  · go_wp2_with fail
    obtain ⟨V, hV⟩ : ∃ V : World, V = w2.alloc (.cells #[.bool true, .slice none 0 0, .slice none 0 0] 25) := ⟨_, rfl⟩
    have N3 := Lib.hid (show V.heap[w2.heap.size]? = some (.cells #[.bool true, .slice none 0 0, .slice none 0 0] 25 (0, 0)) by rw [hV]; exact heap_alloc_new _ _)
    have R3 := Lib.hid (show V.heap[w.heap.size + 1]? = some _ by rw [hV]; exact row_on R2.out (bda _ _))
    have Q3 := Lib.hid (show V.heap[w.heap.size]? = some _ by rw [hV]; exact row_on Q2.out (bda _ _))
    have K3 := Lib.hid (show Below w.heap.size w V by rw [hV]; exact K2.out.alloc K2.out.size _)
    have SV := Lib.hid (show V.heap.size = w2.heap.size + 1 by rw [hV]; simp)
    rw [← hV]
    have GB1 := Lib.hid (show w.heap.size + 1 < w2.heap.size from heap_lt R2.out)
    obtain ⟨gn, hgn⟩ : ∃ g, w2.heap.size = g := ⟨_, rfl⟩
    obtain ⟨gr, hgr⟩ : ∃ g, w.heap.size + 1 = g := ⟨_, rfl⟩
    obtain ⟨base, hbase⟩ : ∃ b, gn + 1 = b := ⟨_, rfl⟩
    rw [hgn] at N3 SV GB1
    rw [hgr] at R3 GB1
    rw [hgn, hgr]
    rw [hbase] at SV
    have GB2 := Lib.hid (show gr < gn ∧ w.heap.size < gr from ⟨GB1.out, by omega⟩)
    have GB := Lib.hid (show gr < base ∧ (w.heap.size ≤ gr ∧ w.heap.size ≤ base) ∧ some gn ≠ some gr ∧ some w.heap.size ≠ some gr ∧ gn < base ∧ w.heap.size < base by have := GB1.out; refine ⟨by omega, ⟨by omega, by omega⟩, by simp; omega, by simp; omega, by omega, by omega⟩)
    have BZ := Lib.hid (show base ≤ V.heap.size by have := SV.out; omega)
    clear hV hgn hgr hbase HW NA R0 B0 R2 Q2 K2 GB1 SV
    obtain ⟨L1, hL1⟩ : ∃ L, tkR 1 S = L := ⟨_, rfl⟩
    obtain ⟨m1, hm1⟩ : ∃ m, tkM 1 S false = m := ⟨_, rfl⟩
    rw [hL1, hm1] at R3
    have HL1 := Lib.hid hL1
    have HM1 := Lib.hid hm1
    clear hL1 hm1 hlf
    have ha1 : a0 = 1 := by have := eq_of_beq HLF.out; omega
    have ST2 := Lib.hid (Dst.leaf (S := S) (by rw [HA0.out]; exact ha1))
    rw [HL1.out, HM1.out] at ST2
    clear ha1
    go_loopw [] (fun wr => ∃ (L : List UInt8) (mb : Bool) (A : Option Addr) (c : Nat) (ks : List (List UInt8)) (B : Option Addr) (d : Nat) (ds : List Int), Hid (wr.heap[gr]? = some (.cells #[sv L, .bool mb] 72 (0, 0))) ∧ Hid (wr.heap[gn]? = some (.cells #[.bool true, .slice A ks.length c, .slice B ds.length d] 25 (0, 0))) ∧ Hid (wr.heap[w.heap.size]? = some (.cells #[.bool false, .slice none 0 0, .slice none 0 0] 25 (0, 0))) ∧ Hid (wr.ownsRow base 9 1 (.slice A ks.length c) ks.length (ks.map sv)) ∧ Hid (wr.ownsRow base 3 1 (.slice B ds.length d) ds.length (ds.map nv)) ∧ Hid (DJ (.slice A ks.length c) (.slice B ds.length d)) ∧ Hid (Below w.heap.size w wr) ∧ Hid (base ≤ wr.heap.size) ∧ Hid (Dst S true L mb ks ds)) (fun wr => match wr.cell? ⟨gr, 0, none⟩ with | some (.string b) => b.size | _ => 0)
    case atStart => exact ⟨L1, m1, none, 0, [], none, 0, [], R3, N3, Q3, Lib.hid (World.ownsRow_nil _ _ _ _), Lib.hid (World.ownsRow_nil _ _ _ _), Lib.hid (fun k h => by cases h), K3, BZ, ST2⟩
    case round =>
      obtain ⟨L, mb, A, c, ks, B, d, ds, r1, r2, r3, o1, o2, dj, kb, BZ, sp⟩ := hrel
      have f1 := row_c r1.out (i := 0) rfl
      unfold sv at f1
      have hsl := str_size L
      by_cases hL : L = []
      · have HL := Lib.hid hL
        have e1 : decide ((0 : Int) < (L.length : Int)) = false := decide_eq_false (by rw [hL]; simp)
        have e2 : decide (0 < L.length) = false := decide_eq_false (by rw [hL]; simp)
        clear hL
        have f2 := row_c r1.out (i := 1) rfl
        cases mb
        · have DE := Lib.hid (show decS S = some (true, ks, ds) by rw [sp.out.2.2.1 rfl, HL.out]; simp [pents])
          have lk : ks.length ≤ 4000000 := by have := sp.out.1; have := sumN_ge ks; have := HS.out; omega
          have ld : ds.length ≤ 4000001 := by have := sp.out.2.1; omega
          have lz : sizeN ks ds < 4611686018427387904 := by have := sp.out.1; have := HS.out; unfold sizeN; omega
          have V1 := Lib.hid (rl_own' o1.out).1
          have V2 := Lib.hid (rl_own' o2.out).1
          have n0 := row_c r2.out (i := 0) rfl
          have n1 := row_c r2.out (i := 1) rfl
          have n2 := row_c r2.out (i := 2) rfl
          cases hrb : rightB true ks ds
          · have DA := Lib.hid (show decA S = none by unfold decA; rw [DE.out]; simp [okB, hrb])
            have EN := Lib.hid (encode_no true A c ks B d ds wr V1.out V2.out lk ld lz hrb)
            clear hrb
            go_wp2_with fail
            refine EN.out.mono ?_
            rintro e w5 ⟨rfl, hb⟩
            have Q5 := Lib.hid (row_on r3.out hb)
            have K5 := Lib.hid (kb.out.trans (hb.mono kb.out.size))
            clear hb f1 f2 n0 n1 n2
            have p0 := row_c Q5.out (i := 0) rfl
            have p1 := row_c Q5.out (i := 1) rfl
            have p2 := row_c Q5.out (i := 2) rfl
            have y0 := frozen_of_row _ _ 0 _ _ Q5.out
            have y1 := frozen_of_row _ _ 1 _ _ Q5.out
            have y2 := frozen_of_row _ _ 2 _ _ Q5.out
            go_wp2
            refine bodyPost_ret (v := .tuple #[.agg #[.bool false, .slice none 0 0, .slice none 0 0], .int .i64 2]) (by simp [results, Try.results15, go_sem, p0, p1, p2]) rfl ⟨fun lf ks ds h => (by rw [DA.out] at h; cases h), fun _ => rfl, ?_⟩
            exact ((K5.out.setCell (Nat.le_refl _) _).setCell (Nat.le_refl _) _).setCell (Nat.le_refl _) _
          · have EY := Lib.hid (encode_yes true A c ks B d ds wr V1.out V2.out hrb)
            by_cases hen : encL true ks ds = S
            · have DA := Lib.hid (show decA S = some (true, ks, ds) by unfold decA; rw [DE.out]; simp [okB, hrb, hen])
              rw [hen] at EY
              have e9 : (S == S) = true := beq_self_eq_true S
              clear hrb hen
              go_wp2_with fail
              refine EY.out.mono ?_
              rintro e w5 ⟨rfl, hb⟩
              have Q5 := Lib.hid (row_on r3.out hb)
              have K5 := Lib.hid (kb.out.trans (hb.mono kb.out.size))
              have r5 := Lib.hid (row_on r2.out hb)
              have V5 := Lib.hid (V1.out.below hb)
              have V6 := Lib.hid (V2.out.below hb)
              clear hb f1 f2 n0 n1 n2
              have p0 := row_c Q5.out (i := 0) rfl
              have p1 := row_c Q5.out (i := 1) rfl
              have p2 := row_c Q5.out (i := 2) rfl
              have y0 := frozen_of_row _ _ 0 _ _ Q5.out
              have y1 := frozen_of_row _ _ 1 _ _ Q5.out
              have y2 := frozen_of_row _ _ 2 _ _ Q5.out
              have n0 := row_c r5.out (i := 0) rfl
              have n1 := row_c r5.out (i := 1) rfl
              have n2 := row_c r5.out (i := 2) rfl
              go_wp2
              refine bodyPost_ret (v := .tuple #[.agg #[.bool true, .slice A ks.length c, .slice B ds.length d], .int .i64 0]) (by simp [results, Try.results15, go_sem, p0, p1, p2]) rfl ⟨fun lf_ ks_ ds_ h => ?_, fun h => (by rw [DA.out] at h; cases h), ?_⟩
              · rw [DA.out] at h
                injection h with h
                injection h with h1 h2
                injection h2 with h2 h3
                subst h1 h2 h3
                exact ⟨A, c, B, d, rfl, ((V5.out.set (rl_own' o1.out).2 GB.out.2.2.2.2.2 _ _).set (rl_own' o1.out).2 GB.out.2.2.2.2.2 _ _).set (rl_own' o1.out).2 GB.out.2.2.2.2.2 _ _, ((V6.out.set (rl_own' o2.out).2 GB.out.2.2.2.2.2 _ _).set (rl_own' o2.out).2 GB.out.2.2.2.2.2 _ _).set (rl_own' o2.out).2 GB.out.2.2.2.2.2 _ _⟩
              · exact ((K5.out.setCell (Nat.le_refl _) _).setCell (Nat.le_refl _) _).setCell (Nat.le_refl _) _
            · have DA := Lib.hid (show decA S = none by unfold decA; rw [DE.out]; simp [okB, hrb, hen])
              have e9 : (encL true ks ds == S) = false := beq_eq_false_iff_ne.2 hen
              clear hrb hen
              go_wp2_with fail
              refine EY.out.mono ?_
              rintro e w5 ⟨rfl, hb⟩
              have Q5 := Lib.hid (row_on r3.out hb)
              have K5 := Lib.hid (kb.out.trans (hb.mono kb.out.size))
              have r5 := Lib.hid (row_on r2.out hb)
              have V5 := Lib.hid (V1.out.below hb)
              have V6 := Lib.hid (V2.out.below hb)
              clear hb f1 f2 n0 n1 n2
              have p0 := row_c Q5.out (i := 0) rfl
              have p1 := row_c Q5.out (i := 1) rfl
              have p2 := row_c Q5.out (i := 2) rfl
              have y0 := frozen_of_row _ _ 0 _ _ Q5.out
              have y1 := frozen_of_row _ _ 1 _ _ Q5.out
              have y2 := frozen_of_row _ _ 2 _ _ Q5.out
              go_wp2
              refine bodyPost_ret (v := .tuple #[.agg #[.bool false, .slice none 0 0, .slice none 0 0], .int .i64 2]) (by simp [results, Try.results15, go_sem, p0, p1, p2]) rfl ⟨fun lf ks ds h => (by rw [DA.out] at h; cases h), fun _ => rfl, ?_⟩
              exact ((K5.out.setCell (Nat.le_refl _) _).setCell (Nat.le_refl _) _).setCell (Nat.le_refl _) _
        · have DA := Lib.hid (show decA S = none by unfold decA; rw [(sp.out.2.2.2 rfl).1]; rfl)
          have Q5 := r3
          have K5 := kb
          have p0 := row_c Q5.out (i := 0) rfl
          have p1 := row_c Q5.out (i := 1) rfl
          have p2 := row_c Q5.out (i := 2) rfl
          have y0 := frozen_of_row _ _ 0 _ _ Q5.out
          have y1 := frozen_of_row _ _ 1 _ _ Q5.out
          have y2 := frozen_of_row _ _ 2 _ _ Q5.out
          go_wp2
          refine bodyPost_ret (v := .tuple #[.agg #[.bool false, .slice none 0 0, .slice none 0 0], .int .i64 2]) (by simp [results, Try.results15, go_sem, p0, p1, p2]) rfl ⟨fun lf ks ds h => (by rw [DA.out] at h; cases h), fun _ => rfl, ?_⟩
          exact ((K5.out.setCell (Nat.le_refl _) _).setCell (Nat.le_refl _) _).setCell (Nat.le_refl _) _
      · have HL := Lib.hid hL
        have e2 : decide (0 < L.length) = true := decide_eq_true (by cases L with | nil => exact absurd rfl hL | cons a r => simp)
        have e1 : decide ((0 : Int) < (L.length : Int)) = true := decide_eq_true (by have := of_decide_eq_true e2; omega)
        clear hL
        obtain ⟨a, ha⟩ : ∃ a, rdB (tkL 1 L) = a := ⟨_, rfl⟩
        obtain ⟨L1, hL1⟩ : ∃ x, tkR 1 L = x := ⟨_, rfl⟩
        obtain ⟨m1, hm1⟩ : ∃ x, tkM 1 L mb = x := ⟨_, rfl⟩
        obtain ⟨L2, hL2⟩ : ∃ x, tkR a L1 = x := ⟨_, rfl⟩
        obtain ⟨m2, hm2⟩ : ∃ x, tkM a L1 m1 = x := ⟨_, rfl⟩
        have ST := Lib.hid (sp.out.step HL.out ha hm1 hL1 hm2 hL2)
        have lL : L.length ≤ 1048576 := by have := sp.out.1; have := HS.out; omega
        have lL1 : L1.length ≤ 1048576 := by have := tk_len 1 L; rw [hL1] at this; omega
        have lL2 : L2.length ≤ 1048576 := by have := tk_len a L1; rw [hL2] at this; omega
        have la : a ≤ 255 := by have h1 := rdB_lt (tkL 1 L); have h2 := tkL_len 1 L; have h3 : 256 ^ (tkL 1 L).length ≤ 256 ^ 1 := Nat.pow_le_pow_right (by omega) h2; omega
        have C1 := Lib.hid (fun V (hV : V.heap[gr]? = some (.cells #[sv L, .bool mb] 72 (0, 0))) => number_any gr 1 L mb V hV (by omega) (by omega))
        rw [ha, hL1, hm1] at C1
        have C2 := Lib.hid (fun V (hV : V.heap[gr]? = some (.cells #[sv L1, .bool m1] 72 (0, 0))) => take_any gr a L1 m1 V hV la (by omega))
        rw [hL2, hm2] at C2
        obtain ⟨key, hkey⟩ : ∃ k, tkL a L1 = k := ⟨_, rfl⟩
        rw [hkey] at C2 ST
        have C3 := Lib.hid (fun V (hV : V.heap[gr]? = some (.cells #[sv L2, .bool m2] 72 (0, 0))) => number_any gr 2 L2 m2 V hV (by omega) (by omega))
        obtain ⟨q, hq⟩ : ∃ k, rdB (tkL 2 L2) = k := ⟨_, rfl⟩
        obtain ⟨L3, hL3⟩ : ∃ x, tkR 2 L2 = x := ⟨_, rfl⟩
        obtain ⟨m3, hm3⟩ : ∃ x, tkM 2 L2 m2 = x := ⟨_, rfl⟩
        rw [hq, hL3, hm3] at C3 ST
        have h3 : L1.length < L.length := by
          rw [← hL1]
          have h4 := HL.out
          cases L with
          | nil => exact absurd rfl h4
          | cons b r => rw [(tk1 b r).2.1]; exact Nat.lt_succ_self _
        have MS := Lib.hid (show L3.length < L.length by have h1 := tk_len a L1; have h2 := tk_len 2 L2; rw [hL2] at h1; rw [hL3] at h2; omega)
        clear h3
        clear ha hL1 hm1 hL2 hm2 hkey hq hL3 hm3 la lL lL1 lL2
        have n1 := row_c r2.out (i := 1) rfl
        have FK := Lib.hid (fun x (K : wr.grownBy x (some gr)) => row_c (row_grow r2.out K GB.out.2.2.1) (i := 1) rfl)
        have RZ := Lib.hid (show (false = true → false = true) ∧ wr.drew.heap[gr]? = some (.cells #[sv L, .bool mb] 72 (0, 0)) from ⟨fun h => h, r1.out⟩)
        have LK := Lib.hid (show ks.length ≤ 1048577 by have := sp.out.1; have := sumN_ge ks; have := HS.out; omega)
        have LD := Lib.hid (show ds.length ≤ 1048578 by have := sp.out.2.1; have := LK.out; omega)
        go_upto_region 6 with (fail)
        clear f1 n1 e1 e2 hsl
        refine wp_operandsZ (W := wr) rfl 5 [26, 27, 28, 29, 30] (fun i u x => match i with | 0 => u = .pointer (some ⟨gn, 1, none⟩) | 1 => u = .slice A ks.length c | 2 => u = .int .i64 (a : Int) | 3 => u = .string ⟨key.toArray⟩ | 4 => ∃ g, u = .slice (some ⟨g, 0, none⟩) 1 1 ∧ x.heap[g]? = some (.cells #[.string ⟨key.toArray⟩] 9 (0, 0)) ∧ g ≠ gr | _ => True) (fun a b => a.grownBy b (some gr)) (fun l x => (l 3 = true → l 2 = true) ∧ x.heap[gr]? = some (.cells (if l 3 then #[sv L2, .bool m2] else if l 2 then #[sv L1, .bool m1] else #[sv L, .bool mb]) 72 (0, 0)))
          (by decide) rfl (by kernel_rfl) (by kernel_rfl) (by decide) (by kernel_rfl) (fun _ _ _ => grow_trans) ?_ (grow_below (bd0 wr)) (by simpa using RZ.out) ?_ ?_
        · intro i u x x' hi hR hb'
          have hi' : i = 0 ∨ i = 1 ∨ i = 2 ∨ i = 3 ∨ i = 4 := by omega
          rcases hi' with rfl | rfl | rfl | rfl | rfl
          · exact hR
          · exact hR
          · exact hR
          · exact hR
          · obtain ⟨g, e, hg, hn⟩ := hR; exact ⟨g, e, (hb'.block g (heap_lt hg) (fun h => hn (by simpa using h))).trans hg, hn⟩
        · intro i av x l K hi hF hb' hl hw hZ hK
          have hi' : i = 0 ∨ i = 1 ∨ i = 2 ∨ i = 3 ∨ i = 4 := by omega
          rcases hi' with rfl | rfl | rfl | rfl | rfl
          · simp only [wpOp, List.getElem?_toArray, List.getElem?_cons_zero, Region.wanted, if_true]
            refine Or.inl ?_
            have e0 : av.tmps.getD 5 undef = .pointer (some ⟨gn, 0, none⟩) := hF.2.2 5 (by decide)
            have e0e : av.eval (.tmp 5) = .pointer (some ⟨gn, 0, none⟩) := e0
            have e0g : av.tmps[5]?.getD undef = .pointer (some ⟨gn, 0, none⟩) := by have := e0; simp only [Array.getD_eq_getD_getElem?] at this; exact this
            clear hw hF
            simp only [Oper.wp, execOp]
            try simp only [e0e]
            go_simp
            exact hK _ x (by first | rfl | (simp only [Nat.add_zero]; done) | (congr 1; omega)) (World.grownBy.refl _ _) (by simpa using hZ)
          · simp only [wpOp, List.getElem?_toArray, List.getElem?_cons_succ, List.getElem?_cons_zero, Region.wanted, if_true]
            refine Or.inl ?_
            have e0 : av.tmps.getD 26 undef = .pointer (some ⟨gn, 1, none⟩) := (hw 0 (by kernel_rfl)).2
            have e0e : av.eval (.tmp 26) = .pointer (some ⟨gn, 1, none⟩) := e0
            have e0g : av.tmps[26]?.getD undef = .pointer (some ⟨gn, 1, none⟩) := by have := e0; simp only [Array.getD_eq_getD_getElem?] at this; exact this
            have fq := FK.out x hb'
            clear hw hF
            simp only [Oper.wp, execOp]
            try simp only [e0e]
            go_simp
            exact hK _ x (by first | rfl | (simp only [Nat.add_zero]; done) | (congr 1; omega)) (World.grownBy.refl _ _) (by simpa using hZ)
          · simp only [wpOp, List.getElem?_toArray, List.getElem?_cons_succ, List.getElem?_cons_zero, Region.wanted, if_true]
            refine Or.inl ?_
            have e0 : av.tmps.getD 4 undef = .pointer (some ⟨gr, 0, none⟩) := hF.2.2 4 (by decide)
            have e0e : av.eval (.tmp 4) = .pointer (some ⟨gr, 0, none⟩) := e0
            have e0g : av.tmps[4]?.getD undef = .pointer (some ⟨gr, 0, none⟩) := by have := e0; simp only [Array.getD_eq_getD_getElem?] at this; exact this
            have l3 : l 3 = false := by cases h3 : l 3 with | false => rfl | true => (have := hZ.1 h3; rw [hl] at this; cases this)
            have hrow : x.heap[gr]? = some (.cells #[sv L, .bool mb] 72 (0, 0)) := by have := hZ.2; simpa only [l3, hl, if_false, Bool.false_eq_true] using this
            clear hw hF
            simp only [Oper.wp, execOp]
            try simp only [e0e]
            go_simp
            refine (C1.out x hrow).mono ?_
            rintro e x' ⟨rfl, hr, hg⟩
            exact hK _ x' rfl hg ⟨fun _ => by simp, by simpa [l3] using hr⟩
          · simp only [wpOp, List.getElem?_toArray, List.getElem?_cons_succ, List.getElem?_cons_zero, Region.wanted, if_true]
            refine Or.inl ?_
            have e0 : av.tmps.getD 4 undef = .pointer (some ⟨gr, 0, none⟩) := hF.2.2 4 (by decide)
            have e0e : av.eval (.tmp 4) = .pointer (some ⟨gr, 0, none⟩) := e0
            have e0g : av.tmps[4]?.getD undef = .pointer (some ⟨gr, 0, none⟩) := by have := e0; simp only [Array.getD_eq_getD_getElem?] at this; exact this
            have e1 : av.tmps.getD 28 undef = .int .i64 (a : Int) := (hw 2 (by kernel_rfl)).2
            have e1e : av.eval (.tmp 28) = .int .i64 (a : Int) := e1
            have e1g : av.tmps[28]?.getD undef = .int .i64 (a : Int) := by have := e1; simp only [Array.getD_eq_getD_getElem?] at this; exact this
            have l2 := (hw 2 (by kernel_rfl)).1
            have hrow : x.heap[gr]? = some (.cells #[sv L1, .bool m1] 72 (0, 0)) := by have := hZ.2; simpa only [hl, l2, if_true, if_false, Bool.false_eq_true] using this
            clear hw hF
            simp only [Oper.wp, execOp]
            try simp only [e0e, e1e]
            go_simp
            refine (C2.out x hrow).mono ?_
            rintro e x' ⟨rfl, hr, hg⟩
            exact hK _ x' rfl hg ⟨fun _ => by simp [l2], by simpa using hr⟩
          · simp only [wpOp, List.getElem?_toArray, List.getElem?_cons_succ, List.getElem?_cons_zero, Region.wanted, if_true]
            refine Or.inl ?_
            have e0 : av.tmps.getD 29 undef = .string ⟨key.toArray⟩ := (hw 3 (by kernel_rfl)).2
            have e0e : av.eval (.tmp 29) = .string ⟨key.toArray⟩ := e0
            have e0g : av.tmps[29]?.getD undef = .string ⟨key.toArray⟩ := by have := e0; simp only [Array.getD_eq_getD_getElem?] at this; exact this
            clear hw hF
            simp only [Oper.wp, execOp]
            try simp only [e0e]
            go_simp
            refine hK _ _ ⟨_, rfl, heap_alloc_new _ _, ?_⟩ (grow_below (bda _ _)) ?_
            · have := heap_lt hZ.2; omega
            · have hz := row_on hZ.2 (bda x (.cells #[.string ⟨key.toArray⟩] 9)); exact ⟨by simpa using hZ.1, by simpa using hz⟩
        · intro av x l hF hb' hR hl hZ
          have e0 : av.tmps.getD 26 undef = .pointer (some ⟨gn, 1, none⟩) := hR 0 (by decide)
          have e1 : av.tmps.getD 27 undef = .slice A ks.length c := hR 1 (by decide)
          have e2 : av.tmps.getD 28 undef = .int .i64 (a : Int) := hR 2 (by decide)
          have e3 : av.tmps.getD 29 undef = .string ⟨key.toArray⟩ := hR 3 (by decide)
          obtain ⟨gg4, e4, hg4, hn4⟩ := hR 4 (by decide)
          replace e4 : av.tmps.getD 30 undef = .slice (some ⟨gg4, 0, none⟩) 1 1 := e4
          rw [hF.fold (by kernel_rfl)]
          simp only [List.foldl_cons, List.foldl_nil, e0, e1, e2, e3, e4]
          simp only [Act.put, List.setIfInBounds_toArray, List.set_cons_zero, List.set_cons_succ]
          change wpOps _ _ _ [5, 6, 7] _ _
          simp only [wpOps_cons]
          clear e0 e1 e2 e3 e4 hR hF
          have k2 := hl 2 (by decide)
          have k3 := hl 3 (by decide)
          have RX := Lib.hid (show x.heap[gr]? = some (.cells #[sv L2, .bool m2] 72 (0, 0)) by have := hZ.2; simpa only [k3, k2, if_true] using this)
          have OX := Lib.hid (own_later_g o1.out hb' GB.out.1)
          have PX := Lib.hid (own_later_g o2.out hb' GB.out.1)
          have NX := Lib.hid (row_grow r2.out hb' GB.out.2.2.1)
          have QX := Lib.hid (row_grow r3.out hb' GB.out.2.2.2.1)
          have HG := Lib.hid hg4
          have KX := Lib.hid (below_g hb' GB.out.2.1.1 (Nat.le_trans GB.out.2.1.2 BZ.out))
          have bzx := Lib.hid (Nat.le_trans BZ.out hb'.size)
          clear hZ hl hb' hg4 hn4 k2 k3
          simp only [wpOp, List.getElem?_toArray, List.getElem?_cons_succ, List.getElem?_cons_zero, Region.wanted, if_true]
          refine Or.inl ?_
          refine wp_append1 sv_one et_s (.tmp 27) (.tmp 30) rfl base _ _ ks key gg4 _ _ 1 rfl OX.out HG.out rfl (by have := LK.out; omega) bzx.out ?_
          intro Au cu x9 ho9 hg9 hn9
          have O9 := Lib.hid ho9
          have P9 := Lib.hid (own_other PX.out hg9 dj.out)
          have N9 := Lib.hid (row_own OX.out hg9 GB.out.2.2.2.2.1 NX.out)
          have Q9 := Lib.hid (row_own OX.out hg9 GB.out.2.2.2.2.2 QX.out)
          have R9 := Lib.hid (row_own OX.out hg9 GB.out.1 RX.out)
          have K9 := Lib.hid (below_own OX.out hg9 GB.out.2.1.2 bzx.out)
          have Ju := Lib.hid (dj_new dj.out hn9 PX.out)
          have Z9 := Lib.hid (Nat.le_trans bzx.out hg9.size)
          clear ho9 hg9 hn9
          have f9 := row_c N9.out (i := 1) rfl
          have q9 := frozen_of_row _ _ 1 _ _ N9.out
          go_simp
          try rw [wpOps_cons]
          simp only [wpOp, List.getElem?_toArray, List.getElem?_cons_succ, List.getElem?_cons_zero, Region.wanted, if_true]
          refine Or.inl ?_
          simp only [Oper.wp, execOp]
          go_simp
          try rw [wpOps_cons]
          simp only [wpOp, List.getElem?_toArray, List.getElem?_cons_succ, List.getElem?_cons_zero, Region.wanted, if_true]
          refine Or.inl ?_
          simp only [Oper.wp, execOp]
          go_simp
          try simp only [wpOps]
          obtain ⟨Uu, hU⟩ : ∃ U : World, U = x9.setCell ⟨gn, 1, none⟩ (.slice Au (ks.length + 1) cu) := ⟨_, rfl⟩
          have Ou := Lib.hid (show Uu.ownsRow base _ 1 _ _ _ by rw [hU]; exact own_set O9.out GB.out.2.2.2.2.1 _ _)
          have Pu := Lib.hid (show Uu.ownsRow base _ 1 _ _ _ by rw [hU]; exact own_set P9.out GB.out.2.2.2.2.1 _ _)
          have Nu := Lib.hid (show Uu.heap[gn]? = some (.cells #[.bool true, .slice Au (ks.length + 1) cu, .slice B ds.length d] 25 (0, 0)) by rw [hU]; have := row_set (i := 1) N9.out (.slice Au (ks.length + 1) cu); simpa using this)
          have Qu := Lib.hid (by have := row_far (g := gn) (i := 1) Q9.out (by have := GB2.out; omega) (.slice Au (ks.length + 1) cu); rw [← hU] at this; exact this)
          have Ru := Lib.hid (by have := row_far (g := gn) (i := 1) R9.out (by have := GB2.out; omega) (.slice Au (ks.length + 1) cu); rw [← hU] at this; exact this)
          have Ku := Lib.hid (show Below w.heap.size w Uu by rw [hU]; exact ((kb.out.trans KX.out).trans K9.out).setCell (by have := GB2.out; simp; omega) _)
          have Zu := Lib.hid (show base ≤ Uu.heap.size by rw [hU]; simpa using Z9.out)
          rw [← hU]
          clear hU O9 P9 N9 Q9 R9 K9 Z9 KX bzx OX PX NX QX RX HG f9 q9
          have FK2 := Lib.hid (fun x (K : Uu.grownBy x (some gr)) => row_c (row_grow Nu.out K GB.out.2.2.1) (i := 2) rfl)
          have RZ2 := Lib.hid (show Uu.drew.heap[gr]? = some (.cells #[sv L2, .bool m2] 72 (0, 0)) from Ru.out)
          have Dj := Lib.hid Ju.out.symm
          go_upto_region 7 with (fail)
          refine wp_operandsZ (W := Uu) rfl 4 [33, 34, 35, 36] (fun i u x => match i with | 0 => u = .pointer (some ⟨gn, 2, none⟩) | 1 => u = .slice B ds.length d | 2 => u = .int .i64 (q : Int) | 3 => ∃ g, u = .slice (some ⟨g, 0, none⟩) 1 1 ∧ x.heap[g]? = some (.cells #[.int .i64 (q : Int)] 3 (0, 0)) ∧ g ≠ gr | _ => True) (fun a b => a.grownBy b (some gr)) (fun l x => x.heap[gr]? = some (.cells (if l 2 then #[sv L3, .bool m3] else #[sv L2, .bool m2]) 72 (0, 0)))
            (by decide) rfl (by kernel_rfl) (by kernel_rfl) (by decide) (by kernel_rfl) (fun _ _ _ => grow_trans) ?_ (grow_below (bd0 Uu)) (by simpa using RZ2.out) ?_ ?_
          · intro i u x x' hi hR hb'
            have hi' : i = 0 ∨ i = 1 ∨ i = 2 ∨ i = 3 := by omega
            rcases hi' with rfl | rfl | rfl | rfl
            · exact hR
            · exact hR
            · exact hR
            · obtain ⟨g, e, hg, hn⟩ := hR; exact ⟨g, e, (hb'.block g (heap_lt hg) (fun h => hn (by simpa using h))).trans hg, hn⟩
          · intro i av x l K hi hF hb' hl hw hZ hK
            have hi' : i = 0 ∨ i = 1 ∨ i = 2 ∨ i = 3 := by omega
            rcases hi' with rfl | rfl | rfl | rfl
            · simp only [wpOp, List.getElem?_toArray, List.getElem?_cons_zero, Region.wanted, if_true]
              refine Or.inl ?_
              have e0 : av.tmps.getD 5 undef = .pointer (some ⟨gn, 0, none⟩) := hF.2.2 5 (by decide)
              have e0e : av.eval (.tmp 5) = .pointer (some ⟨gn, 0, none⟩) := e0
              have e0g : av.tmps[5]?.getD undef = .pointer (some ⟨gn, 0, none⟩) := by have := e0; simp only [Array.getD_eq_getD_getElem?] at this; exact this
              clear hw hF
              simp only [Oper.wp, execOp]
              try simp only [e0e]
              go_simp
              exact hK _ x (by first | rfl | (simp only [Nat.add_zero]; done) | (congr 1; omega)) (World.grownBy.refl _ _) (by simpa using hZ)
            · simp only [wpOp, List.getElem?_toArray, List.getElem?_cons_succ, List.getElem?_cons_zero, Region.wanted, if_true]
              refine Or.inl ?_
              have e0 : av.tmps.getD 33 undef = .pointer (some ⟨gn, 2, none⟩) := (hw 0 (by kernel_rfl)).2
              have e0e : av.eval (.tmp 33) = .pointer (some ⟨gn, 2, none⟩) := e0
              have e0g : av.tmps[33]?.getD undef = .pointer (some ⟨gn, 2, none⟩) := by have := e0; simp only [Array.getD_eq_getD_getElem?] at this; exact this
              have fq := FK2.out x hb'
              clear hw hF
              simp only [Oper.wp, execOp]
              try simp only [e0e]
              go_simp
              exact hK _ x (by first | rfl | (simp only [Nat.add_zero]; done) | (congr 1; omega)) (World.grownBy.refl _ _) (by simpa using hZ)
            · simp only [wpOp, List.getElem?_toArray, List.getElem?_cons_succ, List.getElem?_cons_zero, Region.wanted, if_true]
              refine Or.inl ?_
              have e0 : av.tmps.getD 4 undef = .pointer (some ⟨gr, 0, none⟩) := hF.2.2 4 (by decide)
              have e0e : av.eval (.tmp 4) = .pointer (some ⟨gr, 0, none⟩) := e0
              have e0g : av.tmps[4]?.getD undef = .pointer (some ⟨gr, 0, none⟩) := by have := e0; simp only [Array.getD_eq_getD_getElem?] at this; exact this
              have hrow : x.heap[gr]? = some (.cells #[sv L2, .bool m2] 72 (0, 0)) := by have := hZ; simpa only [hl, if_false, Bool.false_eq_true] using this
              clear hw hF
              simp only [Oper.wp, execOp]
              try simp only [e0e]
              go_simp
              refine (C3.out x hrow).mono ?_
              rintro e x' ⟨rfl, hr, hg⟩
              exact hK _ x' rfl hg (by simpa using hr)
            · simp only [wpOp, List.getElem?_toArray, List.getElem?_cons_succ, List.getElem?_cons_zero, Region.wanted, if_true]
              refine Or.inl ?_
              have e0 : av.tmps.getD 35 undef = .int .i64 (q : Int) := (hw 2 (by kernel_rfl)).2
              have e0e : av.eval (.tmp 35) = .int .i64 (q : Int) := e0
              have e0g : av.tmps[35]?.getD undef = .int .i64 (q : Int) := by have := e0; simp only [Array.getD_eq_getD_getElem?] at this; exact this
              clear hw hF
              simp only [Oper.wp, execOp]
              try simp only [e0e]
              go_simp
              refine hK _ _ ⟨_, rfl, heap_alloc_new _ _, ?_⟩ (grow_below (bda _ _)) ?_
              · have := heap_lt hZ; omega
              · have hz := row_on hZ (bda x (.cells #[.int .i64 (q : Int)] 3)); exact by simpa using hz
          · intro av x l hF hb' hR hl hZ
            have e0 : av.tmps.getD 33 undef = .pointer (some ⟨gn, 2, none⟩) := hR 0 (by decide)
            have e1 : av.tmps.getD 34 undef = .slice B ds.length d := hR 1 (by decide)
            have e2 : av.tmps.getD 35 undef = .int .i64 (q : Int) := hR 2 (by decide)
            obtain ⟨gg3, e3, hg3, hn3⟩ := hR 3 (by decide)
            replace e3 : av.tmps.getD 36 undef = .slice (some ⟨gg3, 0, none⟩) 1 1 := e3
            rw [hF.fold (by kernel_rfl)]
            simp only [List.foldl_cons, List.foldl_nil, e0, e1, e2, e3]
            simp only [Act.put, List.setIfInBounds_toArray, List.set_cons_zero, List.set_cons_succ]
            change wpOps _ _ _ [4, 5, 6] _ _
            simp only [wpOps_cons]
            clear e0 e1 e2 e3 hR hF
            have k2 := hl 2 (by decide)
            have RX := Lib.hid (show x.heap[gr]? = some (.cells #[sv L3, .bool m3] 72 (0, 0)) by have := hZ; simpa only [k2, if_true] using this)
            have OX := Lib.hid (own_later_g Pu.out hb' GB.out.1)
            have PX := Lib.hid (own_later_g Ou.out hb' GB.out.1)
            have NX := Lib.hid (row_grow Nu.out hb' GB.out.2.2.1)
            have QX := Lib.hid (row_grow Qu.out hb' GB.out.2.2.2.1)
            have HG := Lib.hid hg3
            have KX := Lib.hid (below_g hb' GB.out.2.1.1 (Nat.le_trans GB.out.2.1.2 Zu.out))
            have bzx := Lib.hid (Nat.le_trans Zu.out hb'.size)
            clear hZ hl hb' hg3 hn3 k2
            simp only [wpOp, List.getElem?_toArray, List.getElem?_cons_succ, List.getElem?_cons_zero, Region.wanted, if_true]
            refine Or.inl ?_
            refine wp_append1 nv_one et_i (.tmp 34) (.tmp 36) rfl base _ _ ds (q : Int) gg3 _ _ 1 rfl OX.out HG.out rfl (by have := LD.out; omega) bzx.out ?_
            intro At ct x9 ho9 hg9 hn9
            have O9 := Lib.hid ho9
            have P9 := Lib.hid (own_other PX.out hg9 Dj.out)
            have N9 := Lib.hid (row_own OX.out hg9 GB.out.2.2.2.2.1 NX.out)
            have Q9 := Lib.hid (row_own OX.out hg9 GB.out.2.2.2.2.2 QX.out)
            have R9 := Lib.hid (row_own OX.out hg9 GB.out.1 RX.out)
            have K9 := Lib.hid (below_own OX.out hg9 GB.out.2.1.2 bzx.out)
            have Jt := Lib.hid (dj_new Dj.out hn9 PX.out)
            have Z9 := Lib.hid (Nat.le_trans bzx.out hg9.size)
            clear ho9 hg9 hn9
            have f9 := row_c N9.out (i := 2) rfl
            have q9 := frozen_of_row _ _ 2 _ _ N9.out
            go_simp
            try rw [wpOps_cons]
            simp only [wpOp, List.getElem?_toArray, List.getElem?_cons_succ, List.getElem?_cons_zero, Region.wanted, if_true]
            refine Or.inl ?_
            simp only [Oper.wp, execOp]
            go_simp
            try rw [wpOps_cons]
            simp only [wpOp, List.getElem?_toArray, List.getElem?_cons_succ, List.getElem?_cons_zero, Region.wanted, if_true]
            refine Or.inl ?_
            simp only [Oper.wp, execOp]
            go_simp
            try simp only [wpOps]
            obtain ⟨Ut, hU⟩ : ∃ U : World, U = x9.setCell ⟨gn, 2, none⟩ (.slice At (ds.length + 1) ct) := ⟨_, rfl⟩
            have Ot := Lib.hid (show Ut.ownsRow base _ 1 _ _ _ by rw [hU]; exact own_set O9.out GB.out.2.2.2.2.1 _ _)
            have Pt := Lib.hid (show Ut.ownsRow base _ 1 _ _ _ by rw [hU]; exact own_set P9.out GB.out.2.2.2.2.1 _ _)
            have Nt := Lib.hid (show Ut.heap[gn]? = some (.cells #[.bool true, .slice Au (ks.length + 1) cu, .slice At (ds.length + 1) ct] 25 (0, 0)) by rw [hU]; have := row_set (i := 2) N9.out (.slice At (ds.length + 1) ct); simpa using this)
            have Qt := Lib.hid (by have := row_far (g := gn) (i := 2) Q9.out (by have := GB2.out; omega) (.slice At (ds.length + 1) ct); rw [← hU] at this; exact this)
            have Rt := Lib.hid (by have := row_far (g := gn) (i := 2) R9.out (by have := GB2.out; omega) (.slice At (ds.length + 1) ct); rw [← hU] at this; exact this)
            have Kt := Lib.hid (show Below w.heap.size w Ut by rw [hU]; exact ((Ku.out.trans KX.out).trans K9.out).setCell (by have := GB2.out; simp; omega) _)
            have Zt := Lib.hid (show base ≤ Ut.heap.size by rw [hU]; simpa using Z9.out)
            rw [← hU]
            clear hU O9 P9 N9 Q9 R9 K9 Z9 KX bzx OX PX NX QX RX HG f9 q9
            go_wp2
            go_roundw
            case rel => exact ⟨L3, m3, Au, cu, ks ++ [key], At, ct, ds ++ [(q : Int)], Rt, by simpa using Nt, Qt, by simpa using Pt, by simpa using Ot, Lib.hid (by simpa using Jt.out.symm), Kt, Zt, ST⟩
            case measure =>
              have m1 := row_c r1.out (i := 0) rfl
              have m2 := row_c Rt.out (i := 0) rfl
              unfold sv at m1 m2
              simp only [m1, m2]
              exact MS.out
end Go.Proofs.Ytkbdcbcjbgbglaa
