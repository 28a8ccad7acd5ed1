import Derived.Test.YtaciohjobenipaaDoorMB1
import Derived.Laws.CopyOwn
import Derived.Test.YtaciohjobenipaaDoorMB0
import Derived.Laws.OwnMore
section
/-
  quo.divLong.
-/
namespace Go.Proofs.YtaciohjobenipaaDoor
open Go.RowKit
theorem zeros_cells2 (n : Nat) : madeCells #[.int .u32 0] n = (cells (List.replicate n 0)).toArray := by
  apply Array.ext
  · simp [madeCells, cells]
  · intro i h1 h2
    simp [madeCells, cells, Nat.mod_one]
theorem elem_size2 : (Tryd.prog.info? 52).map (·.size) = some 1 := by kernel_rfl
theorem splice_front (xs : List Nat) (n : Nat) : splice (cells (List.replicate n 0)) 0 (cells xs) = cells (xs ++ List.replicate (n - xs.length) 0) := by
  simp [splice, cells, List.map_append]
theorem front_ok {xs : List Nat} (h : ok32 xs) (k : Nat) : ok32 (xs ++ List.replicate k 0) := by
  intro x hx
  rcases List.mem_append.1 hx with hx | hx
  · exact h x hx
  · exact ok_zeros k x hx
theorem front_val (xs : List Nat) (k : Nat) : val (xs ++ List.replicate k 0) = val xs := by rw [val_append, val_zeros]; omega
theorem front_row {w : World} {g n : Nat} {CS XS : List Value} {xs : List Nat} (hg : w.heap[g]? = some (.cells (splice CS 0 XS).toArray 52 (0, 0))) (h1 : CS = cells (List.replicate n 0)) (h2 : XS = cells xs) : Row w g (xs ++ List.replicate (n - xs.length) 0) := by
  subst h1 h2
  rw [splice_front] at hg
  exact hg
theorem run_cut1 {P : Program} {t e : TypeId} {i : TypeInfo} (ht : P.underlying t = some (.slice e)) (hi : P.info? e = some i) (hs : i.size = 1) (g N k m : Nat) (h : k + m + 1 ≤ N) (W : World) :
    (Instr.slice t (.slice (some ⟨g, 0, none⟩) N N) (some (.int .i64 (k : Int))) (some (.int .i64 ((k : Int) + (m : Int) + 1))) none).run P W = .ok (.slice (some ⟨g, k, none⟩) (m + 1) (N - k)) W := by
  have h1 : (0 : Int) ≤ (k : Int) + (m : Int) + 1 := by omega
  have h2 : (k : Int) + (m : Int) + 1 ≤ (N : Int) := by omega
  have h3 : ((k : Int) + (m : Int) + 1).toNat = k + m + 1 := by omega
  have h5 : ¬ (N = k) := by omega
  have h6 : k + m + 1 - k = m + 1 := by omega
  have h7 : ¬ (k + m + 1 < k) := by omega
  simp [Instr.slice, Instr.sliceBounds, run_underlying ht, go_sem, h1, h2, h3, h5, h6, h7, sizeOf, typeInfo, hi, hs]
theorem Row.window {w : World} {g : Nat} {ys : List Nat} (h : Row w g ys) (hk : ok32 ys) {off m c : Nat} (ho : off + m ≤ ys.length) (hc : m ≤ c) : Dg w (some ⟨g, off, none⟩) c ((ys.drop off).take m) := by
  have hl : ((ys.drop off).take m).length = m := by rw [List.length_take, List.length_drop]; omega
  refine ⟨by omega, fun x hx => hk x (List.mem_of_mem_drop (List.mem_of_mem_take hx)), fun _ => ⟨g, off, rfl, h.lt, fun j hj => ?_⟩⟩
  rw [hl] at hj
  rw [h.cell (by omega), List.getElem?_take, if_pos hj, List.getElem?_drop]
/-- What stands between two digits. -/
structure Dv (M v K N k : Nat) (zs qs : List Nat) : Prop where
  zl : zs.length = N + 1
  ql : qs.length = K + 1
  zo : ok32 zs
  qo : ok32 qs
  eq : M = val zs + v * val qs
  lt : val zs < v * 4294967296 ^ k
  zero : ∀ i, i < k → qs[i]?.getD 0 = 0
theorem Dv.row {M v K N k n : Nat} {zs qs : List Nat} (h : Dv M v K N (k + 1) zs qs) (hv : v < 4294967296 ^ n) : val zs < 4294967296 ^ (k + (n + 1)) := by
  have h1 := h.lt
  have h2 : v * 4294967296 ^ (k + 1) ≤ 4294967296 ^ n * 4294967296 ^ (k + 1) := Nat.mul_le_mul_right _ (by omega)
  rw [← Nat.pow_add, show n + (k + 1) = k + (n + 1) by omega] at h2
  omega
theorem Dv.next {M v K N k : Nat} {zs qs zs' : List Nat} (h : Dv M v K N (k + 1) zs qs) (hk : k < K + 1) {l : Nat} (hl : l < 4294967296) (e : val zs' = val zs - 4294967296 ^ k * (v * l)) (hle : 4294967296 ^ k * (v * l) ≤ val zs) (hlt : val zs - 4294967296 ^ k * (v * l) < v * 4294967296 ^ k) (zl : zs'.length = N + 1) (zo : ok32 zs') :
    Dv M v K N k zs' (qs.set k l) := by
  refine ⟨zl, by rw [List.length_set]; exact h.ql, zo, ok_set h.qo hl _, ?_, by rw [e]; exact hlt, fun i hi => by rw [get_set_other (by omega)]; exact h.zero i (by omega)⟩
  rw [val_set_zero _ _ _ (by rw [h.ql]; exact hk) (h.zero k (by omega)), e, h.eq, Nat.mul_add]
  have e1 : v * (4294967296 ^ k * l) = 4294967296 ^ k * (v * l) := by rw [Nat.mul_left_comm]
  rw [e1]
  omega
theorem Dv.took {M v K N k n : Nat} {zs qs V : List Nat} (h : Dv M v K N (k + 1) zs qs) (hk : k < K + 1) (eV : val V = v) (hv0 : 0 < v) (hv : v < 4294967296 ^ n) (hkN : k + (n + 1) ≤ N + 1) {x b : Nat} {zs1 : List Nat} (h1 : val ((zs.drop k).take (n + 1)) / val V ≤ x) (h2 : x ≤ val ((zs.drop k).take (n + 1)) / val V + 1) (hx : x < 4294967296)
    (zo1 : ok32 zs1) (zl1 : zs1.length = zs.length) (zd : zs1.drop (k + (n + 1)) = zs.drop (k + (n + 1))) (he : val zs + 4294967296 ^ (k + (n + 1)) * b = val zs1 + 4294967296 ^ k * (val V * x)) :
    (b = 0 ∧ Dv M v K N k zs1 (qs.set k x)) ∨ (b = 1 ∧ 1 ≤ x ∧ ∀ c zs2, ok32 zs2 → zs2.length = zs1.length → zs2.drop (k + (n + 1)) = zs1.drop (k + (n + 1)) → val zs2 + 4294967296 ^ (k + (n + 1)) * c = val zs1 + 4294967296 ^ k * val V → Dv M v K N k zs2 (qs.set k (x - 1))) := by
  have hr := h.row hv
  have hz := drop_zero (by rw [h.zl]; exact hkN) hr
  rw [val_window h.zo (by rw [h.zl]; exact hkN) hr, eV] at h1 h2
  rw [eV] at he
  have b1 := below_of_drop zo1 (by rw [zl1, h.zl]; exact hkN) (by rw [zd]; exact hz)
  have hvQ : 4294967296 ^ k * v ≤ 4294967296 ^ (k + (n + 1)) := by
    rw [Nat.pow_add]
    refine Nat.mul_le_mul_left _ (Nat.le_trans (Nat.le_of_lt hv) ?_)
    rw [Nat.pow_succ]; omega
  obtain ⟨c1, c2, c3⟩ := div_fix (Nat.pow_pos (by omega)) hv0 rfl h1 h2 hvQ b1 he
  have lx : val zs / 4294967296 ^ k / v < 4294967296 := Nat.lt_of_le_of_lt h1 hx
  rcases c3 with ⟨rfl, rfl, e⟩ | ⟨rfl, e1, e⟩
  · exact .inl ⟨rfl, h.next hk lx e c1 c2 (by rw [zl1]; exact h.zl) zo1⟩
  · refine .inr ⟨rfl, by rw [e1]; exact Nat.succ_pos _, fun c zs2 zo2 zl2 zd2 he2 => ?_⟩
    rw [eV] at he2
    have b2 := below_of_drop zo2 (by rw [zl2, zl1, h.zl]; exact hkN) (by rw [zd2, zd]; exact hz)
    rw [show x - 1 = val zs / 4294967296 ^ k / v by rw [e1]; rfl]
    exact h.next hk lx (e c _ b2 he2) c1 c2 (by rw [zl2, zl1]; exact h.zl) zo2
theorem Row.other {w : World} {g q : Nat} {ys : List Nat} (h : Row w g ys) (hg : g ≠ q) (i : Nat) (v : Value) : Row (w.setCell ⟨q, i, none⟩ v) g ys := ((Rest.refl q w).set_ i v).row h hg
set_option maxHeartbeats 8000000 in
set_option maxRecDepth 100000 in
theorem divlong_any (A B : Option Addr) (c d : Nat) (xs ys : List Nat) (w : World) (h : Dg w A c xs) (h' : Dg w B d ys) (hl : xs.length ≤ 1000000) (h2 : 2 ≤ ys.length) (hle : ys.length ≤ xs.length) (ex : digs (val xs) = xs) (ey : digs (val ys) = ys) :
    Calls Tryd.prog 103 #[.slice A xs.length c, .slice B ys.length d] w fun e w' => ∃ A' c' B' d', e = .returned (.tuple #[.slice A' (digs (val xs / val ys)).length c', .slice B' (digs (val xs % val ys)).length d']) ∧ Dg w' A' c' (digs (val xs / val ys)) ∧ Dg w' B' d' (digs (val xs % val ys)) ∧ Below w.heap.size w w' := by
  have y0 : val ys ≠ 0 := fun e => by rw [e, digs_zero] at ey; rw [← ey] at h2; simp at h2
  obtain ⟨s, hs, es⟩ := norm_way y0
  have ⟨t1, t2⟩ := norm_top y0 es
  have t3 := norm_start (a := val xs) (s := s) y0 (by rw [ex, ey]; exact hle)
  have x0 : val xs ≠ 0 := fun e => by rw [e, digs_zero] at ex; have := congrArg List.length ex; simp at this; omega
  have m0 : val xs * 2 ^ s ≠ 0 := Nat.mul_ne_zero x0 (Nat.pos_iff_ne_zero.1 (Nat.pow_pos (by omega)))
  have ml := digs_shl_len (val xs) s
  have hdiv := div_moved (val xs) (val ys) s
  have hmod := mod_moved (val xs) (val ys) s
  rw [ex] at ml t3
  rw [ey] at t1 t2 t3 es
  have L0 := Lib.hid (((live_start w).add h).add h')
  have ES := Lib.hid es
  obtain ⟨K, hK⟩ : ∃ K, xs.length = ys.length + K := ⟨xs.length - ys.length, by omega⟩
  rw [show xs.length - ys.length + 1 = K + 1 by omega] at t3
  have HK := Lib.hid hK
  have T1 := Lib.hid t1
  clear h h' es hK t1
  go_enter Tryd.func103, Tryd.ntmps103
  go_wp2_with fail
  refine Calls.mono (bits_l (xs := ys) (x := val ys) L0.out (by simp) rfl rfl (by omega) rfl) ?_
  rintro e w1 ⟨rfl, h1⟩
  have L1 := Lib.hid h1
  clear h1
  have hbl : blen (val ys) ≤ 32 * ys.length := by have := ES.out; omega
  go_wp2_with fail
  refine Calls.mono (shl_l (xs := ys) (x := val ys) (k := s) L1.out (by simp) rfl rfl (by omega) (by have := ES.out; omega) (by omega)) ?_
  rintro e w2 ⟨A2, c2, rfl, h1⟩
  have L2 := Lib.hid h1
  clear h1
  go_wp2_with fail
  refine Calls.mono (shl_l (xs := xs) (x := val xs) (k := s) L2.out (by simp) rfl rfl (by omega) (by have := ES.out; omega) (by omega)) ?_
  rintro e w3 ⟨A3, c3, rfl, h1⟩
  have L3 := Lib.hid h1
  clear h1
  have eV : (digs (val ys * 2 ^ s)).length = ys.length := T1.out
  have oV := ok_digs (val ys * 2 ^ s)
  have vV := val_digs (val ys * 2 ^ s)
  have oM := ok_digs (val xs * 2 ^ s)
  have vM := val_digs (val xs * 2 ^ s)
  have hX0 : 0 < (digs (val xs * 2 ^ s)).length := by
    rcases Nat.eq_zero_or_pos (digs (val xs * 2 ^ s)).length with h0 | h0
    · exact absurd (digs_nil.1 h0) m0
    · exact h0
  have hX1 : (digs (val xs * 2 ^ s)).length ≤ xs.length + 1 := by omega
  rw [← eV] at t2 h2 hle
  have HK2 := Lib.hid (show xs.length = (digs (val ys * 2 ^ s)).length + K from by rw [eV]; exact HK.out)
  clear hbl eV T1 HK ml m0 x0 y0
  generalize val ys * 2 ^ s = v at *
  generalize val xs * 2 ^ s = M at *
  obtain ⟨V, hV⟩ : ∃ V, digs v = V := ⟨_, rfl⟩
  rw [hV] at L3 t2 h2 hle oV vV HK2
  rw [hV]
  obtain ⟨X, hX⟩ : ∃ X, digs M = X := ⟨_, rfl⟩
  rw [hX] at L3 hX0 hX1 oM vM
  rw [hX]
  have OV := Lib.hid oV
  have OM := Lib.hid oM
  have VV := Lib.hid vV
  have VM := Lib.hid vM
  have T2 := Lib.hid t2
  have T3 := Lib.hid t3
  have HD := Lib.hid hdiv
  have HM := Lib.hid hmod
  clear oV oM vV vM t2 t3 hdiv hmod hV hX ex ey
  have hmk := run_make_row' (P := Tryd.prog) 22 52 (.int .u32 0) 4 Tryd.underlying22 elem_info rfl .i64 .i64 (xs.length + 1) (by omega) (by omega)
  rw [show ((xs.length + 1 : Nat) : Int) = (xs.length : Int) + 1 by omega, zeros_cells2] at hmk
  obtain ⟨CS, hCS⟩ : ∃ CS, CS = cells (List.replicate (xs.length + 1) 0) := ⟨_, rfl⟩
  obtain ⟨XS, hXS⟩ : ∃ XS, XS = cells X := ⟨_, rfl⟩
  rw [← hCS] at hmk
  have HCS := Lib.hid hCS
  have HXS := Lib.hid hXS
  have hlC : CS.length = xs.length + 1 := by rw [hCS, cells_len, List.length_replicate]
  have hlX : XS.length = X.length := by rw [hXS, cells_len]
  have HF := Lib.hid (show 0 + XS.length ≤ CS.length from by omega)
  have HL := Lib.hid (show XS.length = Nat.min X.length (xs.length + 1) from by rw [hlX]; exact (Nat.min_eq_left hX1).symm)
  have H1 := Lib.hid (show ∀ v ∈ XS, v.oneCell' = true from by rw [HXS.out]; intro u hu; unfold cells at hu; obtain ⟨x, _, rfl⟩ := List.mem_map.1 hu; rfl)
  clear hCS hXS hlC hlX
  have HSZ := Lib.hid (show (w3.alloc (.cells CS.toArray 52)).heap[w3.heap.size]? = some (.cells CS.toArray 52 (0, 0)) from heap_alloc_new w3 _)
  have HPE := Lib.hid (show ∃ ad, A3 = some ad ∧ ∀ j v, XS[j]? = some v → (w3.alloc (.cells CS.toArray 52)).cell? (ad.add j) = some v from by
      have hd : Dg w3 A3 c3 X := L3.out.get (by simp)
      obtain ⟨b, off, hA, hb, hcx⟩ := hd.2.2 hX0
      refine ⟨⟨b, off, none⟩, hA, fun j v hv => ?_⟩
      rw [HXS.out] at hv
      subst hA
      rw [← dg_cell hd hv]
      exact World.cell?_alloc_lt w3 _ _ (by rw [Addr.add_lit]; exact hb))
  have hmk2 := run_make_row' (P := Tryd.prog) 22 52 (.int .u32 0) 4 Tryd.underlying22 elem_info rfl .i64 .i64 (K + 1) (by have := HK2.out; omega) (by have := HK2.out; omega)
  rw [show ((K + 1 : Nat) : Int) = (xs.length : Int) - (V.length : Int) + 1 by have := HK2.out; omega] at hmk2
  have hki : (0 : Int) ≤ (xs.length : Int) - (V.length : Int) := by omega
  go_wp2_with (refine wpList_copy_splice rfl _ _ 22 22 rfl 52 Tryd.underlying22 elem_size2 _ _ _ _ _ _ rfl rfl w3.heap.size 0 CS 52 HSZ.out XS HL.out (fun _ => ⟨rfl, HPE.out⟩) HF.out H1.out w3.heap.size w3 ((Below.refl _ _).alloc (Nat.le_refl _) _) (Nat.le_refl _) ?_; intro w5 HG5 hB5)
  have HB5 := Lib.hid hB5
  have R5 := Lib.hid (front_row HG5.out HCS.out HXS.out)
  have hne : w3.heap.size ≠ w5.heap.size := by have := R5.out.lt; omega
  have HSQ := Lib.hid R5.out.lt
  clear hB5
  obtain ⟨i0, hi0, hz0, hz1, hz2⟩ := info_parts elem_info
  have hv0 : 0 < v := by
    rcases Nat.eq_zero_or_pos v with h0 | h0
    · exfalso; have := T3.out; rw [h0, Nat.zero_mul] at this; omega
    · exact h0
  have HV0 := Lib.hid hv0
  have HVB := Lib.hid (show v < 4294967296 ^ V.length by rw [← VV.out]; exact val_lt OV.out)
  clear hmk hmk2 hz0 hz2 HF HL H1 HSZ HPE hv0 L0 L1 L2
  go_loopw [13] (fun i wr => ∃ (k : Nat) (z : Int) (zs qs : List Nat), k ≤ K + 1 ∧ i = .int .i64 z ∧ z = (k : Int) - 1 ∧ Row wr w3.heap.size zs ∧ Row wr w5.heap.size qs ∧ Hid (Dv M v K xs.length k zs qs) ∧ Hid (Below w3.heap.size w3 wr)) (fun i _ => (intOf i + 1).toNat)
  case atStart =>
    refine ⟨K + 1, _, X ++ List.replicate (xs.length + 1 - X.length) 0, List.replicate (K + 1) 0, Nat.le_refl _, rfl, by have := HK2.out; omega, R5.out.below_ ((Below.refl _ _).alloc (Nat.le_refl _) _), Row.made _ _, ?_, HB5.out.alloc (by have := HSQ.out; omega) _⟩
    refine ⟨by simp; omega, by simp, front_ok OM.out _, ok_zeros _, by rw [front_val, val_zeros, VM.out, Nat.mul_zero, Nat.add_zero], by rw [front_val, VM.out]; exact T3.out, fun i hi => ?_⟩
    rw [List.getElem?_replicate]; split <;> rfl
  case round =>
    obtain ⟨k, z, zs, qs, hk, rfl, hz, hrow, hq, HV, HBel⟩ := hrel
    rcases k with _ | k
    · obtain rfl : z = -1 := by omega
      have hd := div_done HV.out.eq (by have := HV.out.lt; simpa using this)
      have L6 := Lib.hid (((L3.out.step HBel.out).add (hq.dg HV.out.qo (c := K + 1) (by rw [HV.out.ql]; omega))).add (hrow.dg HV.out.zo (c := xs.length + 1) (by rw [HV.out.zl]; omega)))
      have HQ := Lib.hid hd
      have KB := Lib.hid (show K ≤ 1000000 by have := HK2.out; omega)
      clear hd hz hk hrow hq hki
      go_wp2_with fail
      refine Calls.mono (trim_l (xs := qs) (x := val xs / val ys) L6.out (by simp) HV.out.ql.symm (by rw [HQ.out.1]; exact HD.out) (by rw [HV.out.ql]; have := KB.out; omega)) ?_
      rintro e w7 ⟨A7, c7, rfl, h7⟩
      have L7 := Lib.hid h7
      clear h7
      go_wp2_with fail
      refine Calls.mono (shr_l (xs := zs) (x := M % v) (k := s) L7.out (by simp) HV.out.zl.symm HQ.out.2 (by rw [HV.out.zl]; omega) (by have := ES.out; omega) (by omega)) ?_
      rintro e w8 ⟨A8, c8, rfl, h8⟩
      rw [HM.out] at h8
      rw [HM.out]
      have L8 := Lib.hid h8
      clear h8
      go_wp2
      go_ret2
      exact ⟨A7, c7, A8, c8, rfl, L8.out.get (by simp), L8.out.get (by simp), L8.out.1⟩
    · obtain rfl : z = (k : Int) := by omega
      have HN := Lib.hid (show k + (V.length + 1) ≤ xs.length + 1 by have := HK2.out; omega)
      have hkb : k ≤ 1000000 := by have := HN.out; omega
      have hcut := fun W => run_cut1 (P := Tryd.prog) Tryd.underlying22 hi0 hz1 w3.heap.size (xs.length + 1) k V.length (by have := HN.out; omega) W
      have DV := Lib.hid (show Dg wr A2 c2 V from (L3.out.step HBel.out).get (by simp))
      have hAb : ∀ b o, A2 = some ⟨b, o, none⟩ → b < w3.heap.size := by
        intro b o e
        obtain ⟨b', o', e', hlt, _⟩ := (show Dg w3 A2 c2 V from L3.out.get (by simp)).2.2 (by omega)
        rw [e] at e'; injection e' with e'; injection e' with e1 _ _; omega
      have hlen : ((zs.drop k).take (V.length + 1)).length = V.length + 1 := by rw [List.length_take, List.length_drop, HV.out.zl]; have := HN.out; omega
      have HGS := Lib.hid (guess_any (some ⟨w3.heap.size, k, none⟩) A2 (xs.length + 1 - k) c2 (V.length - 2) V.length (V.length + 1) ((zs.drop k).take (V.length + 1)) V wr (hrow.window HV.out.zo (by rw [HV.out.zl]; exact HN.out) (by have := HN.out; omega)) DV.out rfl hlen.symm (by omega) (by omega) (by omega) (by rw [show V.length - 2 + 1 = V.length - 1 by omega]; exact T2.out) (by
        rw [val_window HV.out.zo (by rw [HV.out.zl]; exact HN.out) (HV.out.row HVB.out), VV.out, Nat.div_lt_iff_lt_mul (Nat.pow_pos (by omega)), Nat.mul_assoc, Nat.mul_comm 4294967296, ← Nat.pow_succ]
        exact HV.out.lt))
      have HAB := Lib.hid hAb
      have HR := Lib.hid hrow
      have HQ := Lib.hid hq
      clear hz hki hlen hAb hrow hq
      go_wp2_with fail
      refine HGS.out.mono ?_
      rintro e w6 ⟨⟨x, rfl, hx, hx1, hx2⟩, N6, rfl⟩
      have HX := Lib.hid (And.intro hx1 hx2)
      clear hx1 hx2
      go_wp2_with fail
      refine (takeoff_any A2 w3.heap.size k (V.length + 1) (xs.length + 1 - k) c2 x V zs (wr.drewN N6) (HR.out.drewN N6) HV.out.zo (DV.out.drewN N6) HAB.out rfl (by rw [HV.out.zl]; omega) (by rw [HV.out.zl]; have := HN.out; omega) hx).mono ?_
      rintro e w7 ⟨b, zs1, rfl, hb1, hrow1, zo1, zl1, zd1, he1, hbel1, hrest1⟩
      have HT := Lib.hid (HV.out.took (by omega) VV.out HV0.out HVB.out HN.out HX.out.1 HX.out.2 hx zo1 zl1 zd1 he1)
      have hq1 := hrest1.row (HQ.out.drewN N6) (Ne.symm hne)
      have HB1 := Lib.hid ((below_drewN HBel.out N6).trans hbel1)
      have ZO := Lib.hid zo1
      have ZL := Lib.hid zl1
      have hkq : k < qs.length := by rw [HV.out.ql]; omega
      have hkK : k < K + 1 := by omega
      have hkK' : (k : Int) < (K : Int) + 1 := by omega
      clear zo1 zl1 zd1 he1 hbel1 hrest1 hb1 hk
      rcases HT.out with ⟨rfl, hD⟩ | ⟨rfl, hx1, hD⟩
      · rw [show (((0 : Nat) : Int) == 1) = false from rfl]
        have HD1 := Lib.hid hD
        have hcell := hq1.cell (i := k) hkq
        have hfr := hq1.frozen k
        clear hD hkq
        go_wp2
        go_roundw
        case rel => exact ⟨k, (k : Int) - 1, zs1, qs.set k x, by omega, rfl, rfl, hrow1.other hne _ _, hq1.set_ k x, HD1, (HB1.out).setCell (by have := HSQ.out; simp; omega) _⟩
        case measure => simp [intOf]
      · rw [show (((1 : Nat) : Int) == 1) = true from rfl]
        have HD1 := Lib.hid hD
        have HR1 := Lib.hid hrow1
        have HQ1 := Lib.hid hq1
        clear hD hrow1 hq1
        go_wp2_with fail
        refine (giveback_any A2 w3.heap.size k (V.length + 1) (xs.length + 1 - k) c2 V zs1 w7 HR1.out ZO.out ((show Dg w7 A2 c2 V from (L3.out.step HB1.out).get (by simp))) HAB.out rfl (by rw [ZL.out, HV.out.zl]; omega) (by rw [ZL.out, HV.out.zl]; have := HN.out; omega)).mono ?_
        rintro e w8 ⟨c', zs2, rfl, hrow2, zo2, zl2, zd2, he2, hbel2, hrest2⟩
        have HD2 := Lib.hid (HD1.out c' zs2 zo2 zl2 zd2 he2)
        have hq2 := hrest2.row HQ1.out (Ne.symm hne)
        have HB2 := Lib.hid (HB1.out.trans hbel2)
        have hcell := hq2.cell (i := k) hkq
        have hfr := hq2.frozen k
        clear zo2 zl2 zd2 he2 hbel2 hrest2 hkq
        go_wp2
        go_roundw
        case rel => exact ⟨k, (k : Int) - 1, zs2, qs.set k (x - 1), by omega, rfl, rfl, hrow2.other hne _ _, hq2.set_int (by omega), HD2, (HB2.out).setCell (by have := HSQ.out; simp; omega) _⟩
        case measure => simp [intOf]
end Go.Proofs.YtaciohjobenipaaDoor
end

section
/-
  quo.DivMod.
-/
namespace Go.Proofs.YtaciohjobenipaaDoor
open Go.RowKit
set_option maxHeartbeats 2000000 in
set_option maxRecDepth 100000 in
theorem divmod_no (A B : Option Addr) (c d : Nat) (xs ys : List Nat) (w : World) (h : Dg w A c xs) (h' : Dg w B d ys) (hl : xs.length ≤ 1000000) (hl' : ys.length ≤ 1000000) (hy : val ys = 0) :
    Calls Tryd.prog 71 #[.slice A xs.length c, .slice B ys.length d] w fun e w' => e = .returned (.tuple #[.slice none 0 0, .slice none 0 0, .bool false]) ∧ Below w.heap.size w w' := by
  have L0 := Lib.hid (((live_start w).add h).add h')
  have HY := Lib.hid hy
  clear h h' hy
  go_enter Tryd.func71, Tryd.ntmps71
  go_wp2_with fail
  refine Calls.mono (trim_l (xs := xs) (x := val xs) L0.out (by simp) rfl rfl (by omega)) ?_
  rintro e w1 ⟨A1, c1, rfl, h1⟩
  have L1 := Lib.hid h1
  clear h1
  go_wp2_with fail
  refine Calls.mono (trim_l (xs := ys) (x := 0) L1.out (by simp) rfl HY.out (by omega)) ?_
  rw [digs_zero]
  rintro e w2 ⟨A2, c2, rfl, h1⟩
  have L2 := Lib.hid h1
  clear h1
  go_wp2
  go_ret3
  exact ⟨rfl, L2.out.1⟩
set_option maxHeartbeats 4000000 in
set_option maxRecDepth 100000 in
theorem divmod_any (A B : Option Addr) (c d : Nat) (xs ys : List Nat) (w : World) (h : Dg w A c xs) (h' : Dg w B d ys) (hl : xs.length ≤ 1000000) (hl' : ys.length ≤ 1000000) (hy : val ys ≠ 0) :
    Calls Tryd.prog 71 #[.slice A xs.length c, .slice B ys.length d] w fun e w' => ∃ A' c' B' d', e = .returned (.tuple #[.slice A' (digs (val xs / val ys)).length c', .slice B' (digs (val xs % val ys)).length d', .bool true]) ∧ Dg w' A' c' (digs (val xs / val ys)) ∧ Dg w' B' d' (digs (val xs % val ys)) ∧ Below w.heap.size w w' := by
  have L0 := Lib.hid (((live_start w).add h).add h')
  have l1 := digs_len_le h.2.1
  have l2 := digs_len_le h'.2.1
  have y0 : 0 < (digs (val ys)).length := by
    rcases Nat.eq_zero_or_pos (digs (val ys)).length with h0 | h0
    · exact absurd (digs_nil.1 h0) hy
    · exact h0
  have t0 : (((digs (val ys)).length : Int) == 0) = false := beq_eq_false_iff_ne.2 (by omega)
  have HY := Lib.hid hy
  clear h h' hy
  go_enter Tryd.func71, Tryd.ntmps71
  go_wp2_with fail
  refine Calls.mono (trim_l (xs := xs) (x := val xs) L0.out (by simp) rfl rfl (by omega)) ?_
  rintro e w1 ⟨A1, c1, rfl, h1⟩
  have L1 := Lib.hid h1
  clear h1
  go_wp2_with fail
  refine Calls.mono (trim_l (xs := ys) (x := val ys) L1.out (by simp) rfl rfl (by omega)) ?_
  rintro e w2 ⟨A2, c2, rfl, h1⟩
  have L2 := Lib.hid h1
  clear h1
  have vx := Lib.hid (val_digs (val xs))
  have vy := Lib.hid (val_digs (val ys))
  obtain ⟨q, hq⟩ : ∃ q : Int, cmpi (val xs) (val ys) = q := ⟨_, rfl⟩
  have HC := Lib.hid hq
  go_wp2_with fail
  refine Calls.mono (cmp_l (xs := digs (val xs)) (ys := digs (val ys)) (x := val xs) (y := val ys) L2.out (by simp) (by simp) rfl rfl vx.out vy.out (by omega) (by omega) HC.out) ?_
  rintro e w3 ⟨rfl, h1⟩
  have L3 := Lib.hid h1
  clear h1
  rcases Nat.lt_or_ge (val xs) (val ys) with hlt | hge
  · have d0 : decide (q < 0) = true := by rw [← hq, cmpi_lt hlt]; rfl
    have e0 : val xs / val ys = 0 := Nat.div_eq_of_lt hlt
    have e1 : val xs % val ys = val xs := Nat.mod_eq_of_lt hlt
    have E0 := Lib.hid e0
    have E1 := Lib.hid e1
    clear e0 e1 hlt hq
    go_wp2
    go_ret3
    rw [E0.out, E1.out, digs_zero]
    exact ⟨none, 0, A1, c1, rfl, Dg.nil_ _ _, L3.out.get (by simp), L3.out.1⟩
  · have d0 : decide (q < 0) = false := by
      rw [← hq]
      rcases Nat.eq_or_lt_of_le hge with e | e
      · rw [cmpi_eq e.symm]; rfl
      · rw [cmpi_gt e]; rfl
    have hle := Lib.hid (digs_len_mono _ _ hge)
    clear hq
    by_cases h1 : (digs (val ys)).length = 1
    · have t1 : (((digs (val ys)).length : Int) == 1) = true := by rw [h1]; rfl
      have hY : Dg w3 A2 c2 (digs (val ys)) := L3.out.get (by simp)
      obtain ⟨b, off, hB, hb, hcy⟩ := hY.2.2 y0
      have hc0 := hcy 0 y0
      rw [Nat.add_zero] at hc0
      have e2 : val ys = (digs (val ys))[0]?.getD 0 := by
        rcases hd : digs (val ys) with _ | ⟨z, _ | ⟨z', r⟩⟩
        · rw [hd] at h1; simp at h1
        · have := vy.out; rw [hd] at this; simp only [val] at this; simp; omega
        · rw [hd] at h1; simp at h1
      have b2 : val ys < 4294967296 := by rw [e2]; exact getD_lt (ok_digs _) 0
      rw [← e2] at hc0
      have HG := Lib.hid (divdigit_any A1 c1 (val ys) (digs (val xs)) w3 (L3.out.get (by simp)) (by omega) (by have := HY.out; omega) b2)
      rw [vx.out] at HG
      subst hB
      clear hY hcy e2 h1 hge
      go_wp2_with fail
      refine HG.out.mono ?_
      rintro e w4 ⟨A4, c4, A5, c5, rfl, g4, g5, hb5⟩
      have G4 := Lib.hid g4
      have G5 := Lib.hid g5
      have HB := Lib.hid (L3.out.step hb5)
      clear g4 g5 hb5
      go_wp2
      go_ret3
      exact ⟨A4, c4, A5, c5, rfl, G4.out, G5.out, HB.out.1⟩
    · have t1 : (((digs (val ys)).length : Int) == 1) = false := beq_eq_false_iff_ne.2 (by omega)
      have HG := Lib.hid (divlong_any A1 A2 c1 c2 (digs (val xs)) (digs (val ys)) w3 (L3.out.get (by simp)) (L3.out.get (by simp)) (by omega) (by omega) hle.out (by rw [vx.out]) (by rw [vy.out]))
      rw [vx.out, vy.out] at HG
      clear h1 hge
      go_wp2_with fail
      refine HG.out.mono ?_
      rintro e w4 ⟨A4, c4, A5, c5, rfl, g4, g5, hb5⟩
      have G4 := Lib.hid g4
      have G5 := Lib.hid g5
      have HB := Lib.hid (L3.out.step hb5)
      clear g4 g5 hb5
      go_wp2
      go_ret3
      exact ⟨A4, c4, A5, c5, rfl, G4.out, G5.out, HB.out.1⟩
section
variable {w0 w w' : World} {L : List (Option Addr × Nat × List Nat)} {A B : Option Addr} {c d n m : Nat} {xs ys : List Nat} {x y : Nat}
theorem divmod_l (hL : Live w0 w L) (h1 : (A, c, xs) ∈ L) (h2 : (B, d, ys) ∈ L) (hn : n = xs.length) (hm : m = ys.length) (hx : val xs = x) (hy : val ys = y) (b1 : xs.length ≤ 1000000) (b2 : ys.length ≤ 1000000) (y0 : y ≠ 0) :
    Calls Tryd.prog 71 #[.slice A n c, .slice B m d] w fun e w' => ∃ A' c' B' d', e = .returned (.tuple #[.slice A' (digs (x / y)).length c', .slice B' (digs (x % y)).length d', .bool true]) ∧ Live w0 w' ((B', d', digs (x % y)) :: (A', c', digs (x / y)) :: L) := by
  subst hn hm hx hy
  exact (divmod_any A B c d xs ys w (hL.get h1) (hL.get h2) b1 b2 y0).mono fun e w' ⟨A', c', B', d', he, hd, hd', hb⟩ => ⟨A', c', B', d', he, ((hL.step hb).add hd).add hd'⟩
theorem divmod_l_no (hL : Live w0 w L) (h1 : (A, c, xs) ∈ L) (h2 : (B, d, ys) ∈ L) (hn : n = xs.length) (hm : m = ys.length) (hy : val ys = 0) (b1 : xs.length ≤ 1000000) (b2 : ys.length ≤ 1000000) :
    Calls Tryd.prog 71 #[.slice A n c, .slice B m d] w fun e w' => e = .returned (.tuple #[.slice none 0 0, .slice none 0 0, .bool false]) ∧ Live w0 w' L := by
  subst hn hm
  exact (divmod_no A B c d xs ys w (hL.get h1) (hL.get h2) b1 b2 hy).mono fun e w' ⟨he, hb⟩ => ⟨he, hL.step hb⟩
end
end Go.Proofs.YtaciohjobenipaaDoor
end

section
/-
  zint.Div.
-/
namespace Go.Proofs.YtaciohjobenipaaDoor
open Go.RowKit
theorem cells_of {w : World} {g : Nat} {cs : Array Value} {t : TypeId} {fr : Nat × Nat} (hg : w.heap[g]? = some (.cells cs t fr)) {w' : World} (hb : Below w.heap.size w w') : w'.heap[g]? = some (.cells cs t fr) := (hb.block g (heap_lt hg)).trans hg
/-- Quotient and rest, rounded down. -/
theorem fd_same {t : Bool} {x y : Nat} : sg false (x / y) = Int.fdiv (sg t x) (sg t y) ∧ sg t (x % y) = Int.fmod (sg t x) (sg t y) := by
  have e1 : Int.fdiv (x : Int) (y : Int) = ((x / y : Nat) : Int) := by rw [Int.fdiv_eq_ediv_of_nonneg _ (by omega)]; exact (Int.natCast_ediv x y).symm
  have e2 : Int.fmod (x : Int) (y : Int) = ((x % y : Nat) : Int) := by rw [Int.fmod_eq_emod_of_nonneg _ (by omega)]; exact (Int.natCast_emod x y).symm
  cases t
  · exact ⟨e1.symm, e2.symm⟩
  · simp only [sg, if_true, Bool.false_eq_true, if_false]
    have f1 : Int.fdiv (-(x : Int)) (-(y : Int)) = Int.fdiv x y := by rw [Int.neg_fdiv_neg]
    have f2 := Int.mul_fdiv_add_fmod (-(x : Int)) (-(y : Int))
    have f3 := Int.mul_fdiv_add_fmod (x : Int) (y : Int)
    rw [f1, e1] at f2
    rw [e1, e2] at f3
    rw [f1, e1]
    refine ⟨rfl, ?_⟩
    rw [Int.neg_mul] at f2
    omega
theorem fd_exact {t1 t2 : Bool} (h : (t1 != t2) = true) {x y : Nat} (hy : y ≠ 0) (hk : x % y = 0) : sg true (x / y) = Int.fdiv (sg t1 x) (sg t2 y) ∧ sg t2 (x % y) = Int.fmod (sg t1 x) (sg t2 y) := by
  obtain ⟨k, rfl⟩ : ∃ k, x = y * k := ⟨x / y, by have := Nat.div_add_mod x y; omega⟩
  rw [Nat.mul_div_cancel_left _ (by omega), Nat.mul_mod_right]
  have hy' : (y : Int) ≠ 0 := by omega
  have hy2 : -(y : Int) ≠ 0 := by omega
  have s0 : sg t2 0 = 0 := by unfold sg; cases t2 <;> rfl
  rw [s0]
  have key : sg t1 (y * k) = sg t2 y * (-(k : Int)) := by
    unfold sg; cases t1 <;> cases t2 <;> simp at h ⊢ <;> simp [Int.mul_neg, Int.neg_mul]
  have hne : sg t2 y ≠ 0 := by unfold sg; cases t2 <;> simp <;> omega
  rw [key, Int.mul_fdiv_cancel_left _ hne]
  refine ⟨by unfold sg; simp, ?_⟩
  have := Int.mul_fdiv_add_fmod (sg t2 y * (-(k : Int))) (sg t2 y)
  rw [Int.mul_fdiv_cancel_left _ hne] at this
  omega
theorem fd_more {t1 t2 : Bool} (h : (t1 != t2) = true) {x y : Nat} (hy : y ≠ 0) (hk : x % y ≠ 0) : sg true (x / y + 1) = Int.fdiv (sg t1 x) (sg t2 y) ∧ sg t2 (y - x % y) = Int.fmod (sg t1 x) (sg t2 y) := by
  have hd := Nat.div_add_mod x y
  have hlt := Nat.mod_lt x (Nat.pos_of_ne_zero hy)
  generalize x / y = q at *
  generalize x % y = r at *
  subst hd
  have key : ∀ (a b qq rr : Int), b ≠ 0 → a = b * qq + rr → ((0 ≤ rr ∧ rr < b) ∨ (b < rr ∧ rr ≤ 0)) → qq = Int.fdiv a b ∧ rr = Int.fmod a b := by
    intro a b qq rr hb e hr
    subst e
    have e1 : Int.fdiv (b * qq + rr) b = qq + Int.fdiv rr b := by rw [Int.add_comm, Int.add_mul_fdiv_left _ _ hb, Int.add_comm]
    have e2 : Int.fdiv rr b = 0 := by
      rcases hr with ⟨h1, h2⟩ | ⟨h1, h2⟩
      · rw [Int.fdiv_eq_ediv_of_nonneg _ (by omega)]; exact Int.ediv_eq_zero_of_lt h1 h2
      · rw [← Int.neg_fdiv_neg, Int.fdiv_eq_ediv_of_nonneg _ (by omega)]; exact Int.ediv_eq_zero_of_lt (by omega) (by omega)
    have e3 := Int.mul_fdiv_add_fmod (b * qq + rr) b
    rw [e1, e2, Int.add_zero] at e3
    exact ⟨by rw [e1, e2, Int.add_zero], by omega⟩
  have hr1 : ((y - r : Nat) : Int) = (y : Int) - (r : Int) := by omega
  cases t1 <;> cases t2 <;> simp at h
  · simp only [sg, if_true, Bool.false_eq_true, if_false]
    refine key _ _ _ _ (by omega) ?_ (by omega)
    rw [hr1]; push_cast; rw [Int.neg_mul_neg, Int.mul_add]; omega
  · simp only [sg, if_true, Bool.false_eq_true, if_false]
    refine key _ _ _ _ (by omega) ?_ (by omega)
    rw [hr1]; push_cast; rw [Int.mul_neg, Int.mul_add]; omega
theorem len_ne {n : Nat} (h : n ≠ 0) : ((n : Int) == 0) = false := by simp [h]
theorem below4 (w : World) (o1 o2 o3 o4 : Obj) : Below w.heap.size w ((((w.alloc o1).alloc o2).alloc o3).alloc o4) := (below3 w o1 o2 o3).alloc (by simp; omega) _
/-- Two whole numbers, and true. -/
def Zr2 (q r : Int) (w : World) (e : Ending) (w' : World) : Prop := ∃ A c B d, e = .returned (.tuple #[.agg #[.bool (decide (q < 0)), .slice A (digs q.natAbs).length c], .agg #[.bool (decide (r < 0)), .slice B (digs r.natAbs).length d], .bool true]) ∧ Dg w' A c (digs q.natAbs) ∧ Dg w' B d (digs r.natAbs) ∧ Below w.heap.size w w'
theorem zr2_give {w w' : World} {A B : Option Addr} {c d m k : Nat} {t u : Bool} {q r : Int} (hq : sg t m = q) (hr : sg u k = r) (hd : Dg w' A c (digs m)) (hd' : Dg w' B d (digs k)) (hb : Below w.heap.size w w') :
    Zr2 q r w (.returned (.tuple #[.agg #[.bool (t && decide (m ≠ 0)), .slice A (digs m).length c], .agg #[.bool (u && decide (k ≠ 0)), .slice B (digs k).length d], .bool true])) w' := by
  have e1 := sg_neg t m
  have e2 := sg_abs t m
  have e3 := sg_neg u k
  have e4 := sg_abs u k
  rw [hq] at e1 e2
  rw [hr] at e3 e4
  rw [e1, e3]
  subst e2 e4
  exact ⟨A, c, B, d, rfl, hd, hd', hb⟩
end Go.Proofs.YtaciohjobenipaaDoor
end

section
/-
  dyad's reckoning: none, answer.
-/
namespace Go.Proofs.YtaciohjobenipaaDoor
open Go.RowKit
set_option linter.unusedSimpArgs false
set_option linter.unusedVariables false
theorem off_old {w : World} {A : Option Addr} {c g : Nat} {xs : List Nat} (h : Dg w A c xs) (hg : w.heap.size ≤ g) : Off g A xs := by
  intro h0 o e
  obtain ⟨b, off, e', hb, _⟩ := h.2.2 h0
  rw [e] at e'
  simp only [Option.some.injEq, Addr.mk.injEq, and_true] at e'
  omega
theorem Dg.short {w : World} {A : Option Addr} {c : Nat} {xs : List Nat} (h : Dg w A c xs) : Dg w A xs.length xs := ⟨Nat.le_refl _, h.2.1, h.2.2⟩
theorem noint3 {A : Option Addr} {n c : Nat} {b : Bool} {x : Int} : ∀ (o : Nat) (m : Int), (#[Value.bool b, .slice A n c, .int .i64 x])[o]? ≠ some (.int .u32 m) := by
  intro o m; rcases o with _ | _ | _ | o <;> simp
set_option maxHeartbeats 1000000 in
set_option maxRecDepth 100000 in
theorem none_any (g : Nat) (k : Int) (w : World) (hc : w.cell? ⟨g, 0, none⟩ = some (.int .i64 k)) (hg : g < w.heap.size) :
    Calls Tryd.prog 58 #[.pointer (some ⟨g, 0, none⟩)] w fun e w' => e = .returned (.tuple #[.agg #[.bool false, .slice none 0 0, .int .i64 0], .int .i64 k]) ∧ Below w.heap.size w w' := by
  go_enter Tryd.func58, Tryd.ntmps58
  go_wp2
  go_region
  all_goals go_wp2
  all_goals
    refine bodyPost_ret (v := .tuple #[.agg #[.bool false, .slice none 0 0, .int .i64 0], .int .i64 k]) (by simp [results, Tryd.results58, go_sem]) rfl ⟨rfl, ?_⟩
    exact below_drew (below1 _ _)
set_option maxHeartbeats 2000000 in
set_option maxRecDepth 100000 in
theorem answer_yes (g : Nat) (A : Option Addr) (c : Nat) (s : Bool) (m x : Int) (w : World) (hc : w.cell? ⟨g, 0, none⟩ = some (.int .i64 0)) (hg : g < w.heap.size) (h : Dg w A c (digs m.natAbs)) (hl : (digs m.natAbs).length ≤ 1000000) (hq : inR m x = true) :
    Calls Tryd.prog 59 #[.pointer (some ⟨g, 0, none⟩), .agg #[.bool s, .slice A (digs m.natAbs).length c, .int .i64 x]] w fun e w' =>
      e = .returned (.tuple #[.agg #[.bool s, .slice A (digs m.natAbs).length (digs m.natAbs).length, .int .i64 x], .int .i64 0]) ∧ Dg w' A (digs m.natAbs).length (digs m.natAbs) ∧ Below w.heap.size w w' := by
  have HI := Lib.hid (fun W (hW : Dg W A c (digs m.natAbs)) => inRange_any A c s m x W hW true hq hl)
  have HO1 := Lib.hid (off_old h (Nat.le_refl _))
  have HO2 := Lib.hid (off_old h (Nat.le_succ _))
  generalize digs m.natAbs = xs at *
  have hxc := h.1
  clear hq hl
  go_enter Tryd.func59, Tryd.ntmps59
  go_wp2_with fail
  obtain ⟨W, hW⟩ : ∃ W : World, W = ((w.alloc (.cells #[.bool s, .slice A xs.length c, .int .i64 x] 26)).alloc (.cells #[.bool false, .slice none 0 0, .int .i64 0] 26)) := ⟨_, rfl⟩
  rw [← hW]
  have HB0 := Lib.hid (show Below w.heap.size w W by rw [hW]; exact below2 w _ _)
  have HR1 := Lib.hid (show W.heap[w.heap.size]? = some (.cells #[.bool s, .slice A xs.length c, .int .i64 x] 26 (0, 0)) by rw [hW]; exact heap_alloc2_old _ _ _)
  have HR2 := Lib.hid (show W.heap[w.heap.size + 1]? = some (.cells #[.bool false, .slice none 0 0, .int .i64 0] 26 (0, 0)) by rw [hW]; exact heap_alloc2_new _ _ _)
  have hsz : w.heap.size + 2 = W.heap.size := by rw [hW]; simp
  have HZ := Lib.hid hsz
  have hg1 : g < W.heap.size := by omega
  have hgc := Lib.hid ((HB0.out.cell (p := ⟨g, 0, none⟩) hg).trans hc)
  have TN := Lib.hid (fun V (hV : Below W.heap.size W V) => tell_no g 0 4 false V ((hV.cell (p := ⟨g, 0, none⟩) hg1).trans hgc.out) (.inl rfl))
  have FN := Lib.hid (fun V (hV : Below W.heap.size W V) => fails_any g 0 false V ((hV.cell (p := ⟨g, 0, none⟩) hg1).trans hgc.out) rfl)
  have H1 := Lib.hid (h.below HB0.out)
  have f0 := cell_of_row W _ 0 _ _ _ HR1.out
  have f1 := cell_of_row W _ 1 _ _ _ HR1.out
  have f2 := cell_of_row W _ 2 _ _ _ HR1.out
  simp only [List.getElem?_toArray, List.getElem?_cons_zero, List.getElem?_cons_succ] at f0 f1 f2
  have s1 : w.heap.size < W.heap.size := by omega
  have s2 : w.heap.size + 1 < W.heap.size := by omega
  clear hW hsz hc hg h
  have KD := Lib.hid (bd0 W)
  go_region_held3 (fun w' => ∀ b o, b < W.heap.size → w'.cell? ⟨b, o, none⟩ = W.cell? ⟨b, o, none⟩)
    (first | with_reducible exact (bcell KD.out).1 | with_reducible exact (bcell K1.out).1)
    (first
      | (go_at_call 39; (with_reducible refine (HI.out _ (H1.out.below KD.out)).mono ?_); rintro e w1 ⟨rfl, hb⟩; (have K1 := Lib.hid (KD.out.trans (hb.mono KD.out.size))); clear hb)
      | (go_at_call 66; (with_reducible refine (TN.out _ K1.out).mono ?_); rintro e w2 ⟨rfl, rfl⟩))
  rename_i hHeld
  clear f0 f1 f2 hHeld
  go_wp2_with fail
  refine (FN.out _ K1.out).mono ?_
  rintro e w2 ⟨rfl, rfl⟩
  have R1 := Lib.hid (cells_of HR1.out K1.out)
  have R2 := Lib.hid (cells_of HR2.out K1.out)
  have f0 := cell_of_row w1 _ 0 _ _ _ R1.out
  have f1 := cell_of_row w1 _ 1 _ _ _ R1.out
  have f2 := cell_of_row w1 _ 2 _ _ _ R1.out
  have z0 := frozen_of_row w1 _ 0 _ _ R1.out
  have z1 := frozen_of_row w1 _ 1 _ _ R1.out
  have z2 := frozen_of_row w1 _ 2 _ _ R1.out
  have r0 := cell_of_row w1 _ 0 _ _ _ R2.out
  have r1 := cell_of_row w1 _ 1 _ _ _ R2.out
  have r2 := cell_of_row w1 _ 2 _ _ _ R2.out
  have y0 := frozen_of_row w1 _ 0 _ _ R2.out
  have y1 := frozen_of_row w1 _ 1 _ _ R2.out
  have y2 := frozen_of_row w1 _ 2 _ _ R2.out
  simp only [List.getElem?_toArray, List.getElem?_cons_zero, List.getElem?_cons_succ] at f0 f1 f2 r0 r1 r2
  go_wp2_with fail
  refine (clip_any A xs.length c hxc _).mono ?_
  rintro e w2 ⟨rfl, rfl⟩
  go_wp2
  refine bodyPost_ret (v := .tuple #[.agg #[.bool s, .slice A xs.length xs.length, .int .i64 x], .int .i64 0]) (by simp [results, Tryd.results59, go_sem, f0, f1, f2, r0, r1, r2]) rfl ⟨rfl, ?_, ?_⟩
  · exact ((((((H1.out.below K1.out).short).set_off HO1.out _ _).set_off HO2.out _ _).set_off HO2.out _ _).set_off HO2.out _ _)
  · exact (((((HB0.out.trans (K1.out.mono HB0.out.size)).setCell (by simp) _).setCell (by simp) _).setCell (by simp) _).setCell (by simp) _)
end Go.Proofs.YtaciohjobenipaaDoor
end

section
/-
  dyad.begin: are they right?
-/
namespace Go.Proofs.YtaciohjobenipaaDoor
open Go.RowKit
set_option linter.unusedSimpArgs false
set_option linter.unusedVariables false
/-- What went wrong with the first k of some numbers. -/
def wrong (R : Nat → Bool) : Nat → Int
  | 0 => 0
  | k + 1 => if R k = false ∧ wrong R k = 0 then 1 else wrong R k
theorem wrong_bd (R : Nat → Bool) : ∀ k, wrong R k = 0 ∨ wrong R k = 1
  | 0 => .inl rfl
  | k + 1 => by
    unfold wrong
    split
    · exact .inr rfl
    · exact wrong_bd R k
/-- Numbers in a row of cells. -/
def DyRow (w : World) (b n : Nat) (S : Nat → Bool) (A : Nat → Option Addr) (C : Nat → Nat) (X : Nat → List Nat) (E : Nat → Int) : Prop :=
  ∀ i, i < n → w.cell? ⟨b, i * 3, none⟩ = some (.bool (S i)) ∧ w.cell? ⟨b, i * 3 + 1, none⟩ = some (.slice (A i) (X i).length (C i)) ∧ w.cell? ⟨b, i * 3 + 2, none⟩ = some (.int .i64 (E i)) ∧ Dg w (A i) (C i) (X i)
set_option maxHeartbeats 2000000 in
set_option maxRecDepth 100000 in
theorem begin_any (b n c : Nat) (S : Nat → Bool) (A : Nat → Option Addr) (C : Nat → Nat) (X : Nat → List Nat) (E : Nat → Int) (R : Nat → Bool) (w : World) (hb : b < w.heap.size) (hrow : DyRow w b n S A C X E) (hR : ∀ i, i < n → dyR (S i) (X i) (E i) = R i) (hX : ∀ i, i < n → (X i).length ≤ 9223372036854775807) (hn : n ≤ 16) (hc : n ≤ c) :
    Calls Tryd.prog 56 #[.slice (some ⟨b, 0, none⟩) n c] w fun e w' => e = .returned (.agg #[.int .i64 (wrong R n)]) ∧ Below w.heap.size w w' := by
  have H := Lib.hid hrow
  have HR := Lib.hid hR
  have HX := Lib.hid hX
  have HC := Lib.hid hc
  clear hrow hR hX hc
  go_enter Tryd.func56, Tryd.ntmps56
  go_wp2
  go_loopw [8] (fun i wr => ∃ k : Nat, k ≤ n ∧ i = .int .i64 k ∧ Hid (Below w.heap.size w wr) ∧ Hid (wr.heap[w.heap.size]? = some (.cells #[.int .i64 0] 66 (0, 0))) ∧ Hid (wr.heap[w.heap.size + 1]? = some (.cells #[.int .i64 (wrong R k)] 66 (0, 0)))) (fun i _ => n - (intOf i).toNat)
  case atStart => exact ⟨0, Nat.zero_le _, rfl, Lib.hid (below2 _ _ _), Lib.hid (heap_alloc2_old _ _ _), Lib.hid (heap_alloc2_new _ _ _)⟩
  case round =>
    obtain ⟨k, hk, rfl, HB, H1, H2⟩ := hrel
    by_cases hlt : k < n
    · obtain ⟨c0, c1, c2, hd⟩ := H.out k hlt
      have g0 := (HB.out.cell (p := ⟨b, k * 3, none⟩) hb).trans c0
      have g1 := (HB.out.cell (p := ⟨b, k * 3 + 1, none⟩) hb).trans c1
      have g2 := (HB.out.cell (p := ⟨b, k * 3 + 2, none⟩) hb).trans c2
      have HD := Lib.hid (hd.below HB.out)
      have hsz := heap_lt H2.out
      clear c0 c1 c2 hd
      go_wp2_with fail
      refine (dright_any (A k) (C k) (S k) (X k) (E k) _ (HD.out.below (below1 wr (.cells #[.bool (S k), .slice (A k) (X k).length (C k), .int .i64 (E k)] 26))) (R k) (HR.out k hlt) (HX.out k hlt)).mono ?_
      rintro e w1 ⟨rfl, hb1⟩
      have K1 := Lib.hid ((below1 wr (.cells #[.bool (S k), .slice (A k) (X k).length (C k), .int .i64 (E k)] 26)).trans (hb1.mono (by simp)))
      clear hb1 g0 g1 g2
      have H1' := Lib.hid (cells_of H1.out K1.out)
      have H2' := Lib.hid (cells_of H2.out K1.out)
      have HB1 := Lib.hid (HB.out.trans (K1.out.mono HB.out.size))
      have r0 := cell_of_row w1 _ 0 _ _ _ H2'.out
      have z0 := frozen_of_row w1 _ 0 _ _ H2'.out
      simp only [List.getElem?_toArray, List.getElem?_cons_zero] at r0
      by_cases hw : R k = false ∧ wrong R k = 0
      · have HW := Lib.hid (show wrong R (k + 1) = 1 by rw [wrong, if_pos hw])
        rw [hw.2] at r0
        rw [hw.1]
        have TY := Lib.hid (tell_yes (w.heap.size + 1) 1 w1 r0 z0)
        clear hw r0 z0
        go_wp2_with fail
        refine TY.out.mono ?_
        rintro e w2 ⟨rfl, rfl⟩
        go_wp2
        go_roundw
        case rel =>
          refine ⟨k + 1, by omega, by go_num, Lib.hid (HB1.out.setCell (by simp) _), Lib.hid ?_, Lib.hid ?_⟩
          · rw [heap_setCell_other _ _ _ _ (by simp)]; exact H1'.out
          · rw [HW.out]; exact heap_setCell_same _ _ 0 _ _ _ H2'.out
        case measure => simp [intOf]; omega
      · have HW := Lib.hid (show wrong R (k + 1) = wrong R k by rw [wrong, if_neg hw])
        have TN := Lib.hid (tell_no (w.heap.size + 1) (wrong R k) 1 (!R k) w1 r0 (by
          rcases h1 : R k
          · right
            have h2 : ¬ wrong R k = 0 := fun h2 => hw ⟨h1, h2⟩
            simpa using h2
          · left; rfl))
        clear hw r0 z0
        go_wp2_with fail
        refine TN.out.mono ?_
        rintro e w2 ⟨rfl, rfl⟩
        go_wp2
        go_roundw
        case rel =>
          refine ⟨k + 1, by omega, by go_num, HB1, H1', Lib.hid ?_⟩
          rw [HW.out]; exact H2'.out
        case measure => simp [intOf]; omega
    · obtain rfl : k = n := by omega
      have f0 := cell_of_row wr _ 0 _ _ _ H1.out
      have r0 := cell_of_row wr _ 0 _ _ _ H2.out
      have z0 := frozen_of_row wr _ 0 _ _ H1.out
      simp only [List.getElem?_toArray, List.getElem?_cons_zero, List.getElem?_cons_succ] at f0 r0
      go_wp2
      refine bodyPost_ret (v := .agg #[.int .i64 (wrong R k)]) (by simp [results, Tryd.results56, go_sem, f0]) rfl ⟨rfl, ?_⟩
      exact HB.out.setCell (by simp) _
end Go.Proofs.YtaciohjobenipaaDoor
end

section
/-
  append(own, digits...), whatever memory holds the digits.
-/
namespace Go.Proofs.YtaciohjobenipaaDoor
open Go.RowKit
theorem run_append_nilcap {P : Program} {w : World} (base : Nat) (t ty e : TypeId) (i : TypeInfo) (size c : Nat) (ht : P.underlying t = some (.slice e)) (hi : P.info? e = some i)
    (v : Value) (n : Nat) (xs : List Value) (hown : w.ownsRow base e size v n xs) : (Builtin.append_ #[t, t] ty #[v, .slice none 0 c]).run P w = .ok v w := by
  rcases hown.2 with ⟨rfl, rfl⟩ | ⟨g, cap, cur, rfl, _, _, hnc, _⟩
  · simp [Builtin.append_, run_underlying ht, sizeOf, typeInfo, hi, Builtin.lenOf, Builtin.firstCells]
  · simp [Builtin.append_, run_underlying ht, sizeOf, typeInfo, hi, Builtin.lenOf, Builtin.firstCells, hnc, storeCells]
theorem wpList_append_dg {w : World} {ops : Array Oper} {rest : List Oper} {o : Oper} {a : Act} {Q : Exit → Act → World → Prop} (hgd : o.guard = none) (s x : Operand)
    (ho : o.op = .call { callee := .builtin .append, args := #[s, x], argTypes := #[22, 22] }) (base : Nat) (v : Value) (n : Nat) (zs ys : List Nat) (B : Option Addr) (d m : Nat)
    (hs : a.eval s = v) (hown : w.ownsRow base 52 1 v n (cells zs)) (hD : Dg w B d ys) (hm : m = ys.length) (hx : a.eval x = .slice B m d) (hb : n + m ≤ 1099511627776) (hbase : base ≤ w.heap.size)
    (h : ∀ v' w', w'.ownsRow base 52 1 v' (n + m) (cells (zs ++ ys)) → w.grownBy w' v.ownBlock → wpList Tryd.prog ops Q rest (a.put o.dst v') w') : wpList Tryd.prog ops Q (o :: rest) a w := by
  obtain ⟨i0, hi, hz0, hz1, hz2⟩ := info_parts elem_info
  have ec : cells (zs ++ ys) = cells zs ++ cells ys := by simp [cells]
  subst hm
  rcases B with _ | A
  · have h0 : ys = [] := by
      rcases Nat.eq_zero_or_pos ys.length with h0 | h0
      · exact List.eq_nil_of_length_eq_zero h0
      · obtain ⟨b, off, e, _⟩ := hD.2.2 h0
        cases e
    subst h0
    refine wpList_plain hgd fun K hK => ?_
    have hrun := run_append_nilcap (P := Tryd.prog) (w := w) base 22 o.type 52 i0 1 d Tryd.underlying22 hi v n (cells zs) hown
    unfold Oper.wp
    simp at hx
    simp [execOp, ho, resolve, invoke, builtin, hs, hx, hrun, Result.andThen]
    exact hK _ _ (h v w (by simpa using hown) (World.grownBy.refl _ _))
  · refine wpList_append_own _ hgd s x 22 ho base 52 i0 (.int .u32 0) 1 4 Tryd.underlying22 hi hz0 hz1 hz2 rfl (by decide) v n (cells zs) hs hown A ys.length d (cells ys) hx (by simp [cells]) (fun j u hj => dg_cell hD hj) (fun u hu => ?_) (by unfold maxLen; omega) (by omega) hbase fun v' w' h1 h2 _ => h v' w' (by rw [ec]; exact h1) h2
    unfold cells at hu; obtain ⟨x, _, rfl⟩ := List.mem_map.1 hu; rfl
end Go.Proofs.YtaciohjobenipaaDoor
end

section
/-
  dyad.zeros, lift, odd.
-/
namespace Go.Proofs.YtaciohjobenipaaDoor
open Go.RowKit
set_option linter.unusedSimpArgs false
set_option linter.unusedVariables false
/-- The first digit that is not 0. -/
theorem low_ex : ∀ (xs : List Nat), val xs ≠ 0 → ∃ i, i < xs.length ∧ xs[i]?.getD 0 ≠ 0 ∧ ∀ j, j < i → xs[j]?.getD 0 = 0 := by
  intro xs
  induction xs with
  | nil => intro h; exact absurd rfl h
  | cons x r ih =>
    intro h
    by_cases hx : x = 0
    · obtain ⟨i, h1, h2, h3⟩ := ih (by intro h0; apply h; simp only [val]; omega)
      refine ⟨i + 1, by simp; omega, by simpa using h2, fun j hj => ?_⟩
      rcases j with _ | j
      · simpa using hx
      · simpa using h3 j (by omega)
    · exact ⟨0, by simp, by simpa using hx, fun j hj => by omega⟩
set_option maxHeartbeats 2000000 in
set_option maxRecDepth 100000 in
theorem zeros_any (A : Option Addr) (c : Nat) (xs : List Nat) (w : World) (h : Dg w A c xs) (hv : val xs ≠ 0) (hl : xs.length ≤ 1000000) (hT : T32 w) :
    Calls Tryd.prog 78 #[.slice A xs.length c] w fun e w' => e = .returned (.int .i64 (tz (val xs) : Nat)) ∧ w = w' := by
  obtain ⟨i, hi, hne, hz⟩ := low_ex xs hv
  have HV := Lib.hid (tz_val xs i hz hi hne h.2.1)
  have hx := getD_lt h.2.1 i
  have HT := Lib.hid (tz32_any _ hne hx w hT)
  have htl := tz_lt hne (show xs[i]?.getD 0 < 2 ^ 32 by omega)
  obtain ⟨b, off, hA, hb, hc⟩ := h.2.2 (by omega)
  have hcap := h.1
  have HC := Lib.hid hc
  have HZ := Lib.hid hz
  have HN := Lib.hid hne
  have ci := hc i hi
  generalize xs[i]?.getD 0 = d at *
  obtain ⟨t, ht⟩ : ∃ t : Nat, tz d = t := ⟨_, rfl⟩
  rw [ht] at HV htl HT
  have HH := Lib.hid ht
  clear h hv hc hz hne hT ht
  subst hA
  go_enter Tryd.func78, Tryd.ntmps78
  go_wp2
  go_loop [3] (fun n => ∃ k : Nat, k ≤ i ∧ n = .int .i64 k) (fun n => i - (intOf n).toNat)
  case atStart => exact ⟨0, by omega, rfl⟩
  case round =>
    obtain ⟨k, hk, rfl⟩ := hrel
    have hkl : k < xs.length := by omega
    by_cases hlt : k < i
    · have ck := HC.out k hkl
      rw [HZ.out k hlt] at ck
      clear ci
      go_wp2
      go_round
      case rel => exact ⟨k + 1, by omega, by go_num⟩
      case measure => simp [intOf]; omega
    · obtain rfl : k = i := by omega
      have hdn : ((d : Int) == 0) = false := by have := HN.out; simp; omega
      go_wp2_with fail
      refine HT.out.mono ?_
      rintro e w' ⟨rfl, rfl⟩
      go_wp2
      go_ret
      exact ⟨ret_i (by rw [HV.out]; push_cast; omega), rfl⟩
theorem digs_shift {x : Nat} (h : x ≠ 0) : ∀ k : Nat, digs (x * 4294967296 ^ k) = List.replicate k 0 ++ digs x
  | 0 => by simp
  | k + 1 => by
    have hp : 0 < x * 4294967296 ^ k := Nat.mul_pos (by omega) (Nat.pow_pos (by omega))
    have e : x * 4294967296 ^ (k + 1) = x * 4294967296 ^ k * 4294967296 := by rw [Nat.pow_succ, Nat.mul_assoc]
    rw [e, digs_pos (by omega), Nat.mul_mod_left, Nat.mul_div_cancel _ (by omega), digs_shift h k, List.replicate_succ]
    rfl
theorem pow_parts2 (x n : Nat) : x * 2 ^ n = x * 2 ^ (n % 32) * 4294967296 ^ (n / 32) := by
  rw [show (4294967296 : Nat) = 2 ^ 32 from rfl, ← Nat.pow_mul, Nat.mul_assoc, ← Nat.pow_add, show n % 32 + 32 * (n / 32) = n by omega]
theorem ok_zeros2 (k : Nat) {xs : List Nat} (h : ok32 xs) : ok32 (List.replicate k 0 ++ xs) := by
  intro y hy
  rcases List.mem_append.1 hy with h1 | h1
  · have := (List.mem_replicate.1 h1).2; omega
  · exact h y h1
set_option maxHeartbeats 2000000 in
set_option maxRecDepth 100000 in
theorem lift_any (A : Option Addr) (c : Nat) (xs : List Nat) (n : Nat) (w : World) (h : Dg w A c xs) (hl : xs.length ≤ 500000) (hn : n ≤ 1000000) :
    Calls Tryd.prog 72 #[.slice A xs.length c, .int .i64 n] w fun e w' => ∃ A' c', e = .returned (.slice A' (digs (val xs * 2 ^ n)).length c') ∧ Dg w' A' c' (digs (val xs * 2 ^ n)) ∧ Below w.heap.size w w' := by
  have hk0 := h.2.1
  have HS := Lib.hid (shl_any A c xs (n % 32) w h (by omega) (by omega))
  rw [show ((n % 32 : Nat) : Int) = (n : Int) % 32 by omega] at HS
  clear h
  by_cases hlt : n < 32
  · have e : n % 32 = n := by omega
    rw [e] at HS
    have d1 : decide ((n : Int) < 32) = true := by simp; omega
    clear e hlt
    go_enter Tryd.func72, Tryd.ntmps72
    go_wp2_with fail
    refine HS.out.mono ?_
    rintro e w1 ⟨A1, c1, rfl, hd, hb⟩
    have K := Lib.hid (And.intro hd hb)
    clear hd hb
    go_wp2
    go_ret
    exact ⟨A1, c1, rfl, K.out.1, K.out.2⟩
  · have d1 : decide ((n : Int) < 32) = false := by simp; omega
    have hp := pow_parts2 (val xs) n
    have hly0 := digs_mul_len (val xs) (2 ^ (n % 32))
    have hly1 := digs_len_lt (m := 1) (n := 2 ^ (n % 32)) (by
      have : 2 ^ (n % 32) < 2 ^ 32 := Nat.pow_lt_pow_right (by omega) (by omega)
      omega)
    have hly2 := digs_len_mono (val xs) _ (Nat.le_refl _)
    have hly3 : (digs (val xs * 2 ^ (n % 32))).length ≤ 1000000 := by
      have := digs_len_le hk0
      omega
    clear hly0 hly1 hly2
    generalize val xs * 2 ^ (n % 32) = y at *
    by_cases hy : y = 0
    · have e0 : val xs * 2 ^ n = 0 := by rw [hp, hy, Nat.zero_mul]
      rw [e0]
      rw [hy] at HS
      have d2 : (((digs 0).length : Int) == 0) = true := by rw [digs_zero]; rfl
      clear hp hy e0 hlt hly3
      generalize digs 0 = zs at *
      go_enter Tryd.func72, Tryd.ntmps72
      go_wp2_with fail
      refine HS.out.mono ?_
      rintro e w1 ⟨A1, c1, rfl, hd, hb⟩
      have K := Lib.hid (And.intro hd hb)
      clear hd hb
      go_wp2
      go_ret
      exact ⟨A1, c1, rfl, K.out.1, K.out.2⟩
    · have HD := Lib.hid (digs_shift hy (n / 32))
      rw [← hp] at HD
      have d2 : (((digs y).length : Int) == 0) = false := beq_eq_false_iff_ne.2 (by have : (digs y).length ≠ 0 := fun e => hy (digs_nil.1 e); omega)
      have hk := ok_digs y
      have HK := Lib.hid (ok_zeros2 (n / 32) hk)
      have hmk := run_make_row' (P := Tryd.prog) 22 52 (.int .u32 0) 4 Tryd.underlying22 elem_info rfl .i64 .i64 (n / 32) (by omega) (by omega)
      rw [show ((n / 32 : Nat) : Int) = (n : Int) / 32 by omega] at hmk
      clear hp hy hk hlt
      generalize val xs * 2 ^ n = v at *
      generalize digs y = zs at *
      go_enter Tryd.func72, Tryd.ntmps72
      go_wp2_with fail
      refine HS.out.mono ?_
      rintro e w1 ⟨A1, c1, rfl, hd, hb⟩
      have HO := Lib.hid (own_zeros (w := w1) (e := 52) (n / 32) (by unfold maxLen; omega))
      have K := Lib.hid (And.intro hd hb)
      clear hd hb
      go_wp2_with (at_builtin; refine wpList_append_dg rfl _ _ rfl w1.heap.size _ (n / 32) (List.replicate (n / 32) 0) zs A1 c1 zs.length rfl HO.out (K.out.1.below (below1 _ _)) rfl rfl (by omega) (by simp) ?_)
      intro v' w6 hown hgrow
      obtain ⟨A6, c6, hv, hd6⟩ := dg_of_own hown HK.out
      have hb6 := ((below1 w1 (.cells (madeCells #[.int .u32 0] (n / 32)) 52))).grown hgrow (by simp) (by intro k hk; simp [Value.ownBlock] at hk; omega)
      have K2 := Lib.hid (And.intro hd6 (K.out.2.trans (hb6.mono K.out.2.size)))
      subst hv
      clear hown hd6 hgrow hb6
      go_wp2
      go_ret
      refine ⟨A6, c6, ?_, ?_, K2.out.2⟩
      · rw [HD.out]; rfl
      · rw [HD.out]; exact K2.out.1
end Go.Proofs.YtaciohjobenipaaDoor
end

section
/-
  dyad.odd: the form of a number.
-/
namespace Go.Proofs.YtaciohjobenipaaDoor
open Go.RowKit
set_option linter.unusedSimpArgs false
set_option linter.unusedVariables false
/-- An answer: M times 2^E. -/
def Yr (M E : Int) (w : World) (e : Ending) (w' : World) : Prop := ∃ A c, e = .returned (.agg #[.bool (decide (M < 0)), .slice A (digs M.natAbs).length c, .int .i64 E]) ∧ Dg w' A c (digs M.natAbs) ∧ Below w.heap.size w w'
theorem yr_mk {M E : Int} {w w' : World} {A : Option Addr} {c : Nat} {s : Bool} {x : Nat} {y : Int} (hx : x = M.natAbs) (hs : s = decide (M < 0)) (hy : y = E) (hd : Dg w' A c (digs x)) (hb : Below w.heap.size w w') :
    Yr M E w (.returned (.agg #[.bool s, .slice A (digs x).length c, .int .i64 y])) w' := by
  subst hx hs hy; exact ⟨A, c, rfl, hd, hb⟩
theorem nm_sg {s : Bool} {x : Nat} (h : x ≠ 0) : (nm (sg s x)).natAbs = x / 2 ^ tz x ∧ s = decide (nm (sg s x) < 0) ∧ ∀ e, nx (sg s x) e = e + tz x := by
  have ha := sg_abs s x
  have h0 : sg s x ≠ 0 := by intro e; rw [e] at ha; omega
  have ⟨_, _, c⟩ := nm_back h0
  rw [ha] at c
  refine ⟨c, ?_, fun e => ?_⟩
  · rw [nm_neg_iff]; unfold sg; cases s
    · simp
    · simp; omega
  · unfold nx; rw [if_neg h0, ha]
set_option maxHeartbeats 2000000 in
set_option maxRecDepth 100000 in
theorem odd_any (A : Option Addr) (c : Nat) (s : Bool) (x : Nat) (y M E : Int) (w : World) (h : Dg w A c (digs x)) (hl : (digs x).length ≤ 500000) (hT : T32 w) (hy : -1000000000 ≤ y ∧ y ≤ 1000000000) (hM : nm (sg s x) = M) (hE : nx (sg s x) y = E) :
    Calls Tryd.prog 37 #[.agg #[.bool s, .slice A (digs x).length c], .int .i64 y] w fun e w' => Yr M E w e w' := by
  by_cases h0 : x = 0
  · have d0 : (((digs x).length : Int) == 0) = true := by rw [h0, digs_zero]; rfl
    have HM := Lib.hid (show M = 0 ∧ E = 0 by rw [← hM, ← hE, h0]; unfold sg; cases s <;> exact ⟨rfl, rfl⟩)
    clear h0 h hM hE hT
    go_enter Tryd.func37, Tryd.ntmps37
    go_wp2
    refine bodyPost_ret (v := .agg #[.bool false, .slice none 0 0, .int .i64 0]) (by simp [results, Tryd.results37, go_sem]) rfl ?_
    have e1 := HM.out.1
    have e2 := HM.out.2
    subst e1 e2
    refine ⟨none, 0, ?_, ?_, below2 _ _ _⟩
    · show _ = Ending.returned (.agg #[.bool false, .slice none (digs 0).length 0, .int .i64 0])
      rw [digs_zero]; rfl
    · show Dg _ none 0 (digs 0)
      rw [digs_zero]; exact Dg.nil_ _ _
  · have d0 : (((digs x).length : Int) == 0) = false := beq_eq_false_iff_ne.2 (by have : (digs x).length ≠ 0 := fun e => h0 (digs_nil.1 e); omega)
    have HN := Lib.hid (nm_sg (s := s) h0)
    rw [hM] at HN
    have HE := Lib.hid (hE ▸ HN.out.2.2 y)
    have HM := Lib.hid HN.out.1
    have HS := Lib.hid HN.out.2.1
    have HZ := Lib.hid (fun W (hW : Dg W A c (digs x)) (hT : T32 W) => zeros_any A c (digs x) W hW (by rw [val_digs]; exact h0) (by omega) hT)
    rw [val_digs] at HZ
    have htl := tz_lt (n := x) (k := 32 * (digs x).length) h0 (by have := val_lt (ok_digs x); rw [val_digs] at this; rw [Nat.pow_mul]; exact this)
    have HR := Lib.hid (fun W (hW : Dg W A c (digs x)) => shr_any A c (digs x) (tz x) W hW (by omega) (by omega))
    rw [val_digs] at HR
    have H := Lib.hid h
    have HT := Lib.hid hT
    have HX0 := Lib.hid h0
    generalize tz x = k at *
    obtain ⟨y0, y1⟩ := hy
    have hk : k ≤ 16000000 := by omega
    clear h0 h hM hE hT htl HN
    by_cases hk0 : k = 0
    · have d1 : decide (0 < k) = false := by rw [hk0]; rfl
      have HK := Lib.hid hk0
      clear hk0
      go_enter Tryd.func37, Tryd.ntmps37
      go_wp2_with fail
      refine (HZ.out _ (H.out.below (below2 w _ _)) (t32_below HT.out (below2 w _ _))).mono ?_
      rintro e w1 ⟨rfl, rfl⟩
      go_wp2
      refine bodyPost_ret (v := .agg #[.bool s, .slice A (digs x).length c, .int .i64 y]) (by simp [results, Tryd.results37, go_sem]) rfl ?_
      refine yr_mk ?_ HS.out ?_ (H.out.below (below2 _ _ _)) (below2 _ _ _)
      · rw [HM.out, HK.out]; simp
      · rw [HE.out, HK.out]; simp
    · have d1 : decide (0 < k) = true := by simp; omega
      have hyk : wrap64 (y + (k : Int)) = y + (k : Int) := IntWalk.wrap64_in _ ⟨by omega, by omega⟩
      clear hk0
      go_enter Tryd.func37, Tryd.ntmps37
      go_wp2_with fail
      refine (HZ.out _ (H.out.below (below2 w _ _)) (t32_below HT.out (below2 w _ _))).mono ?_
      rintro e w1 ⟨rfl, rfl⟩
      go_wp2_with fail
      refine (HR.out _ (H.out.below (below2 w _ _))).mono ?_
      rintro e w1 ⟨A1, c1, rfl, hd, hb⟩
      have f0 := row_cell (heap_alloc2_old w (.cells #[.bool s, .slice A (digs x).length c] 24) (.cells #[.bool false, .slice none 0 0, .int .i64 0] 26)) hb 0
      have f1 := row_cell (heap_alloc2_old w (.cells #[.bool s, .slice A (digs x).length c] 24) (.cells #[.bool false, .slice none 0 0, .int .i64 0] 26)) hb 1
      have z1 := row_frozen (heap_alloc2_old w (.cells #[.bool s, .slice A (digs x).length c] 24) (.cells #[.bool false, .slice none 0 0, .int .i64 0] 26)) hb 1
      have r0 := row_cell (heap_alloc2_new w (.cells #[.bool s, .slice A (digs x).length c] 24) (.cells #[.bool false, .slice none 0 0, .int .i64 0] 26)) hb 0
      have r1 := row_cell (heap_alloc2_new w (.cells #[.bool s, .slice A (digs x).length c] 24) (.cells #[.bool false, .slice none 0 0, .int .i64 0] 26)) hb 1
      have r2 := row_cell (heap_alloc2_new w (.cells #[.bool s, .slice A (digs x).length c] 24) (.cells #[.bool false, .slice none 0 0, .int .i64 0] 26)) hb 2
      have y0 := row_frozen (heap_alloc2_new w (.cells #[.bool s, .slice A (digs x).length c] 24) (.cells #[.bool false, .slice none 0 0, .int .i64 0] 26)) hb 0
      have y1 := row_frozen (heap_alloc2_new w (.cells #[.bool s, .slice A (digs x).length c] 24) (.cells #[.bool false, .slice none 0 0, .int .i64 0] 26)) hb 1
      have y2 := row_frozen (heap_alloc2_new w (.cells #[.bool s, .slice A (digs x).length c] 24) (.cells #[.bool false, .slice none 0 0, .int .i64 0] 26)) hb 2
      simp only [List.getElem?_toArray, List.getElem?_cons_zero, List.getElem?_cons_succ] at f0 f1 r0 r1 r2
      have HB := Lib.hid ((below2 w _ _).trans (hb.mono (by simp; omega)))
      have HO1 := Lib.hid (off_box (g := w.heap.size) hd ((below1 _ _).trans (hb.mono (by simp))) rfl noint2')
      have HO2 := Lib.hid (off_box (g := w.heap.size + 1) hd hb (by simp) noint3)
      have HD := Lib.hid hd
      clear hb hd
      go_wp2
      refine bodyPost_ret (v := .agg #[.bool s, .slice A1 (digs (x / 2 ^ k)).length c1, .int .i64 (y + k)]) (by simp [results, Tryd.results37, go_sem, f0, f1, r0, r1, r2]) rfl ?_
      refine yr_mk HM.out.symm HS.out HE.out.symm ?_ ?_
      · exact ((((HD.out.set_off HO1.out _ _).set_off HO2.out _ _).set_off HO2.out _ _).set_off HO2.out _ _)
      · exact ((((HB.out.setCell (by simp) _).setCell (by simp) _).setCell (by simp) _).setCell (by simp) _)
end Go.Proofs.YtaciohjobenipaaDoor
end

section
/-
  Words for walks by program: boxes and what is alive.
-/
namespace Go.Proofs.YtaciohjobenipaaDoor
open Go.RowKit
theorem row_c {w : World} {g i : Nat} {cs : Array Value} {T : TypeId} {fr : Nat × Nat} {v : Value} (h : w.heap[g]? = some (.cells cs T fr)) (hv : cs[i]? = some v) : w.cell? ⟨g, i, none⟩ = some v := (cell_of_row _ _ _ _ _ _ h).trans hv
theorem live_only {w0 w w' : World} {L : List (Option Addr × Nat × List Nat)} {g : Nat} {zs : Array Value} {T : TypeId} {fr : Nat × Nat} (hL : Live w0 w L) (ho : Only g w w') (hg : w.heap[g]? = some (.cells zs T fr)) (hz : ∀ (i : Nat) (n : Int), zs[i]? ≠ some (.int .u32 n)) (h0 : w0.heap.size ≤ g) : Live w0 w' L :=
  ⟨ho.below hL.1 h0, fun t ht => (hL.2 t ht).kept (ho.kept hg hz)⟩
theorem noint_int {A : Option Addr} {n c : Nat} {b : Bool} : ∀ (o : Nat) (m : Int), (#[Value.bool b, .slice A n c])[o]? ≠ some (.int .u32 m) := noint2'
theorem noint_re {x : Int} : ∀ (o : Nat) (m : Int), (#[Value.int .i64 x])[o]? ≠ some (.int .u32 m) := by
  intro o m; rcases o with _ | o <;> simp
theorem fin3 {w0 w : World} {L : List (Option Addr × Nat × List Nat)} {g : Nat} {zs : Array Value} {T : TypeId} {a b c : Value} (hL : Live w0 w L) (hg : w.heap[g]? = some (.cells zs T (0, 0))) (hz : ∀ (i : Nat) (n : Int), zs[i]? ≠ some (.int .u32 n)) (h0 : w0.heap.size ≤ g) :
    Live w0 (((w.setCell ⟨g, 0, none⟩ a).setCell ⟨g, 1, none⟩ b).setCell ⟨g, 2, none⟩ c) L := live_only hL ((((Only.refl g w).setCell 0 _).setCell 1 _).setCell 2 _) hg hz h0
theorem fin2 {w0 w : World} {L : List (Option Addr × Nat × List Nat)} {g : Nat} {zs : Array Value} {T : TypeId} {a b : Value} (hL : Live w0 w L) (hg : w.heap[g]? = some (.cells zs T (0, 0))) (hz : ∀ (i : Nat) (n : Int), zs[i]? ≠ some (.int .u32 n)) (h0 : w0.heap.size ≤ g) :
    Live w0 ((w.setCell ⟨g, 0, none⟩ a).setCell ⟨g, 1, none⟩ b) L := live_only hL (((Only.refl g w).setCell 0 _).setCell 1 _) hg hz h0
theorem keep_b {W w' : World} {g : Nat} (hb : Below W.heap.size W w') (hg : g < W.heap.size) : ∀ o, w'.cell? ⟨g, o, none⟩ = W.cell? ⟨g, o, none⟩ := fun o => hb.cell (p := ⟨g, o, none⟩) hg
theorem keep_set {W w' : World} {g r i : Nat} {v : Value} (h : ∀ o, w'.cell? ⟨g, o, none⟩ = W.cell? ⟨g, o, none⟩) (hne : g ≠ r) : ∀ o, (w'.setCell ⟨r, i, none⟩ v).cell? ⟨g, o, none⟩ = W.cell? ⟨g, o, none⟩ := fun o => by
  rw [World.cell?_setCell_other _ _ _ _ (by intro e; simp only [Addr.mk.injEq] at e; omega)]; exact h o
theorem sg_abs2 (z : Int) : sg (decide (z < 0)) z.natAbs = z := by
  unfold sg
  by_cases h : z < 0
  · rw [if_pos (by simpa using h)]; omega
  · rw [if_neg (by simpa using h)]; omega
theorem sg_dz (z : Int) : sg (decide (z < 0)) (val (digs z.natAbs)) = z := by rw [val_digs]; exact sg_abs2 z
/-- What is laid of a box: its cells, that none is frozen, where it lies. -/
theorem ly1 {w : World} {g : Nat} {T : TypeId} {a0 : Value} (h : w.heap[g]? = some (.cells #[a0] T (0, 0))) : w.cell? ⟨g, 0, none⟩ = some a0 ∧ w.frozen? ⟨g, 0, none⟩ = false ∧ g < w.heap.size := ⟨row_c (i := 0) h rfl, frozen_of_row _ _ 0 _ _ h, heap_lt h⟩
theorem ly2 {w : World} {g : Nat} {T : TypeId} {a0 a1 : Value} (h : w.heap[g]? = some (.cells #[a0, a1] T (0, 0))) : w.cell? ⟨g, 0, none⟩ = some a0 ∧ w.frozen? ⟨g, 0, none⟩ = false ∧ w.cell? ⟨g, 1, none⟩ = some a1 ∧ w.frozen? ⟨g, 1, none⟩ = false ∧ g < w.heap.size := ⟨row_c (i := 0) h rfl, frozen_of_row _ _ 0 _ _ h, row_c (i := 1) h rfl, frozen_of_row _ _ 1 _ _ h, heap_lt h⟩
theorem ly3 {w : World} {g : Nat} {T : TypeId} {a0 a1 a2 : Value} (h : w.heap[g]? = some (.cells #[a0, a1, a2] T (0, 0))) : w.cell? ⟨g, 0, none⟩ = some a0 ∧ w.frozen? ⟨g, 0, none⟩ = false ∧ w.cell? ⟨g, 1, none⟩ = some a1 ∧ w.frozen? ⟨g, 1, none⟩ = false ∧ w.cell? ⟨g, 2, none⟩ = some a2 ∧ w.frozen? ⟨g, 2, none⟩ = false ∧ g < w.heap.size := ⟨row_c (i := 0) h rfl, frozen_of_row _ _ 0 _ _ h, row_c (i := 1) h rfl, frozen_of_row _ _ 1 _ _ h, row_c (i := 2) h rfl, frozen_of_row _ _ 2 _ _ h, heap_lt h⟩
theorem ly4 {w : World} {g : Nat} {T : TypeId} {a0 a1 a2 a3 : Value} (h : w.heap[g]? = some (.cells #[a0, a1, a2, a3] T (0, 0))) : w.cell? ⟨g, 0, none⟩ = some a0 ∧ w.frozen? ⟨g, 0, none⟩ = false ∧ w.cell? ⟨g, 1, none⟩ = some a1 ∧ w.frozen? ⟨g, 1, none⟩ = false ∧ w.cell? ⟨g, 2, none⟩ = some a2 ∧ w.frozen? ⟨g, 2, none⟩ = false ∧ w.cell? ⟨g, 3, none⟩ = some a3 ∧ w.frozen? ⟨g, 3, none⟩ = false ∧ g < w.heap.size := ⟨row_c (i := 0) h rfl, frozen_of_row _ _ 0 _ _ h, row_c (i := 1) h rfl, frozen_of_row _ _ 1 _ _ h, row_c (i := 2) h rfl, frozen_of_row _ _ 2 _ _ h, row_c (i := 3) h rfl, frozen_of_row _ _ 3 _ _ h, heap_lt h⟩
theorem ly6 {w : World} {g : Nat} {T : TypeId} {a0 a1 a2 a3 a4 a5 : Value} (h : w.heap[g]? = some (.cells #[a0, a1, a2, a3, a4, a5] T (0, 0))) : w.cell? ⟨g, 0, none⟩ = some a0 ∧ w.frozen? ⟨g, 0, none⟩ = false ∧ w.cell? ⟨g, 1, none⟩ = some a1 ∧ w.frozen? ⟨g, 1, none⟩ = false ∧ w.cell? ⟨g, 2, none⟩ = some a2 ∧ w.frozen? ⟨g, 2, none⟩ = false ∧ w.cell? ⟨g, 3, none⟩ = some a3 ∧ w.frozen? ⟨g, 3, none⟩ = false ∧ w.cell? ⟨g, 4, none⟩ = some a4 ∧ w.frozen? ⟨g, 4, none⟩ = false ∧ w.cell? ⟨g, 5, none⟩ = some a5 ∧ w.frozen? ⟨g, 5, none⟩ = false ∧ g < w.heap.size := ⟨row_c (i := 0) h rfl, frozen_of_row _ _ 0 _ _ h, row_c (i := 1) h rfl, frozen_of_row _ _ 1 _ _ h, row_c (i := 2) h rfl, frozen_of_row _ _ 2 _ _ h, row_c (i := 3) h rfl, frozen_of_row _ _ 3 _ _ h, row_c (i := 4) h rfl, frozen_of_row _ _ 4 _ _ h, row_c (i := 5) h rfl, frozen_of_row _ _ 5 _ _ h, heap_lt h⟩
theorem ly12 {w : World} {g : Nat} {T : TypeId} {a0 a1 a2 a3 a4 a5 a6 a7 a8 a9 a10 a11 : Value} (h : w.heap[g]? = some (.cells #[a0, a1, a2, a3, a4, a5, a6, a7, a8, a9, a10, a11] T (0, 0))) : w.cell? ⟨g, 0, none⟩ = some a0 ∧ w.frozen? ⟨g, 0, none⟩ = false ∧ w.cell? ⟨g, 1, none⟩ = some a1 ∧ w.frozen? ⟨g, 1, none⟩ = false ∧ w.cell? ⟨g, 2, none⟩ = some a2 ∧ w.frozen? ⟨g, 2, none⟩ = false ∧ w.cell? ⟨g, 3, none⟩ = some a3 ∧ w.frozen? ⟨g, 3, none⟩ = false ∧ w.cell? ⟨g, 4, none⟩ = some a4 ∧ w.frozen? ⟨g, 4, none⟩ = false ∧ w.cell? ⟨g, 5, none⟩ = some a5 ∧ w.frozen? ⟨g, 5, none⟩ = false ∧ w.cell? ⟨g, 6, none⟩ = some a6 ∧ w.frozen? ⟨g, 6, none⟩ = false ∧ w.cell? ⟨g, 7, none⟩ = some a7 ∧ w.frozen? ⟨g, 7, none⟩ = false ∧ w.cell? ⟨g, 8, none⟩ = some a8 ∧ w.frozen? ⟨g, 8, none⟩ = false ∧ w.cell? ⟨g, 9, none⟩ = some a9 ∧ w.frozen? ⟨g, 9, none⟩ = false ∧ w.cell? ⟨g, 10, none⟩ = some a10 ∧ w.frozen? ⟨g, 10, none⟩ = false ∧ w.cell? ⟨g, 11, none⟩ = some a11 ∧ w.frozen? ⟨g, 11, none⟩ = false ∧ g < w.heap.size := ⟨row_c (i := 0) h rfl, frozen_of_row _ _ 0 _ _ h, row_c (i := 1) h rfl, frozen_of_row _ _ 1 _ _ h, row_c (i := 2) h rfl, frozen_of_row _ _ 2 _ _ h, row_c (i := 3) h rfl, frozen_of_row _ _ 3 _ _ h, row_c (i := 4) h rfl, frozen_of_row _ _ 4 _ _ h, row_c (i := 5) h rfl, frozen_of_row _ _ 5 _ _ h, row_c (i := 6) h rfl, frozen_of_row _ _ 6 _ _ h, row_c (i := 7) h rfl, frozen_of_row _ _ 7 _ _ h, row_c (i := 8) h rfl, frozen_of_row _ _ 8 _ _ h, row_c (i := 9) h rfl, frozen_of_row _ _ 9 _ _ h, row_c (i := 10) h rfl, frozen_of_row _ _ 10 _ _ h, row_c (i := 11) h rfl, frozen_of_row _ _ 11 _ _ h, heap_lt h⟩
theorem new1 (w : World) (o0 : Obj) : ∃ W : World, W = (w.alloc o0) ∧ Below w.heap.size w W ∧ Hid (W.heap[w.heap.size]? = some o0) :=
  ⟨_, rfl, ((Below.refl _ _).alloc (by simp <;> omega) _), Lib.hid (by have := heap_alloc_new w o0; simpa using this)⟩
theorem new2 (w : World) (o0 o1 : Obj) : ∃ W : World, W = ((w.alloc o0).alloc o1) ∧ Below w.heap.size w W ∧ Hid (W.heap[w.heap.size]? = some o0) ∧ Hid (W.heap[w.heap.size + 1]? = some o1) :=
  ⟨_, rfl, (((Below.refl _ _).alloc (by simp <;> omega) _).alloc (by simp <;> omega) _), Lib.hid (by have := heap_alloc_new w o0; rw [heap_alloc_old _ _ (by simp <;> omega)]; simpa using this), Lib.hid (by have := heap_alloc_new (w.alloc o0) o1; simpa using this)⟩
theorem new3 (w : World) (o0 o1 o2 : Obj) : ∃ W : World, W = (((w.alloc o0).alloc o1).alloc o2) ∧ Below w.heap.size w W ∧ Hid (W.heap[w.heap.size]? = some o0) ∧ Hid (W.heap[w.heap.size + 1]? = some o1) ∧ Hid (W.heap[w.heap.size + 1 + 1]? = some o2) :=
  ⟨_, rfl, ((((Below.refl _ _).alloc (by simp <;> omega) _).alloc (by simp <;> omega) _).alloc (by simp <;> omega) _), Lib.hid (by have := heap_alloc_new w o0; rw [heap_alloc_old _ _ (by simp <;> omega)]; rw [heap_alloc_old _ _ (by simp <;> omega)]; simpa using this), Lib.hid (by have := heap_alloc_new (w.alloc o0) o1; rw [heap_alloc_old _ _ (by simp <;> omega)]; simpa using this), Lib.hid (by have := heap_alloc_new ((w.alloc o0).alloc o1) o2; simpa using this)⟩
theorem new4 (w : World) (o0 o1 o2 o3 : Obj) : ∃ W : World, W = ((((w.alloc o0).alloc o1).alloc o2).alloc o3) ∧ Below w.heap.size w W ∧ Hid (W.heap[w.heap.size]? = some o0) ∧ Hid (W.heap[w.heap.size + 1]? = some o1) ∧ Hid (W.heap[w.heap.size + 1 + 1]? = some o2) ∧ Hid (W.heap[w.heap.size + 1 + 1 + 1]? = some o3) :=
  ⟨_, rfl, (((((Below.refl _ _).alloc (by simp <;> omega) _).alloc (by simp <;> omega) _).alloc (by simp <;> omega) _).alloc (by simp <;> omega) _), Lib.hid (by have := heap_alloc_new w o0; rw [heap_alloc_old _ _ (by simp <;> omega)]; rw [heap_alloc_old _ _ (by simp <;> omega)]; rw [heap_alloc_old _ _ (by simp <;> omega)]; simpa using this), Lib.hid (by have := heap_alloc_new (w.alloc o0) o1; rw [heap_alloc_old _ _ (by simp <;> omega)]; rw [heap_alloc_old _ _ (by simp <;> omega)]; simpa using this), Lib.hid (by have := heap_alloc_new ((w.alloc o0).alloc o1) o2; rw [heap_alloc_old _ _ (by simp <;> omega)]; simpa using this), Lib.hid (by have := heap_alloc_new (((w.alloc o0).alloc o1).alloc o2) o3; simpa using this)⟩
theorem gl0 {w v : World} {L : List (Option Addr × Nat × List Nat)} (h : Live w v L) : w.heap.size ≤ v.heap.size := by have := h.1.size; omega
theorem nl0 {w : World} {g : Nat} {o : Obj} (h : w.heap[g]? = some o) : g < w.heap.size := by have := heap_lt h; omega
theorem gl1 {w v : World} {L : List (Option Addr × Nat × List Nat)} (h : Live w v L) : w.heap.size ≤ v.heap.size + 1 := by have := h.1.size; omega
theorem nl1 {w : World} {g : Nat} {o : Obj} (h : w.heap[g]? = some o) : g < w.heap.size + 1 := by have := heap_lt h; omega
theorem gl2 {w v : World} {L : List (Option Addr × Nat × List Nat)} (h : Live w v L) : w.heap.size ≤ v.heap.size + 1 + 1 := by have := h.1.size; omega
theorem nl2 {w : World} {g : Nat} {o : Obj} (h : w.heap[g]? = some o) : g < w.heap.size + 1 + 1 := by have := heap_lt h; omega
theorem gl3 {w v : World} {L : List (Option Addr × Nat × List Nat)} (h : Live w v L) : w.heap.size ≤ v.heap.size + 1 + 1 + 1 := by have := h.1.size; omega
theorem nl3 {w : World} {g : Nat} {o : Obj} (h : w.heap[g]? = some o) : g < w.heap.size + 1 + 1 + 1 := by have := heap_lt h; omega
theorem co {w w' : World} {g : Nat} {cs : Array Value} {t : TypeId} {fr : Nat × Nat} (hg : Hid (w.heap[g]? = some (.cells cs t fr))) (hb : Below w.heap.size w w') : Hid (w'.heap[g]? = some (.cells cs t fr)) := Lib.hid (cells_of hg.out hb)
theorem ls {w v v' : World} {L : List (Option Addr × Nat × List Nat)} (h : Hid (Live w v L)) (hb : Below v.heap.size v v') : Hid (Live w v' L) := Lib.hid (h.out.step hb)
theorem la {w v v' : World} {L : List (Option Addr × Nat × List Nat)} {A : Option Addr} {c : Nat} {xs : List Nat} (h : Hid (Live w v L)) (hb : Below v.heap.size v v') (hd : Dg v' A c xs) : Hid (Live w v' ((A, c, xs) :: L)) := Lib.hid ((h.out.step hb).add hd)
theorem la2 {w v v' : World} {L : List (Option Addr × Nat × List Nat)} {A B : Option Addr} {c d : Nat} {xs ys : List Nat} (h : Hid (Live w v L)) (hb : Below v.heap.size v v') (hd : Dg v' A c xs) (he : Dg v' B d ys) : Hid (Live w v' ((B, d, ys) :: (A, c, xs) :: L)) := Lib.hid (((h.out.step hb).add hd).add he)
theorem bt {a b c : World} (h : Hid (Below a.heap.size a b)) (hb : Below b.heap.size b c) : Hid (Below a.heap.size a c) := Lib.hid (h.out.trans (hb.mono h.out.size))
end Go.Proofs.YtaciohjobenipaaDoor
end

section
/-
  Words for the walks of dyad: boxes and what is alive.
-/
namespace Go.Proofs.YtaciohjobenipaaDoor
open Go.RowKit
theorem noint_dy {A : Option Addr} {n c : Nat} {b : Bool} {x : Int} : ∀ (o : Nat) (m : Int), (#[Value.bool b, .slice A n c, .int .i64 x])[o]? ≠ some (.int .u32 m) := noint3
theorem t32_live {w0 w : World} {L : List (Option Addr × Nat × List Nat)} (h : T32 w0) (hL : Live w0 w L) : T32 w := t32_below h hL.1
/-- An answer and whether it is one; an answer and an error. -/
def Yb (M E : Int) (q : Bool) (w : World) (e : Ending) (w' : World) : Prop := ∃ A c, e = .returned (.tuple #[.agg #[.bool (decide (M < 0)), .slice A (digs M.natAbs).length c, .int .i64 E], .bool q]) ∧ Dg w' A c (digs M.natAbs) ∧ Below w.heap.size w w'
def Ye (M E k : Int) (w : World) (e : Ending) (w' : World) : Prop := ∃ A c, e = .returned (.tuple #[.agg #[.bool (decide (M < 0)), .slice A (digs M.natAbs).length c, .int .i64 E], .int .i64 k]) ∧ Dg w' A c (digs M.natAbs) ∧ Below w.heap.size w w'
theorem nm_len (z : Int) : (digs (nm z).natAbs).length ≤ (digs z.natAbs).length := by
  by_cases h : z = 0
  · subst h; exact Nat.le_refl _
  · have ⟨_, _, c⟩ := nm_back h
    rw [c]; exact digs_len_mono _ _ (Nat.div_le_self _ _)
theorem zero_yb {w w' : World} (h : Below w.heap.size w w') : Yb 0 0 false w (.returned (.tuple #[.agg #[.bool false, .slice none 0 0, .int .i64 0], .bool false])) w' := by
  refine ⟨none, 0, ?_, ?_, h⟩
  · show _ = Ending.returned (.tuple #[.agg #[.bool false, .slice none (digs 0).length 0, .int .i64 0], .bool false])
    rw [digs_zero]; rfl
  · show Dg _ none 0 (digs 0)
    rw [digs_zero]; exact Dg.nil_ _ _
theorem zero_ye {k : Int} {w w' : World} (h : Below w.heap.size w w') : Ye 0 0 k w (.returned (.tuple #[.agg #[.bool false, .slice none 0 0, .int .i64 0], .int .i64 k])) w' := by
  refine ⟨none, 0, ?_, ?_, h⟩
  · show _ = Ending.returned (.tuple #[.agg #[.bool false, .slice none (digs 0).length 0, .int .i64 0], .int .i64 k])
    rw [digs_zero]; rfl
  · show Dg _ none 0 (digs 0)
    rw [digs_zero]; exact Dg.nil_ _ _
theorem zero_yr {w w' : World} (h : Below w.heap.size w w') : Yr 0 0 w (.returned (.agg #[.bool false, .slice none 0 0, .int .i64 0])) w' := by
  refine ⟨none, 0, ?_, ?_, h⟩
  · show _ = Ending.returned (.agg #[.bool false, .slice none (digs 0).length 0, .int .i64 0])
    rw [digs_zero]; rfl
  · show Dg _ none 0 (digs 0)
    rw [digs_zero]; exact Dg.nil_ _ _
/-- A number that is right. -/
def Rt (m e : Int) : Prop := Nf m e ∧ -131072 ≤ e ∧ e ≤ 131072
theorem dyR_num {m e : Int} (h : Rt m e) : dyR (decide (m < 0)) (digs m.natAbs) e = true := by
  obtain ⟨hn, h0, h1⟩ := h
  unfold dyR
  rcases hn with ⟨rfl, rfl⟩ | hn
  · show (if (digs 0).length = 0 then _ else _) = true
    rw [digs_zero]; rfl
  · have hm : m.natAbs ≠ 0 := by omega
    have hl : (digs m.natAbs).length ≠ 0 := fun e => hm (digs_nil.1 e)
    rw [if_neg hl, decide_eq_true h0, decide_eq_true h1]
    have h2 : rightB (decide (m < 0)) (digs m.natAbs) = true := by
      unfold rightB
      rw [if_neg hl, decide_eq_true_eq]
      have hne : (digs m.natAbs).getLast? = (digs m.natAbs)[(digs m.natAbs).length - 1]? := List.getLast?_eq_getElem?
      rcases hd : (digs m.natAbs)[(digs m.natAbs).length - 1]? with _ | d
      · rw [List.getElem?_eq_none_iff] at hd; omega
      · exact last_digs (by rw [hne, hd]; rfl)
    have h3 : decide ((digs m.natAbs)[0]?.getD 0 % 2 = 1) = true := by
      rw [digs_pos hm, decide_eq_true_eq]
      simp only [List.getElem?_cons_zero, Option.getD_some]
      omega
    rw [h2, h3]; rfl
theorem begin_1 {w : World} {g : Nat} {A : Option Addr} {c : Nat} {s q : Bool} {xs : List Nat} {e : Int} {T : TypeId} (hR : w.heap[g]? = some (.cells #[.bool s, .slice A xs.length c, .int .i64 e] T (0, 0))) (h : Dg w A c xs) (hq : dyR s xs e = q) (hl : xs.length ≤ 9223372036854775807) {k : Int} (hk : (if q then 0 else 1) = k) :
    Calls Tryd.prog 56 #[.slice (some ⟨g, 0, none⟩) 1 1] w fun e w' => e = .returned (.agg #[.int .i64 k]) ∧ Below w.heap.size w w' := by
  have := begin_any g 1 1 (fun _ => s) (fun _ => A) (fun _ => c) (fun _ => xs) (fun _ => e) (fun _ => q) w (heap_lt hR) (fun i hi => by
    obtain rfl : i = 0 := by omega
    exact ⟨row_c hR rfl, row_c hR rfl, row_c hR rfl, h⟩) (fun _ _ => hq) (fun _ _ => hl) (by omega) (Nat.le_refl _)
  have e : wrong (fun _ => q) 1 = k := by rw [← hk]; cases q <;> rfl
  rw [e] at this; exact this
def pk {α : Type} (a b : α) : Nat → α
  | 0 => a
  | _ => b
theorem begin_2 {w : World} {g : Nat} {A B : Option Addr} {c d : Nat} {s r q p : Bool} {xs ys : List Nat} {e f : Int} {T : TypeId} (hR : w.heap[g]? = some (.cells #[.bool s, .slice A xs.length c, .int .i64 e, .bool r, .slice B ys.length d, .int .i64 f] T (0, 0))) (h : Dg w A c xs) (h' : Dg w B d ys) (hq : dyR s xs e = q) (hp : dyR r ys f = p) (hl : xs.length ≤ 9223372036854775807) (hl' : ys.length ≤ 9223372036854775807) {k : Int} (hk : (if q && p then 0 else 1) = k) :
    Calls Tryd.prog 56 #[.slice (some ⟨g, 0, none⟩) 2 2] w fun e w' => e = .returned (.agg #[.int .i64 k]) ∧ Below w.heap.size w w' := by
  have := begin_any g 2 2 (pk s r) (pk A B) (pk c d) (pk xs ys) (pk e f) (pk q p) w (heap_lt hR) (fun i hi => by
    rcases i with _ | i
    · exact ⟨row_c hR rfl, row_c hR rfl, row_c hR rfl, h⟩
    · obtain rfl : i = 0 := by omega
      exact ⟨row_c hR rfl, row_c hR rfl, row_c hR rfl, h'⟩) (fun i _ => by rcases i with _ | i; exact hq; exact hp) (fun i _ => by rcases i with _ | i; exact hl; exact hl') (by omega) (Nat.le_refl _)
  have e : wrong (pk q p) 2 = k := by rw [← hk]; cases q <;> cases p <;> rfl
  rw [e] at this; exact this
end Go.Proofs.YtaciohjobenipaaDoor
end

section
/-
  dyad.beside.
-/
namespace Go.Proofs.YtaciohjobenipaaDoor
open Go.RowKit
set_option linter.unusedSimpArgs false
set_option linter.unusedVariables false
def Ybs (p q e0 : Int) (w : World) (e : Ending) (w' : World) : Prop := ∃ A c B d, e = .returned (.tuple #[.agg #[.bool (decide (p < 0)), .slice A (digs p.natAbs).length c], .agg #[.bool (decide (q < 0)), .slice B (digs q.natAbs).length d], .int .i64 e0]) ∧ Dg w' A c (digs p.natAbs) ∧ Dg w' B d (digs q.natAbs) ∧ Below w.heap.size w w'

theorem upto_abs (m e g : Int) : (upto m e g).natAbs = m.natAbs * 2 ^ (e - g).toNat := by unfold upto; rw [Int.natAbs_mul, Int.natAbs_pow]; rfl
theorem upto_neg (m e g : Int) : decide (upto m e g < 0) = decide (m < 0) := by
  unfold upto
  have hp : (0 : Int) < 2 ^ (e - g).toNat := Int.pow_pos (by omega)
  rw [decide_eq_decide]
  constructor
  · intro h
    rcases Int.lt_or_le m 0 with h1 | h1
    · exact h1
    · have := Int.mul_nonneg h1 (Int.le_of_lt hp); omega
  · intro h
    have := Int.mul_le_mul_of_nonneg_right (a := m) (b := -1) (by omega) (Int.le_of_lt hp)
    omega
theorem upto_self (m e : Int) : upto m e e = m := by unfold upto; rw [Int.sub_self]; exact Int.mul_one m
theorem lift_z {A : Option Addr} {c : Nat} {m q x e0 : Int} {w : World} (h : Dg w A c (digs m.natAbs)) (hl : (digs m.natAbs).length ≤ 400000) (h0 : e0 ≤ x) (h1 : x - e0 ≤ 1000000) (hq : upto m x e0 = q) :
    Calls Tryd.prog 72 #[.slice A (digs m.natAbs).length c, .int .i64 (x - e0)] w fun e w' => ∃ A' c', e = .returned (.slice A' (digs q.natAbs).length c') ∧ Dg w' A' c' (digs q.natAbs) ∧ Below w.heap.size w w' := by
  have := lift_any A c (digs m.natAbs) (x - e0).toNat w h (by omega) (by omega)
  rw [val_digs, ← upto_abs, hq, show (((x - e0).toNat : Nat) : Int) = x - e0 by omega] at this
  exact this

set_option maxHeartbeats 4000000 in
set_option maxRecDepth 100000 in
theorem beside_lt (A B : Option Addr) (c d : Nat) (m n x y : Int) (w : World) (h : Dg w A c (digs m.natAbs)) (h' : Dg w B d (digs n.natAbs)) (hl : (digs m.natAbs).length ≤ 400000) (hl' : (digs n.natAbs).length ≤ 400000) (x0 : -131072 ≤ x) (x1 : x ≤ 131072) (y0 : -131072 ≤ y) (y1 : y ≤ 131072) {p q e0 : Int} (he : min x y = e0) (hp : upto m x e0 = p) (hq : upto n y e0 = q) (hc : x < y):
    Calls Tryd.prog 60 #[.agg #[.bool (decide (m < 0)), .slice A (digs m.natAbs).length c, .int .i64 x], .agg #[.bool (decide (n < 0)), .slice B (digs n.natAbs).length d, .int .i64 y]] w fun e w' => Ybs p q e0 w e w' := by
  have ex : e0 ≤ x := by omega
  have ey : e0 ≤ y := by omega
  have lx := Lib.hid hl
  have ly := Lib.hid hl'
  have HP := Lib.hid hp
  have HQ := Lib.hid hq
  have d1 : decide (e0 < x) = false := by simp; omega
  have d2 : decide (e0 < y) = true := by simp; omega
  have bx : x - e0 ≤ 1000000 := by omega
  have by_ : y - e0 ≤ 1000000 := by omega
  have bx0 : 0 ≤ x - e0 := by omega
  have by0 : 0 ≤ y - e0 := by omega
  have SQ := Lib.hid (show decide (n < 0) = decide (q < 0) by rw [← hq, upto_neg])
  obtain rfl : m = p := by rw [← hp, show x = e0 by omega, upto_self]
  have L0 := Lib.hid (((live_start w).add h).add h')
  clear hl hl' hp hq h h' hc
  go_enter Tryd.func60, Tryd.ntmps60
  go_wp2_with fail
  obtain ⟨v1, hW, hb, Rx_1, Ry_1, Ra_1, Rb_1⟩ := new4 w (.cells #[.bool (decide (m < 0)), .slice A (digs m.natAbs).length c, .int .i64 x] 26) (.cells #[.bool (decide (n < 0)), .slice B (digs n.natAbs).length d, .int .i64 y] 26) (.cells #[.bool false, .slice none 0 0] 24) (.cells #[.bool false, .slice none 0 0] 24)
  rw [← hW]
  have L1 := ls L0 hb
  have Gx := gl0 L0.out
  have Gy := gl1 L0.out
  have Nxy : w.heap.size < w.heap.size + 1 := by omega
  have Ga := gl2 L0.out
  have Nxa : w.heap.size < w.heap.size + 1 + 1 := by omega
  have Nya : w.heap.size + 1 < w.heap.size + 1 + 1 := by omega
  have Gb := gl3 L0.out
  have Nxb : w.heap.size < w.heap.size + 1 + 1 + 1 := by omega
  have Nyb : w.heap.size + 1 < w.heap.size + 1 + 1 + 1 := by omega
  have Nab : w.heap.size + 1 + 1 < w.heap.size + 1 + 1 + 1 := by omega
  clear hW hb
  obtain ⟨fx0, zx0, fx1, zx1, fx2, zx2, xx⟩ := ly3 Rx_1.out
  obtain ⟨fy0, zy0, fy1, zy1, fy2, zy2, xy⟩ := ly3 Ry_1.out
  obtain ⟨fa0, za0, fa1, za1, xa⟩ := ly2 Ra_1.out
  obtain ⟨fb0, zb0, fb1, zb1, xb⟩ := ly2 Rb_1.out
  go_region
  clear fx0 zx0 fx1 zx1 fx2 zx2 xx fy0 zy0 fy1 zy1 fy2 zy2 xy fa0 za0 fa1 za1 xa fb0 zb0 fb1 zb1 xb
  obtain ⟨w2, hW⟩ : ∃ W : World, W = ((v1.setCell ⟨w.heap.size + 1 + 1, 0, none⟩ (.bool (decide (m < 0)))).setCell ⟨w.heap.size + 1 + 1, 1, none⟩ (.slice A (digs m.natAbs).length c)) := ⟨_, rfl⟩
  rw [← hW]
  have hO : Only (w.heap.size + 1 + 1) v1 w2 := by rw [hW]; exact (((Only.refl (w.heap.size + 1 + 1) v1).setCell 0 _).setCell 1 _)
  have L2 := Lib.hid (live_only L1.out hO Ra_1.out noint_int Ga)
  have Rx_2 := Lib.hid ((hO.block _ (by omega)).trans Rx_1.out)
  have Ry_2 := Lib.hid ((hO.block _ (by omega)).trans Ry_1.out)
  have Rb_2 := Lib.hid ((hO.block _ (by omega)).trans Rb_1.out)
  have Ra_2 := Lib.hid (show w2.heap[w.heap.size + 1 + 1]? = some (.cells #[.bool (decide (m < 0)), .slice A (digs m.natAbs).length c] 24 (0, 0)) by rw [hW]; exact (heap_setCell_same _ _ 1 _ _ _ (heap_setCell_same _ _ 0 _ _ _ Ra_1.out)))
  clear hW hO
  obtain ⟨w3, hW⟩ : ∃ W : World, W = ((w2.setCell ⟨w.heap.size + 1 + 1 + 1, 0, none⟩ (.bool (decide (n < 0)))).setCell ⟨w.heap.size + 1 + 1 + 1, 1, none⟩ (.slice B (digs n.natAbs).length d)) := ⟨_, rfl⟩
  rw [← hW]
  have hO : Only (w.heap.size + 1 + 1 + 1) w2 w3 := by rw [hW]; exact (((Only.refl (w.heap.size + 1 + 1 + 1) w2).setCell 0 _).setCell 1 _)
  have L3 := Lib.hid (live_only L2.out hO Rb_2.out noint_int Gb)
  have Rx_3 := Lib.hid ((hO.block _ (by omega)).trans Rx_2.out)
  have Ry_3 := Lib.hid ((hO.block _ (by omega)).trans Ry_2.out)
  have Ra_3 := Lib.hid ((hO.block _ (by omega)).trans Ra_2.out)
  have Rb_3 := Lib.hid (show w3.heap[w.heap.size + 1 + 1 + 1]? = some (.cells #[.bool (decide (n < 0)), .slice B (digs n.natAbs).length d] 24 (0, 0)) by rw [hW]; exact (heap_setCell_same _ _ 1 _ _ _ (heap_setCell_same _ _ 0 _ _ _ Rb_2.out)))
  clear hW hO
  obtain ⟨w4, hW⟩ : ∃ W : World, W = w3.drew := ⟨_, rfl⟩
  rw [← hW]
  have hb : Below w3.heap.size w3 w4 := by rw [hW]; exact bd0 _
  have L4 := ls L3 hb
  have Rx_4 := co Rx_3 hb
  have Ry_4 := co Ry_3 hb
  have Ra_4 := co Ra_3 hb
  have Rb_4 := co Rb_3 hb
  clear hW hb
  obtain ⟨fx0, zx0, fx1, zx1, fx2, zx2, xx⟩ := ly3 Rx_4.out
  obtain ⟨fy0, zy0, fy1, zy1, fy2, zy2, xy⟩ := ly3 Ry_4.out
  obtain ⟨fa0, za0, fa1, za1, xa⟩ := ly2 Ra_4.out
  obtain ⟨fb0, zb0, fb1, zb1, xb⟩ := ly2 Rb_4.out
  go_wp2_with fail
  refine (lift_z (x := y) (e0 := e0) (L4.out.get (A := B) (c := d) (xs := digs n.natAbs) (by simp)) ly.out ey by_ HQ.out).mono ?_
  rintro e w5 ⟨A5, c5, rfl, hd, hb⟩
  have L5 := la L4 hb hd
  clear fx0 zx0 fx1 zx1 fx2 zx2 xx fy0 zy0 fy1 zy1 fy2 zy2 xy fa0 za0 fa1 za1 xa fb0 zb0 fb1 zb1 xb
  have Rx_5 := co Rx_4 hb
  have Ry_5 := co Ry_4 hb
  have Ra_5 := co Ra_4 hb
  have Rb_5 := co Rb_4 hb
  clear hb hd
  obtain ⟨fx0, zx0, fx1, zx1, fx2, zx2, xx⟩ := ly3 Rx_5.out
  obtain ⟨fy0, zy0, fy1, zy1, fy2, zy2, xy⟩ := ly3 Ry_5.out
  obtain ⟨fa0, za0, fa1, za1, xa⟩ := ly2 Ra_5.out
  obtain ⟨fb0, zb0, fb1, zb1, xb⟩ := ly2 Rb_5.out
  go_wp2_with fail
  obtain ⟨w6, hW⟩ : ∃ W : World, W = (w5.setCell ⟨w.heap.size + 1 + 1 + 1, 1, none⟩ (.slice A5 (digs q.natAbs).length c5)) := ⟨_, rfl⟩
  rw [← hW]
  have hO : Only (w.heap.size + 1 + 1 + 1) w5 w6 := by rw [hW]; exact ((Only.refl (w.heap.size + 1 + 1 + 1) w5).setCell 1 _)
  have L6 := Lib.hid (live_only L5.out hO Rb_5.out noint_int Gb)
  have Rx_6 := Lib.hid ((hO.block _ (by omega)).trans Rx_5.out)
  have Ry_6 := Lib.hid ((hO.block _ (by omega)).trans Ry_5.out)
  have Ra_6 := Lib.hid ((hO.block _ (by omega)).trans Ra_5.out)
  have Rb_6 := Lib.hid (show w6.heap[w.heap.size + 1 + 1 + 1]? = some (.cells #[.bool (decide (n < 0)), .slice A5 (digs q.natAbs).length c5] 24 (0, 0)) by rw [hW]; exact (heap_setCell_same _ _ 1 _ _ _ Rb_5.out))
  clear hW hO
  clear fx0 zx0 fx1 zx1 fx2 zx2 xx fy0 zy0 fy1 zy1 fy2 zy2 xy fa0 za0 fa1 za1 xa fb0 zb0 fb1 zb1 xb
  obtain ⟨fa0, za0, fa1, za1, xa⟩ := ly2 Ra_6.out
  obtain ⟨fb0, zb0, fb1, zb1, xb⟩ := ly2 Rb_6.out
  go_region
  clear fa0 za0 fa1 za1 xa fb0 zb0 fb1 zb1 xb
  obtain ⟨w7, hW⟩ : ∃ W : World, W = ((w6.setCell ⟨w.heap.size + 1 + 1, 0, none⟩ (.bool (decide (m < 0)))).setCell ⟨w.heap.size + 1 + 1, 1, none⟩ (.slice A (digs m.natAbs).length c)) := ⟨_, rfl⟩
  rw [← hW]
  have hO : Only (w.heap.size + 1 + 1) w6 w7 := by rw [hW]; exact (((Only.refl (w.heap.size + 1 + 1) w6).setCell 0 _).setCell 1 _)
  have L7 := Lib.hid (live_only L6.out hO Ra_6.out noint_int Ga)
  have Rx_7 := Lib.hid ((hO.block _ (by omega)).trans Rx_6.out)
  have Ry_7 := Lib.hid ((hO.block _ (by omega)).trans Ry_6.out)
  have Rb_7 := Lib.hid ((hO.block _ (by omega)).trans Rb_6.out)
  have Ra_7 := Lib.hid (show w7.heap[w.heap.size + 1 + 1]? = some (.cells #[.bool (decide (m < 0)), .slice A (digs m.natAbs).length c] 24 (0, 0)) by rw [hW]; exact (heap_setCell_same _ _ 1 _ _ _ (heap_setCell_same _ _ 0 _ _ _ Ra_6.out)))
  clear hW hO
  obtain ⟨w8, hW⟩ : ∃ W : World, W = ((w7.setCell ⟨w.heap.size + 1 + 1 + 1, 0, none⟩ (.bool (decide (n < 0)))).setCell ⟨w.heap.size + 1 + 1 + 1, 1, none⟩ (.slice A5 (digs q.natAbs).length c5)) := ⟨_, rfl⟩
  rw [← hW]
  have hO : Only (w.heap.size + 1 + 1 + 1) w7 w8 := by rw [hW]; exact (((Only.refl (w.heap.size + 1 + 1 + 1) w7).setCell 0 _).setCell 1 _)
  have L8 := Lib.hid (live_only L7.out hO Rb_7.out noint_int Gb)
  have Rx_8 := Lib.hid ((hO.block _ (by omega)).trans Rx_7.out)
  have Ry_8 := Lib.hid ((hO.block _ (by omega)).trans Ry_7.out)
  have Ra_8 := Lib.hid ((hO.block _ (by omega)).trans Ra_7.out)
  have Rb_8 := Lib.hid (show w8.heap[w.heap.size + 1 + 1 + 1]? = some (.cells #[.bool (decide (n < 0)), .slice A5 (digs q.natAbs).length c5] 24 (0, 0)) by rw [hW]; exact (heap_setCell_same _ _ 1 _ _ _ (heap_setCell_same _ _ 0 _ _ _ Rb_7.out)))
  clear hW hO
  obtain ⟨w9, hW⟩ : ∃ W : World, W = w8.drew := ⟨_, rfl⟩
  rw [← hW]
  have hb : Below w8.heap.size w8 w9 := by rw [hW]; exact bd0 _
  have L9 := ls L8 hb
  have Rx_9 := co Rx_8 hb
  have Ry_9 := co Ry_8 hb
  have Ra_9 := co Ra_8 hb
  have Rb_9 := co Rb_8 hb
  clear hW hb
  obtain ⟨fa0, za0, fa1, za1, xa⟩ := ly2 Ra_9.out
  obtain ⟨fb0, zb0, fb1, zb1, xb⟩ := ly2 Rb_9.out
  go_wp2
  refine bodyPost_ret (v := .tuple #[.agg #[.bool (decide (m < 0)), .slice A (digs m.natAbs).length c], .agg #[.bool (decide (n < 0)), .slice A5 (digs q.natAbs).length c5], .int .i64 e0]) (by simp [results, Tryd.results60, go_sem, fa0, fa1, fb0, fb1]) rfl ?_
  refine ⟨A, c, A5, c5, ?_, L9.out.get (A := A) (c := c) (xs := digs m.natAbs) (by simp), L9.out.get (A := A5) (c := c5) (xs := digs q.natAbs) (by simp), L9.out.1⟩
  rw [SQ.out]

set_option maxHeartbeats 4000000 in
set_option maxRecDepth 100000 in
theorem beside_gt (A B : Option Addr) (c d : Nat) (m n x y : Int) (w : World) (h : Dg w A c (digs m.natAbs)) (h' : Dg w B d (digs n.natAbs)) (hl : (digs m.natAbs).length ≤ 400000) (hl' : (digs n.natAbs).length ≤ 400000) (x0 : -131072 ≤ x) (x1 : x ≤ 131072) (y0 : -131072 ≤ y) (y1 : y ≤ 131072) {p q e0 : Int} (he : min x y = e0) (hp : upto m x e0 = p) (hq : upto n y e0 = q) (hc : y < x):
    Calls Tryd.prog 60 #[.agg #[.bool (decide (m < 0)), .slice A (digs m.natAbs).length c, .int .i64 x], .agg #[.bool (decide (n < 0)), .slice B (digs n.natAbs).length d, .int .i64 y]] w fun e w' => Ybs p q e0 w e w' := by
  have ex : e0 ≤ x := by omega
  have ey : e0 ≤ y := by omega
  have lx := Lib.hid hl
  have ly := Lib.hid hl'
  have HP := Lib.hid hp
  have HQ := Lib.hid hq
  have d1 : decide (e0 < x) = true := by simp; omega
  have d2 : decide (e0 < y) = false := by simp; omega
  have bx : x - e0 ≤ 1000000 := by omega
  have by_ : y - e0 ≤ 1000000 := by omega
  have bx0 : 0 ≤ x - e0 := by omega
  have by0 : 0 ≤ y - e0 := by omega
  have SP := Lib.hid (show decide (m < 0) = decide (p < 0) by rw [← hp, upto_neg])
  obtain rfl : n = q := by rw [← hq, show y = e0 by omega, upto_self]
  have L0 := Lib.hid (((live_start w).add h).add h')
  clear hl hl' hp hq h h' hc
  go_enter Tryd.func60, Tryd.ntmps60
  go_wp2_with fail
  obtain ⟨v1, hW, hb, Rx_1, Ry_1, Ra_1, Rb_1⟩ := new4 w (.cells #[.bool (decide (m < 0)), .slice A (digs m.natAbs).length c, .int .i64 x] 26) (.cells #[.bool (decide (n < 0)), .slice B (digs n.natAbs).length d, .int .i64 y] 26) (.cells #[.bool false, .slice none 0 0] 24) (.cells #[.bool false, .slice none 0 0] 24)
  rw [← hW]
  have L1 := ls L0 hb
  have Gx := gl0 L0.out
  have Gy := gl1 L0.out
  have Nxy : w.heap.size < w.heap.size + 1 := by omega
  have Ga := gl2 L0.out
  have Nxa : w.heap.size < w.heap.size + 1 + 1 := by omega
  have Nya : w.heap.size + 1 < w.heap.size + 1 + 1 := by omega
  have Gb := gl3 L0.out
  have Nxb : w.heap.size < w.heap.size + 1 + 1 + 1 := by omega
  have Nyb : w.heap.size + 1 < w.heap.size + 1 + 1 + 1 := by omega
  have Nab : w.heap.size + 1 + 1 < w.heap.size + 1 + 1 + 1 := by omega
  clear hW hb
  obtain ⟨fx0, zx0, fx1, zx1, fx2, zx2, xx⟩ := ly3 Rx_1.out
  obtain ⟨fy0, zy0, fy1, zy1, fy2, zy2, xy⟩ := ly3 Ry_1.out
  obtain ⟨fa0, za0, fa1, za1, xa⟩ := ly2 Ra_1.out
  obtain ⟨fb0, zb0, fb1, zb1, xb⟩ := ly2 Rb_1.out
  go_region
  clear fx0 zx0 fx1 zx1 fx2 zx2 xx fy0 zy0 fy1 zy1 fy2 zy2 xy fa0 za0 fa1 za1 xa fb0 zb0 fb1 zb1 xb
  obtain ⟨w2, hW⟩ : ∃ W : World, W = ((v1.setCell ⟨w.heap.size + 1 + 1, 0, none⟩ (.bool (decide (m < 0)))).setCell ⟨w.heap.size + 1 + 1, 1, none⟩ (.slice A (digs m.natAbs).length c)) := ⟨_, rfl⟩
  rw [← hW]
  have hO : Only (w.heap.size + 1 + 1) v1 w2 := by rw [hW]; exact (((Only.refl (w.heap.size + 1 + 1) v1).setCell 0 _).setCell 1 _)
  have L2 := Lib.hid (live_only L1.out hO Ra_1.out noint_int Ga)
  have Rx_2 := Lib.hid ((hO.block _ (by omega)).trans Rx_1.out)
  have Ry_2 := Lib.hid ((hO.block _ (by omega)).trans Ry_1.out)
  have Rb_2 := Lib.hid ((hO.block _ (by omega)).trans Rb_1.out)
  have Ra_2 := Lib.hid (show w2.heap[w.heap.size + 1 + 1]? = some (.cells #[.bool (decide (m < 0)), .slice A (digs m.natAbs).length c] 24 (0, 0)) by rw [hW]; exact (heap_setCell_same _ _ 1 _ _ _ (heap_setCell_same _ _ 0 _ _ _ Ra_1.out)))
  clear hW hO
  obtain ⟨w3, hW⟩ : ∃ W : World, W = ((w2.setCell ⟨w.heap.size + 1 + 1 + 1, 0, none⟩ (.bool (decide (n < 0)))).setCell ⟨w.heap.size + 1 + 1 + 1, 1, none⟩ (.slice B (digs n.natAbs).length d)) := ⟨_, rfl⟩
  rw [← hW]
  have hO : Only (w.heap.size + 1 + 1 + 1) w2 w3 := by rw [hW]; exact (((Only.refl (w.heap.size + 1 + 1 + 1) w2).setCell 0 _).setCell 1 _)
  have L3 := Lib.hid (live_only L2.out hO Rb_2.out noint_int Gb)
  have Rx_3 := Lib.hid ((hO.block _ (by omega)).trans Rx_2.out)
  have Ry_3 := Lib.hid ((hO.block _ (by omega)).trans Ry_2.out)
  have Ra_3 := Lib.hid ((hO.block _ (by omega)).trans Ra_2.out)
  have Rb_3 := Lib.hid (show w3.heap[w.heap.size + 1 + 1 + 1]? = some (.cells #[.bool (decide (n < 0)), .slice B (digs n.natAbs).length d] 24 (0, 0)) by rw [hW]; exact (heap_setCell_same _ _ 1 _ _ _ (heap_setCell_same _ _ 0 _ _ _ Rb_2.out)))
  clear hW hO
  obtain ⟨w4, hW⟩ : ∃ W : World, W = w3.drew := ⟨_, rfl⟩
  rw [← hW]
  have hb : Below w3.heap.size w3 w4 := by rw [hW]; exact bd0 _
  have L4 := ls L3 hb
  have Rx_4 := co Rx_3 hb
  have Ry_4 := co Ry_3 hb
  have Ra_4 := co Ra_3 hb
  have Rb_4 := co Rb_3 hb
  clear hW hb
  obtain ⟨fx0, zx0, fx1, zx1, fx2, zx2, xx⟩ := ly3 Rx_4.out
  obtain ⟨fy0, zy0, fy1, zy1, fy2, zy2, xy⟩ := ly3 Ry_4.out
  obtain ⟨fa0, za0, fa1, za1, xa⟩ := ly2 Ra_4.out
  obtain ⟨fb0, zb0, fb1, zb1, xb⟩ := ly2 Rb_4.out
  go_wp2_with fail
  refine (lift_z (x := x) (e0 := e0) (L4.out.get (A := A) (c := c) (xs := digs m.natAbs) (by simp)) lx.out ex bx HP.out).mono ?_
  rintro e w5 ⟨A5, c5, rfl, hd, hb⟩
  have L5 := la L4 hb hd
  clear fx0 zx0 fx1 zx1 fx2 zx2 xx fy0 zy0 fy1 zy1 fy2 zy2 xy fa0 za0 fa1 za1 xa fb0 zb0 fb1 zb1 xb
  have Rx_5 := co Rx_4 hb
  have Ry_5 := co Ry_4 hb
  have Ra_5 := co Ra_4 hb
  have Rb_5 := co Rb_4 hb
  clear hb hd
  obtain ⟨fx0, zx0, fx1, zx1, fx2, zx2, xx⟩ := ly3 Rx_5.out
  obtain ⟨fy0, zy0, fy1, zy1, fy2, zy2, xy⟩ := ly3 Ry_5.out
  obtain ⟨fa0, za0, fa1, za1, xa⟩ := ly2 Ra_5.out
  obtain ⟨fb0, zb0, fb1, zb1, xb⟩ := ly2 Rb_5.out
  go_wp2_with fail
  obtain ⟨w6, hW⟩ : ∃ W : World, W = (w5.setCell ⟨w.heap.size + 1 + 1, 1, none⟩ (.slice A5 (digs p.natAbs).length c5)) := ⟨_, rfl⟩
  rw [← hW]
  have hO : Only (w.heap.size + 1 + 1) w5 w6 := by rw [hW]; exact ((Only.refl (w.heap.size + 1 + 1) w5).setCell 1 _)
  have L6 := Lib.hid (live_only L5.out hO Ra_5.out noint_int Ga)
  have Rx_6 := Lib.hid ((hO.block _ (by omega)).trans Rx_5.out)
  have Ry_6 := Lib.hid ((hO.block _ (by omega)).trans Ry_5.out)
  have Rb_6 := Lib.hid ((hO.block _ (by omega)).trans Rb_5.out)
  have Ra_6 := Lib.hid (show w6.heap[w.heap.size + 1 + 1]? = some (.cells #[.bool (decide (m < 0)), .slice A5 (digs p.natAbs).length c5] 24 (0, 0)) by rw [hW]; exact (heap_setCell_same _ _ 1 _ _ _ Ra_5.out))
  clear hW hO
  clear fx0 zx0 fx1 zx1 fx2 zx2 xx fy0 zy0 fy1 zy1 fy2 zy2 xy fa0 za0 fa1 za1 xa fb0 zb0 fb1 zb1 xb
  obtain ⟨fa0, za0, fa1, za1, xa⟩ := ly2 Ra_6.out
  obtain ⟨fb0, zb0, fb1, zb1, xb⟩ := ly2 Rb_6.out
  go_region
  clear fa0 za0 fa1 za1 xa fb0 zb0 fb1 zb1 xb
  obtain ⟨w7, hW⟩ : ∃ W : World, W = ((w6.setCell ⟨w.heap.size + 1 + 1, 0, none⟩ (.bool (decide (m < 0)))).setCell ⟨w.heap.size + 1 + 1, 1, none⟩ (.slice A5 (digs p.natAbs).length c5)) := ⟨_, rfl⟩
  rw [← hW]
  have hO : Only (w.heap.size + 1 + 1) w6 w7 := by rw [hW]; exact (((Only.refl (w.heap.size + 1 + 1) w6).setCell 0 _).setCell 1 _)
  have L7 := Lib.hid (live_only L6.out hO Ra_6.out noint_int Ga)
  have Rx_7 := Lib.hid ((hO.block _ (by omega)).trans Rx_6.out)
  have Ry_7 := Lib.hid ((hO.block _ (by omega)).trans Ry_6.out)
  have Rb_7 := Lib.hid ((hO.block _ (by omega)).trans Rb_6.out)
  have Ra_7 := Lib.hid (show w7.heap[w.heap.size + 1 + 1]? = some (.cells #[.bool (decide (m < 0)), .slice A5 (digs p.natAbs).length c5] 24 (0, 0)) by rw [hW]; exact (heap_setCell_same _ _ 1 _ _ _ (heap_setCell_same _ _ 0 _ _ _ Ra_6.out)))
  clear hW hO
  obtain ⟨w8, hW⟩ : ∃ W : World, W = ((w7.setCell ⟨w.heap.size + 1 + 1 + 1, 0, none⟩ (.bool (decide (n < 0)))).setCell ⟨w.heap.size + 1 + 1 + 1, 1, none⟩ (.slice B (digs n.natAbs).length d)) := ⟨_, rfl⟩
  rw [← hW]
  have hO : Only (w.heap.size + 1 + 1 + 1) w7 w8 := by rw [hW]; exact (((Only.refl (w.heap.size + 1 + 1 + 1) w7).setCell 0 _).setCell 1 _)
  have L8 := Lib.hid (live_only L7.out hO Rb_7.out noint_int Gb)
  have Rx_8 := Lib.hid ((hO.block _ (by omega)).trans Rx_7.out)
  have Ry_8 := Lib.hid ((hO.block _ (by omega)).trans Ry_7.out)
  have Ra_8 := Lib.hid ((hO.block _ (by omega)).trans Ra_7.out)
  have Rb_8 := Lib.hid (show w8.heap[w.heap.size + 1 + 1 + 1]? = some (.cells #[.bool (decide (n < 0)), .slice B (digs n.natAbs).length d] 24 (0, 0)) by rw [hW]; exact (heap_setCell_same _ _ 1 _ _ _ (heap_setCell_same _ _ 0 _ _ _ Rb_7.out)))
  clear hW hO
  obtain ⟨w9, hW⟩ : ∃ W : World, W = w8.drew := ⟨_, rfl⟩
  rw [← hW]
  have hb : Below w8.heap.size w8 w9 := by rw [hW]; exact bd0 _
  have L9 := ls L8 hb
  have Rx_9 := co Rx_8 hb
  have Ry_9 := co Ry_8 hb
  have Ra_9 := co Ra_8 hb
  have Rb_9 := co Rb_8 hb
  clear hW hb
  obtain ⟨fa0, za0, fa1, za1, xa⟩ := ly2 Ra_9.out
  obtain ⟨fb0, zb0, fb1, zb1, xb⟩ := ly2 Rb_9.out
  go_wp2
  refine bodyPost_ret (v := .tuple #[.agg #[.bool (decide (m < 0)), .slice A5 (digs p.natAbs).length c5], .agg #[.bool (decide (n < 0)), .slice B (digs n.natAbs).length d], .int .i64 e0]) (by simp [results, Tryd.results60, go_sem, fa0, fa1, fb0, fb1]) rfl ?_
  refine ⟨A5, c5, B, d, ?_, L9.out.get (A := A5) (c := c5) (xs := digs p.natAbs) (by simp), L9.out.get (A := B) (c := d) (xs := digs n.natAbs) (by simp), L9.out.1⟩
  rw [SP.out]

set_option maxHeartbeats 4000000 in
set_option maxRecDepth 100000 in
theorem beside_eq (A B : Option Addr) (c d : Nat) (m n x y : Int) (w : World) (h : Dg w A c (digs m.natAbs)) (h' : Dg w B d (digs n.natAbs)) (hl : (digs m.natAbs).length ≤ 400000) (hl' : (digs n.natAbs).length ≤ 400000) (x0 : -131072 ≤ x) (x1 : x ≤ 131072) (y0 : -131072 ≤ y) (y1 : y ≤ 131072) {p q e0 : Int} (he : min x y = e0) (hp : upto m x e0 = p) (hq : upto n y e0 = q) (hc : x = y):
    Calls Tryd.prog 60 #[.agg #[.bool (decide (m < 0)), .slice A (digs m.natAbs).length c, .int .i64 x], .agg #[.bool (decide (n < 0)), .slice B (digs n.natAbs).length d, .int .i64 y]] w fun e w' => Ybs p q e0 w e w' := by
  have ex : e0 ≤ x := by omega
  have ey : e0 ≤ y := by omega
  have lx := Lib.hid hl
  have ly := Lib.hid hl'
  have HP := Lib.hid hp
  have HQ := Lib.hid hq
  have d1 : decide (e0 < x) = false := by simp; omega
  have d2 : decide (e0 < y) = false := by simp; omega
  have bx : x - e0 ≤ 1000000 := by omega
  have by_ : y - e0 ≤ 1000000 := by omega
  have bx0 : 0 ≤ x - e0 := by omega
  have by0 : 0 ≤ y - e0 := by omega
  obtain rfl : m = p := by rw [← hp, show x = e0 by omega, upto_self]
  obtain rfl : n = q := by rw [← hq, show y = e0 by omega, upto_self]
  have L0 := Lib.hid (((live_start w).add h).add h')
  clear hl hl' hp hq h h' hc
  go_enter Tryd.func60, Tryd.ntmps60
  go_wp2_with fail
  obtain ⟨v1, hW, hb, Rx_1, Ry_1, Ra_1, Rb_1⟩ := new4 w (.cells #[.bool (decide (m < 0)), .slice A (digs m.natAbs).length c, .int .i64 x] 26) (.cells #[.bool (decide (n < 0)), .slice B (digs n.natAbs).length d, .int .i64 y] 26) (.cells #[.bool false, .slice none 0 0] 24) (.cells #[.bool false, .slice none 0 0] 24)
  rw [← hW]
  have L1 := ls L0 hb
  have Gx := gl0 L0.out
  have Gy := gl1 L0.out
  have Nxy : w.heap.size < w.heap.size + 1 := by omega
  have Ga := gl2 L0.out
  have Nxa : w.heap.size < w.heap.size + 1 + 1 := by omega
  have Nya : w.heap.size + 1 < w.heap.size + 1 + 1 := by omega
  have Gb := gl3 L0.out
  have Nxb : w.heap.size < w.heap.size + 1 + 1 + 1 := by omega
  have Nyb : w.heap.size + 1 < w.heap.size + 1 + 1 + 1 := by omega
  have Nab : w.heap.size + 1 + 1 < w.heap.size + 1 + 1 + 1 := by omega
  clear hW hb
  obtain ⟨fx0, zx0, fx1, zx1, fx2, zx2, xx⟩ := ly3 Rx_1.out
  obtain ⟨fy0, zy0, fy1, zy1, fy2, zy2, xy⟩ := ly3 Ry_1.out
  obtain ⟨fa0, za0, fa1, za1, xa⟩ := ly2 Ra_1.out
  obtain ⟨fb0, zb0, fb1, zb1, xb⟩ := ly2 Rb_1.out
  go_region
  clear fx0 zx0 fx1 zx1 fx2 zx2 xx fy0 zy0 fy1 zy1 fy2 zy2 xy fa0 za0 fa1 za1 xa fb0 zb0 fb1 zb1 xb
  obtain ⟨w2, hW⟩ : ∃ W : World, W = ((v1.setCell ⟨w.heap.size + 1 + 1, 0, none⟩ (.bool (decide (m < 0)))).setCell ⟨w.heap.size + 1 + 1, 1, none⟩ (.slice A (digs m.natAbs).length c)) := ⟨_, rfl⟩
  rw [← hW]
  have hO : Only (w.heap.size + 1 + 1) v1 w2 := by rw [hW]; exact (((Only.refl (w.heap.size + 1 + 1) v1).setCell 0 _).setCell 1 _)
  have L2 := Lib.hid (live_only L1.out hO Ra_1.out noint_int Ga)
  have Rx_2 := Lib.hid ((hO.block _ (by omega)).trans Rx_1.out)
  have Ry_2 := Lib.hid ((hO.block _ (by omega)).trans Ry_1.out)
  have Rb_2 := Lib.hid ((hO.block _ (by omega)).trans Rb_1.out)
  have Ra_2 := Lib.hid (show w2.heap[w.heap.size + 1 + 1]? = some (.cells #[.bool (decide (m < 0)), .slice A (digs m.natAbs).length c] 24 (0, 0)) by rw [hW]; exact (heap_setCell_same _ _ 1 _ _ _ (heap_setCell_same _ _ 0 _ _ _ Ra_1.out)))
  clear hW hO
  obtain ⟨w3, hW⟩ : ∃ W : World, W = ((w2.setCell ⟨w.heap.size + 1 + 1 + 1, 0, none⟩ (.bool (decide (n < 0)))).setCell ⟨w.heap.size + 1 + 1 + 1, 1, none⟩ (.slice B (digs n.natAbs).length d)) := ⟨_, rfl⟩
  rw [← hW]
  have hO : Only (w.heap.size + 1 + 1 + 1) w2 w3 := by rw [hW]; exact (((Only.refl (w.heap.size + 1 + 1 + 1) w2).setCell 0 _).setCell 1 _)
  have L3 := Lib.hid (live_only L2.out hO Rb_2.out noint_int Gb)
  have Rx_3 := Lib.hid ((hO.block _ (by omega)).trans Rx_2.out)
  have Ry_3 := Lib.hid ((hO.block _ (by omega)).trans Ry_2.out)
  have Ra_3 := Lib.hid ((hO.block _ (by omega)).trans Ra_2.out)
  have Rb_3 := Lib.hid (show w3.heap[w.heap.size + 1 + 1 + 1]? = some (.cells #[.bool (decide (n < 0)), .slice B (digs n.natAbs).length d] 24 (0, 0)) by rw [hW]; exact (heap_setCell_same _ _ 1 _ _ _ (heap_setCell_same _ _ 0 _ _ _ Rb_2.out)))
  clear hW hO
  obtain ⟨w4, hW⟩ : ∃ W : World, W = w3.drew := ⟨_, rfl⟩
  rw [← hW]
  have hb : Below w3.heap.size w3 w4 := by rw [hW]; exact bd0 _
  have L4 := ls L3 hb
  have Rx_4 := co Rx_3 hb
  have Ry_4 := co Ry_3 hb
  have Ra_4 := co Ra_3 hb
  have Rb_4 := co Rb_3 hb
  clear hW hb
  obtain ⟨fx0, zx0, fx1, zx1, fx2, zx2, xx⟩ := ly3 Rx_4.out
  obtain ⟨fy0, zy0, fy1, zy1, fy2, zy2, xy⟩ := ly3 Ry_4.out
  go_wp2_with fail
  clear fx0 zx0 fx1 zx1 fx2 zx2 xx fy0 zy0 fy1 zy1 fy2 zy2 xy
  obtain ⟨fa0, za0, fa1, za1, xa⟩ := ly2 Ra_4.out
  obtain ⟨fb0, zb0, fb1, zb1, xb⟩ := ly2 Rb_4.out
  go_region
  clear fa0 za0 fa1 za1 xa fb0 zb0 fb1 zb1 xb
  obtain ⟨w5, hW⟩ : ∃ W : World, W = ((w4.setCell ⟨w.heap.size + 1 + 1, 0, none⟩ (.bool (decide (m < 0)))).setCell ⟨w.heap.size + 1 + 1, 1, none⟩ (.slice A (digs m.natAbs).length c)) := ⟨_, rfl⟩
  rw [← hW]
  have hO : Only (w.heap.size + 1 + 1) w4 w5 := by rw [hW]; exact (((Only.refl (w.heap.size + 1 + 1) w4).setCell 0 _).setCell 1 _)
  have L5 := Lib.hid (live_only L4.out hO Ra_4.out noint_int Ga)
  have Rx_5 := Lib.hid ((hO.block _ (by omega)).trans Rx_4.out)
  have Ry_5 := Lib.hid ((hO.block _ (by omega)).trans Ry_4.out)
  have Rb_5 := Lib.hid ((hO.block _ (by omega)).trans Rb_4.out)
  have Ra_5 := Lib.hid (show w5.heap[w.heap.size + 1 + 1]? = some (.cells #[.bool (decide (m < 0)), .slice A (digs m.natAbs).length c] 24 (0, 0)) by rw [hW]; exact (heap_setCell_same _ _ 1 _ _ _ (heap_setCell_same _ _ 0 _ _ _ Ra_4.out)))
  clear hW hO
  obtain ⟨w6, hW⟩ : ∃ W : World, W = ((w5.setCell ⟨w.heap.size + 1 + 1 + 1, 0, none⟩ (.bool (decide (n < 0)))).setCell ⟨w.heap.size + 1 + 1 + 1, 1, none⟩ (.slice B (digs n.natAbs).length d)) := ⟨_, rfl⟩
  rw [← hW]
  have hO : Only (w.heap.size + 1 + 1 + 1) w5 w6 := by rw [hW]; exact (((Only.refl (w.heap.size + 1 + 1 + 1) w5).setCell 0 _).setCell 1 _)
  have L6 := Lib.hid (live_only L5.out hO Rb_5.out noint_int Gb)
  have Rx_6 := Lib.hid ((hO.block _ (by omega)).trans Rx_5.out)
  have Ry_6 := Lib.hid ((hO.block _ (by omega)).trans Ry_5.out)
  have Ra_6 := Lib.hid ((hO.block _ (by omega)).trans Ra_5.out)
  have Rb_6 := Lib.hid (show w6.heap[w.heap.size + 1 + 1 + 1]? = some (.cells #[.bool (decide (n < 0)), .slice B (digs n.natAbs).length d] 24 (0, 0)) by rw [hW]; exact (heap_setCell_same _ _ 1 _ _ _ (heap_setCell_same _ _ 0 _ _ _ Rb_5.out)))
  clear hW hO
  obtain ⟨w7, hW⟩ : ∃ W : World, W = w6.drew := ⟨_, rfl⟩
  rw [← hW]
  have hb : Below w6.heap.size w6 w7 := by rw [hW]; exact bd0 _
  have L7 := ls L6 hb
  have Rx_7 := co Rx_6 hb
  have Ry_7 := co Ry_6 hb
  have Ra_7 := co Ra_6 hb
  have Rb_7 := co Rb_6 hb
  clear hW hb
  obtain ⟨fa0, za0, fa1, za1, xa⟩ := ly2 Ra_7.out
  obtain ⟨fb0, zb0, fb1, zb1, xb⟩ := ly2 Rb_7.out
  go_wp2
  refine bodyPost_ret (v := .tuple #[.agg #[.bool (decide (m < 0)), .slice A (digs m.natAbs).length c], .agg #[.bool (decide (n < 0)), .slice B (digs n.natAbs).length d], .int .i64 e0]) (by simp [results, Tryd.results60, go_sem, fa0, fa1, fb0, fb1]) rfl ?_
  refine ⟨A, c, B, d, ?_, L7.out.get (A := A) (c := c) (xs := digs m.natAbs) (by simp), L7.out.get (A := B) (c := d) (xs := digs n.natAbs) (by simp), L7.out.1⟩
  rfl
end Go.Proofs.YtaciohjobenipaaDoor
end

section
/-
  dyad.against, Cmp.
-/
namespace Go.Proofs.YtaciohjobenipaaDoor
open Go.RowKit
set_option linter.unusedSimpArgs false
set_option linter.unusedVariables false
theorem beside_any {A B : Option Addr} {c d : Nat} {m n x y : Int} {w : World} (h : Dg w A c (digs m.natAbs)) (h' : Dg w B d (digs n.natAbs)) (hl : (digs m.natAbs).length ≤ 400000) (hl' : (digs n.natAbs).length ≤ 400000) (x0 : -131072 ≤ x) (x1 : x ≤ 131072) (y0 : -131072 ≤ y) (y1 : y ≤ 131072) {p q e0 : Int} (he : min x y = e0) (hp : upto m x e0 = p) (hq : upto n y e0 = q) :
    Calls Tryd.prog 60 #[.agg #[.bool (decide (m < 0)), .slice A (digs m.natAbs).length c, .int .i64 x], .agg #[.bool (decide (n < 0)), .slice B (digs n.natAbs).length d, .int .i64 y]] w fun e w' => Ybs p q e0 w e w' := by
  rcases Int.lt_trichotomy x y with hc | hc | hc
  · exact beside_lt A B c d m n x y w h h' hl hl' x0 x1 y0 y1 he hp hq hc
  · exact beside_eq A B c d m n x y w h h' hl hl' x0 x1 y0 y1 he hp hq hc
  · exact beside_gt A B c d m n x y w h h' hl hl' x0 x1 y0 y1 he hp hq hc
theorem cmp_b {A B : Option Addr} {c d x y : Nat} {q : Int} {w : World} (h : Dg w A c (digs x)) (h' : Dg w B d (digs y)) (hl : (digs x).length ≤ 1000000) (hl' : (digs y).length ≤ 1000000) (hq : cmpi x y = q) :
    Calls Tryd.prog 91 #[.slice A (digs x).length c, .slice B (digs y).length d] w fun e w' => e = .returned (.int .i64 q) ∧ Below w.heap.size w w' := by
  have := cmp_any A B c d (digs x) (digs y) w h h' (by omega) (by omega)
  rw [val_digs, val_digs, hq] at this
  exact this.mono fun e w' ⟨he, n, hw⟩ => ⟨he, by rw [hw]; exact below_drewN (Below.refl _ _) _⟩
theorem bits_b {A : Option Addr} {c x : Nat} {z : Int} {w : World} (h : Dg w A c (digs x)) (hl : (digs x).length ≤ 1000000) (hz : (blen x : Int) = z) :
    Calls Tryd.prog 48 #[.slice A (digs x).length c] w fun e w' => e = .returned (.int .i64 z) ∧ w = w' := by
  have := bits_any A c (digs x) w h (by omega)
  rw [val_digs, hz] at this; exact this
theorem bl_bd {m : Int} {k : Nat} (h : (digs m.natAbs).length ≤ k) : blen m.natAbs ≤ 32 * k := by
  refine blen_le ?_
  have := val_lt (ok_digs m.natAbs)
  rw [val_digs] at this
  refine Nat.lt_of_lt_of_le this ?_
  rw [show (4294967296 : Nat) = 2 ^ 32 from rfl, ← Nat.pow_mul]
  exact Nat.pow_le_pow_right (by omega) (by omega)
theorem len_bl (m : Int) : (digs m.natAbs).length ≤ bl m / 32 + 1 := by
  refine digs_len_lt ?_
  by_cases h : m.natAbs = 0
  · rw [h]; exact Nat.pow_pos (by omega)
  · have ⟨_, b, _⟩ := blen_bd m.natAbs h
    refine Nat.lt_of_lt_of_le b ?_
    rw [show (4294967296 : Nat) = 2 ^ 32 from rfl, ← Nat.pow_mul]
    refine Nat.pow_le_pow_right (by omega) ?_
    unfold bl; omega
/-- Cmp of two numbers without their signs. -/
def agq (m x n y : Int) : Int := if x + bl m < y + bl n then -1 else if y + bl n < x + bl m then 1 else cmpi (upto m x (min x y)).natAbs (upto n y (min x y)).natAbs
theorem agq_bd (m x n y : Int) : -1 ≤ agq m x n y ∧ agq m x n y ≤ 1 := by
  unfold agq
  have := cmpi_three (upto m x (min x y)).natAbs (upto n y (min x y)).natAbs
  split
  · omega
  · split <;> omega
theorem agq_pos {m x n y : Int} (hm : 0 < m) (hn : 0 < n) : agq m x n y = cmpd (dv m x) (dv n y) := by
  unfold agq
  split
  · rename_i h; rw [cmpd_lt (cmpd_size hm hn h)]
  · split
    · rename_i h; rw [cmpd_gt (cmpd_size hn hm h)]
    · have hx : min x y ≤ x := by omega
      have hy : min x y ≤ y := by omega
      generalize min x y = g at *
      rw [← dv_upto (m := m) hx, ← dv_upto (m := n) hy, cmpd_same]
      have e1 : 0 ≤ upto m x g := Int.mul_nonneg (by omega) (Int.le_of_lt (Int.pow_pos (by omega)))
      have e2 : 0 ≤ upto n y g := Int.mul_nonneg (by omega) (Int.le_of_lt (Int.pow_pos (by omega)))
      rcases cmpi_three (upto m x g).natAbs (upto n y g).natAbs with ⟨h, k⟩ | ⟨h, k⟩ | ⟨h, k⟩
      · rw [k, if_pos (by omega)]
      · rw [k, if_neg (by omega), if_neg (by omega)]
      · rw [k, if_neg (by omega), if_pos (by omega)]
theorem agq_abs (m x n y : Int) : agq m x n y = agq (m.natAbs : Int) x (n.natAbs : Int) y := by
  unfold agq bl
  rw [upto_abs, upto_abs, upto_abs, upto_abs]
  simp only [Int.natAbs_natCast]
theorem cmp_same {m x n y : Int} (h : Int.sign m = Int.sign n) (hx : Nf m x) (hy : Nf n y) : Int.sign m * agq m x n y = cmpd (dv m x) (dv n y) := by
  have e1 := sign_three m
  have e2 := sign_three n
  rcases e1 with ⟨a, b⟩ | ⟨a, b⟩ | ⟨a, b⟩
  · have hn : n < 0 := by omega
    rw [b, agq_abs, agq_pos (by omega) (by omega)]
    have f1 : dv (m.natAbs : Int) x = -dv m x := by rw [← dv_neg]; congr 1; omega
    have f2 : dv (n.natAbs : Int) y = -dv n y := by rw [← dv_neg]; congr 1; omega
    rw [f1, f2, cmpd_neg]; omega
  · have hn : n = 0 := by omega
    rw [b, Int.zero_mul, a, hn, dv_zero, dv_zero, cmpd_eq rfl]
  · rw [b, Int.one_mul, agq_pos a (by omega)]
theorem cmp_less {m x n y : Int} (h : Int.sign m < Int.sign n) : cmpd (dv m x) (dv n y) = -1 := by
  have e1 := sign_three m
  have e2 := sign_three n
  refine cmpd_lt ?_
  by_cases hm : m < 0
  · have h1 := dv_neg0 (e := x) |>.2 hm
    have h2 : 0 ≤ dv n y := dv_nonneg.2 (by omega)
    exact rlt_le h1 h2
  · have h1 : dv m x = 0 := dv_eq0.2 (by omega)
    rw [h1]; exact dv_pos.2 (by omega)
theorem cmp_more {m x n y : Int} (h : Int.sign n < Int.sign m) : cmpd (dv m x) (dv n y) = 1 := by
  have := cmp_less (m := n) (x := y) (n := m) (y := x) h
  rw [cmpd_swap, this]; rfl

theorem upto_len {m x e0 : Int} (hl : (digs m.natAbs).length ≤ 400000) (h : x - e0 ≤ 1000000) : (digs (upto m x e0).natAbs).length ≤ 1000000 := by
  have h1 := bl_bd hl
  have h2 := len_bl (upto m x e0)
  have h3 : bl (upto m x e0) ≤ 12800000 + 1000000 := by
    unfold bl
    by_cases h0 : m.natAbs = 0
    · rw [upto_abs, h0, Nat.zero_mul, blen_zero]; omega
    · rw [upto_abs, blen_up h0]; omega
  omega

set_option maxHeartbeats 4000000 in
set_option maxRecDepth 100000 in
theorem against_lt (A B : Option Addr) (c d : Nat) (m n x y : Int) (w : World) (h : Dg w A c (digs m.natAbs)) (h' : Dg w B d (digs n.natAbs)) (hl : (digs m.natAbs).length ≤ 400000) (hl' : (digs n.natAbs).length ≤ 400000) (x0 : -131072 ≤ x) (x1 : x ≤ 131072) (y0 : -131072 ≤ y) (y1 : y ≤ 131072) (hc : x + bl m < y + bl n):
    Calls Tryd.prog 51 #[.agg #[.bool (decide (m < 0)), .slice A (digs m.natAbs).length c, .int .i64 x], .agg #[.bool (decide (n < 0)), .slice B (digs n.natAbs).length d, .int .i64 y]] w fun e w' => e = .returned (.int .i64 (-1)) ∧ Below w.heap.size w w' := by
  have b1 := bl_bd hl
  have b2 := bl_bd hl'
  unfold bl at hc
  obtain ⟨z1, hz1⟩ : ∃ z : Int, (blen m.natAbs : Int) = z := ⟨_, rfl⟩
  obtain ⟨z2, hz2⟩ : ∃ z : Int, (blen n.natAbs : Int) = z := ⟨_, rfl⟩
  rw [hz1, hz2] at hc
  have k1 : 0 ≤ z1 ∧ z1 ≤ 13000000 := by omega
  have k2 : 0 ≤ z2 ∧ z2 ≤ 13000000 := by omega
  obtain ⟨k10, k11⟩ := k1
  obtain ⟨k20, k21⟩ := k2
  have lx := Lib.hid hl
  have ly := Lib.hid hl'
  have HZ1 := Lib.hid hz1
  have HZ2 := Lib.hid hz2
  obtain ⟨s1, hs1⟩ : ∃ s : Int, x + z1 = s := ⟨_, rfl⟩
  obtain ⟨s2, hs2⟩ : ∃ s : Int, y + z2 = s := ⟨_, rfl⟩
  rw [hs1, hs2] at hc
  have ws1 : IntKind.i64.wrap (x + z1) = s1 := by rw [IntWalk.i64_in _ (by omega)]; exact hs1
  have ws2 : IntKind.i64.wrap (y + z2) = s2 := by rw [IntWalk.i64_in _ (by omega)]; exact hs2
  have d1 : decide (s1 < s2) = true := by simp; omega
  have L0 := Lib.hid (((live_start w).add h).add h')
  clear hl hl' hz1 hz2 hc hs1 hs2 b1 b2 h h'
  go_enter Tryd.func51, Tryd.ntmps51
  go_wp2_with fail
  obtain ⟨v1, hW, hb, Rx_1, Ry_1⟩ := new2 w (.cells #[.bool (decide (m < 0)), .slice A (digs m.natAbs).length c, .int .i64 x] 26) (.cells #[.bool (decide (n < 0)), .slice B (digs n.natAbs).length d, .int .i64 y] 26)
  rw [← hW]
  have L1 := ls L0 hb
  have Gx := gl0 L0.out
  have Gy := gl1 L0.out
  have Nxy : w.heap.size < w.heap.size + 1 := by omega
  clear hW hb
  obtain ⟨fx0, zx0, fx1, zx1, fx2, zx2, xx⟩ := ly3 Rx_1.out
  obtain ⟨fy0, zy0, fy1, zy1, fy2, zy2, xy⟩ := ly3 Ry_1.out
  have KD := Lib.hid (bd0 v1)
  have LD := ls L1 KD.out
  go_region_held3 (fun w' => ∀ b o, b < v1.heap.size → w'.cell? ⟨b, o, none⟩ = v1.cell? ⟨b, o, none⟩)
    (first | with_reducible exact (bcell KD.out).1)
    (first
      | (go_at_call_of 48 A; (with_reducible refine (bits_b (LD.out.get (A := A) (c := c) (xs := digs m.natAbs) (by simp)) (Nat.le_trans lx.out (by omega)) HZ1.out).mono ?_); rintro e w3 ⟨rfl, rfl⟩)
      | (go_at_call_of 48 B; (with_reducible refine (bits_b (LD.out.get (A := B) (c := d) (xs := digs n.natAbs) (by simp)) (Nat.le_trans ly.out (by omega)) HZ2.out).mono ?_); rintro e w4 ⟨rfl, rfl⟩))
  rename_i hHeld
  clear hHeld
  clear fx0 zx0 fx1 zx1 fx2 zx2 xx fy0 zy0 fy1 zy1 fy2 zy2 xy
  clear KD LD
  obtain ⟨w5, hW⟩ : ∃ W : World, W = v1.drew := ⟨_, rfl⟩
  rw [← hW]
  have hb : Below v1.heap.size v1 w5 := by rw [hW]; exact bd0 _
  have L5 := ls L1 hb
  have Rx_5 := co Rx_1 hb
  have Ry_5 := co Ry_1 hb
  clear hW hb
  clear ws1 ws2
  go_wp2
  go_ret
  exact ⟨rfl, L5.out.1⟩

set_option maxHeartbeats 4000000 in
set_option maxRecDepth 100000 in
theorem against_gt (A B : Option Addr) (c d : Nat) (m n x y : Int) (w : World) (h : Dg w A c (digs m.natAbs)) (h' : Dg w B d (digs n.natAbs)) (hl : (digs m.natAbs).length ≤ 400000) (hl' : (digs n.natAbs).length ≤ 400000) (x0 : -131072 ≤ x) (x1 : x ≤ 131072) (y0 : -131072 ≤ y) (y1 : y ≤ 131072) (hc : y + bl n < x + bl m):
    Calls Tryd.prog 51 #[.agg #[.bool (decide (m < 0)), .slice A (digs m.natAbs).length c, .int .i64 x], .agg #[.bool (decide (n < 0)), .slice B (digs n.natAbs).length d, .int .i64 y]] w fun e w' => e = .returned (.int .i64 1) ∧ Below w.heap.size w w' := by
  have b1 := bl_bd hl
  have b2 := bl_bd hl'
  unfold bl at hc
  obtain ⟨z1, hz1⟩ : ∃ z : Int, (blen m.natAbs : Int) = z := ⟨_, rfl⟩
  obtain ⟨z2, hz2⟩ : ∃ z : Int, (blen n.natAbs : Int) = z := ⟨_, rfl⟩
  rw [hz1, hz2] at hc
  have k1 : 0 ≤ z1 ∧ z1 ≤ 13000000 := by omega
  have k2 : 0 ≤ z2 ∧ z2 ≤ 13000000 := by omega
  obtain ⟨k10, k11⟩ := k1
  obtain ⟨k20, k21⟩ := k2
  have lx := Lib.hid hl
  have ly := Lib.hid hl'
  have HZ1 := Lib.hid hz1
  have HZ2 := Lib.hid hz2
  obtain ⟨s1, hs1⟩ : ∃ s : Int, x + z1 = s := ⟨_, rfl⟩
  obtain ⟨s2, hs2⟩ : ∃ s : Int, y + z2 = s := ⟨_, rfl⟩
  rw [hs1, hs2] at hc
  have ws1 : IntKind.i64.wrap (x + z1) = s1 := by rw [IntWalk.i64_in _ (by omega)]; exact hs1
  have ws2 : IntKind.i64.wrap (y + z2) = s2 := by rw [IntWalk.i64_in _ (by omega)]; exact hs2
  have d1 : decide (s1 < s2) = false := by simp; omega
  have d2 : decide (s2 < s1) = true := by simp; omega
  have L0 := Lib.hid (((live_start w).add h).add h')
  clear hl hl' hz1 hz2 hc hs1 hs2 b1 b2 h h'
  go_enter Tryd.func51, Tryd.ntmps51
  go_wp2_with fail
  obtain ⟨v1, hW, hb, Rx_1, Ry_1⟩ := new2 w (.cells #[.bool (decide (m < 0)), .slice A (digs m.natAbs).length c, .int .i64 x] 26) (.cells #[.bool (decide (n < 0)), .slice B (digs n.natAbs).length d, .int .i64 y] 26)
  rw [← hW]
  have L1 := ls L0 hb
  have Gx := gl0 L0.out
  have Gy := gl1 L0.out
  have Nxy : w.heap.size < w.heap.size + 1 := by omega
  clear hW hb
  obtain ⟨fx0, zx0, fx1, zx1, fx2, zx2, xx⟩ := ly3 Rx_1.out
  obtain ⟨fy0, zy0, fy1, zy1, fy2, zy2, xy⟩ := ly3 Ry_1.out
  have KD := Lib.hid (bd0 v1)
  have LD := ls L1 KD.out
  go_region_held3 (fun w' => ∀ b o, b < v1.heap.size → w'.cell? ⟨b, o, none⟩ = v1.cell? ⟨b, o, none⟩)
    (first | with_reducible exact (bcell KD.out).1)
    (first
      | (go_at_call_of 48 A; (with_reducible refine (bits_b (LD.out.get (A := A) (c := c) (xs := digs m.natAbs) (by simp)) (Nat.le_trans lx.out (by omega)) HZ1.out).mono ?_); rintro e w3 ⟨rfl, rfl⟩)
      | (go_at_call_of 48 B; (with_reducible refine (bits_b (LD.out.get (A := B) (c := d) (xs := digs n.natAbs) (by simp)) (Nat.le_trans ly.out (by omega)) HZ2.out).mono ?_); rintro e w4 ⟨rfl, rfl⟩))
  rename_i hHeld
  clear hHeld
  clear fx0 zx0 fx1 zx1 fx2 zx2 xx fy0 zy0 fy1 zy1 fy2 zy2 xy
  clear KD LD
  obtain ⟨w5, hW⟩ : ∃ W : World, W = v1.drew := ⟨_, rfl⟩
  rw [← hW]
  have hb : Below v1.heap.size v1 w5 := by rw [hW]; exact bd0 _
  have L5 := ls L1 hb
  have Rx_5 := co Rx_1 hb
  have Ry_5 := co Ry_1 hb
  clear hW hb
  clear ws1 ws2
  go_wp2
  go_ret
  exact ⟨rfl, L5.out.1⟩

set_option maxHeartbeats 4000000 in
set_option maxRecDepth 100000 in
theorem against_eq (A B : Option Addr) (c d : Nat) (m n x y : Int) (w : World) (h : Dg w A c (digs m.natAbs)) (h' : Dg w B d (digs n.natAbs)) (hl : (digs m.natAbs).length ≤ 400000) (hl' : (digs n.natAbs).length ≤ 400000) (x0 : -131072 ≤ x) (x1 : x ≤ 131072) (y0 : -131072 ≤ y) (y1 : y ≤ 131072) (hc : x + bl m = y + bl n) {k : Int} (hk : cmpi (upto m x (min x y)).natAbs (upto n y (min x y)).natAbs = k):
    Calls Tryd.prog 51 #[.agg #[.bool (decide (m < 0)), .slice A (digs m.natAbs).length c, .int .i64 x], .agg #[.bool (decide (n < 0)), .slice B (digs n.natAbs).length d, .int .i64 y]] w fun e w' => e = .returned (.int .i64 k) ∧ Below w.heap.size w w' := by
  have b1 := bl_bd hl
  have b2 := bl_bd hl'
  unfold bl at hc
  obtain ⟨z1, hz1⟩ : ∃ z : Int, (blen m.natAbs : Int) = z := ⟨_, rfl⟩
  obtain ⟨z2, hz2⟩ : ∃ z : Int, (blen n.natAbs : Int) = z := ⟨_, rfl⟩
  rw [hz1, hz2] at hc
  have k1 : 0 ≤ z1 ∧ z1 ≤ 13000000 := by omega
  have k2 : 0 ≤ z2 ∧ z2 ≤ 13000000 := by omega
  obtain ⟨k10, k11⟩ := k1
  obtain ⟨k20, k21⟩ := k2
  have lx := Lib.hid hl
  have ly := Lib.hid hl'
  have HZ1 := Lib.hid hz1
  have HZ2 := Lib.hid hz2
  obtain ⟨s1, hs1⟩ : ∃ s : Int, x + z1 = s := ⟨_, rfl⟩
  obtain ⟨s2, hs2⟩ : ∃ s : Int, y + z2 = s := ⟨_, rfl⟩
  rw [hs1, hs2] at hc
  have ws1 : IntKind.i64.wrap (x + z1) = s1 := by rw [IntWalk.i64_in _ (by omega)]; exact hs1
  have ws2 : IntKind.i64.wrap (y + z2) = s2 := by rw [IntWalk.i64_in _ (by omega)]; exact hs2
  have d1 : decide (s1 < s2) = false := by simp; omega
  have d2 : decide (s2 < s1) = false := by simp; omega
  obtain ⟨e0, he0⟩ : ∃ e, min x y = e := ⟨_, rfl⟩
  rw [he0] at hk
  obtain ⟨p, hp⟩ : ∃ e, upto m x e0 = e := ⟨_, rfl⟩
  obtain ⟨q, hq⟩ : ∃ e, upto n y e0 = e := ⟨_, rfl⟩
  rw [hp, hq] at hk
  have HK := Lib.hid hk
  have HP := Lib.hid hp
  have HQ := Lib.hid hq
  have HE := Lib.hid he0
  have lp := Lib.hid (show (digs p.natAbs).length ≤ 1000000 by rw [← hp]; exact upto_len hl (by omega))
  have lq := Lib.hid (show (digs q.natAbs).length ≤ 1000000 by rw [← hq]; exact upto_len hl' (by omega))
  have L0 := Lib.hid (((live_start w).add h).add h')
  clear hl hl' hz1 hz2 hc hs1 hs2 b1 b2 h h' hk hp hq he0
  go_enter Tryd.func51, Tryd.ntmps51
  go_wp2_with fail
  obtain ⟨v1, hW, hb, Rx_1, Ry_1⟩ := new2 w (.cells #[.bool (decide (m < 0)), .slice A (digs m.natAbs).length c, .int .i64 x] 26) (.cells #[.bool (decide (n < 0)), .slice B (digs n.natAbs).length d, .int .i64 y] 26)
  rw [← hW]
  have L1 := ls L0 hb
  have Gx := gl0 L0.out
  have Gy := gl1 L0.out
  have Nxy : w.heap.size < w.heap.size + 1 := by omega
  clear hW hb
  obtain ⟨fx0, zx0, fx1, zx1, fx2, zx2, xx⟩ := ly3 Rx_1.out
  obtain ⟨fy0, zy0, fy1, zy1, fy2, zy2, xy⟩ := ly3 Ry_1.out
  have KD := Lib.hid (bd0 v1)
  have LD := ls L1 KD.out
  go_region_held3 (fun w' => ∀ b o, b < v1.heap.size → w'.cell? ⟨b, o, none⟩ = v1.cell? ⟨b, o, none⟩)
    (first | with_reducible exact (bcell KD.out).1)
    (first
      | (go_at_call_of 48 A; (with_reducible refine (bits_b (LD.out.get (A := A) (c := c) (xs := digs m.natAbs) (by simp)) (Nat.le_trans lx.out (by omega)) HZ1.out).mono ?_); rintro e w3 ⟨rfl, rfl⟩)
      | (go_at_call_of 48 B; (with_reducible refine (bits_b (LD.out.get (A := B) (c := d) (xs := digs n.natAbs) (by simp)) (Nat.le_trans ly.out (by omega)) HZ2.out).mono ?_); rintro e w4 ⟨rfl, rfl⟩))
  rename_i hHeld
  clear hHeld
  clear fx0 zx0 fx1 zx1 fx2 zx2 xx fy0 zy0 fy1 zy1 fy2 zy2 xy
  clear KD LD
  obtain ⟨w5, hW⟩ : ∃ W : World, W = v1.drew := ⟨_, rfl⟩
  rw [← hW]
  have hb : Below v1.heap.size v1 w5 := by rw [hW]; exact bd0 _
  have L5 := ls L1 hb
  have Rx_5 := co Rx_1 hb
  have Ry_5 := co Ry_1 hb
  clear hW hb
  clear ws1 ws2
  obtain ⟨fx0, zx0, fx1, zx1, fx2, zx2, xx⟩ := ly3 Rx_5.out
  obtain ⟨fy0, zy0, fy1, zy1, fy2, zy2, xy⟩ := ly3 Ry_5.out
  go_wp2_with fail
  refine (beside_any (p := p) (q := q) (e0 := e0) (L5.out.get (A := A) (c := c) (xs := digs m.natAbs) (by simp)) (L5.out.get (A := B) (c := d) (xs := digs n.natAbs) (by simp)) lx.out ly.out x0 x1 y0 y1 HE.out HP.out HQ.out).mono ?_
  rintro e w6 ⟨A6, c6, B6, d6, rfl, hd, hd', hb⟩
  have L6 := Lib.hid (((L5.out.step hb).add hd).add hd')
  clear fx0 zx0 fx1 zx1 fx2 zx2 xx fy0 zy0 fy1 zy1 fy2 zy2 xy
  have Rx_6 := co Rx_5 hb
  have Ry_6 := co Ry_5 hb
  clear hb hd hd'
  go_wp2_with fail
  obtain ⟨w7, hW, hb, Ra_7, Rb_7⟩ := new2 w6 (.cells #[.bool (decide (p < 0)), .slice A6 (digs p.natAbs).length c6] 24) (.cells #[.bool (decide (q < 0)), .slice B6 (digs q.natAbs).length d6] 24)
  rw [← hW]
  have L7 := ls L6 hb
  have Rx_7 := co Rx_6 hb
  have Ry_7 := co Ry_6 hb
  have Ga := gl0 L6.out
  have Nxa := nl0 Rx_6.out
  have Nya := nl0 Ry_6.out
  have Gb := gl1 L6.out
  have Nxb := nl1 Rx_6.out
  have Nyb := nl1 Ry_6.out
  have Nab : w6.heap.size < w6.heap.size + 1 := by omega
  clear hW hb
  refine (cmp_b (L7.out.get (A := A6) (c := c6) (xs := digs p.natAbs) (by simp)) (L7.out.get (A := B6) (c := d6) (xs := digs q.natAbs) (by simp)) lp.out lq.out HK.out).mono ?_
  rintro e w8 ⟨rfl, hb⟩
  have L8 := ls L7 hb
  have Rx_8 := co Rx_7 hb
  have Ry_8 := co Ry_7 hb
  have Ra_8 := co Ra_7 hb
  have Rb_8 := co Rb_7 hb
  clear hb 
  go_wp2
  go_ret
  exact ⟨rfl, L8.out.1⟩

theorem dagainst_any {A B : Option Addr} {c d : Nat} {m n x y k : Int} {w : World} (h : Dg w A c (digs m.natAbs)) (h' : Dg w B d (digs n.natAbs)) (hl : (digs m.natAbs).length ≤ 400000) (hl' : (digs n.natAbs).length ≤ 400000) (x0 : -131072 ≤ x) (x1 : x ≤ 131072) (y0 : -131072 ≤ y) (y1 : y ≤ 131072) (hk : agq m x n y = k) :
    Calls Tryd.prog 51 #[.agg #[.bool (decide (m < 0)), .slice A (digs m.natAbs).length c, .int .i64 x], .agg #[.bool (decide (n < 0)), .slice B (digs n.natAbs).length d, .int .i64 y]] w fun e w' => e = .returned (.int .i64 k) ∧ Below w.heap.size w w' := by
  unfold agq at hk
  by_cases h1 : x + bl m < y + bl n
  · rw [if_pos h1] at hk; subst hk; exact against_lt A B c d m n x y w h h' hl hl' x0 x1 y0 y1 h1
  · rw [if_neg h1] at hk
    by_cases h2 : y + bl n < x + bl m
    · rw [if_pos h2] at hk; subst hk; exact against_gt A B c d m n x y w h h' hl hl' x0 x1 y0 y1 h2
    · rw [if_neg h2] at hk; exact against_eq A B c d m n x y w h h' hl hl' x0 x1 y0 y1 (by omega) hk
theorem sign_dz {A : Option Addr} {c : Nat} {m x q : Int} {w : World} (hq : Int.sign m = q) :
    Calls Tryd.prog 50 #[.agg #[.bool (decide (m < 0)), .slice A (digs m.natAbs).length c, .int .i64 x]] w fun e w' => e = .returned (.int .i64 q) ∧ Below w.heap.size w w' := by
  have h3 := sign_three m
  refine sign_d A _ c _ x q w (fun h => ?_) (fun h => ?_)
  · have := digs_nil.1 h; omega
  · have : m.natAbs ≠ 0 := fun e => h (digs_nil.2 e)
    by_cases hm : m < 0
    · rw [if_pos (by simpa using hm)]; omega
    · rw [if_neg (by simpa using hm)]; omega

set_option maxHeartbeats 4000000 in
set_option maxRecDepth 100000 in
theorem cmp_lt_ (A B : Option Addr) (c d : Nat) (m n x y : Int) (w : World) (h : Dg w A c (digs m.natAbs)) (h' : Dg w B d (digs n.natAbs)) (hl : (digs m.natAbs).length ≤ 400000) (hl' : (digs n.natAbs).length ≤ 400000) (r1 : Rt m x) (r2 : Rt n y) {q : Int} (hq : cmpd (dv m x) (dv n y) = q) (hc : Int.sign m < Int.sign n):
    Calls Tryd.prog 19 #[.agg #[.bool (decide (m < 0)), .slice A (digs m.natAbs).length c, .int .i64 x], .agg #[.bool (decide (n < 0)), .slice B (digs n.natAbs).length d, .int .i64 y]] w fun e w' => e = .returned (.int .i64 q) ∧ Below w.heap.size w w' := by
  have x0 := r1.2.1
  have x1 := r1.2.2
  have y0 := r2.2.1
  have y1 := r2.2.2
  have DX := Lib.hid (fun W hW => dright_any A c (decide (m < 0)) (digs m.natAbs) x W hW true (dyR_num r1) (by omega))
  have DY := Lib.hid (fun W hW => dright_any B d (decide (n < 0)) (digs n.natAbs) y W hW true (dyR_num r2) (by omega))
  have lx := Lib.hid hl
  have ly := Lib.hid hl'
  obtain rfl : q = -1 := by rw [← hq]; exact cmp_less hc
  have b1 := sign_bd m
  have b2 := sign_bd n
  obtain ⟨s1, hs1⟩ : ∃ s, Int.sign m = s := ⟨_, rfl⟩
  obtain ⟨s2, hs2⟩ : ∃ s, Int.sign n = s := ⟨_, rfl⟩
  rw [hs1, hs2] at hc
  rw [hs1] at b1
  rw [hs2] at b2
  obtain ⟨b10, b11⟩ := b1
  obtain ⟨b20, b21⟩ := b2
  have S1 := Lib.hid hs1
  have S2 := Lib.hid hs2
  have d1 : (s1 != s2) = true := by simp; omega
  have d1' : (s1 == s2) = false := by simp; omega
  have d2 : decide (s1 < s2) = true := by simp; omega
  have L0 := Lib.hid (((live_start w).add h).add h')
  clear hl hl' hc hs1 hs2 h h' r1 r2 hq
  go_enter Tryd.func19, Tryd.ntmps19
  go_wp2_with fail
  obtain ⟨v1, hW, hb, Rx_1, Ry_1⟩ := new2 w (.cells #[.bool (decide (m < 0)), .slice A (digs m.natAbs).length c, .int .i64 x] 26) (.cells #[.bool (decide (n < 0)), .slice B (digs n.natAbs).length d, .int .i64 y] 26)
  rw [← hW]
  have L1 := ls L0 hb
  have Gx := gl0 L0.out
  have Gy := gl1 L0.out
  have Nxy : w.heap.size < w.heap.size + 1 := by omega
  clear hW hb
  refine (DX.out _ (L1.out.get (A := A) (c := c) (xs := digs m.natAbs) (by simp))).mono ?_
  rintro e w2 ⟨rfl, hb⟩
  have L2 := ls L1 hb
  have Rx_2 := co Rx_1 hb
  have Ry_2 := co Ry_1 hb
  clear hb 
  obtain ⟨fx0, zx0, fx1, zx1, fx2, zx2, xx⟩ := ly3 Rx_2.out
  obtain ⟨fy0, zy0, fy1, zy1, fy2, zy2, xy⟩ := ly3 Ry_2.out
  go_wp2_with fail
  refine (DY.out _ (L2.out.get (A := B) (c := d) (xs := digs n.natAbs) (by simp))).mono ?_
  rintro e w3 ⟨rfl, hb⟩
  have L3 := ls L2 hb
  clear fx0 zx0 fx1 zx1 fx2 zx2 xx fy0 zy0 fy1 zy1 fy2 zy2 xy
  have Rx_3 := co Rx_2 hb
  have Ry_3 := co Ry_2 hb
  clear hb 
  obtain ⟨fx0, zx0, fx1, zx1, fx2, zx2, xx⟩ := ly3 Rx_3.out
  obtain ⟨fy0, zy0, fy1, zy1, fy2, zy2, xy⟩ := ly3 Ry_3.out
  go_wp2_with fail
  refine (sign_dz (x := x) S1.out).mono ?_
  rintro e w4 ⟨rfl, hb⟩
  have L4 := ls L3 hb
  clear fx0 zx0 fx1 zx1 fx2 zx2 xx fy0 zy0 fy1 zy1 fy2 zy2 xy
  have Rx_4 := co Rx_3 hb
  have Ry_4 := co Ry_3 hb
  clear hb 
  obtain ⟨fx0, zx0, fx1, zx1, fx2, zx2, xx⟩ := ly3 Rx_4.out
  obtain ⟨fy0, zy0, fy1, zy1, fy2, zy2, xy⟩ := ly3 Ry_4.out
  go_wp2_with fail
  refine (sign_dz (x := y) S2.out).mono ?_
  rintro e w5 ⟨rfl, hb⟩
  have L5 := ls L4 hb
  clear fx0 zx0 fx1 zx1 fx2 zx2 xx fy0 zy0 fy1 zy1 fy2 zy2 xy
  have Rx_5 := co Rx_4 hb
  have Ry_5 := co Ry_4 hb
  clear hb 
  obtain ⟨fx0, zx0, fx1, zx1, fx2, zx2, xx⟩ := ly3 Rx_5.out
  obtain ⟨fy0, zy0, fy1, zy1, fy2, zy2, xy⟩ := ly3 Ry_5.out
  go_wp2_with fail
  refine (sign_dz (x := y) S2.out).mono ?_
  rintro e w6 ⟨rfl, hb⟩
  have L6 := ls L5 hb
  clear fx0 zx0 fx1 zx1 fx2 zx2 xx fy0 zy0 fy1 zy1 fy2 zy2 xy
  have Rx_6 := co Rx_5 hb
  have Ry_6 := co Ry_5 hb
  clear hb 
  go_wp2
  go_ret
  exact ⟨rfl, L6.out.1⟩

set_option maxHeartbeats 4000000 in
set_option maxRecDepth 100000 in
theorem cmp_eq_ (A B : Option Addr) (c d : Nat) (m n x y : Int) (w : World) (h : Dg w A c (digs m.natAbs)) (h' : Dg w B d (digs n.natAbs)) (hl : (digs m.natAbs).length ≤ 400000) (hl' : (digs n.natAbs).length ≤ 400000) (r1 : Rt m x) (r2 : Rt n y) {q : Int} (hq : cmpd (dv m x) (dv n y) = q) (hc : Int.sign m = Int.sign n):
    Calls Tryd.prog 19 #[.agg #[.bool (decide (m < 0)), .slice A (digs m.natAbs).length c, .int .i64 x], .agg #[.bool (decide (n < 0)), .slice B (digs n.natAbs).length d, .int .i64 y]] w fun e w' => e = .returned (.int .i64 q) ∧ Below w.heap.size w w' := by
  have x0 := r1.2.1
  have x1 := r1.2.2
  have y0 := r2.2.1
  have y1 := r2.2.2
  have DX := Lib.hid (fun W hW => dright_any A c (decide (m < 0)) (digs m.natAbs) x W hW true (dyR_num r1) (by omega))
  have DY := Lib.hid (fun W hW => dright_any B d (decide (n < 0)) (digs n.natAbs) y W hW true (dyR_num r2) (by omega))
  have lx := Lib.hid hl
  have ly := Lib.hid hl'
  have HQ := Lib.hid (show Int.sign m * agq m x n y = q by rw [← hq]; exact cmp_same hc r1.1 r2.1)
  have b1 := sign_bd m
  have b2 := sign_bd n
  obtain ⟨s1, hs1⟩ : ∃ s, Int.sign m = s := ⟨_, rfl⟩
  obtain ⟨s2, hs2⟩ : ∃ s, Int.sign n = s := ⟨_, rfl⟩
  rw [hs1, hs2] at hc
  rw [hs1] at b1
  rw [hs2] at b2
  obtain ⟨b10, b11⟩ := b1
  obtain ⟨b20, b21⟩ := b2
  have S1 := Lib.hid hs1
  have S2 := Lib.hid hs2
  have d1 : (s1 != s2) = false := by simp; omega
  have d1' : (s1 == s2) = true := by simp; omega
  rw [hs1] at HQ
  have a1 := agq_bd m x n y
  obtain ⟨k, hk⟩ : ∃ k, agq m x n y = k := ⟨_, rfl⟩
  rw [hk] at a1 HQ
  obtain ⟨a10, a11⟩ := a1
  have HK := Lib.hid hk
  have w1 : -1 ≤ s1 * k ∧ s1 * k ≤ 1 := by
    have : s1 = -1 ∨ s1 = 0 ∨ s1 = 1 := by omega
    rcases this with e | e | e <;> rw [e] <;> omega
  obtain ⟨w10, w11⟩ := w1
  have L0 := Lib.hid (((live_start w).add h).add h')
  clear hl hl' hc hs1 hs2 h h' r1 r2 hq hk
  go_enter Tryd.func19, Tryd.ntmps19
  go_wp2_with fail
  obtain ⟨v1, hW, hb, Rx_1, Ry_1⟩ := new2 w (.cells #[.bool (decide (m < 0)), .slice A (digs m.natAbs).length c, .int .i64 x] 26) (.cells #[.bool (decide (n < 0)), .slice B (digs n.natAbs).length d, .int .i64 y] 26)
  rw [← hW]
  have L1 := ls L0 hb
  have Gx := gl0 L0.out
  have Gy := gl1 L0.out
  have Nxy : w.heap.size < w.heap.size + 1 := by omega
  clear hW hb
  refine (DX.out _ (L1.out.get (A := A) (c := c) (xs := digs m.natAbs) (by simp))).mono ?_
  rintro e w2 ⟨rfl, hb⟩
  have L2 := ls L1 hb
  have Rx_2 := co Rx_1 hb
  have Ry_2 := co Ry_1 hb
  clear hb 
  obtain ⟨fx0, zx0, fx1, zx1, fx2, zx2, xx⟩ := ly3 Rx_2.out
  obtain ⟨fy0, zy0, fy1, zy1, fy2, zy2, xy⟩ := ly3 Ry_2.out
  go_wp2_with fail
  refine (DY.out _ (L2.out.get (A := B) (c := d) (xs := digs n.natAbs) (by simp))).mono ?_
  rintro e w3 ⟨rfl, hb⟩
  have L3 := ls L2 hb
  clear fx0 zx0 fx1 zx1 fx2 zx2 xx fy0 zy0 fy1 zy1 fy2 zy2 xy
  have Rx_3 := co Rx_2 hb
  have Ry_3 := co Ry_2 hb
  clear hb 
  obtain ⟨fx0, zx0, fx1, zx1, fx2, zx2, xx⟩ := ly3 Rx_3.out
  obtain ⟨fy0, zy0, fy1, zy1, fy2, zy2, xy⟩ := ly3 Ry_3.out
  go_wp2_with fail
  refine (sign_dz (x := x) S1.out).mono ?_
  rintro e w4 ⟨rfl, hb⟩
  have L4 := ls L3 hb
  clear fx0 zx0 fx1 zx1 fx2 zx2 xx fy0 zy0 fy1 zy1 fy2 zy2 xy
  have Rx_4 := co Rx_3 hb
  have Ry_4 := co Ry_3 hb
  clear hb 
  obtain ⟨fx0, zx0, fx1, zx1, fx2, zx2, xx⟩ := ly3 Rx_4.out
  obtain ⟨fy0, zy0, fy1, zy1, fy2, zy2, xy⟩ := ly3 Ry_4.out
  go_wp2_with fail
  refine (sign_dz (x := y) S2.out).mono ?_
  rintro e w5 ⟨rfl, hb⟩
  have L5 := ls L4 hb
  clear fx0 zx0 fx1 zx1 fx2 zx2 xx fy0 zy0 fy1 zy1 fy2 zy2 xy
  have Rx_5 := co Rx_4 hb
  have Ry_5 := co Ry_4 hb
  clear hb 
  obtain ⟨fx0, zx0, fx1, zx1, fx2, zx2, xx⟩ := ly3 Rx_5.out
  obtain ⟨fy0, zy0, fy1, zy1, fy2, zy2, xy⟩ := ly3 Ry_5.out
  go_wp2_with fail
  refine (dagainst_any (k := k) (L5.out.get (A := A) (c := c) (xs := digs m.natAbs) (by simp)) (L5.out.get (A := B) (c := d) (xs := digs n.natAbs) (by simp)) lx.out ly.out x0 x1 y0 y1 HK.out).mono ?_
  rintro e w6 ⟨rfl, hb⟩
  have L6 := ls L5 hb
  clear fx0 zx0 fx1 zx1 fx2 zx2 xx fy0 zy0 fy1 zy1 fy2 zy2 xy
  have Rx_6 := co Rx_5 hb
  have Ry_6 := co Ry_5 hb
  clear hb 
  go_wp2
  go_ret
  exact ⟨ret_i HQ.out, L6.out.1⟩

set_option maxHeartbeats 4000000 in
set_option maxRecDepth 100000 in
theorem cmp_gt_ (A B : Option Addr) (c d : Nat) (m n x y : Int) (w : World) (h : Dg w A c (digs m.natAbs)) (h' : Dg w B d (digs n.natAbs)) (hl : (digs m.natAbs).length ≤ 400000) (hl' : (digs n.natAbs).length ≤ 400000) (r1 : Rt m x) (r2 : Rt n y) {q : Int} (hq : cmpd (dv m x) (dv n y) = q) (hc : Int.sign n < Int.sign m):
    Calls Tryd.prog 19 #[.agg #[.bool (decide (m < 0)), .slice A (digs m.natAbs).length c, .int .i64 x], .agg #[.bool (decide (n < 0)), .slice B (digs n.natAbs).length d, .int .i64 y]] w fun e w' => e = .returned (.int .i64 q) ∧ Below w.heap.size w w' := by
  have x0 := r1.2.1
  have x1 := r1.2.2
  have y0 := r2.2.1
  have y1 := r2.2.2
  have DX := Lib.hid (fun W hW => dright_any A c (decide (m < 0)) (digs m.natAbs) x W hW true (dyR_num r1) (by omega))
  have DY := Lib.hid (fun W hW => dright_any B d (decide (n < 0)) (digs n.natAbs) y W hW true (dyR_num r2) (by omega))
  have lx := Lib.hid hl
  have ly := Lib.hid hl'
  obtain rfl : q = 1 := by rw [← hq]; exact cmp_more hc
  have b1 := sign_bd m
  have b2 := sign_bd n
  obtain ⟨s1, hs1⟩ : ∃ s, Int.sign m = s := ⟨_, rfl⟩
  obtain ⟨s2, hs2⟩ : ∃ s, Int.sign n = s := ⟨_, rfl⟩
  rw [hs1, hs2] at hc
  rw [hs1] at b1
  rw [hs2] at b2
  obtain ⟨b10, b11⟩ := b1
  obtain ⟨b20, b21⟩ := b2
  have S1 := Lib.hid hs1
  have S2 := Lib.hid hs2
  have d1 : (s1 != s2) = true := by simp; omega
  have d1' : (s1 == s2) = false := by simp; omega
  have d2 : decide (s1 < s2) = false := by simp; omega
  have L0 := Lib.hid (((live_start w).add h).add h')
  clear hl hl' hc hs1 hs2 h h' r1 r2 hq
  go_enter Tryd.func19, Tryd.ntmps19
  go_wp2_with fail
  obtain ⟨v1, hW, hb, Rx_1, Ry_1⟩ := new2 w (.cells #[.bool (decide (m < 0)), .slice A (digs m.natAbs).length c, .int .i64 x] 26) (.cells #[.bool (decide (n < 0)), .slice B (digs n.natAbs).length d, .int .i64 y] 26)
  rw [← hW]
  have L1 := ls L0 hb
  have Gx := gl0 L0.out
  have Gy := gl1 L0.out
  have Nxy : w.heap.size < w.heap.size + 1 := by omega
  clear hW hb
  refine (DX.out _ (L1.out.get (A := A) (c := c) (xs := digs m.natAbs) (by simp))).mono ?_
  rintro e w2 ⟨rfl, hb⟩
  have L2 := ls L1 hb
  have Rx_2 := co Rx_1 hb
  have Ry_2 := co Ry_1 hb
  clear hb 
  obtain ⟨fx0, zx0, fx1, zx1, fx2, zx2, xx⟩ := ly3 Rx_2.out
  obtain ⟨fy0, zy0, fy1, zy1, fy2, zy2, xy⟩ := ly3 Ry_2.out
  go_wp2_with fail
  refine (DY.out _ (L2.out.get (A := B) (c := d) (xs := digs n.natAbs) (by simp))).mono ?_
  rintro e w3 ⟨rfl, hb⟩
  have L3 := ls L2 hb
  clear fx0 zx0 fx1 zx1 fx2 zx2 xx fy0 zy0 fy1 zy1 fy2 zy2 xy
  have Rx_3 := co Rx_2 hb
  have Ry_3 := co Ry_2 hb
  clear hb 
  obtain ⟨fx0, zx0, fx1, zx1, fx2, zx2, xx⟩ := ly3 Rx_3.out
  obtain ⟨fy0, zy0, fy1, zy1, fy2, zy2, xy⟩ := ly3 Ry_3.out
  go_wp2_with fail
  refine (sign_dz (x := x) S1.out).mono ?_
  rintro e w4 ⟨rfl, hb⟩
  have L4 := ls L3 hb
  clear fx0 zx0 fx1 zx1 fx2 zx2 xx fy0 zy0 fy1 zy1 fy2 zy2 xy
  have Rx_4 := co Rx_3 hb
  have Ry_4 := co Ry_3 hb
  clear hb 
  obtain ⟨fx0, zx0, fx1, zx1, fx2, zx2, xx⟩ := ly3 Rx_4.out
  obtain ⟨fy0, zy0, fy1, zy1, fy2, zy2, xy⟩ := ly3 Ry_4.out
  go_wp2_with fail
  refine (sign_dz (x := y) S2.out).mono ?_
  rintro e w5 ⟨rfl, hb⟩
  have L5 := ls L4 hb
  clear fx0 zx0 fx1 zx1 fx2 zx2 xx fy0 zy0 fy1 zy1 fy2 zy2 xy
  have Rx_5 := co Rx_4 hb
  have Ry_5 := co Ry_4 hb
  clear hb 
  obtain ⟨fx0, zx0, fx1, zx1, fx2, zx2, xx⟩ := ly3 Rx_5.out
  obtain ⟨fy0, zy0, fy1, zy1, fy2, zy2, xy⟩ := ly3 Ry_5.out
  go_wp2_with fail
  refine (sign_dz (x := y) S2.out).mono ?_
  rintro e w6 ⟨rfl, hb⟩
  have L6 := ls L5 hb
  clear fx0 zx0 fx1 zx1 fx2 zx2 xx fy0 zy0 fy1 zy1 fy2 zy2 xy
  have Rx_6 := co Rx_5 hb
  have Ry_6 := co Ry_5 hb
  clear hb 
  go_wp2
  go_ret
  exact ⟨rfl, L6.out.1⟩

theorem dcmp_any {A B : Option Addr} {c d : Nat} {m n x y q : Int} {w : World} (h : Dg w A c (digs m.natAbs)) (h' : Dg w B d (digs n.natAbs)) (hl : (digs m.natAbs).length ≤ 400000) (hl' : (digs n.natAbs).length ≤ 400000) (r1 : Rt m x) (r2 : Rt n y) (hq : cmpd (dv m x) (dv n y) = q) :
    Calls Tryd.prog 19 #[.agg #[.bool (decide (m < 0)), .slice A (digs m.natAbs).length c, .int .i64 x], .agg #[.bool (decide (n < 0)), .slice B (digs n.natAbs).length d, .int .i64 y]] w fun e w' => e = .returned (.int .i64 q) ∧ Below w.heap.size w w' := by
  rcases Int.lt_trichotomy (Int.sign m) (Int.sign n) with hc | hc | hc
  · exact cmp_lt_ A B c d m n x y w h h' hl hl' r1 r2 hq hc
  · exact cmp_eq_ A B c d m n x y w h h' hl hl' r1 r2 hq hc
  · exact cmp_gt_ A B c d m n x y w h h' hl hl' r1 r2 hq hc
end Go.Proofs.YtaciohjobenipaaDoor
end

section
/-
  dyad.Add.
-/
namespace Go.Proofs.YtaciohjobenipaaDoor
open Go.RowKit
set_option linter.unusedSimpArgs false
set_option linter.unusedVariables false
theorem upto_len2 {m x e0 : Int} (hl : (digs m.natAbs).length ≤ 10000) (h : x - e0 ≤ 262144) : (digs (upto m x e0).natAbs).length ≤ 20000 := by
  have h1 := bl_bd hl
  have h2 := len_bl (upto m x e0)
  have h3 : bl (upto m x e0) ≤ 320000 + 262144 := by
    unfold bl
    by_cases h0 : m.natAbs = 0
    · rw [upto_abs, h0, Nat.zero_mul, blen_zero]; omega
    · rw [upto_abs, blen_up h0]; omega
  omega
theorem zadd_d {A B : Option Addr} {c d : Nat} {p q z : Int} {w : World} (h : Dg w A c (digs p.natAbs)) (h' : Dg w B d (digs q.natAbs)) (hl : (digs p.natAbs).length ≤ 1000000) (hl' : (digs q.natAbs).length ≤ 1000000) (hz : p + q = z) :
    Calls Tryd.prog 61 #[.agg #[.bool (decide (p < 0)), .slice A (digs p.natAbs).length c], .agg #[.bool (decide (q < 0)), .slice B (digs q.natAbs).length d]] w fun e w' => Zr z w e w' := by
  have := zadd_any A B c d (decide (p < 0)) (decide (q < 0)) (digs p.natAbs) (digs q.natAbs) w h h' hl hl'
  rw [sg_dz, sg_dz, hz] at this; exact this
theorem zmul_d {A B : Option Addr} {c d : Nat} {p q z : Int} {w : World} (h : Dg w A c (digs p.natAbs)) (h' : Dg w B d (digs q.natAbs)) (hl : (digs p.natAbs).length ≤ 500000) (hl' : (digs q.natAbs).length ≤ 500000) (hz : p * q = z) :
    Calls Tryd.prog 64 #[.agg #[.bool (decide (p < 0)), .slice A (digs p.natAbs).length c], .agg #[.bool (decide (q < 0)), .slice B (digs q.natAbs).length d]] w fun e w' => Zr z w e w' := by
  have := zmul_any A B c d (decide (p < 0)) (decide (q < 0)) (digs p.natAbs) (digs q.natAbs) w h h' hl hl'
  rw [sg_dz, sg_dz, hz] at this; exact this
theorem odd_d {A : Option Addr} {c : Nat} {z y M E : Int} {w : World} (h : Dg w A c (digs z.natAbs)) (hl : (digs z.natAbs).length ≤ 500000) (hT : T32 w) (hy0 : -1000000000 ≤ y) (hy1 : y ≤ 1000000000) (hM : nm z = M) (hE : nx z y = E) :
    Calls Tryd.prog 37 #[.agg #[.bool (decide (z < 0)), .slice A (digs z.natAbs).length c], .int .i64 y] w fun e w' => Yr M E w e w' :=
  odd_any A c (decide (z < 0)) z.natAbs y M E w h hl hT ⟨hy0, hy1⟩ (by rw [sg_abs2]; exact hM) (by rw [sg_abs2]; exact hE)
theorem answer_d {A : Option Addr} {c g : Nat} {M E : Int} {w : World} (hc : w.cell? ⟨g, 0, none⟩ = some (.int .i64 0)) (hg : g < w.heap.size) (h : Dg w A c (digs M.natAbs)) (hl : (digs M.natAbs).length ≤ 1000000) (hq : inR M E = true) :
    Calls Tryd.prog 59 #[.pointer (some ⟨g, 0, none⟩), .agg #[.bool (decide (M < 0)), .slice A (digs M.natAbs).length c, .int .i64 E]] w fun e w' => Ye M E 0 w e w' :=
  (answer_yes g A c (decide (M < 0)) M E w hc hg h hl hq).mono fun e w' ⟨he, hd, hb⟩ => ⟨A, (digs M.natAbs).length, he, hd, hb⟩
theorem isz_d {A : Option Addr} {c : Nat} {m x : Int} {q : Bool} {w : World} (hq : decide (m = 0) = q) :
    Calls Tryd.prog 47 #[.agg #[.bool (decide (m < 0)), .slice A (digs m.natAbs).length c, .int .i64 x]] w fun e w' => e = .returned (.bool q) ∧ Below w.heap.size w w' :=
  isZero_any A _ c _ x w q (by
    rw [← hq, Bool.eq_iff_iff]
    simp only [beq_iff_eq, decide_eq_true_eq]
    constructor
    · intro h
      have : (digs m.natAbs).length = 0 := by omega
      have := digs_nil.1 this; omega
    · rintro rfl
      show (((digs 0).length : Nat) : Int) = 0
      rw [digs_zero]; rfl)
theorem inr_len {M E : Int} (h : inR M E = true) : (digs M.natAbs).length ≤ 10000 := by
  have h2 := len_bl M
  unfold inR at h
  rw [decide_eq_true_eq] at h
  rcases h with h | h
  · subst h; show (digs 0).length ≤ 10000; rw [digs_zero]; simp
  · omega

set_option maxHeartbeats 4000000 in
set_option maxRecDepth 100000 in
theorem add_z_ (A B : Option Addr) (c d : Nat) (m n x y : Int) (M E : Int) (w : World) (h : Dg w A c (digs m.natAbs)) (h' : Dg w B d (digs n.natAbs)) (hl : (digs m.natAbs).length ≤ 10000) (hl' : (digs n.natAbs).length ≤ 10000) (r1 : Rt m x) (r2 : Rt n y) (hT : T32 w) (hs : IsD (dv m x + dv n y) M E) (hq : inR M E = true) (m0 : m = 0):
    Calls Tryd.prog 23 #[.agg #[.bool (decide (m < 0)), .slice A (digs m.natAbs).length c, .int .i64 x], .agg #[.bool (decide (n < 0)), .slice B (digs n.natAbs).length d, .int .i64 y]] w fun e w' => Ye M E 0 w e w' := by
  have HR1 := Lib.hid r1
  have HR2 := Lib.hid r2
  have lx := Lib.hid hl
  have ly := Lib.hid hl'
  have HQ := Lib.hid hq
  have x0 := r1.2.1
  have x1 := r1.2.2
  have y0 := r2.2.1
  have y1 := r2.2.2
  have LM := Lib.hid (inr_len hq)
  have d1 : decide (m = 0) = true := by simp [m0]
  have hu := IsD.uniq (show IsD (dv m x + dv n y) n y from ⟨r2.1, by rw [m0, dv_zero, Rat.zero_add]⟩) hs
  obtain ⟨rfl, rfl⟩ := hu
  have D1 := Lib.hid d1
  have HT := Lib.hid hT
  clear hT
  have L0 := Lib.hid (((live_start w).add h).add h')
  clear h h' hl hl' r1 r2 hs hq d1 m0
  go_enter Tryd.func23, Tryd.ntmps23
  go_wp2_with fail
  obtain ⟨v1, hW, hb, Rx_1, Ry_1, Rr_1, Rsl_1⟩ := new4 w (.cells #[.bool (decide (m < 0)), .slice A (digs m.natAbs).length c, .int .i64 x] 26) (.cells #[.bool (decide (n < 0)), .slice B (digs n.natAbs).length d, .int .i64 y] 26) (.cells #[.bool false, .slice none 0 0, .int .i64 0] 26) (.cells #[.bool (decide (m < 0)), .slice A (digs m.natAbs).length c, .int .i64 x, .bool (decide (n < 0)), .slice B (digs n.natAbs).length d, .int .i64 y] 26)
  rw [← hW]
  have L1 := ls L0 hb
  have Gx := gl0 L0.out
  have Gy := gl1 L0.out
  have Nxy : w.heap.size < w.heap.size + 1 := by omega
  have Gr := gl2 L0.out
  have Nxr : w.heap.size < w.heap.size + 1 + 1 := by omega
  have Nyr : w.heap.size + 1 < w.heap.size + 1 + 1 := by omega
  have Gsl := gl3 L0.out
  have Nxsl : w.heap.size < w.heap.size + 1 + 1 + 1 := by omega
  have Nysl : w.heap.size + 1 < w.heap.size + 1 + 1 + 1 := by omega
  have Nrsl : w.heap.size + 1 + 1 < w.heap.size + 1 + 1 + 1 := by omega
  clear hW hb
  refine (begin_2 Rsl_1.out (L1.out.get (A := A) (c := c) (xs := digs m.natAbs) (by simp)) (L1.out.get (A := B) (c := d) (xs := digs n.natAbs) (by simp)) (dyR_num HR1.out) (dyR_num HR2.out) (Nat.le_trans lx.out (by omega)) (Nat.le_trans ly.out (by omega)) (k := 0) rfl).mono ?_
  rintro e w2 ⟨rfl, hb⟩
  have L2 := ls L1 hb
  have Rx_2 := co Rx_1 hb
  have Ry_2 := co Ry_1 hb
  have Rr_2 := co Rr_1 hb
  have Rsl_2 := co Rsl_1 hb
  clear hb 
  go_wp2_with fail
  obtain ⟨w3, hW, hb, Rk_3⟩ := new1 w2 (.cells #[.int .i64 0] 66)
  rw [← hW]
  have L3 := ls L2 hb
  have Rx_3 := co Rx_2 hb
  have Ry_3 := co Ry_2 hb
  have Rr_3 := co Rr_2 hb
  have Rsl_3 := co Rsl_2 hb
  have Gk := gl0 L2.out
  have Nxk := nl0 Rx_2.out
  have Nyk := nl0 Ry_2.out
  have Nrk := nl0 Rr_2.out
  have Nslk := nl0 Rsl_2.out
  clear hW hb
  refine (fails_any _ 0 false _ (row_c Rk_3.out (i := 0) rfl) rfl).mono ?_
  rintro e w4 ⟨rfl, rfl⟩
  obtain ⟨fx0, zx0, fx1, zx1, fx2, zx2, xx⟩ := ly3 Rx_3.out
  go_wp2_with fail
  refine (isz_d (x := x) D1.out).mono ?_
  rintro e w5 ⟨rfl, hb⟩
  have L5 := ls L3 hb
  clear fx0 zx0 fx1 zx1 fx2 zx2 xx
  have Rx_5 := co Rx_3 hb
  have Ry_5 := co Ry_3 hb
  have Rr_5 := co Rr_3 hb
  have Rsl_5 := co Rsl_3 hb
  have Rk_5 := co Rk_3 hb
  clear hb 
  obtain ⟨fy0, zy0, fy1, zy1, fy2, zy2, xy⟩ := ly3 Ry_5.out
  go_wp2_with fail
  refine (answer_d (row_c Rk_5.out (i := 0) rfl) (heap_lt Rk_5.out) (L5.out.get (A := B) (c := d) (xs := digs n.natAbs) (by simp)) (Nat.le_trans LM.out (by omega)) HQ.out).mono ?_
  rintro e w6 ⟨A6, c6, rfl, hd, hb⟩
  have L6 := la L5 hb hd
  clear fy0 zy0 fy1 zy1 fy2 zy2 xy
  have Rx_6 := co Rx_5 hb
  have Ry_6 := co Ry_5 hb
  have Rr_6 := co Rr_5 hb
  have Rsl_6 := co Rsl_5 hb
  have Rk_6 := co Rk_5 hb
  clear hb hd
  obtain ⟨fr0, zr0, fr1, zr1, fr2, zr2, xr⟩ := ly3 Rr_6.out
  go_wp2
  refine bodyPost_ret (v := .tuple #[.agg #[.bool (decide (n < 0)), .slice A6 (digs n.natAbs).length c6, .int .i64 y], .int .i64 0]) (by simp [results, Tryd.results23, go_sem, fr0, fr1, fr2]) rfl ?_
  
  refine ⟨A6, c6, rfl, ?_, ?_⟩
  · exact (fin3 L6.out Rr_6.out noint3 Gr).get (A := A6) (c := c6) (xs := digs n.natAbs) (by simp)
  · exact (fin3 L6.out Rr_6.out noint3 Gr).1

set_option maxHeartbeats 4000000 in
set_option maxRecDepth 100000 in
theorem add_y_ (A B : Option Addr) (c d : Nat) (m n x y : Int) (M E : Int) (w : World) (h : Dg w A c (digs m.natAbs)) (h' : Dg w B d (digs n.natAbs)) (hl : (digs m.natAbs).length ≤ 10000) (hl' : (digs n.natAbs).length ≤ 10000) (r1 : Rt m x) (r2 : Rt n y) (hT : T32 w) (hs : IsD (dv m x + dv n y) M E) (hq : inR M E = true) (m0 : m ≠ 0) (n0 : n = 0):
    Calls Tryd.prog 23 #[.agg #[.bool (decide (m < 0)), .slice A (digs m.natAbs).length c, .int .i64 x], .agg #[.bool (decide (n < 0)), .slice B (digs n.natAbs).length d, .int .i64 y]] w fun e w' => Ye M E 0 w e w' := by
  have HR1 := Lib.hid r1
  have HR2 := Lib.hid r2
  have lx := Lib.hid hl
  have ly := Lib.hid hl'
  have HQ := Lib.hid hq
  have x0 := r1.2.1
  have x1 := r1.2.2
  have y0 := r2.2.1
  have y1 := r2.2.2
  have LM := Lib.hid (inr_len hq)
  have d1 : decide (m = 0) = false := by simp [m0]
  have d2 : decide (n = 0) = true := by simp [n0]
  have hu := IsD.uniq (show IsD (dv m x + dv n y) m x from ⟨r1.1, by rw [n0, dv_zero, Rat.add_zero]⟩) hs
  obtain ⟨rfl, rfl⟩ := hu
  have D1 := Lib.hid d1
  have D2 := Lib.hid d2
  have HT := Lib.hid hT
  clear hT
  have L0 := Lib.hid (((live_start w).add h).add h')
  clear h h' hl hl' r1 r2 hs hq d1 m0 d2 n0
  go_enter Tryd.func23, Tryd.ntmps23
  go_wp2_with fail
  obtain ⟨v1, hW, hb, Rx_1, Ry_1, Rr_1, Rsl_1⟩ := new4 w (.cells #[.bool (decide (m < 0)), .slice A (digs m.natAbs).length c, .int .i64 x] 26) (.cells #[.bool (decide (n < 0)), .slice B (digs n.natAbs).length d, .int .i64 y] 26) (.cells #[.bool false, .slice none 0 0, .int .i64 0] 26) (.cells #[.bool (decide (m < 0)), .slice A (digs m.natAbs).length c, .int .i64 x, .bool (decide (n < 0)), .slice B (digs n.natAbs).length d, .int .i64 y] 26)
  rw [← hW]
  have L1 := ls L0 hb
  have Gx := gl0 L0.out
  have Gy := gl1 L0.out
  have Nxy : w.heap.size < w.heap.size + 1 := by omega
  have Gr := gl2 L0.out
  have Nxr : w.heap.size < w.heap.size + 1 + 1 := by omega
  have Nyr : w.heap.size + 1 < w.heap.size + 1 + 1 := by omega
  have Gsl := gl3 L0.out
  have Nxsl : w.heap.size < w.heap.size + 1 + 1 + 1 := by omega
  have Nysl : w.heap.size + 1 < w.heap.size + 1 + 1 + 1 := by omega
  have Nrsl : w.heap.size + 1 + 1 < w.heap.size + 1 + 1 + 1 := by omega
  clear hW hb
  refine (begin_2 Rsl_1.out (L1.out.get (A := A) (c := c) (xs := digs m.natAbs) (by simp)) (L1.out.get (A := B) (c := d) (xs := digs n.natAbs) (by simp)) (dyR_num HR1.out) (dyR_num HR2.out) (Nat.le_trans lx.out (by omega)) (Nat.le_trans ly.out (by omega)) (k := 0) rfl).mono ?_
  rintro e w2 ⟨rfl, hb⟩
  have L2 := ls L1 hb
  have Rx_2 := co Rx_1 hb
  have Ry_2 := co Ry_1 hb
  have Rr_2 := co Rr_1 hb
  have Rsl_2 := co Rsl_1 hb
  clear hb 
  go_wp2_with fail
  obtain ⟨w3, hW, hb, Rk_3⟩ := new1 w2 (.cells #[.int .i64 0] 66)
  rw [← hW]
  have L3 := ls L2 hb
  have Rx_3 := co Rx_2 hb
  have Ry_3 := co Ry_2 hb
  have Rr_3 := co Rr_2 hb
  have Rsl_3 := co Rsl_2 hb
  have Gk := gl0 L2.out
  have Nxk := nl0 Rx_2.out
  have Nyk := nl0 Ry_2.out
  have Nrk := nl0 Rr_2.out
  have Nslk := nl0 Rsl_2.out
  clear hW hb
  refine (fails_any _ 0 false _ (row_c Rk_3.out (i := 0) rfl) rfl).mono ?_
  rintro e w4 ⟨rfl, rfl⟩
  obtain ⟨fx0, zx0, fx1, zx1, fx2, zx2, xx⟩ := ly3 Rx_3.out
  go_wp2_with fail
  refine (isz_d (x := x) D1.out).mono ?_
  rintro e w5 ⟨rfl, hb⟩
  have L5 := ls L3 hb
  clear fx0 zx0 fx1 zx1 fx2 zx2 xx
  have Rx_5 := co Rx_3 hb
  have Ry_5 := co Ry_3 hb
  have Rr_5 := co Rr_3 hb
  have Rsl_5 := co Rsl_3 hb
  have Rk_5 := co Rk_3 hb
  clear hb 
  obtain ⟨fy0, zy0, fy1, zy1, fy2, zy2, xy⟩ := ly3 Ry_5.out
  go_wp2_with fail
  refine (isz_d (x := y) D2.out).mono ?_
  rintro e w6 ⟨rfl, hb⟩
  have L6 := ls L5 hb
  clear fy0 zy0 fy1 zy1 fy2 zy2 xy
  have Rx_6 := co Rx_5 hb
  have Ry_6 := co Ry_5 hb
  have Rr_6 := co Rr_5 hb
  have Rsl_6 := co Rsl_5 hb
  have Rk_6 := co Rk_5 hb
  clear hb 
  obtain ⟨fx0, zx0, fx1, zx1, fx2, zx2, xx⟩ := ly3 Rx_6.out
  go_wp2_with fail
  refine (answer_d (row_c Rk_6.out (i := 0) rfl) (heap_lt Rk_6.out) (L6.out.get (A := A) (c := c) (xs := digs m.natAbs) (by simp)) (Nat.le_trans LM.out (by omega)) HQ.out).mono ?_
  rintro e w7 ⟨A7, c7, rfl, hd, hb⟩
  have L7 := la L6 hb hd
  clear fx0 zx0 fx1 zx1 fx2 zx2 xx
  have Rx_7 := co Rx_6 hb
  have Ry_7 := co Ry_6 hb
  have Rr_7 := co Rr_6 hb
  have Rsl_7 := co Rsl_6 hb
  have Rk_7 := co Rk_6 hb
  clear hb hd
  obtain ⟨fr0, zr0, fr1, zr1, fr2, zr2, xr⟩ := ly3 Rr_7.out
  go_wp2
  refine bodyPost_ret (v := .tuple #[.agg #[.bool (decide (m < 0)), .slice A7 (digs m.natAbs).length c7, .int .i64 x], .int .i64 0]) (by simp [results, Tryd.results23, go_sem, fr0, fr1, fr2]) rfl ?_
  
  refine ⟨A7, c7, rfl, ?_, ?_⟩
  · exact (fin3 L7.out Rr_7.out noint3 Gr).get (A := A7) (c := c7) (xs := digs m.natAbs) (by simp)
  · exact (fin3 L7.out Rr_7.out noint3 Gr).1

set_option maxHeartbeats 4000000 in
set_option maxRecDepth 100000 in
theorem add_b_ (A B : Option Addr) (c d : Nat) (m n x y : Int) (M E : Int) (w : World) (h : Dg w A c (digs m.natAbs)) (h' : Dg w B d (digs n.natAbs)) (hl : (digs m.natAbs).length ≤ 10000) (hl' : (digs n.natAbs).length ≤ 10000) (r1 : Rt m x) (r2 : Rt n y) (hT : T32 w) (hs : IsD (dv m x + dv n y) M E) (hq : inR M E = true) (m0 : m ≠ 0) (n0 : n ≠ 0):
    Calls Tryd.prog 23 #[.agg #[.bool (decide (m < 0)), .slice A (digs m.natAbs).length c, .int .i64 x], .agg #[.bool (decide (n < 0)), .slice B (digs n.natAbs).length d, .int .i64 y]] w fun e w' => Ye M E 0 w e w' := by
  have HR1 := Lib.hid r1
  have HR2 := Lib.hid r2
  have lx := Lib.hid hl
  have ly := Lib.hid hl'
  have HQ := Lib.hid hq
  have x0 := r1.2.1
  have x1 := r1.2.2
  have y0 := r2.2.1
  have y1 := r2.2.2
  have LM := Lib.hid (inr_len hq)
  have d1 : decide (m = 0) = false := by simp [m0]
  have d2 : decide (n = 0) = false := by simp [n0]
  obtain ⟨e0, he0⟩ : ∃ e, min x y = e := ⟨_, rfl⟩
  have ez := sum_upto m x n y
  rw [he0] at ez
  have lp := upto_len2 (m := m) (x := x) (e0 := e0) hl (by omega)
  have lq := upto_len2 (m := n) (x := y) (e0 := e0) hl' (by omega)
  have hu := IsD.of (m := upto m x e0 + upto n y e0) (e := e0) (M := M) (E := E) (by rw [ez]; exact hs)
  obtain ⟨p, hp⟩ : ∃ e, upto m x e0 = e := ⟨_, rfl⟩
  obtain ⟨q, hq2⟩ : ∃ e, upto n y e0 = e := ⟨_, rfl⟩
  rw [hp] at lp hu
  rw [hq2] at lq hu
  obtain ⟨z, hz⟩ : ∃ z, p + q = z := ⟨_, rfl⟩
  have lz : (digs z.natAbs).length ≤ 20001 := by
    rw [← hz]
    have h1 := digs_len_mono _ _ (by omega : (p + q).natAbs ≤ p.natAbs + q.natAbs)
    have h2 := digs_add_len p.natAbs q.natAbs
    omega
  rw [hz] at hu
  have HM := Lib.hid hu.1
  have HE := Lib.hid hu.2
  have HP := Lib.hid hp
  have HQ2 := Lib.hid hq2
  have HE0 := Lib.hid he0
  have HZ := Lib.hid hz
  have LP := Lib.hid lp
  have LQ := Lib.hid lq
  have LZ := Lib.hid lz
  have z0 : -1000000000 ≤ e0 := by omega
  have z1 : e0 ≤ 1000000000 := by omega
  have D1 := Lib.hid d1
  have D2 := Lib.hid d2
  have HT := Lib.hid hT
  clear hT
  have L0 := Lib.hid (((live_start w).add h).add h')
  clear h h' hl hl' r1 r2 hs hq d1 m0 d2 n0 hu hp hq2 lp lq lz he0 hz ez
  go_enter Tryd.func23, Tryd.ntmps23
  go_wp2_with fail
  obtain ⟨v1, hW, hb, Rx_1, Ry_1, Rr_1, Rsl_1⟩ := new4 w (.cells #[.bool (decide (m < 0)), .slice A (digs m.natAbs).length c, .int .i64 x] 26) (.cells #[.bool (decide (n < 0)), .slice B (digs n.natAbs).length d, .int .i64 y] 26) (.cells #[.bool false, .slice none 0 0, .int .i64 0] 26) (.cells #[.bool (decide (m < 0)), .slice A (digs m.natAbs).length c, .int .i64 x, .bool (decide (n < 0)), .slice B (digs n.natAbs).length d, .int .i64 y] 26)
  rw [← hW]
  have L1 := ls L0 hb
  have Gx := gl0 L0.out
  have Gy := gl1 L0.out
  have Nxy : w.heap.size < w.heap.size + 1 := by omega
  have Gr := gl2 L0.out
  have Nxr : w.heap.size < w.heap.size + 1 + 1 := by omega
  have Nyr : w.heap.size + 1 < w.heap.size + 1 + 1 := by omega
  have Gsl := gl3 L0.out
  have Nxsl : w.heap.size < w.heap.size + 1 + 1 + 1 := by omega
  have Nysl : w.heap.size + 1 < w.heap.size + 1 + 1 + 1 := by omega
  have Nrsl : w.heap.size + 1 + 1 < w.heap.size + 1 + 1 + 1 := by omega
  clear hW hb
  refine (begin_2 Rsl_1.out (L1.out.get (A := A) (c := c) (xs := digs m.natAbs) (by simp)) (L1.out.get (A := B) (c := d) (xs := digs n.natAbs) (by simp)) (dyR_num HR1.out) (dyR_num HR2.out) (Nat.le_trans lx.out (by omega)) (Nat.le_trans ly.out (by omega)) (k := 0) rfl).mono ?_
  rintro e w2 ⟨rfl, hb⟩
  have L2 := ls L1 hb
  have Rx_2 := co Rx_1 hb
  have Ry_2 := co Ry_1 hb
  have Rr_2 := co Rr_1 hb
  have Rsl_2 := co Rsl_1 hb
  clear hb 
  go_wp2_with fail
  obtain ⟨w3, hW, hb, Rk_3⟩ := new1 w2 (.cells #[.int .i64 0] 66)
  rw [← hW]
  have L3 := ls L2 hb
  have Rx_3 := co Rx_2 hb
  have Ry_3 := co Ry_2 hb
  have Rr_3 := co Rr_2 hb
  have Rsl_3 := co Rsl_2 hb
  have Gk := gl0 L2.out
  have Nxk := nl0 Rx_2.out
  have Nyk := nl0 Ry_2.out
  have Nrk := nl0 Rr_2.out
  have Nslk := nl0 Rsl_2.out
  clear hW hb
  refine (fails_any _ 0 false _ (row_c Rk_3.out (i := 0) rfl) rfl).mono ?_
  rintro e w4 ⟨rfl, rfl⟩
  obtain ⟨fx0, zx0, fx1, zx1, fx2, zx2, xx⟩ := ly3 Rx_3.out
  go_wp2_with fail
  refine (isz_d (x := x) D1.out).mono ?_
  rintro e w5 ⟨rfl, hb⟩
  have L5 := ls L3 hb
  clear fx0 zx0 fx1 zx1 fx2 zx2 xx
  have Rx_5 := co Rx_3 hb
  have Ry_5 := co Ry_3 hb
  have Rr_5 := co Rr_3 hb
  have Rsl_5 := co Rsl_3 hb
  have Rk_5 := co Rk_3 hb
  clear hb 
  obtain ⟨fy0, zy0, fy1, zy1, fy2, zy2, xy⟩ := ly3 Ry_5.out
  go_wp2_with fail
  refine (isz_d (x := y) D2.out).mono ?_
  rintro e w6 ⟨rfl, hb⟩
  have L6 := ls L5 hb
  clear fy0 zy0 fy1 zy1 fy2 zy2 xy
  have Rx_6 := co Rx_5 hb
  have Ry_6 := co Ry_5 hb
  have Rr_6 := co Rr_5 hb
  have Rsl_6 := co Rsl_5 hb
  have Rk_6 := co Rk_5 hb
  clear hb 
  obtain ⟨fx0, zx0, fx1, zx1, fx2, zx2, xx⟩ := ly3 Rx_6.out
  obtain ⟨fy0, zy0, fy1, zy1, fy2, zy2, xy⟩ := ly3 Ry_6.out
  go_wp2_with fail
  refine (beside_any (p := p) (q := q) (e0 := e0) (L6.out.get (A := A) (c := c) (xs := digs m.natAbs) (by simp)) (L6.out.get (A := B) (c := d) (xs := digs n.natAbs) (by simp)) (Nat.le_trans lx.out (by omega)) (Nat.le_trans ly.out (by omega)) x0 x1 y0 y1 HE0.out HP.out HQ2.out).mono ?_
  rintro e w7 ⟨A7, c7, B7, d7, rfl, hd, hd', hb⟩
  have L7 := Lib.hid (((L6.out.step hb).add hd).add hd')
  clear fx0 zx0 fx1 zx1 fx2 zx2 xx fy0 zy0 fy1 zy1 fy2 zy2 xy
  have Rx_7 := co Rx_6 hb
  have Ry_7 := co Ry_6 hb
  have Rr_7 := co Rr_6 hb
  have Rsl_7 := co Rsl_6 hb
  have Rk_7 := co Rk_6 hb
  clear hb hd hd'
  go_wp2_with fail
  obtain ⟨w8, hW, hb, Ra_8, Rb_8⟩ := new2 w7 (.cells #[.bool (decide (p < 0)), .slice A7 (digs p.natAbs).length c7] 24) (.cells #[.bool (decide (q < 0)), .slice B7 (digs q.natAbs).length d7] 24)
  rw [← hW]
  have L8 := ls L7 hb
  have Rx_8 := co Rx_7 hb
  have Ry_8 := co Ry_7 hb
  have Rr_8 := co Rr_7 hb
  have Rsl_8 := co Rsl_7 hb
  have Rk_8 := co Rk_7 hb
  have Ga := gl0 L7.out
  have Nxa := nl0 Rx_7.out
  have Nya := nl0 Ry_7.out
  have Nra := nl0 Rr_7.out
  have Nsla := nl0 Rsl_7.out
  have Nka := nl0 Rk_7.out
  have Gb := gl1 L7.out
  have Nxb := nl1 Rx_7.out
  have Nyb := nl1 Ry_7.out
  have Nrb := nl1 Rr_7.out
  have Nslb := nl1 Rsl_7.out
  have Nkb := nl1 Rk_7.out
  have Nab : w7.heap.size < w7.heap.size + 1 := by omega
  clear hW hb
  refine (zadd_d (L8.out.get (A := A7) (c := c7) (xs := digs p.natAbs) (by simp)) (L8.out.get (A := B7) (c := d7) (xs := digs q.natAbs) (by simp)) (Nat.le_trans LP.out (by omega)) (Nat.le_trans LQ.out (by omega)) HZ.out).mono ?_
  rintro e w9 ⟨A9, c9, rfl, hd, hb⟩
  have L9 := la L8 hb hd
  have Rx_9 := co Rx_8 hb
  have Ry_9 := co Ry_8 hb
  have Rr_9 := co Rr_8 hb
  have Rsl_9 := co Rsl_8 hb
  have Rk_9 := co Rk_8 hb
  have Ra_9 := co Ra_8 hb
  have Rb_9 := co Rb_8 hb
  clear hb hd
  go_wp2_with fail
  refine (odd_d (L9.out.get (A := A9) (c := c9) (xs := digs z.natAbs) (by simp)) (Nat.le_trans LZ.out (by omega)) (t32_live HT.out L9.out) z0 z1 HM.out HE.out).mono ?_
  rintro e w10 ⟨A10, c10, rfl, hd, hb⟩
  have L10 := la L9 hb hd
  have Rx_10 := co Rx_9 hb
  have Ry_10 := co Ry_9 hb
  have Rr_10 := co Rr_9 hb
  have Rsl_10 := co Rsl_9 hb
  have Rk_10 := co Rk_9 hb
  have Ra_10 := co Ra_9 hb
  have Rb_10 := co Rb_9 hb
  clear hb hd
  go_wp2_with fail
  refine (answer_d (row_c Rk_10.out (i := 0) rfl) (heap_lt Rk_10.out) (L10.out.get (A := A10) (c := c10) (xs := digs M.natAbs) (by simp)) (Nat.le_trans LM.out (by omega)) HQ.out).mono ?_
  rintro e w11 ⟨A11, c11, rfl, hd, hb⟩
  have L11 := la L10 hb hd
  have Rx_11 := co Rx_10 hb
  have Ry_11 := co Ry_10 hb
  have Rr_11 := co Rr_10 hb
  have Rsl_11 := co Rsl_10 hb
  have Rk_11 := co Rk_10 hb
  have Ra_11 := co Ra_10 hb
  have Rb_11 := co Rb_10 hb
  clear hb hd
  obtain ⟨fr0, zr0, fr1, zr1, fr2, zr2, xr⟩ := ly3 Rr_11.out
  go_wp2
  refine bodyPost_ret (v := .tuple #[.agg #[.bool (decide (M < 0)), .slice A11 (digs M.natAbs).length c11, .int .i64 E], .int .i64 0]) (by simp [results, Tryd.results23, go_sem, fr0, fr1, fr2]) rfl ?_
  
  refine ⟨A11, c11, rfl, ?_, ?_⟩
  · exact (fin3 L11.out Rr_11.out noint3 Gr).get (A := A11) (c := c11) (xs := digs M.natAbs) (by simp)
  · exact (fin3 L11.out Rr_11.out noint3 Gr).1

theorem dadd_yes {A B : Option Addr} {c d : Nat} {m n x y M E : Int} {w : World} (h : Dg w A c (digs m.natAbs)) (h' : Dg w B d (digs n.natAbs)) (hl : (digs m.natAbs).length ≤ 10000) (hl' : (digs n.natAbs).length ≤ 10000) (r1 : Rt m x) (r2 : Rt n y) (hT : T32 w) (hs : IsD (dv m x + dv n y) M E) (hq : inR M E = true) :
    Calls Tryd.prog 23 #[.agg #[.bool (decide (m < 0)), .slice A (digs m.natAbs).length c, .int .i64 x], .agg #[.bool (decide (n < 0)), .slice B (digs n.natAbs).length d, .int .i64 y]] w fun e w' => Ye M E 0 w e w' := by
  by_cases m0 : m = 0
  · exact add_z_ A B c d m n x y M E w h h' hl hl' r1 r2 hT hs hq m0
  · by_cases n0 : n = 0
    · exact add_y_ A B c d m n x y M E w h h' hl hl' r1 r2 hT hs hq m0 n0
    · exact add_b_ A B c d m n x y M E w h h' hl hl' r1 r2 hT hs hq m0 n0
theorem rt_neg {m x : Int} (h : Rt m x) : Rt (-m) x := ⟨by rcases h.1 with h1 | h1; exact .inl (by omega); exact .inr (by omega), h.2⟩
end Go.Proofs.YtaciohjobenipaaDoor
end

section
/-
  dyad.Neg.
-/
namespace Go.Proofs.YtaciohjobenipaaDoor
open Go.RowKit
set_option linter.unusedSimpArgs false
set_option linter.unusedVariables false
set_option maxHeartbeats 4000000 in
set_option maxRecDepth 100000 in
theorem neg_yes (A : Option Addr) (c : Nat) (m x : Int) (w : World) (h : Dg w A c (digs m.natAbs)) (hl : (digs m.natAbs).length ≤ 500000) (hR : Rt m x):
    Calls Tryd.prog 15 #[.agg #[.bool (decide (m < 0)), .slice A (digs m.natAbs).length c, .int .i64 x]] w fun e w' => Yr (-m) x w e w' := by
  have DR := Lib.hid (fun W hW => dright_any A c (decide (m < 0)) (digs m.natAbs) x W hW true (dyR_num hR) (by omega))
  have NG := Lib.hid (fun W (hW : Dg W A c (digs m.natAbs)) => zneg_any A c (decide (m < 0)) (digs m.natAbs) W hW (by omega))
  rw [sg_dz] at NG
  obtain ⟨z, hz⟩ : ∃ z, -m = z := ⟨_, rfl⟩
  rw [hz] at NG ⊢
  have L0 := Lib.hid ((live_start w).add h)
  clear h hl hR hz
  go_enter Tryd.func15, Tryd.ntmps15
  go_wp2_with fail
  obtain ⟨v1, hW, hb, Rx_1, Rr_1⟩ := new2 w (.cells #[.bool (decide (m < 0)), .slice A (digs m.natAbs).length c, .int .i64 x] 26) (.cells #[.bool false, .slice none 0 0, .int .i64 0] 26)
  rw [← hW]
  have L1 := ls L0 hb
  have Gx := gl0 L0.out
  have Gr := gl1 L0.out
  have Nxr : w.heap.size < w.heap.size + 1 := by omega
  clear hW hb
  refine (DR.out _ (L1.out.get (A := A) (c := c) (xs := digs m.natAbs) (by simp))).mono ?_
  rintro e w2 ⟨rfl, hb⟩
  have L2 := ls L1 hb
  have Rx_2 := co Rx_1 hb
  have Rr_2 := co Rr_1 hb
  clear hb 
  obtain ⟨fx0, zx0, fx1, zx1, fx2, zx2, xx⟩ := ly3 Rx_2.out
  go_wp2_with fail
  clear fx0 zx0 fx1 zx1 fx2 zx2 xx
  obtain ⟨fx0, zx0, fx1, zx1, fx2, zx2, xx⟩ := ly3 Rx_2.out
  have KD := Lib.hid (bd0 w2)
  have LD := ls L2 KD.out
  have Mx : w.heap.size ≠ w.heap.size + 1 := by omega
  go_region_held3 (fun w' => (∀ o, w'.cell? ⟨w.heap.size, o, none⟩ = w2.cell? ⟨w.heap.size, o, none⟩))
    (first | with_reducible exact keep_b KD.out xx | with_reducible exact keep_b K4.out xx | exact (keep_set (keep_b K4.out xx) Mx) | exact (keep_set (keep_set (keep_b K4.out xx) Mx) Mx) | exact (keep_set (keep_set (keep_set (keep_b K4.out xx) Mx) Mx) Mx))
    (first
      | (go_at_call 45; (with_reducible refine (NG.out _ (LD.out.get (A := A) (c := c) (xs := digs m.natAbs) (by simp))).mono ?_); rintro e w4 ⟨A4, c4, rfl, hd, hb⟩; (have K4 := bt KD hb); (have L4 := la LD hb hd); (have qr0_K4 := row_c (i := 0) (co Rr_2 K4.out).out rfl); (have pr0_K4 := frozen_of_row _ _ 0 _ _ (cells_of Rr_2.out K4.out)); (have qr1_K4 := row_c (i := 1) (co Rr_2 K4.out).out rfl); (have pr1_K4 := frozen_of_row _ _ 1 _ _ (cells_of Rr_2.out K4.out)); (have qr2_K4 := row_c (i := 2) (co Rr_2 K4.out).out rfl); (have pr2_K4 := frozen_of_row _ _ 2 _ _ (cells_of Rr_2.out K4.out)); clear hb hd))
  rename_i hHeld
  clear hHeld
  clear fx0 zx0 fx1 zx1 fx2 zx2 xx
  have Rx_4 := co Rx_2 K4.out
  have Rr_4 := co Rr_2 K4.out
  obtain ⟨fr0, zr0, fr1, zr1, fr2, zr2, xr⟩ := ly3 Rr_4.out
  go_wp2
  refine bodyPost_ret (v := .agg #[.bool (decide (z < 0)), .slice A4 (digs z.natAbs).length c4, .int .i64 x]) (by simp [results, Tryd.results15, go_sem, fr0, fr1, fr2]) rfl ?_
  
  refine ⟨A4, c4, rfl, ?_, ?_⟩
  · exact (fin3 L4.out Rr_4.out noint3 Gr).get (A := A4) (c := c4) (xs := digs z.natAbs) (by simp)
  · exact (fin3 L4.out Rr_4.out noint3 Gr).1
end Go.Proofs.YtaciohjobenipaaDoor
end

section
/-
  dyad.Sub, Mul, Scale, Size.
-/
namespace Go.Proofs.YtaciohjobenipaaDoor
open Go.RowKit
set_option linter.unusedSimpArgs false
set_option linter.unusedVariables false
set_option maxHeartbeats 4000000 in
set_option maxRecDepth 100000 in
theorem sub_yes_ (A B : Option Addr) (c d : Nat) (m n x y : Int) (M E : Int) (w : World) (h : Dg w A c (digs m.natAbs)) (h' : Dg w B d (digs n.natAbs)) (hl : (digs m.natAbs).length ≤ 10000) (hl' : (digs n.natAbs).length ≤ 10000) (r1 : Rt m x) (r2 : Rt n y) (hT : T32 w) (hs : IsD (dv m x - dv n y) M E) (hq : inR M E = true):
    Calls Tryd.prog 25 #[.agg #[.bool (decide (m < 0)), .slice A (digs m.natAbs).length c, .int .i64 x], .agg #[.bool (decide (n < 0)), .slice B (digs n.natAbs).length d, .int .i64 y]] w fun e w' => Ye M E 0 w e w' := by
  have HR1 := Lib.hid r1
  have HR2 := Lib.hid r2
  have lx := Lib.hid hl
  have ly := Lib.hid hl'
  have HQ := Lib.hid hq
  have x0 := r1.2.1
  have x1 := r1.2.2
  have y0 := r2.2.1
  have y1 := r2.2.2
  have LM := Lib.hid (inr_len hq)
  have NG := Lib.hid (fun W (hW : Dg W B d (digs n.natAbs)) => neg_yes B d n y W hW (by omega) r2)
  obtain ⟨k, hk⟩ : ∃ k, -n = k := ⟨_, rfl⟩
  have rk := Lib.hid (hk ▸ rt_neg r2)
  have lk := Lib.hid (show (digs k.natAbs).length ≤ 10000 by rw [← hk, Int.natAbs_neg]; exact hl')
  rw [hk] at NG
  have HS := Lib.hid (show IsD (dv m x + dv k y) M E by rw [← hk, dv_neg, ← Rat.sub_eq_add_neg]; exact hs)
  have HT := Lib.hid hT
  clear hT
  have L0 := Lib.hid (((live_start w).add h).add h')
  clear h h' hl hl' r1 r2 hs hq hk
  go_enter Tryd.func25, Tryd.ntmps25
  go_wp2_with fail
  obtain ⟨v1, hW, hb, Rx_1, Ry_1, Rr_1, Rsl_1⟩ := new4 w (.cells #[.bool (decide (m < 0)), .slice A (digs m.natAbs).length c, .int .i64 x] 26) (.cells #[.bool (decide (n < 0)), .slice B (digs n.natAbs).length d, .int .i64 y] 26) (.cells #[.bool false, .slice none 0 0, .int .i64 0] 26) (.cells #[.bool (decide (m < 0)), .slice A (digs m.natAbs).length c, .int .i64 x, .bool (decide (n < 0)), .slice B (digs n.natAbs).length d, .int .i64 y] 26)
  rw [← hW]
  have L1 := ls L0 hb
  have Gx := gl0 L0.out
  have Gy := gl1 L0.out
  have Nxy : w.heap.size < w.heap.size + 1 := by omega
  have Gr := gl2 L0.out
  have Nxr : w.heap.size < w.heap.size + 1 + 1 := by omega
  have Nyr : w.heap.size + 1 < w.heap.size + 1 + 1 := by omega
  have Gsl := gl3 L0.out
  have Nxsl : w.heap.size < w.heap.size + 1 + 1 + 1 := by omega
  have Nysl : w.heap.size + 1 < w.heap.size + 1 + 1 + 1 := by omega
  have Nrsl : w.heap.size + 1 + 1 < w.heap.size + 1 + 1 + 1 := by omega
  clear hW hb
  refine (begin_2 Rsl_1.out (L1.out.get (A := A) (c := c) (xs := digs m.natAbs) (by simp)) (L1.out.get (A := B) (c := d) (xs := digs n.natAbs) (by simp)) (dyR_num HR1.out) (dyR_num HR2.out) (Nat.le_trans lx.out (by omega)) (Nat.le_trans ly.out (by omega)) (k := 0) rfl).mono ?_
  rintro e w2 ⟨rfl, hb⟩
  have L2 := ls L1 hb
  have Rx_2 := co Rx_1 hb
  have Ry_2 := co Ry_1 hb
  have Rr_2 := co Rr_1 hb
  have Rsl_2 := co Rsl_1 hb
  clear hb 
  go_wp2_with fail
  obtain ⟨w3, hW, hb, Rk_3⟩ := new1 w2 (.cells #[.int .i64 0] 66)
  rw [← hW]
  have L3 := ls L2 hb
  have Rx_3 := co Rx_2 hb
  have Ry_3 := co Ry_2 hb
  have Rr_3 := co Rr_2 hb
  have Rsl_3 := co Rsl_2 hb
  have Gk := gl0 L2.out
  have Nxk := nl0 Rx_2.out
  have Nyk := nl0 Ry_2.out
  have Nrk := nl0 Rr_2.out
  have Nslk := nl0 Rsl_2.out
  clear hW hb
  refine (fails_any _ 0 false _ (row_c Rk_3.out (i := 0) rfl) rfl).mono ?_
  rintro e w4 ⟨rfl, rfl⟩
  obtain ⟨fx0, zx0, fx1, zx1, fx2, zx2, xx⟩ := ly3 Rx_3.out
  obtain ⟨fy0, zy0, fy1, zy1, fy2, zy2, xy⟩ := ly3 Ry_3.out
  go_wp2_with fail
  clear fx0 zx0 fx1 zx1 fx2 zx2 xx fy0 zy0 fy1 zy1 fy2 zy2 xy
  obtain ⟨fx0, zx0, fx1, zx1, fx2, zx2, xx⟩ := ly3 Rx_3.out
  obtain ⟨fy0, zy0, fy1, zy1, fy2, zy2, xy⟩ := ly3 Ry_3.out
  have KD := Lib.hid (bd0 w3)
  have LD := ls L3 KD.out
  have Mx : w.heap.size ≠ w.heap.size + 1 + 1 := by omega
  have My : w.heap.size + 1 ≠ w.heap.size + 1 + 1 := by omega
  go_region_held3 (fun w' => (∀ o, w'.cell? ⟨w.heap.size, o, none⟩ = w3.cell? ⟨w.heap.size, o, none⟩) ∧ (∀ o, w'.cell? ⟨w.heap.size + 1, o, none⟩ = w3.cell? ⟨w.heap.size + 1, o, none⟩))
    (first | with_reducible exact ⟨keep_b KD.out xx, keep_b KD.out xy⟩ | with_reducible exact ⟨keep_b K6.out xx, keep_b K6.out xy⟩ | with_reducible exact ⟨keep_b K7.out xx, keep_b K7.out xy⟩ | exact ⟨(keep_set (keep_b K7.out xx) Mx), (keep_set (keep_b K7.out xy) My)⟩ | exact ⟨(keep_set (keep_set (keep_b K7.out xx) Mx) Mx), (keep_set (keep_set (keep_b K7.out xy) My) My)⟩ | exact ⟨(keep_set (keep_set (keep_set (keep_b K7.out xx) Mx) Mx) Mx), (keep_set (keep_set (keep_set (keep_b K7.out xy) My) My) My)⟩)
    (first
      | (go_at_call 15; (with_reducible refine (NG.out _ (LD.out.get (A := B) (c := d) (xs := digs n.natAbs) (by simp))).mono ?_); rintro e w6 ⟨A6, c6, rfl, hd, hb⟩; (have K6 := bt KD hb); (have L6 := la LD hb hd); clear hb hd)
      | (go_at_call 23; (with_reducible refine (dadd_yes (L6.out.get (A := A) (c := c) (xs := digs m.natAbs) (by simp)) (L6.out.get (A := A6) (c := c6) (xs := digs k.natAbs) (by simp)) lx.out lk.out HR1.out rk.out (t32_live HT.out L6.out) HS.out HQ.out).mono ?_); rintro e w7 ⟨A7, c7, rfl, hd, hb⟩; (have K7 := bt K6 hb); (have L7 := la L6 hb hd); (have qr0_K7 := row_c (i := 0) (co Rr_3 K7.out).out rfl); (have pr0_K7 := frozen_of_row _ _ 0 _ _ (cells_of Rr_3.out K7.out)); (have qr1_K7 := row_c (i := 1) (co Rr_3 K7.out).out rfl); (have pr1_K7 := frozen_of_row _ _ 1 _ _ (cells_of Rr_3.out K7.out)); (have qr2_K7 := row_c (i := 2) (co Rr_3 K7.out).out rfl); (have pr2_K7 := frozen_of_row _ _ 2 _ _ (cells_of Rr_3.out K7.out)); clear hb hd))
  rename_i hHeld
  clear hHeld
  clear fx0 zx0 fx1 zx1 fx2 zx2 xx fy0 zy0 fy1 zy1 fy2 zy2 xy
  have Rx_7 := co Rx_3 K7.out
  have Ry_7 := co Ry_3 K7.out
  have Rr_7 := co Rr_3 K7.out
  have Rsl_7 := co Rsl_3 K7.out
  have Rk_7 := co Rk_3 K7.out
  obtain ⟨fr0, zr0, fr1, zr1, fr2, zr2, xr⟩ := ly3 Rr_7.out
  go_wp2
  refine bodyPost_ret (v := .tuple #[.agg #[.bool (decide (M < 0)), .slice A7 (digs M.natAbs).length c7, .int .i64 E], .int .i64 0]) (by simp [results, Tryd.results25, go_sem, fr0, fr1, fr2]) rfl ?_
  
  refine ⟨A7, c7, rfl, ?_, ?_⟩
  · exact (fin3 L7.out Rr_7.out noint3 Gr).get (A := A7) (c := c7) (xs := digs M.natAbs) (by simp)
  · exact (fin3 L7.out Rr_7.out noint3 Gr).1

set_option maxHeartbeats 4000000 in
set_option maxRecDepth 100000 in
theorem mul_yes_ (A B : Option Addr) (c d : Nat) (m n x y : Int) (M E : Int) (w : World) (h : Dg w A c (digs m.natAbs)) (h' : Dg w B d (digs n.natAbs)) (hl : (digs m.natAbs).length ≤ 10000) (hl' : (digs n.natAbs).length ≤ 10000) (r1 : Rt m x) (r2 : Rt n y) (hT : T32 w) (hs : IsD (dv m x * dv n y) M E) (hq : inR M E = true):
    Calls Tryd.prog 27 #[.agg #[.bool (decide (m < 0)), .slice A (digs m.natAbs).length c, .int .i64 x], .agg #[.bool (decide (n < 0)), .slice B (digs n.natAbs).length d, .int .i64 y]] w fun e w' => Ye M E 0 w e w' := by
  have HR1 := Lib.hid r1
  have HR2 := Lib.hid r2
  have lx := Lib.hid hl
  have ly := Lib.hid hl'
  have HQ := Lib.hid hq
  have x0 := r1.2.1
  have x1 := r1.2.2
  have y0 := r2.2.1
  have y1 := r2.2.2
  have LM := Lib.hid (inr_len hq)
  obtain ⟨z, hz⟩ : ∃ z, m * n = z := ⟨_, rfl⟩
  obtain ⟨s, hs1⟩ : ∃ s, x + y = s := ⟨_, rfl⟩
  rw [dv_mul, hz, hs1] at hs
  have hu := IsD.of hs
  have HM := Lib.hid hu.1
  have HE := Lib.hid hu.2
  have HZ := Lib.hid hz
  have lz : (digs z.natAbs).length ≤ 20000 := by
    rw [← hz, Int.natAbs_mul]
    have := digs_mul_len m.natAbs n.natAbs
    omega
  have LZ := Lib.hid lz
  have ws : IntKind.i64.wrap (x + y) = s := by rw [IntWalk.i64_in _ (by omega)]; exact hs1
  have z0 : -1000000000 ≤ s := by omega
  have z1 : s ≤ 1000000000 := by omega
  have HT := Lib.hid hT
  clear hT
  have L0 := Lib.hid (((live_start w).add h).add h')
  clear h h' hl hl' r1 r2 hs hq hz hs1 hu lz
  go_enter Tryd.func27, Tryd.ntmps27
  go_wp2_with fail
  obtain ⟨v1, hW, hb, Rx_1, Ry_1, Rr_1, Rsl_1⟩ := new4 w (.cells #[.bool (decide (m < 0)), .slice A (digs m.natAbs).length c, .int .i64 x] 26) (.cells #[.bool (decide (n < 0)), .slice B (digs n.natAbs).length d, .int .i64 y] 26) (.cells #[.bool false, .slice none 0 0, .int .i64 0] 26) (.cells #[.bool (decide (m < 0)), .slice A (digs m.natAbs).length c, .int .i64 x, .bool (decide (n < 0)), .slice B (digs n.natAbs).length d, .int .i64 y] 26)
  rw [← hW]
  have L1 := ls L0 hb
  have Gx := gl0 L0.out
  have Gy := gl1 L0.out
  have Nxy : w.heap.size < w.heap.size + 1 := by omega
  have Gr := gl2 L0.out
  have Nxr : w.heap.size < w.heap.size + 1 + 1 := by omega
  have Nyr : w.heap.size + 1 < w.heap.size + 1 + 1 := by omega
  have Gsl := gl3 L0.out
  have Nxsl : w.heap.size < w.heap.size + 1 + 1 + 1 := by omega
  have Nysl : w.heap.size + 1 < w.heap.size + 1 + 1 + 1 := by omega
  have Nrsl : w.heap.size + 1 + 1 < w.heap.size + 1 + 1 + 1 := by omega
  clear hW hb
  refine (begin_2 Rsl_1.out (L1.out.get (A := A) (c := c) (xs := digs m.natAbs) (by simp)) (L1.out.get (A := B) (c := d) (xs := digs n.natAbs) (by simp)) (dyR_num HR1.out) (dyR_num HR2.out) (Nat.le_trans lx.out (by omega)) (Nat.le_trans ly.out (by omega)) (k := 0) rfl).mono ?_
  rintro e w2 ⟨rfl, hb⟩
  have L2 := ls L1 hb
  have Rx_2 := co Rx_1 hb
  have Ry_2 := co Ry_1 hb
  have Rr_2 := co Rr_1 hb
  have Rsl_2 := co Rsl_1 hb
  clear hb 
  go_wp2_with fail
  obtain ⟨w3, hW, hb, Rk_3⟩ := new1 w2 (.cells #[.int .i64 0] 66)
  rw [← hW]
  have L3 := ls L2 hb
  have Rx_3 := co Rx_2 hb
  have Ry_3 := co Ry_2 hb
  have Rr_3 := co Rr_2 hb
  have Rsl_3 := co Rsl_2 hb
  have Gk := gl0 L2.out
  have Nxk := nl0 Rx_2.out
  have Nyk := nl0 Ry_2.out
  have Nrk := nl0 Rr_2.out
  have Nslk := nl0 Rsl_2.out
  clear hW hb
  refine (fails_any _ 0 false _ (row_c Rk_3.out (i := 0) rfl) rfl).mono ?_
  rintro e w4 ⟨rfl, rfl⟩
  obtain ⟨fx0, zx0, fx1, zx1, fx2, zx2, xx⟩ := ly3 Rx_3.out
  obtain ⟨fy0, zy0, fy1, zy1, fy2, zy2, xy⟩ := ly3 Ry_3.out
  go_wp2_with fail
  clear fx0 zx0 fx1 zx1 fx2 zx2 xx fy0 zy0 fy1 zy1 fy2 zy2 xy
  obtain ⟨fx0, zx0, fx1, zx1, fx2, zx2, xx⟩ := ly3 Rx_3.out
  obtain ⟨fy0, zy0, fy1, zy1, fy2, zy2, xy⟩ := ly3 Ry_3.out
  have KD := Lib.hid (bd0 w3)
  have LD := ls L3 KD.out
  have Mx : w.heap.size ≠ w.heap.size + 1 + 1 := by omega
  have My : w.heap.size + 1 ≠ w.heap.size + 1 + 1 := by omega
  go_region_held3 (fun w' => (∀ o, w'.cell? ⟨w.heap.size, o, none⟩ = w3.cell? ⟨w.heap.size, o, none⟩) ∧ (∀ o, w'.cell? ⟨w.heap.size + 1, o, none⟩ = w3.cell? ⟨w.heap.size + 1, o, none⟩))
    (first | with_reducible exact ⟨keep_b KD.out xx, keep_b KD.out xy⟩ | with_reducible exact ⟨keep_b K6.out xx, keep_b K6.out xy⟩ | with_reducible exact ⟨keep_b K7.out xx, keep_b K7.out xy⟩ | with_reducible exact ⟨keep_b K8.out xx, keep_b K8.out xy⟩ | exact ⟨(keep_set (keep_b K8.out xx) Mx), (keep_set (keep_b K8.out xy) My)⟩ | exact ⟨(keep_set (keep_set (keep_b K8.out xx) Mx) Mx), (keep_set (keep_set (keep_b K8.out xy) My) My)⟩ | exact ⟨(keep_set (keep_set (keep_set (keep_b K8.out xx) Mx) Mx) Mx), (keep_set (keep_set (keep_set (keep_b K8.out xy) My) My) My)⟩)
    (first
      | (go_at_call 64; (with_reducible refine (zmul_d (LD.out.get (A := A) (c := c) (xs := digs m.natAbs) (by simp)) (LD.out.get (A := B) (c := d) (xs := digs n.natAbs) (by simp)) (Nat.le_trans lx.out (by omega)) (Nat.le_trans ly.out (by omega)) HZ.out).mono ?_); rintro e w6 ⟨A6, c6, rfl, hd, hb⟩; (have K6 := bt KD hb); (have L6 := la LD hb hd); clear hb hd)
      | (go_at_call 37; (with_reducible refine (odd_d (L6.out.get (A := A6) (c := c6) (xs := digs z.natAbs) (by simp)) (Nat.le_trans LZ.out (by omega)) (t32_live HT.out L6.out) z0 z1 HM.out HE.out).mono ?_); rintro e w7 ⟨A7, c7, rfl, hd, hb⟩; (have K7 := bt K6 hb); (have L7 := la L6 hb hd); clear hb hd)
      | (go_at_call 59; (with_reducible refine (answer_d (row_c (cells_of Rk_3.out K7.out) (i := 0) rfl) (heap_lt (cells_of Rk_3.out K7.out)) (L7.out.get (A := A7) (c := c7) (xs := digs M.natAbs) (by simp)) (Nat.le_trans LM.out (by omega)) HQ.out).mono ?_); rintro e w8 ⟨A8, c8, rfl, hd, hb⟩; (have K8 := bt K7 hb); (have L8 := la L7 hb hd); (have qr0_K8 := row_c (i := 0) (co Rr_3 K8.out).out rfl); (have pr0_K8 := frozen_of_row _ _ 0 _ _ (cells_of Rr_3.out K8.out)); (have qr1_K8 := row_c (i := 1) (co Rr_3 K8.out).out rfl); (have pr1_K8 := frozen_of_row _ _ 1 _ _ (cells_of Rr_3.out K8.out)); (have qr2_K8 := row_c (i := 2) (co Rr_3 K8.out).out rfl); (have pr2_K8 := frozen_of_row _ _ 2 _ _ (cells_of Rr_3.out K8.out)); clear hb hd))
  rename_i hHeld
  clear hHeld
  clear fx0 zx0 fx1 zx1 fx2 zx2 xx fy0 zy0 fy1 zy1 fy2 zy2 xy
  have Rx_8 := co Rx_3 K8.out
  have Ry_8 := co Ry_3 K8.out
  have Rr_8 := co Rr_3 K8.out
  have Rsl_8 := co Rsl_3 K8.out
  have Rk_8 := co Rk_3 K8.out
  clear ws
  obtain ⟨fr0, zr0, fr1, zr1, fr2, zr2, xr⟩ := ly3 Rr_8.out
  go_wp2
  refine bodyPost_ret (v := .tuple #[.agg #[.bool (decide (M < 0)), .slice A8 (digs M.natAbs).length c8, .int .i64 E], .int .i64 0]) (by simp [results, Tryd.results27, go_sem, fr0, fr1, fr2]) rfl ?_
  
  refine ⟨A8, c8, rfl, ?_, ?_⟩
  · exact (fin3 L8.out Rr_8.out noint3 Gr).get (A := A8) (c := c8) (xs := digs M.natAbs) (by simp)
  · exact (fin3 L8.out Rr_8.out noint3 Gr).1

theorem dsub_yes {A B : Option Addr} {c d : Nat} {m n x y M E : Int} {w : World} (h : Dg w A c (digs m.natAbs)) (h' : Dg w B d (digs n.natAbs)) (hl : (digs m.natAbs).length ≤ 10000) (hl' : (digs n.natAbs).length ≤ 10000) (r1 : Rt m x) (r2 : Rt n y) (hT : T32 w) (hs : IsD (dv m x - dv n y) M E) (hq : inR M E = true) :
    Calls Tryd.prog 25 #[.agg #[.bool (decide (m < 0)), .slice A (digs m.natAbs).length c, .int .i64 x], .agg #[.bool (decide (n < 0)), .slice B (digs n.natAbs).length d, .int .i64 y]] w fun e w' => Ye M E 0 w e w' := sub_yes_ A B c d m n x y M E w h h' hl hl' r1 r2 hT hs hq
theorem dmul_yes {A B : Option Addr} {c d : Nat} {m n x y M E : Int} {w : World} (h : Dg w A c (digs m.natAbs)) (h' : Dg w B d (digs n.natAbs)) (hl : (digs m.natAbs).length ≤ 10000) (hl' : (digs n.natAbs).length ≤ 10000) (r1 : Rt m x) (r2 : Rt n y) (hT : T32 w) (hs : IsD (dv m x * dv n y) M E) (hq : inR M E = true) :
    Calls Tryd.prog 27 #[.agg #[.bool (decide (m < 0)), .slice A (digs m.natAbs).length c, .int .i64 x], .agg #[.bool (decide (n < 0)), .slice B (digs n.natAbs).length d, .int .i64 y]] w fun e w' => Ye M E 0 w e w' := mul_yes_ A B c d m n x y M E w h h' hl hl' r1 r2 hT hs hq

set_option maxHeartbeats 4000000 in
set_option maxRecDepth 100000 in
theorem scale_yes_ (A : Option Addr) (c : Nat) (m x n M E : Int) (w : World) (h : Dg w A c (digs m.natAbs)) (hl : (digs m.natAbs).length ≤ 10000) (r1 : Rt m x) (hT : T32 w) (n0 : -100000 ≤ n) (n1 : n ≤ 100000) (hs : IsD (dv m (x + n)) M E) (hq : inR M E = true):
    Calls Tryd.prog 29 #[.agg #[.bool (decide (m < 0)), .slice A (digs m.natAbs).length c, .int .i64 x], .int .i64 n] w fun e w' => Ye M E 0 w e w' := by
  have HR1 := Lib.hid r1
  have lx := Lib.hid hl
  have HQ := Lib.hid hq
  have x0 := r1.2.1
  have x1 := r1.2.2
  have LM := Lib.hid (inr_len hq)
  obtain ⟨s, hs1⟩ : ∃ s, x + n = s := ⟨_, rfl⟩
  rw [hs1] at hs
  have hu := IsD.of hs
  have HM := Lib.hid hu.1
  have HE := Lib.hid hu.2
  have HS1 := Lib.hid hs1
  have d1 : decide (n < -100000) = false := by simp; omega
  have d2 : decide (100000 < n) = false := by simp; omega
  have z0 : -1000000000 ≤ x + n := by omega
  have z1 : x + n ≤ 1000000000 := by omega
  have HE2 := Lib.hid (show nx m (x + n) = E by rw [hs1]; exact hu.2)
  have HT := Lib.hid hT
  clear hT
  have L0 := Lib.hid ((live_start w).add h)
  clear h hl r1 hs hq hs1 hu
  go_enter Tryd.func29, Tryd.ntmps29
  go_wp2_with fail
  obtain ⟨v1, hW, hb, Rx_1, Rr_1, Rsl_1⟩ := new3 w (.cells #[.bool (decide (m < 0)), .slice A (digs m.natAbs).length c, .int .i64 x] 26) (.cells #[.bool false, .slice none 0 0, .int .i64 0] 26) (.cells #[.bool (decide (m < 0)), .slice A (digs m.natAbs).length c, .int .i64 x] 26)
  rw [← hW]
  have L1 := ls L0 hb
  have Gx := gl0 L0.out
  have Gr := gl1 L0.out
  have Nxr : w.heap.size < w.heap.size + 1 := by omega
  have Gsl := gl2 L0.out
  have Nxsl : w.heap.size < w.heap.size + 1 + 1 := by omega
  have Nrsl : w.heap.size + 1 < w.heap.size + 1 + 1 := by omega
  clear hW hb
  refine (begin_1 Rsl_1.out (L1.out.get (A := A) (c := c) (xs := digs m.natAbs) (by simp)) (dyR_num HR1.out) (Nat.le_trans lx.out (by omega)) (k := 0) rfl).mono ?_
  rintro e w2 ⟨rfl, hb⟩
  have L2 := ls L1 hb
  have Rx_2 := co Rx_1 hb
  have Rr_2 := co Rr_1 hb
  have Rsl_2 := co Rsl_1 hb
  clear hb 
  go_wp2_with fail
  obtain ⟨w3, hW, hb, Rk_3⟩ := new1 w2 (.cells #[.int .i64 0] 66)
  rw [← hW]
  have L3 := ls L2 hb
  have Rx_3 := co Rx_2 hb
  have Rr_3 := co Rr_2 hb
  have Rsl_3 := co Rsl_2 hb
  have Gk := gl0 L2.out
  have Nxk := nl0 Rx_2.out
  have Nrk := nl0 Rr_2.out
  have Nslk := nl0 Rsl_2.out
  clear hW hb
  refine (tell_no _ 0 4 false _ (row_c Rk_3.out (i := 0) rfl) (.inl rfl)).mono ?_
  rintro e w4 ⟨rfl, rfl⟩
  go_wp2_with fail
  refine (fails_any _ 0 false _ (row_c Rk_3.out (i := 0) rfl) rfl).mono ?_
  rintro e w5 ⟨rfl, rfl⟩
  obtain ⟨fx0, zx0, fx1, zx1, fx2, zx2, xx⟩ := ly3 Rx_3.out
  go_wp2_with fail
  refine (odd_d (L3.out.get (A := A) (c := c) (xs := digs m.natAbs) (by simp)) (Nat.le_trans lx.out (by omega)) (t32_live HT.out L3.out) z0 z1 HM.out HE2.out).mono ?_
  rintro e w6 ⟨A6, c6, rfl, hd, hb⟩
  have L6 := la L3 hb hd
  clear fx0 zx0 fx1 zx1 fx2 zx2 xx
  have Rx_6 := co Rx_3 hb
  have Rr_6 := co Rr_3 hb
  have Rsl_6 := co Rsl_3 hb
  have Rk_6 := co Rk_3 hb
  clear hb hd
  go_wp2_with fail
  refine (answer_d (row_c Rk_6.out (i := 0) rfl) (heap_lt Rk_6.out) (L6.out.get (A := A6) (c := c6) (xs := digs M.natAbs) (by simp)) (Nat.le_trans LM.out (by omega)) HQ.out).mono ?_
  rintro e w7 ⟨A7, c7, rfl, hd, hb⟩
  have L7 := la L6 hb hd
  have Rx_7 := co Rx_6 hb
  have Rr_7 := co Rr_6 hb
  have Rsl_7 := co Rsl_6 hb
  have Rk_7 := co Rk_6 hb
  clear hb hd
  obtain ⟨fr0, zr0, fr1, zr1, fr2, zr2, xr⟩ := ly3 Rr_7.out
  go_wp2
  refine bodyPost_ret (v := .tuple #[.agg #[.bool (decide (M < 0)), .slice A7 (digs M.natAbs).length c7, .int .i64 E], .int .i64 0]) (by simp [results, Tryd.results29, go_sem, fr0, fr1, fr2]) rfl ?_
  
  refine ⟨A7, c7, rfl, ?_, ?_⟩
  · exact (fin3 L7.out Rr_7.out noint3 Gr).get (A := A7) (c := c7) (xs := digs M.natAbs) (by simp)
  · exact (fin3 L7.out Rr_7.out noint3 Gr).1

set_option maxHeartbeats 4000000 in
set_option maxRecDepth 100000 in
theorem size_yes (A : Option Addr) (c : Nat) (m x : Int) (w : World) (h : Dg w A c (digs m.natAbs)) (hl : (digs m.natAbs).length ≤ 10000) (r1 : Rt m x) (m0 : m ≠ 0) {k : Int} (hk : x + bl m = k):
    Calls Tryd.prog 17 #[.agg #[.bool (decide (m < 0)), .slice A (digs m.natAbs).length c, .int .i64 x]] w fun e w' => e = .returned (.tuple #[.int .i64 k, .bool true]) ∧ Below w.heap.size w w' := by
  have lx := Lib.hid hl
  have x0 := r1.2.1
  have x1 := r1.2.2
  have D1 := Lib.hid (show decide (m = 0) = false by simp [m0])
  have DR := Lib.hid (fun W hW => dright_any A c (decide (m < 0)) (digs m.natAbs) x W hW true (dyR_num r1) (by omega))
  have b1 := bl_bd hl
  unfold bl at hk
  obtain ⟨z, hz⟩ : ∃ z : Int, (blen m.natAbs : Int) = z := ⟨_, rfl⟩
  have HZ := Lib.hid hz
  rw [hz] at hk
  have ws : IntKind.i64.wrap (x + z) = k := by rw [IntWalk.i64_in _ (by omega)]; exact hk
  have L0 := Lib.hid ((live_start w).add h)
  clear h hl r1 m0 hz hk b1
  go_enter Tryd.func17, Tryd.ntmps17
  go_wp2_with fail
  obtain ⟨v1, hW, hb, Rx_1⟩ := new1 w (.cells #[.bool (decide (m < 0)), .slice A (digs m.natAbs).length c, .int .i64 x] 26)
  rw [← hW]
  have L1 := ls L0 hb
  have Gx := gl0 L0.out
  clear hW hb
  refine (isz_d (x := x) D1.out).mono ?_
  rintro e w2 ⟨rfl, hb⟩
  have L2 := ls L1 hb
  have Rx_2 := co Rx_1 hb
  clear hb 
  obtain ⟨fx0, zx0, fx1, zx1, fx2, zx2, xx⟩ := ly3 Rx_2.out
  go_wp2_with fail
  refine (DR.out _ (L2.out.get (A := A) (c := c) (xs := digs m.natAbs) (by simp))).mono ?_
  rintro e w3 ⟨rfl, hb⟩
  have L3 := ls L2 hb
  clear fx0 zx0 fx1 zx1 fx2 zx2 xx
  have Rx_3 := co Rx_2 hb
  clear hb 
  obtain ⟨fx0, zx0, fx1, zx1, fx2, zx2, xx⟩ := ly3 Rx_3.out
  go_wp2_with fail
  clear fx0 zx0 fx1 zx1 fx2 zx2 xx
  obtain ⟨fx0, zx0, fx1, zx1, fx2, zx2, xx⟩ := ly3 Rx_3.out
  have KD := Lib.hid (bd0 w3)
  have LD := ls L3 KD.out
  go_region_held3 (fun w' => ∀ b o, b < w3.heap.size → w'.cell? ⟨b, o, none⟩ = w3.cell? ⟨b, o, none⟩)
    (first | with_reducible exact (bcell KD.out).1)
    (first
      | (go_at_call 48; (with_reducible refine (bits_b (LD.out.get (A := A) (c := c) (xs := digs m.natAbs) (by simp)) (Nat.le_trans lx.out (by omega)) HZ.out).mono ?_); rintro e w5 ⟨rfl, rfl⟩))
  rename_i hHeld
  clear hHeld
  clear fx0 zx0 fx1 zx1 fx2 zx2 xx
  clear KD LD
  obtain ⟨w6, hW⟩ : ∃ W : World, W = w3.drew := ⟨_, rfl⟩
  rw [← hW]
  have hb : Below w3.heap.size w3 w6 := by rw [hW]; exact bd0 _
  have L6 := ls L3 hb
  have Rx_6 := co Rx_3 hb
  clear hW hb
  clear ws
  go_wp2
  go_ret2
  exact ⟨rfl, L6.out.1⟩
end Go.Proofs.YtaciohjobenipaaDoor
end
