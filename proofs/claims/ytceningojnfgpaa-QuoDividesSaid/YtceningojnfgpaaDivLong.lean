/-
  quo.divLong.
-/
import Derived.Test.YtceningojnfgpaaDivDigit
import Derived.Laws.CopyOwn
namespace Go.Proofs.Ytceningojnfgpaa
open Go.RowKit
theorem zeros_cells2 (n : Nat) : madeCells #[.int .u32 0] n = (cells (List.replicate n 0)).toArray := by
  apply Array.ext
  · simp [madeCells, cells]
  · intro i h1 h2
    simp [madeCells, cells, Nat.mod_one]
theorem elem_size2 : (Try.prog.info? 37).map (·.size) = some 1 := by kernel_rfl
theorem splice_front (xs : List Nat) (n : Nat) : splice (cells (List.replicate n 0)) 0 (cells xs) = cells (xs ++ List.replicate (n - xs.length) 0) := by
  simp [splice, cells, List.map_append]
theorem front_ok {xs : List Nat} (h : ok32 xs) (k : Nat) : ok32 (xs ++ List.replicate k 0) := by
  intro x hx
  rcases List.mem_append.1 hx with hx | hx
  · exact h x hx
  · exact ok_zeros k x hx
theorem front_val (xs : List Nat) (k : Nat) : val (xs ++ List.replicate k 0) = val xs := by rw [val_append, val_zeros]; omega
theorem front_row {w : World} {g n : Nat} {CS XS : List Value} {xs : List Nat} (hg : w.heap[g]? = some (.cells (splice CS 0 XS).toArray 37 (0, 0))) (h1 : CS = cells (List.replicate n 0)) (h2 : XS = cells xs) : Row w g (xs ++ List.replicate (n - xs.length) 0) := by
  subst h1 h2
  rw [splice_front] at hg
  exact hg
theorem run_cut1 {P : Program} {t e : TypeId} {i : TypeInfo} (ht : P.underlying t = some (.slice e)) (hi : P.info? e = some i) (hs : i.size = 1) (g N k m : Nat) (h : k + m + 1 ≤ N) (W : World) :
    (Instr.slice t (.slice (some ⟨g, 0, none⟩) N N) (some (.int .i64 (k : Int))) (some (.int .i64 ((k : Int) + (m : Int) + 1))) none).run P W = .ok (.slice (some ⟨g, k, none⟩) (m + 1) (N - k)) W := by
  have h1 : (0 : Int) ≤ (k : Int) + (m : Int) + 1 := by omega
  have h2 : (k : Int) + (m : Int) + 1 ≤ (N : Int) := by omega
  have h3 : ((k : Int) + (m : Int) + 1).toNat = k + m + 1 := by omega
  have h5 : ¬ (N = k) := by omega
  have h6 : k + m + 1 - k = m + 1 := by omega
  have h7 : ¬ (k + m + 1 < k) := by omega
  simp [Instr.slice, Instr.sliceBounds, run_underlying ht, go_sem, h1, h2, h3, h5, h6, h7, sizeOf, typeInfo, hi, hs]
theorem Row.window {w : World} {g : Nat} {ys : List Nat} (h : Row w g ys) (hk : ok32 ys) {off m c : Nat} (ho : off + m ≤ ys.length) (hc : m ≤ c) : Dg w (some ⟨g, off, none⟩) c ((ys.drop off).take m) := by
  have hl : ((ys.drop off).take m).length = m := by rw [List.length_take, List.length_drop]; omega
  refine ⟨by omega, fun x hx => hk x (List.mem_of_mem_drop (List.mem_of_mem_take hx)), fun _ => ⟨g, off, rfl, h.lt, fun j hj => ?_⟩⟩
  rw [hl] at hj
  rw [h.cell (by omega), List.getElem?_take, if_pos hj, List.getElem?_drop]
/-- What stands between two digits. -/
structure Dv (M v K N k : Nat) (zs qs : List Nat) : Prop where
  zl : zs.length = N + 1
  ql : qs.length = K + 1
  zo : ok32 zs
  qo : ok32 qs
  eq : M = val zs + v * val qs
  lt : val zs < v * 4294967296 ^ k
  zero : ∀ i, i < k → qs[i]?.getD 0 = 0
theorem Dv.row {M v K N k n : Nat} {zs qs : List Nat} (h : Dv M v K N (k + 1) zs qs) (hv : v < 4294967296 ^ n) : val zs < 4294967296 ^ (k + (n + 1)) := by
  have h1 := h.lt
  have h2 : v * 4294967296 ^ (k + 1) ≤ 4294967296 ^ n * 4294967296 ^ (k + 1) := Nat.mul_le_mul_right _ (by omega)
  rw [← Nat.pow_add, show n + (k + 1) = k + (n + 1) by omega] at h2
  omega
theorem Dv.next {M v K N k : Nat} {zs qs zs' : List Nat} (h : Dv M v K N (k + 1) zs qs) (hk : k < K + 1) {l : Nat} (hl : l < 4294967296) (e : val zs' = val zs - 4294967296 ^ k * (v * l)) (hle : 4294967296 ^ k * (v * l) ≤ val zs) (hlt : val zs - 4294967296 ^ k * (v * l) < v * 4294967296 ^ k) (zl : zs'.length = N + 1) (zo : ok32 zs') :
    Dv M v K N k zs' (qs.set k l) := by
  refine ⟨zl, by rw [List.length_set]; exact h.ql, zo, ok_set h.qo hl _, ?_, by rw [e]; exact hlt, fun i hi => by rw [get_set_other (by omega)]; exact h.zero i (by omega)⟩
  rw [val_set_zero _ _ _ (by rw [h.ql]; exact hk) (h.zero k (by omega)), e, h.eq, Nat.mul_add]
  have e1 : v * (4294967296 ^ k * l) = 4294967296 ^ k * (v * l) := by rw [Nat.mul_left_comm]
  rw [e1]
  omega
theorem Dv.took {M v K N k n : Nat} {zs qs V : List Nat} (h : Dv M v K N (k + 1) zs qs) (hk : k < K + 1) (eV : val V = v) (hv0 : 0 < v) (hv : v < 4294967296 ^ n) (hkN : k + (n + 1) ≤ N + 1) {x b : Nat} {zs1 : List Nat} (h1 : val ((zs.drop k).take (n + 1)) / val V ≤ x) (h2 : x ≤ val ((zs.drop k).take (n + 1)) / val V + 1) (hx : x < 4294967296)
    (zo1 : ok32 zs1) (zl1 : zs1.length = zs.length) (zd : zs1.drop (k + (n + 1)) = zs.drop (k + (n + 1))) (he : val zs + 4294967296 ^ (k + (n + 1)) * b = val zs1 + 4294967296 ^ k * (val V * x)) :
    (b = 0 ∧ Dv M v K N k zs1 (qs.set k x)) ∨ (b = 1 ∧ 1 ≤ x ∧ ∀ c zs2, ok32 zs2 → zs2.length = zs1.length → zs2.drop (k + (n + 1)) = zs1.drop (k + (n + 1)) → val zs2 + 4294967296 ^ (k + (n + 1)) * c = val zs1 + 4294967296 ^ k * val V → Dv M v K N k zs2 (qs.set k (x - 1))) := by
  have hr := h.row hv
  have hz := drop_zero (by rw [h.zl]; exact hkN) hr
  rw [val_window h.zo (by rw [h.zl]; exact hkN) hr, eV] at h1 h2
  rw [eV] at he
  have b1 := below_of_drop zo1 (by rw [zl1, h.zl]; exact hkN) (by rw [zd]; exact hz)
  have hvQ : 4294967296 ^ k * v ≤ 4294967296 ^ (k + (n + 1)) := by
    rw [Nat.pow_add]
    refine Nat.mul_le_mul_left _ (Nat.le_trans (Nat.le_of_lt hv) ?_)
    rw [Nat.pow_succ]; omega
  obtain ⟨c1, c2, c3⟩ := div_fix (Nat.pow_pos (by omega)) hv0 rfl h1 h2 hvQ b1 he
  have lx : val zs / 4294967296 ^ k / v < 4294967296 := Nat.lt_of_le_of_lt h1 hx
  rcases c3 with ⟨rfl, rfl, e⟩ | ⟨rfl, e1, e⟩
  · exact .inl ⟨rfl, h.next hk lx e c1 c2 (by rw [zl1]; exact h.zl) zo1⟩
  · refine .inr ⟨rfl, by rw [e1]; exact Nat.succ_pos _, fun c zs2 zo2 zl2 zd2 he2 => ?_⟩
    rw [eV] at he2
    have b2 := below_of_drop zo2 (by rw [zl2, zl1, h.zl]; exact hkN) (by rw [zd2, zd]; exact hz)
    rw [show x - 1 = val zs / 4294967296 ^ k / v by rw [e1]; rfl]
    exact h.next hk lx (e c _ b2 he2) c1 c2 (by rw [zl2, zl1]; exact h.zl) zo2
theorem Row.other {w : World} {g q : Nat} {ys : List Nat} (h : Row w g ys) (hg : g ≠ q) (i : Nat) (v : Value) : Row (w.setCell ⟨q, i, none⟩ v) g ys := ((Rest.refl q w).set_ i v).row h hg
set_option maxHeartbeats 8000000 in
theorem divlong_any (A B : Option Addr) (c d : Nat) (xs ys : List Nat) (w : World) (h : Dg w A c xs) (h' : Dg w B d ys) (hl : xs.length ≤ 1000000) (h2 : 2 ≤ ys.length) (hle : ys.length ≤ xs.length) (ex : digs (val xs) = xs) (ey : digs (val ys) = ys) :
    Calls Try.prog 28 #[.slice A xs.length c, .slice B ys.length d] w fun e w' => ∃ A' c' B' d', e = .returned (.tuple #[.slice A' (digs (val xs / val ys)).length c', .slice B' (digs (val xs % val ys)).length d']) ∧ Dg w' A' c' (digs (val xs / val ys)) ∧ Dg w' B' d' (digs (val xs % val ys)) ∧ Below w.heap.size w w' := by
  have y0 : val ys ≠ 0 := fun e => by rw [e, digs_zero] at ey; rw [← ey] at h2; simp at h2
  obtain ⟨s, hs, es⟩ := norm_way y0
  have ⟨t1, t2⟩ := norm_top y0 es
  have t3 := norm_start (a := val xs) (s := s) y0 (by rw [ex, ey]; exact hle)
  have x0 : val xs ≠ 0 := fun e => by rw [e, digs_zero] at ex; have := congrArg List.length ex; simp at this; omega
  have m0 : val xs * 2 ^ s ≠ 0 := Nat.mul_ne_zero x0 (Nat.pos_iff_ne_zero.1 (Nat.pow_pos (by omega)))
  have ml := digs_shl_len (val xs) s
  have hdiv := div_moved (val xs) (val ys) s
  have hmod := mod_moved (val xs) (val ys) s
  rw [ex] at ml t3
  rw [ey] at t1 t2 t3 es
  have L0 := Lib.hid (((live_start w).add h).add h')
  have ES := Lib.hid es
  obtain ⟨K, hK⟩ : ∃ K, xs.length = ys.length + K := ⟨xs.length - ys.length, by omega⟩
  rw [show xs.length - ys.length + 1 = K + 1 by omega] at t3
  have HK := Lib.hid hK
  have T1 := Lib.hid t1
  clear h h' es hK t1
  go_enter Try.func28, Try.ntmps28
  go_wp2_with fail
  refine Calls.mono (bits_l (xs := ys) (x := val ys) L0.out (by simp) rfl rfl (by omega) rfl) ?_
  rintro e w1 ⟨rfl, h1⟩
  have L1 := Lib.hid h1
  clear h1
  have hbl : blen (val ys) ≤ 32 * ys.length := by have := ES.out; omega
  go_wp2_with fail
  refine Calls.mono (shl_l (xs := ys) (x := val ys) (k := s) L1.out (by simp) rfl rfl (by omega) (by have := ES.out; omega) (by omega)) ?_
  rintro e w2 ⟨A2, c2, rfl, h1⟩
  have L2 := Lib.hid h1
  clear h1
  go_wp2_with fail
  refine Calls.mono (shl_l (xs := xs) (x := val xs) (k := s) L2.out (by simp) rfl rfl (by omega) (by have := ES.out; omega) (by omega)) ?_
  rintro e w3 ⟨A3, c3, rfl, h1⟩
  have L3 := Lib.hid h1
  clear h1
  have eV : (digs (val ys * 2 ^ s)).length = ys.length := T1.out
  have oV := ok_digs (val ys * 2 ^ s)
  have vV := val_digs (val ys * 2 ^ s)
  have oM := ok_digs (val xs * 2 ^ s)
  have vM := val_digs (val xs * 2 ^ s)
  have hX0 : 0 < (digs (val xs * 2 ^ s)).length := by
    rcases Nat.eq_zero_or_pos (digs (val xs * 2 ^ s)).length with h0 | h0
    · exact absurd (digs_nil.1 h0) m0
    · exact h0
  have hX1 : (digs (val xs * 2 ^ s)).length ≤ xs.length + 1 := by omega
  rw [← eV] at t2 h2 hle
  have HK2 := Lib.hid (show xs.length = (digs (val ys * 2 ^ s)).length + K from by rw [eV]; exact HK.out)
  clear hbl eV T1 HK ml m0 x0 y0
  generalize val ys * 2 ^ s = v at *
  generalize val xs * 2 ^ s = M at *
  obtain ⟨V, hV⟩ : ∃ V, digs v = V := ⟨_, rfl⟩
  rw [hV] at L3 t2 h2 hle oV vV HK2
  rw [hV]
  obtain ⟨X, hX⟩ : ∃ X, digs M = X := ⟨_, rfl⟩
  rw [hX] at L3 hX0 hX1 oM vM
  rw [hX]
  have OV := Lib.hid oV
  have OM := Lib.hid oM
  have VV := Lib.hid vV
  have VM := Lib.hid vM
  have T2 := Lib.hid t2
  have T3 := Lib.hid t3
  have HD := Lib.hid hdiv
  have HM := Lib.hid hmod
  clear oV oM vV vM t2 t3 hdiv hmod hV hX ex ey
  have hmk := run_make_row' (P := Try.prog) 22 37 (.int .u32 0) 4 Try.underlying22 elem_info rfl .i64 .i64 (xs.length + 1) (by omega) (by omega)
  rw [show ((xs.length + 1 : Nat) : Int) = (xs.length : Int) + 1 by omega, zeros_cells2] at hmk
  obtain ⟨CS, hCS⟩ : ∃ CS, CS = cells (List.replicate (xs.length + 1) 0) := ⟨_, rfl⟩
  obtain ⟨XS, hXS⟩ : ∃ XS, XS = cells X := ⟨_, rfl⟩
  rw [← hCS] at hmk
  have HCS := Lib.hid hCS
  have HXS := Lib.hid hXS
  have hlC : CS.length = xs.length + 1 := by rw [hCS, cells_len, List.length_replicate]
  have hlX : XS.length = X.length := by rw [hXS, cells_len]
  have HF := Lib.hid (show 0 + XS.length ≤ CS.length from by omega)
  have HL := Lib.hid (show XS.length = Nat.min X.length (xs.length + 1) from by rw [hlX]; exact (Nat.min_eq_left hX1).symm)
  have H1 := Lib.hid (show ∀ v ∈ XS, v.oneCell' = true from by rw [HXS.out]; intro u hu; unfold cells at hu; obtain ⟨x, _, rfl⟩ := List.mem_map.1 hu; rfl)
  clear hCS hXS hlC hlX
  have HSZ := Lib.hid (show (w3.alloc (.cells CS.toArray 37)).heap[w3.heap.size]? = some (.cells CS.toArray 37 (0, 0)) from heap_alloc_new w3 _)
  have HPE := Lib.hid (show ∃ ad, A3 = some ad ∧ ∀ j v, XS[j]? = some v → (w3.alloc (.cells CS.toArray 37)).cell? (ad.add j) = some v from by
      have hd : Dg w3 A3 c3 X := L3.out.get (by simp)
      obtain ⟨b, off, hA, hb, hcx⟩ := hd.2.2 hX0
      refine ⟨⟨b, off, none⟩, hA, fun j v hv => ?_⟩
      rw [HXS.out] at hv
      subst hA
      rw [← dg_cell hd hv]
      exact World.cell?_alloc_lt w3 _ _ (by rw [Addr.add_lit]; exact hb))
  have hmk2 := run_make_row' (P := Try.prog) 22 37 (.int .u32 0) 4 Try.underlying22 elem_info rfl .i64 .i64 (K + 1) (by have := HK2.out; omega) (by have := HK2.out; omega)
  rw [show ((K + 1 : Nat) : Int) = (xs.length : Int) - (V.length : Int) + 1 by have := HK2.out; omega] at hmk2
  have hki : (0 : Int) ≤ (xs.length : Int) - (V.length : Int) := by omega
  go_wp2_with (refine wpList_copy_splice rfl _ _ 22 22 rfl 37 Try.underlying22 elem_size2 _ _ _ _ _ _ rfl rfl w3.heap.size 0 CS 37 HSZ.out XS HL.out (fun _ => ⟨rfl, HPE.out⟩) HF.out H1.out w3.heap.size w3 ((Below.refl _ _).alloc (Nat.le_refl _) _) (Nat.le_refl _) ?_; intro w5 HG5 hB5)
  have HB5 := Lib.hid hB5
  have R5 := Lib.hid (front_row HG5.out HCS.out HXS.out)
  have hne : w3.heap.size ≠ w5.heap.size := by have := R5.out.lt; omega
  have HSQ := Lib.hid R5.out.lt
  clear hB5
  obtain ⟨i0, hi0, hz0, hz1, hz2⟩ := info_parts elem_info
  have hv0 : 0 < v := by
    rcases Nat.eq_zero_or_pos v with h0 | h0
    · exfalso; have := T3.out; rw [h0, Nat.zero_mul] at this; omega
    · exact h0
  have HV0 := Lib.hid hv0
  have HVB := Lib.hid (show v < 4294967296 ^ V.length by rw [← VV.out]; exact val_lt OV.out)
  clear hmk hmk2 hz0 hz2 HF HL H1 HSZ HPE hv0 L0 L1 L2
  go_loopw [13] (fun i wr => ∃ (k : Nat) (z : Int) (zs qs : List Nat), k ≤ K + 1 ∧ i = .int .i64 z ∧ z = (k : Int) - 1 ∧ Row wr w3.heap.size zs ∧ Row wr w5.heap.size qs ∧ Hid (Dv M v K xs.length k zs qs) ∧ Hid (Below w3.heap.size w3 wr)) (fun i _ => (intOf i + 1).toNat)
  case atStart =>
    refine ⟨K + 1, _, X ++ List.replicate (xs.length + 1 - X.length) 0, List.replicate (K + 1) 0, Nat.le_refl _, rfl, by have := HK2.out; omega, R5.out.below_ ((Below.refl _ _).alloc (Nat.le_refl _) _), Row.made _ _, ?_, HB5.out.alloc (by have := HSQ.out; omega) _⟩
    refine ⟨by simp; omega, by simp, front_ok OM.out _, ok_zeros _, by rw [front_val, val_zeros, VM.out, Nat.mul_zero, Nat.add_zero], by rw [front_val, VM.out]; exact T3.out, fun i hi => ?_⟩
    rw [List.getElem?_replicate]; split <;> rfl
  case round =>
    obtain ⟨k, z, zs, qs, hk, rfl, hz, hrow, hq, HV, HBel⟩ := hrel
    rcases k with _ | k
    · obtain rfl : z = -1 := by omega
      have hd := div_done HV.out.eq (by have := HV.out.lt; simpa using this)
      have L6 := Lib.hid (((L3.out.step HBel.out).add (hq.dg HV.out.qo (c := K + 1) (by rw [HV.out.ql]; omega))).add (hrow.dg HV.out.zo (c := xs.length + 1) (by rw [HV.out.zl]; omega)))
      have HQ := Lib.hid hd
      have KB := Lib.hid (show K ≤ 1000000 by have := HK2.out; omega)
      clear hd hz hk hrow hq hki
      go_wp2_with fail
      refine Calls.mono (trim_l (xs := qs) (x := val xs / val ys) L6.out (by simp) HV.out.ql.symm (by rw [HQ.out.1]; exact HD.out) (by rw [HV.out.ql]; have := KB.out; omega)) ?_
      rintro e w7 ⟨A7, c7, rfl, h7⟩
      have L7 := Lib.hid h7
      clear h7
      go_wp2_with fail
      refine Calls.mono (shr_l (xs := zs) (x := M % v) (k := s) L7.out (by simp) HV.out.zl.symm HQ.out.2 (by rw [HV.out.zl]; omega) (by have := ES.out; omega) (by omega)) ?_
      rintro e w8 ⟨A8, c8, rfl, h8⟩
      rw [HM.out] at h8
      rw [HM.out]
      have L8 := Lib.hid h8
      clear h8
      go_wp2
      go_ret2
      exact ⟨A7, c7, A8, c8, rfl, L8.out.get (by simp), L8.out.get (by simp), L8.out.1⟩
    · obtain rfl : z = (k : Int) := by omega
      have HN := Lib.hid (show k + (V.length + 1) ≤ xs.length + 1 by have := HK2.out; omega)
      have hkb : k ≤ 1000000 := by have := HN.out; omega
      have hcut := fun W => run_cut1 (P := Try.prog) Try.underlying22 hi0 hz1 w3.heap.size (xs.length + 1) k V.length (by have := HN.out; omega) W
      have DV := Lib.hid (show Dg wr A2 c2 V from (L3.out.step HBel.out).get (by simp))
      have hAb : ∀ b o, A2 = some ⟨b, o, none⟩ → b < w3.heap.size := by
        intro b o e
        obtain ⟨b', o', e', hlt, _⟩ := (show Dg w3 A2 c2 V from L3.out.get (by simp)).2.2 (by omega)
        rw [e] at e'; injection e' with e'; injection e' with e1 _ _; omega
      have hlen : ((zs.drop k).take (V.length + 1)).length = V.length + 1 := by rw [List.length_take, List.length_drop, HV.out.zl]; have := HN.out; omega
      have HGS := Lib.hid (guess_any (some ⟨w3.heap.size, k, none⟩) A2 (xs.length + 1 - k) c2 (V.length - 2) V.length (V.length + 1) ((zs.drop k).take (V.length + 1)) V wr (hrow.window HV.out.zo (by rw [HV.out.zl]; exact HN.out) (by have := HN.out; omega)) DV.out rfl hlen.symm (by omega) (by omega) (by omega) (by rw [show V.length - 2 + 1 = V.length - 1 by omega]; exact T2.out) (by
        rw [val_window HV.out.zo (by rw [HV.out.zl]; exact HN.out) (HV.out.row HVB.out), VV.out, Nat.div_lt_iff_lt_mul (Nat.pow_pos (by omega)), Nat.mul_assoc, Nat.mul_comm 4294967296, ← Nat.pow_succ]
        exact HV.out.lt))
      have HAB := Lib.hid hAb
      have HR := Lib.hid hrow
      have HQ := Lib.hid hq
      clear hz hki hlen hAb hrow hq
      go_wp2_with fail
      refine HGS.out.mono ?_
      rintro e w6 ⟨⟨x, rfl, hx, hx1, hx2⟩, N6, rfl⟩
      have HX := Lib.hid (And.intro hx1 hx2)
      clear hx1 hx2
      go_wp2_with fail
      refine (takeoff_any A2 w3.heap.size k (V.length + 1) (xs.length + 1 - k) c2 x V zs (wr.drewN N6) (HR.out.drewN N6) HV.out.zo (DV.out.drewN N6) HAB.out rfl (by rw [HV.out.zl]; omega) (by rw [HV.out.zl]; have := HN.out; omega) hx).mono ?_
      rintro e w7 ⟨b, zs1, rfl, hb1, hrow1, zo1, zl1, zd1, he1, hbel1, hrest1⟩
      have HT := Lib.hid (HV.out.took (by omega) VV.out HV0.out HVB.out HN.out HX.out.1 HX.out.2 hx zo1 zl1 zd1 he1)
      have hq1 := hrest1.row (HQ.out.drewN N6) (Ne.symm hne)
      have HB1 := Lib.hid ((below_drewN HBel.out N6).trans hbel1)
      have ZO := Lib.hid zo1
      have ZL := Lib.hid zl1
      have hkq : k < qs.length := by rw [HV.out.ql]; omega
      have hkK : k < K + 1 := by omega
      have hkK' : (k : Int) < (K : Int) + 1 := by omega
      clear zo1 zl1 zd1 he1 hbel1 hrest1 hb1 hk
      rcases HT.out with ⟨rfl, hD⟩ | ⟨rfl, hx1, hD⟩
      · rw [show (((0 : Nat) : Int) == 1) = false from rfl]
        have HD1 := Lib.hid hD
        have hcell := hq1.cell (i := k) hkq
        have hfr := hq1.frozen k
        clear hD hkq
        go_wp2
        go_roundw
        case rel => exact ⟨k, (k : Int) - 1, zs1, qs.set k x, by omega, rfl, rfl, hrow1.other hne _ _, hq1.set_ k x, HD1, (HB1.out).setCell (by have := HSQ.out; simp; omega) _⟩
        case measure => simp [intOf]
      · rw [show (((1 : Nat) : Int) == 1) = true from rfl]
        have HD1 := Lib.hid hD
        have HR1 := Lib.hid hrow1
        have HQ1 := Lib.hid hq1
        clear hD hrow1 hq1
        go_wp2_with fail
        refine (giveback_any A2 w3.heap.size k (V.length + 1) (xs.length + 1 - k) c2 V zs1 w7 HR1.out ZO.out ((show Dg w7 A2 c2 V from (L3.out.step HB1.out).get (by simp))) HAB.out rfl (by rw [ZL.out, HV.out.zl]; omega) (by rw [ZL.out, HV.out.zl]; have := HN.out; omega)).mono ?_
        rintro e w8 ⟨c', zs2, rfl, hrow2, zo2, zl2, zd2, he2, hbel2, hrest2⟩
        have HD2 := Lib.hid (HD1.out c' zs2 zo2 zl2 zd2 he2)
        have hq2 := hrest2.row HQ1.out (Ne.symm hne)
        have HB2 := Lib.hid (HB1.out.trans hbel2)
        have hcell := hq2.cell (i := k) hkq
        have hfr := hq2.frozen k
        clear zo2 zl2 zd2 he2 hbel2 hrest2 hkq
        go_wp2
        go_roundw
        case rel => exact ⟨k, (k : Int) - 1, zs2, qs.set k (x - 1), by omega, rfl, rfl, hrow2.other hne _ _, hq2.set_int (by omega), HD2, (HB2.out).setCell (by have := HSQ.out; simp; omega) _⟩
        case measure => simp [intOf]
end Go.Proofs.Ytceningojnfgpaa
