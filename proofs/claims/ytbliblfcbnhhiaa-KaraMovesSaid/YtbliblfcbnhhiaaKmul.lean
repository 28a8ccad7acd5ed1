/-
  kara.Mul's own closure, by induction on how many digits its numbers have.
-/
import Derived.Test.YtbliblfcbnhhiaaLift
import Derived.Test.YtbliblfcbnhhiaaNew
import Derived.Test.YtbliblfcbnhhiaaShr
import Derived.Deep.RegionHeld3
import Derived.Deep.DeepCutAuto
namespace Go.Proofs.Ytbliblfcbnhhiaa
open Go.RowKit
theorem take_len {xs : List Nat} {h : Nat} (hh : h ≤ xs.length) : (xs.take h).length = h := by rw [List.length_take]; omega
theorem val_split (xs : List Nat) {h : Nat} (hh : h ≤ xs.length) : val xs = val (xs.take h) + 4294967296 ^ h * val (xs.drop h) := by
  conv => lhs; rw [← List.take_append_drop h xs, val_append]
  rw [List.length_take, Nat.min_eq_left hh]
/-- What the closure is asked for. -/
def Kmul (K : Nat) : Prop := ∀ (A B : Option Addr) (c d : Nat) (xs ys : List Nat) (w : World) (g : Nat), xs.length ≤ K → ys.length ≤ K → Dg w A c xs → Dg w B d ys → g < w.heap.size →
    w.cell? ⟨g, 0, none⟩ = some (.func (.func 19) #[] #[.pointer (some ⟨g, 0, none⟩)]) →
    Calls Try.prog 19 #[.slice A xs.length c, .slice B ys.length d, .pointer (some ⟨g, 0, none⟩)] w fun e w' => ∃ A' c', e = .returned (.slice A' (digs (val xs * val ys)).length c') ∧ Dg w' A' c' (digs (val xs * val ys)) ∧ Below w.heap.size w w'
section
variable {w0 w w' : World} {L : List (Option Addr × Nat × List Nat)} {A B : Option Addr} {c d n m : Nat} {xs ys : List Nat} {x y : Nat}
theorem kmul_l {K g : Nat} (ih : Kmul K) (hL : Live w0 w L) (h1 : (A, c, xs) ∈ L) (h2 : (B, d, ys) ∈ L) (hn : n = xs.length) (hm : m = ys.length) (hx : val xs = x) (hy : val ys = y) (b1 : xs.length ≤ K) (b2 : ys.length ≤ K)
    (hg : g < w0.heap.size) (hc : w0.cell? ⟨g, 0, none⟩ = some (.func (.func 19) #[] #[.pointer (some ⟨g, 0, none⟩)])) :
    Calls Try.prog 19 #[.slice A n c, .slice B m d, .pointer (some ⟨g, 0, none⟩)] w fun e w' => ∃ A' c', e = .returned (.slice A' (digs (x * y)).length c') ∧ Live w0 w' ((A', c', digs (x * y)) :: L) := by
  subst hn hm hx hy
  exact (ih A B c d xs ys w g b1 b2 (hL.get h1) (hL.get h2) (Nat.lt_of_lt_of_le hg hL.1.size) ((hL.1.cell (p := ⟨g, 0, none⟩) hg).trans hc)).mono fun e w' ⟨A', c', he, hd, hb⟩ => ⟨A', c', he, (hL.step hb).add hd⟩
theorem lift_l {i : Int} {k : Nat} (hL : Live w0 w L) (h1 : (A, c, xs) ∈ L) (hn : n = xs.length) (b1 : xs.length ≤ 1048576) (hi : i = (k : Int)) (hk : k ≤ 1048576) :
    Calls Try.prog 22 #[.slice A n c, .int .i64 i] w fun e w' => ∃ A' c', e = .returned (.slice A' (k + xs.length) c') ∧ Live w0 w' ((A', c', List.replicate k 0 ++ xs) :: L) := by
  subst hn hi
  exact (lift_any A c xs k w (hL.get h1) b1 hk).mono fun e w' ⟨A', c', he, hd, hb⟩ => ⟨A', c', he, (hL.step hb).add hd⟩
theorem less_l {p : Nat} {B1 B2 : Option Addr} {d1 d2 m1 m2 : Nat} {zs : List Nat} {z : Nat} (hL : Live w0 w L) (h1 : (A, c, xs) ∈ L) (h2 : (B1, d1, ys) ∈ L) (h3 : (B2, d2, zs) ∈ L) (hn : n = xs.length) (hm1 : m1 = ys.length) (hm2 : m2 = zs.length) (hx : val xs = x) (hy : val ys = y) (hz : val zs = z)
    (hp : p < w.heap.size) (c1 : w.cell? ⟨p, 0, none⟩ = some (.slice B1 m1 d1)) (c2 : w.cell? ⟨p, 1, none⟩ = some (.slice B2 m2 d2)) (b1 : xs.length ≤ 1048576) (b2 : ys.length ≤ 1048576) (b3 : zs.length ≤ 1048576) (hle : y + z ≤ x) :
    Calls Try.prog 23 #[.slice A n c, .slice (some ⟨p, 0, none⟩) 2 2] w fun e w' => ∃ A' c', e = .returned (.slice A' (digs (x - y - z)).length c') ∧ Live w0 w' ((A', c', digs (x - y - z)) :: L) := by
  subst hn hm1 hm2 hx hy hz
  exact (less_any A c xs p B1 B2 d1 d2 ys zs w (hL.get h1) (hL.get h2) (hL.get h3) hp c1 c2 b1 b2 b3 hle).mono fun e w' ⟨A', c', he, hd, hb⟩ => ⟨A', c', he, (hL.step hb).add hd⟩
theorem Live.alloc (h : Live w0 w L) (o : Obj) : Live w0 (w.alloc o) L := h.step ((Below.refl _ _).alloc (Nat.le_refl _) o)
theorem Live.drew (h : Live w0 w L) : Live w0 w.drew L := h.step (Below.refl _ _).drew
theorem Live.cell {b o : Nat} {v : Value} (hL : Live w0 w L) (hg : b < w0.heap.size) (hc : w0.cell? ⟨b, o, none⟩ = some v) : w.cell? ⟨b, o, none⟩ = some v := (hL.1.cell (p := ⟨b, o, none⟩) hg).trans hc
end
theorem kmul_fin {A : Option Addr} {c : Nat} {u v : Nat} {w0 w : World} {L : List (Option Addr × Nat × List Nat)} (e : u = v) (h : Live w0 w L) (hm : (A, c, digs u) ∈ L) :
    ∃ A' c', Ending.returned (.slice A (digs u).length c) = .returned (.slice A' (digs v).length c') ∧ Dg w A' c' (digs v) ∧ Below w0.heap.size w0 w := by
  subst e
  exact ⟨A, c, rfl, h.get hm, h.1⟩
theorem kmul_two {xl xh y P x : Nat} (h : x = xl + P * xh) : xl * y + P * (xh * y) = x * y := by rw [h, Nat.add_mul, Nat.mul_assoc]
theorem kmul_cross (xl xh yl yh : Nat) : (xl + xh) * (yl + yh) = xl * yl + xh * yh + (xl * yh + xh * yl) := by
  simp only [Nat.add_mul, Nat.mul_add]; omega
theorem kmul_three {xl xh yl yh P x y : Nat} (hx : x = xl + P * xh) (hy : y = yl + P * yh) : xl * yl + P * P * (xh * yh) + P * ((xl + xh) * (yl + yh) - xl * yl - xh * yh) = x * y := by
  have e : (xl + xh) * (yl + yh) - xl * yl - xh * yh = xl * yh + xh * yl := by rw [kmul_cross]; omega
  rw [e, hx, hy, Nat.add_mul, Nat.mul_add, Nat.mul_add, Nat.mul_add]
  have e1 : P * xh * yl = P * (xh * yl) := Nat.mul_assoc _ _ _
  have e2 : xl * (P * yh) = P * (xl * yh) := Nat.mul_left_comm _ _ _
  have e3 : P * xh * (P * yh) = P * P * (xh * yh) := by rw [Nat.mul_assoc, Nat.mul_left_comm xh P yh, ← Nat.mul_assoc]
  rw [e1, e2, e3]
  omega
theorem lift_len (k v : Nat) : (digs (4294967296 ^ k * v)).length ≤ k + (digs v).length := by
  apply digs_len_lt
  have h := val_lt (ok_digs v)
  rw [val_digs] at h
  rw [Nat.pow_add]
  exact Nat.mul_lt_mul_of_pos_left h (Nat.pow_pos (by omega))
theorem kmul_pow (h a b c : Nat) {t : Nat} (e : a + 4294967296 ^ h * 4294967296 ^ h * b + 4294967296 ^ h * c = t) : a + 4294967296 ^ (2 * h) * b + 4294967296 ^ h * c = t := by
  rw [Nat.two_mul, Nat.pow_add]; exact e
set_option maxHeartbeats 8000000 in
set_option maxRecDepth 100000 in
theorem kmul_step (K : Nat) (ih : ∀ k, k < K → Kmul k) (hK : K ≤ 262144) : Kmul K := by
  intro A B c d xs ys w g lx ly hA hB hg hcell
  have L0 := Lib.hid (((live_start w).add hA).add hB)
  have HC := Lib.hid hcell
  have IH := Lib.hid ih
  clear hA hB ih
  go_enter Try.func19, Try.ntmps19
  go_upto_if 18 with fail
  go_cut [0, 1] (fun a b wx => ∃ (A2 B2 : Option Addr) (c2 d2 : Nat) (X2 Y2 : List Nat), a = .slice A2 X2.length c2 ∧ b = .slice B2 Y2.length d2 ∧ Dg w A2 c2 X2 ∧ Dg w B2 d2 Y2 ∧
    Hid (val X2 * val Y2 = val xs * val ys) ∧ Y2.length ≤ X2.length ∧ X2.length ≤ K ∧ w = wx)
  case first =>
    by_cases hlt : xs.length < ys.length
    · have hd0 : decide (xs.length < ys.length) = true := by simp; omega
      go_wp2_with fail
      go_meet
      exact ⟨B, A, d, c, ys, xs, rfl, rfl, L0.out.get (by simp), L0.out.get (by simp), Nat.mul_comm _ _, by omega, by omega, rfl⟩
    · have hd0 : decide (xs.length < ys.length) = false := by simp; omega
      go_wp2_with fail
      go_meet
      exact ⟨A, B, c, d, xs, ys, rfl, rfl, L0.out.get (by simp), L0.out.get (by simp), rfl, by omega, by omega, rfl⟩
  case rest =>
    clear L0
    obtain ⟨A1, B1, c1, d1, X, Y, rfl, rfl, h1, h2, HS, hle, hxl, rfl⟩ := hcut
    have H1 := Lib.hid h1
    have H2 := Lib.hid h2
    clear h1 h2
    by_cases h8 : Y.length < 8
    · have d8 : decide ((Y.length : Int) < 8) = true := by simp; omega
      have HM := Lib.hid (mul_any A1 B1 c1 d1 X Y w H1.out H2.out (by omega) (by omega))
      rw [HS.out] at HM
      clear h8
      go_wp2_with fail
      refine HM.out.mono ?_
      rintro e w1 ⟨A2, c2, rfl, g2, hb2⟩
      have G2 := Lib.hid g2
      clear g2
      go_wp2
      go_ret
      exact ⟨A2, c2, rfl, G2.out, hb2⟩
    · have d8 : decide ((Y.length : Int) < 8) = false := by simp; omega
      have hh : ∃ h, h = (X.length + 1) / 2 := ⟨_, rfl⟩
      obtain ⟨h, eh⟩ := hh
      have HH := Lib.hid eh
      have h_lo : 4 ≤ h := by omega
      have h_hi : h + 4 ≤ X.length + 1 := by omega
      have h_2 : 2 * h ≤ X.length + 1 := by omega
      have h_3 : X.length ≤ 2 * h := by omega
      clear eh h8
      obtain ⟨b, off, hA, hb, hcx⟩ := H1.out.2.2 (by omega)
      subst hA
      have hcap := H1.out.1
      have LL := Lib.hid ((((live_start w).add H2.out).add (H1.out.take h)).add (H1.out.drop (show h < X.length by omega)))
      have HX := Lib.hid (val_split X (show h ≤ X.length by omega))
      have HXl := Lib.hid (take_len (show h ≤ X.length by omega))
      have HXh := Lib.hid (show (X.drop h).length = X.length - h from List.length_drop)
      have lxl := take_len (show h ≤ X.length by omega)
      have dXl := digs_len_le (H1.out.take h).2.1
      have dXh := digs_len_le (H1.out.drop (show h < X.length by omega)).2.1
      rw [HXh.out] at dXh
      rw [HXl.out] at dXl
      clear lxl hcx
      have HHalf := Lib.hid (half_any X.length w (by omega))
      rw [show (((X.length + 1) / 2 : Nat) : Int) = (h : Int) from by rw [← HH.out]] at HHalf
      generalize X.take h = XL at *
      generalize X.drop h = XH at *
      have hw0 : (0 : Int) ≤ (h : Int) := by omega
      have hw1 : (h : Int) ≤ (X.length : Int) := by omega
      have hw2 : (h : Int) ≤ (c1 : Int) := by omega
      have hwc : ¬ (c1 = h) := by omega
      go_wp2_with fail
      refine HHalf.out.mono ?_
      rintro e w' ⟨rfl, rfl⟩
      go_wp2_with fail
      have LD := Lib.hid LL.out.drew
      go_region_held3 (fun w' => w'.cell? ⟨g, 0, none⟩ = some (.func (.func 19) #[] #[.pointer (some ⟨g, 0, none⟩)])) (first | assumption | go_keep)
        ((go_at_call 18; refine Calls.mono (trim_l (xs := XL) (x := val XL) LD.out (by simp) HXl.out.symm rfl (by have := HXl.out; omega)) ?_; rintro e w2 ⟨A2, c2, rfl, h2⟩; (have q2 := h2.cell hg HC.out); (have L2 := Lib.hid h2); clear h2))
      by_cases hyh : Y.length ≤ h
      · have dy : decide (Y.length ≤ h) = true := by simp [hyh]
        clear hyh
        have IHk := Lib.hid (IH.out (h + 1) (by omega))
        have LE := Lib.hid L2.out.drew
        have lm1 := digs_mul_len (val XL) (val Y)
        have lm2 := digs_mul_len (val XH) (val Y)
        have dY := digs_len_le H2.out.2.1
        have HXH := HXh.out
        have HNH := Lib.hid HXH.symm
        have hyl : Y.length ≤ h := by simpa using dy
        clear HXH
        go_wp2
        go_region_held3 (fun w' => w'.cell? ⟨g, 0, none⟩ = some (.func (.func 19) #[] #[.pointer (some ⟨g, 0, none⟩)])) (first | assumption | go_keep)
          (first
            | (go_at_call_of 19 (Value.slice A2 (digs (val XL)).length c2); refine Calls.mono (kmul_l (xs := digs (val XL)) (ys := Y) (x := val XL) (y := val Y) IHk.out LE.out (by simp) (by simp) rfl rfl (val_digs _) rfl (by omega) (by omega) hg HC.out) ?_; rintro e w3 ⟨A3, c3, rfl, h3⟩; (have q3 := h3.cell hg HC.out); (have L3 := Lib.hid h3); clear h3)
            | (go_at_call_of 19 (Value.slice (some (⟨b, off + h, none⟩ : Addr)) (X.length - h) (c1 - h)); refine Calls.mono (kmul_l (xs := XH) (ys := Y) (x := val XH) (y := val Y) IHk.out L3.out (by simp) (by simp) HNH.out rfl rfl rfl (by have := HNH.out; omega) (by omega) hg HC.out) ?_; rintro e w4 ⟨A4, c4, rfl, h4⟩; (have q4 := h4.cell hg HC.out); (have L4 := Lib.hid h4); clear h4)
            | (go_at_call 22; refine Calls.mono (lift_l (xs := digs (val XH * val Y)) (k := h) L4.out (by simp) rfl (by omega) rfl (by omega)) ?_; rintro e w5 ⟨A5, c5, rfl, h5⟩; (have q5 := h5.cell hg HC.out); (have L5 := Lib.hid h5); clear h5)
            | (go_at_call 15; refine Calls.mono (add_l (xs := digs (val XL * val Y)) (ys := List.replicate h 0 ++ digs (val XH * val Y)) (x := val XL * val Y) (y := 4294967296 ^ h * (val XH * val Y)) L5.out (by simp) (by simp) rfl (by simp) (val_digs _) (by rw [lift_val, val_digs]) (by omega) (by simp; omega)) ?_; rintro e w6 ⟨A6, c6, rfl, h6⟩; (have q6 := h6.cell hg HC.out); (have L6 := Lib.hid h6); clear h6))
        go_wp2
        go_ret
        exact kmul_fin ((kmul_two HX.out).trans HS.out) L6.out (by simp)
      · have dy : decide (Y.length ≤ h) = false := by simp; omega
        have hyh' : h < Y.length := by omega
        obtain ⟨b', off', hB, hb', hcy⟩ := H2.out.2.2 (by omega)
        subst hB
        have hcap2 := H2.out.1
        have L2b := Lib.hid ((L2.out.add ((H2.out.take h).keep (L2.out).1.size (fun b o h => (L2.out).1.cell (p := ⟨b, o, none⟩) h))).add (((H2.out.drop hyh').keep (L2.out).1.size (fun b o h => (L2.out).1.cell (p := ⟨b, o, none⟩) h))))
        have HY := Lib.hid (val_split Y (show h ≤ Y.length by omega))
        have HYl := Lib.hid (take_len (show h ≤ Y.length by omega))
        have HYh := Lib.hid (show (Y.drop h).length = Y.length - h from List.length_drop)
        have dYl := digs_len_le (H2.out.take h).2.1
        have dYh := digs_len_le (H2.out.drop hyh').2.1
        rw [HYh.out] at dYh
        rw [HYl.out] at dYl
        clear hcy hyh
        generalize Y.take h = YL at *
        generalize Y.drop h = YH at *
        have hv1 : (h : Int) ≤ (Y.length : Int) := by omega
        have hv2 : (h : Int) ≤ (d1 : Int) := by omega
        have hvc : ¬ (d1 = h) := by omega
        have LE := Lib.hid L2b.out.drew
        have HNH := Lib.hid (HXh.out).symm
        have HNY := Lib.hid (HYh.out).symm
        have HNL := Lib.hid (HYl.out).symm
        have lxh : X.length - h ≤ h := by omega
        have lyh : Y.length - h ≤ h := by omega
        go_wp2_with fail
        go_region_held3 (fun w' => w'.cell? ⟨g, 0, none⟩ = some (.func (.func 19) #[] #[.pointer (some ⟨g, 0, none⟩)])) (first | assumption | go_keep)
          ((go_at_call 18; refine Calls.mono (trim_l (xs := YL) (x := val YL) LE.out (by simp) HNL.out rfl (by have := HNL.out; omega)) ?_; rintro e w3 ⟨A3, c3, rfl, h3⟩; (have q3 := h3.cell hg HC.out); (have L3 := Lib.hid h3); clear h3))
        have IHk := Lib.hid (IH.out (h + 1) (by omega))
        have LF := Lib.hid L3.out.drew
        have lm1 := digs_mul_len (val XL) (val YL)
        have lm2 := digs_mul_len (val XH) (val YH)
        go_wp2_with fail
        go_region_held3 (fun w' => w'.cell? ⟨g, 0, none⟩ = some (.func (.func 19) #[] #[.pointer (some ⟨g, 0, none⟩)])) (first | assumption | go_keep)
          (first
            | (go_at_call_of 19 (Value.slice A2 (digs (val XL)).length c2); refine Calls.mono (kmul_l (xs := digs (val XL)) (ys := digs (val YL)) (x := val XL) (y := val YL) IHk.out LF.out (by simp) (by simp) rfl rfl (val_digs _) (val_digs _) (by omega) (by omega) hg HC.out) ?_; rintro e w4 ⟨A4, c4, rfl, h4⟩; (have q4 := h4.cell hg HC.out); (have L4 := Lib.hid h4); clear h4)
            | (go_at_call_of 19 (Value.slice (some (⟨b, off + h, none⟩ : Addr)) (X.length - h) (c1 - h)); refine Calls.mono (kmul_l (xs := XH) (ys := YH) (x := val XH) (y := val YH) IHk.out L4.out (by simp) (by simp) HNH.out HNY.out rfl rfl (by have := HNH.out; omega) (by have := HNY.out; omega) hg HC.out) ?_; rintro e w5 ⟨A5, c5, rfl, h5⟩; (have q5 := h5.cell hg HC.out); (have L5 := Lib.hid h5); clear h5))
        have LG := Lib.hid L5.out.drew
        have la1 := digs_add_len (val XL) (val XH)
        have la2 := digs_add_len (val YL) (val YH)
        have lm3 := digs_mul_len (val XL + val XH) (val YL + val YH)
        go_wp2_with fail
        go_region_held3 (fun w' => w'.cell? ⟨g, 0, none⟩ = some (.func (.func 19) #[] #[.pointer (some ⟨g, 0, none⟩)])) (first | assumption | go_keep)
          (first
            | (go_at_call_of 15 (Value.slice A2 (digs (val XL)).length c2); refine Calls.mono (add_l (xs := digs (val XL)) (ys := XH) (x := val XL) (y := val XH) LG.out (by simp) (by simp) rfl HNH.out (val_digs _) rfl (by omega) (by have := HNH.out; omega)) ?_; rintro e w6 ⟨A6, c6, rfl, h6⟩; (have q6 := h6.cell hg HC.out); (have L6 := Lib.hid h6); clear h6)
            | (go_at_call_of 15 (Value.slice A3 (digs (val YL)).length c3); refine Calls.mono (add_l (xs := digs (val YL)) (ys := YH) (x := val YL) (y := val YH) L6.out (by simp) (by simp) rfl HNY.out (val_digs _) rfl (by omega) (by have := HNY.out; omega)) ?_; rintro e w7 ⟨A7, c7, rfl, h7⟩; (have q7 := h7.cell hg HC.out); (have L7 := Lib.hid h7); clear h7)
            | (go_at_call 19; refine Calls.mono (kmul_l (xs := digs (val XL + val XH)) (ys := digs (val YL + val YH)) (x := val XL + val XH) (y := val YL + val YH) IHk.out L7.out (by simp) (by simp) rfl rfl (val_digs _) (val_digs _) (by omega) (by omega) hg HC.out) ?_; rintro e w8 ⟨A8, c8, rfl, h8⟩; (have q8 := h8.cell hg HC.out); (have L8 := Lib.hid h8); clear h8))
        go_wp2_with fail
        refine Calls.mono (lift_l (xs := digs (val XH * val YH)) (k := 2 * h) L8.out (by simp) rfl (by omega) (by omega) (by omega)) ?_
        rintro e w9 ⟨A9, c9, rfl, h9⟩
        have L9 := Lib.hid h9
        clear h9
        go_wp2_with fail
        refine Calls.mono (add_l (xs := digs (val XL * val YL)) (ys := List.replicate (2 * h) 0 ++ digs (val XH * val YH)) (x := val XL * val YL) (y := 4294967296 ^ (2 * h) * (val XH * val YH)) L9.out (by simp) (by simp) rfl (by simp) (val_digs _) (by rw [lift_val, val_digs]) (by omega) (by simp; omega)) ?_
        rintro e w10 ⟨A10, c10, rfl, h10⟩
        have L10 := Lib.hid h10
        clear h10
        have la3 := digs_add_len (val XL * val YL) (4294967296 ^ (2 * h) * (val XH * val YH))
        have lP := Lib.hid (lift_len (2 * h) (val XH * val YH))
        go_wp2_with fail
        have L11 := Lib.hid (L10.out.alloc (.cells #[.slice A4 (digs (val XL * val YL)).length c4, .slice A5 (digs (val XH * val YH)).length c5] 22))
        have z1 : (w10.alloc (.cells #[.slice A4 (digs (val XL * val YL)).length c4, .slice A5 (digs (val XH * val YH)).length c5] 22)).cell? ⟨w10.heap.size, 0, none⟩ = some (.slice A4 (digs (val XL * val YL)).length c4) := by rw [cell_of_row _ _ _ _ _ _ (heap_alloc_new w10 _)]; rfl
        have z2 : (w10.alloc (.cells #[.slice A4 (digs (val XL * val YL)).length c4, .slice A5 (digs (val XH * val YH)).length c5] 22)).cell? ⟨w10.heap.size, 1, none⟩ = some (.slice A5 (digs (val XH * val YH)).length c5) := by rw [cell_of_row _ _ _ _ _ _ (heap_alloc_new w10 _)]; rfl
        have Z1 := Lib.hid z1
        have Z2 := Lib.hid z2
        clear z1 z2
        refine Calls.mono (less_l (xs := digs ((val XL + val XH) * (val YL + val YH))) (ys := digs (val XL * val YL)) (zs := digs (val XH * val YH)) (x := (val XL + val XH) * (val YL + val YH)) (y := val XL * val YL) (z := val XH * val YH) L11.out (by simp) (by simp) (by simp) rfl rfl rfl (val_digs _) (val_digs _) (val_digs _) (by simp) Z1.out Z2.out (by omega) (by omega) (by omega) (by rw [kmul_cross]; omega)) ?_
        rintro e w12 ⟨A12, c12, rfl, h12⟩
        have L12 := Lib.hid h12
        clear h12
        have ls1 := digs_sub_len ((val XL + val XH) * (val YL + val YH)) (val XL * val YL)
        have ls2 := digs_sub_len ((val XL + val XH) * (val YL + val YH) - val XL * val YL) (val XH * val YH)
        go_wp2_with fail
        refine Calls.mono (lift_l (xs := digs ((val XL + val XH) * (val YL + val YH) - val XL * val YL - val XH * val YH)) (k := h) L12.out (by simp) rfl (by omega) rfl (by omega)) ?_
        rintro e w13 ⟨A13, c13, rfl, h13⟩
        have L13 := Lib.hid h13
        clear h13
        go_wp2_with fail
        refine Calls.mono (add_l (xs := digs (val XL * val YL + 4294967296 ^ (2 * h) * (val XH * val YH))) (ys := List.replicate h 0 ++ digs ((val XL + val XH) * (val YL + val YH) - val XL * val YL - val XH * val YH)) (x := val XL * val YL + 4294967296 ^ (2 * h) * (val XH * val YH)) (y := 4294967296 ^ h * ((val XL + val XH) * (val YL + val YH) - val XL * val YL - val XH * val YH)) L13.out (by simp) (by simp) rfl (by simp) (val_digs _) (by rw [lift_val, val_digs]) (by have := lP.out; omega) (by simp; omega)) ?_
        rintro e w14 ⟨A14, c14, rfl, h14⟩
        have L14 := Lib.hid h14
        clear h14
        go_wp2
        go_ret
        exact kmul_fin ((kmul_pow h _ _ _ (kmul_three HX.out HY.out)).trans HS.out) L14.out (by simp)
theorem kmul_all : ∀ K, K ≤ 262144 → Kmul K := by
  intro K
  induction K using Nat.strongRecOn with
  | ind K ih => exact fun h => kmul_step K (fun k hk => ih k hk (by omega)) h
end Go.Proofs.Ytbliblfcbnhhiaa
