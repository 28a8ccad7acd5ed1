import Derived.Test.YthgkdpfkaobgoaaDoorM3
import Derived.Test.YthgkdpfkaobgoaaDoorM4
import Derived.Test.YthgkdpfkaobgoaaDoorM5
section
/-
  What a law's walk calls, by whole numbers: each contract at numbers that are told by a sign and digits.
-/
namespace Go.Proofs.YthgkdpfkaobgoaaDoor
open Go.RowKit
theorem zlen_add (x y : Int) : (digs (x + y).natAbs).length ≤ max (digs x.natAbs).length (digs y.natAbs).length + 1 :=
  Nat.le_trans (digs_len_mono _ _ (by omega : (x + y).natAbs ≤ x.natAbs + y.natAbs)) (digs_add_len _ _)
theorem zlen_sub (x y : Int) : (digs (x - y).natAbs).length ≤ max (digs x.natAbs).length (digs y.natAbs).length + 1 :=
  Nat.le_trans (digs_len_mono _ _ (by omega : (x - y).natAbs ≤ x.natAbs + y.natAbs)) (digs_add_len _ _)
theorem zlen_mul (x y : Int) : (digs (x * y).natAbs).length ≤ (digs x.natAbs).length + (digs y.natAbs).length := by
  rw [Int.natAbs_mul]; exact digs_mul_len _ _
theorem zlen_neg (x : Int) : (digs (-x).natAbs).length = (digs x.natAbs).length := by rw [Int.natAbs_neg]
theorem zlen_raw {s : Bool} {xs : List Nat} {x : Int} (hk : ok32 xs) (h : sg s (val xs) = x) : (digs x.natAbs).length ≤ xs.length := by
  rw [← h, sg_abs]; exact digs_len_le hk
theorem sg_z (z : Int) : sg (decide (z < 0)) (val (digs z.natAbs)) = z := sg_dec z
section
variable {A B : Option Addr} {c d n m : Nat} {s r : Bool} {xs ys : List Nat} {x y : Int} {w : World}
theorem zadd_z (h : Dg w A c xs) (h' : Dg w B d ys) (hx : sg s (val xs) = x) (hy : sg r (val ys) = y) (hl : xs.length ≤ 1000000) (hl' : ys.length ≤ 1000000) :
    Calls Tryd.prog 15 #[.agg #[.bool s, .slice A xs.length c], .agg #[.bool r, .slice B ys.length d]] w fun e w' => Zr (x + y) w e w' := by
  subst hx hy; exact zadd_any A B c d s r xs ys w h h' hl hl'
theorem rzadd_z (h : Dg w A c xs) (h' : Dg w B d ys) (hx : sg s (val xs) = x) (hy : sg r (val ys) = y) (hl : xs.length ≤ 900000) (hl' : ys.length ≤ 900000) :
    Calls Tryd.prog 16 #[.agg #[.bool s, .slice A xs.length c], .agg #[.bool r, .slice B ys.length d]] w fun e w' => Zr (x + y) w e w' := by
  subst hx hy; exact rzadd_any A B c d s r xs ys w h h' hl hl'
theorem zsub_z (h : Dg w A c xs) (h' : Dg w B d ys) (hx : sg s (val xs) = x) (hy : sg r (val ys) = y) (hl : xs.length ≤ 1000000) (hl' : ys.length ≤ 1000000) :
    Calls Tryd.prog 17 #[.agg #[.bool s, .slice A xs.length c], .agg #[.bool r, .slice B ys.length d]] w fun e w' => Zr (x - y) w e w' := by
  subst hx hy; exact zsub_any A B c d s r xs ys w h h' hl hl'
theorem rzsub_z (h : Dg w A c xs) (h' : Dg w B d ys) (hx : sg s (val xs) = x) (hy : sg r (val ys) = y) (hl : xs.length ≤ 900000) (hl' : ys.length ≤ 900000) :
    Calls Tryd.prog 18 #[.agg #[.bool s, .slice A xs.length c], .agg #[.bool r, .slice B ys.length d]] w fun e w' => Zr (x - y) w e w' := by
  subst hx hy; exact rzsub_any A B c d s r xs ys w h h' hl hl'
theorem zmul_z (h : Dg w A c xs) (h' : Dg w B d ys) (hx : sg s (val xs) = x) (hy : sg r (val ys) = y) (hl : xs.length ≤ 500000) (hl' : ys.length ≤ 500000) :
    Calls Tryd.prog 19 #[.agg #[.bool s, .slice A xs.length c], .agg #[.bool r, .slice B ys.length d]] w fun e w' => Zr (x * y) w e w' := by
  subst hx hy; exact zmul_any A B c d s r xs ys w h h' hl hl'
theorem rzmul_z (h : Dg w A c xs) (h' : Dg w B d ys) (hx : sg s (val xs) = x) (hy : sg r (val ys) = y) (hl : xs.length ≤ 400000) (hl' : ys.length ≤ 400000) :
    Calls Tryd.prog 20 #[.agg #[.bool s, .slice A xs.length c], .agg #[.bool r, .slice B ys.length d]] w fun e w' => Zr (x * y) w e w' := by
  subst hx hy; exact rzmul_any A B c d s r xs ys w h h' hl hl'
theorem zneg_z (h : Dg w A c xs) (hx : sg s (val xs) = x) (hl : xs.length ≤ 1000000) :
    Calls Tryd.prog 21 #[.agg #[.bool s, .slice A xs.length c]] w fun e w' => Zr (-x) w e w' := by
  subst hx; exact zneg_any A c s xs w h hl
theorem rzneg_z (h : Dg w A c xs) (hx : sg s (val xs) = x) (hl : xs.length ≤ 1000000) :
    Calls Tryd.prog 22 #[.agg #[.bool s, .slice A xs.length c]] w fun e w' => Zr (-x) w e w' := by
  subst hx; exact rneg_any A c s xs w h hl
theorem zmake_z (h : Dg w A c xs) (hx : sg s (val xs) = x) (hl : xs.length ≤ 1000000) :
    Calls Tryd.prog 25 #[.bool s, .slice A xs.length c] w fun e w' => Zr x w e w' := by
  subst hx; exact zmake_any A c s xs w h hl
theorem rzmake_z (h : Dg w A c xs) (hx : sg s (val xs) = x) (hl : xs.length ≤ 1000000) :
    Calls Tryd.prog 26 #[.bool s, .slice A xs.length c] w fun e w' => Zr x w e w' := by
  subst hx; exact rmake_any A c s xs w h hl
theorem zfrom_z {i : Int} (hx : i = x) (h0 : -9223372036854775808 ≤ x) (h1 : x ≤ 9223372036854775807) :
    Calls Tryd.prog 23 #[.int .i64 i] w fun e w' => Zr x w e w' := by
  subst hx; exact zfrom_any i w h0 h1
theorem rzfrom_z {i : Int} (hx : i = x) (h0 : -9223372036854775808 ≤ x) (h1 : x ≤ 9223372036854775807) :
    Calls Tryd.prog 24 #[.int .i64 i] w fun e w' => Zr x w e w' := by
  subst hx; exact rzfrom_any i w h0 h1
theorem zcmp_z {q : Int} (h : Dg w A c xs) (h' : Dg w B d ys) (hx : sg s (val xs) = x) (hy : sg r (val ys) = y) (hl : xs.length ≤ 1000000) (hl' : ys.length ≤ 1000000) (hq : Int.sign (x - y) = q) :
    Calls Tryd.prog 29 #[.agg #[.bool s, .slice A xs.length c], .agg #[.bool r, .slice B ys.length d]] w fun e w' => e = .returned (.int .i64 q) ∧ Below w.heap.size w w' := by
  subst hq hx hy; exact zcmp_any A B c d s r xs ys w h h' hl hl'
theorem rzcmp_z {q : Int} (h : Dg w A c xs) (h' : Dg w B d ys) (hx : sg s (val xs) = x) (hy : sg r (val ys) = y) (hl : xs.length ≤ 1000000) (hl' : ys.length ≤ 1000000) (hq : Int.sign (x - y) = q) :
    Calls Tryd.prog 30 #[.agg #[.bool s, .slice A xs.length c], .agg #[.bool r, .slice B ys.length d]] w fun e w' => e = .returned (.int .i64 q) ∧ Below w.heap.size w w' := by
  subst hq hx hy; exact rzcmp_any A B c d s r xs ys w h h' hl hl'
theorem zdiv_z {u v : Int} (h : Dg w A c xs) (h' : Dg w B d ys) (hx : sg s (val xs) = x) (hy : sg r (val ys) = y) (hl : xs.length ≤ 500000) (hl' : ys.length ≤ 500000) (y0 : y ≠ 0) (hu : Int.fdiv x y = u) (hv : Int.fmod x y = v) :
    Calls Tryd.prog 33 #[.agg #[.bool s, .slice A xs.length c], .agg #[.bool r, .slice B ys.length d]] w fun e w' => Zr2 u v w e w' := by
  subst hu hv hx hy; exact zdiv_any A B c d s r xs ys w h h' hl hl' (fun e => y0 (by rw [e]; unfold sg; cases r <;> rfl))
theorem zdiv_z_no (h : Dg w A c xs) (h' : Dg w B d ys) (hy : sg r (val ys) = 0) (hl : xs.length ≤ 500000) (hl' : ys.length ≤ 500000) :
    Calls Tryd.prog 33 #[.agg #[.bool s, .slice A xs.length c], .agg #[.bool r, .slice B ys.length d]] w fun e w' => e = .returned (.tuple #[.agg #[.bool false, .slice none 0 0], .agg #[.bool false, .slice none 0 0], .bool false]) ∧ Below w.heap.size w w' :=
  zdiv_no A B c d s r xs ys w h h' hl hl' (by have := sg_abs r (val ys); rw [hy] at this; simpa using this.symm)
theorem rzdiv_z {u v : Int} (h : Dg w A c xs) (h' : Dg w B d ys) (hx : sg s (val xs) = x) (hy : sg r (val ys) = y) (hl : xs.length ≤ 100000) (hl' : ys.length ≤ 100000) (y0 : y ≠ 0) (hu : Int.fdiv x y = u) (hv : Int.fmod x y = v) :
    Calls Tryd.prog 34 #[.agg #[.bool s, .slice A xs.length c], .agg #[.bool r, .slice B ys.length d]] w fun e w' => Zr2 u v w e w' := by
  subst hu hv hx hy; exact rzdiv_any A B c d s r xs ys w h h' hl hl' (fun e => y0 (by rw [e]; unfold sg; cases r <;> rfl))
theorem rzdiv_z_no (h : Dg w A c xs) (h' : Dg w B d ys) (hy : sg r (val ys) = 0) (hl : xs.length ≤ 100000) (hl' : ys.length ≤ 100000) :
    Calls Tryd.prog 34 #[.agg #[.bool s, .slice A xs.length c], .agg #[.bool r, .slice B ys.length d]] w fun e w' => e = .returned (.tuple #[.agg #[.bool false, .slice none 0 0], .agg #[.bool false, .slice none 0 0], .bool false]) ∧ Below w.heap.size w w' :=
  rzdiv_no A B c d s r xs ys w h h' hl hl' (by have := sg_abs r (val ys); rw [hy] at this; simpa using this.symm)
theorem zsmall_z {q : Int} {ok : Bool} (h : Dg w A c xs) (hx : sg s (val xs) = x) (hl : xs.length ≤ 1000000) (hq : smallz x = q) (hok : smallb x = ok) :
    Calls Tryd.prog 27 #[.agg #[.bool s, .slice A xs.length c]] w fun e w' => e = .returned (.tuple #[.int .i64 q, .bool ok]) ∧ Below w.heap.size w w' := by
  subst hx; exact zsmall_any A c s xs w h hl q ok hq hok
theorem rzsmall_z {q : Int} {ok : Bool} (h : Dg w A c xs) (hx : sg s (val xs) = x) (hl : xs.length ≤ 1000000) (hq : smallz x = q) (hok : smallb x = ok) :
    Calls Tryd.prog 28 #[.agg #[.bool s, .slice A xs.length c]] w fun e w' => e = .returned (.tuple #[.int .i64 q, .bool ok]) ∧ Below w.heap.size w w' := by
  subst hx; exact rzsmall_any A c s xs w h hl q ok hq hok
theorem zadd_v {z : Int} (h : Dg w A c xs) (h' : Dg w B d ys) (hx : sg s (val xs) = x) (hy : sg r (val ys) = y) (hl : xs.length ≤ 1000000) (hl' : ys.length ≤ 1000000) (hz : x + y = z) :
    Calls Tryd.prog 15 #[.agg #[.bool s, .slice A xs.length c], .agg #[.bool r, .slice B ys.length d]] w fun e w' => Zr z w e w' := by
  subst hz; exact zadd_z h h' hx hy hl hl'
theorem rzadd_v {z : Int} (h : Dg w A c xs) (h' : Dg w B d ys) (hx : sg s (val xs) = x) (hy : sg r (val ys) = y) (hl : xs.length ≤ 900000) (hl' : ys.length ≤ 900000) (hz : x + y = z) :
    Calls Tryd.prog 16 #[.agg #[.bool s, .slice A xs.length c], .agg #[.bool r, .slice B ys.length d]] w fun e w' => Zr z w e w' := by
  subst hz; exact rzadd_z h h' hx hy hl hl'
theorem zsub_v {z : Int} (h : Dg w A c xs) (h' : Dg w B d ys) (hx : sg s (val xs) = x) (hy : sg r (val ys) = y) (hl : xs.length ≤ 1000000) (hl' : ys.length ≤ 1000000) (hz : x - y = z) :
    Calls Tryd.prog 17 #[.agg #[.bool s, .slice A xs.length c], .agg #[.bool r, .slice B ys.length d]] w fun e w' => Zr z w e w' := by
  subst hz; exact zsub_z h h' hx hy hl hl'
theorem rzsub_v {z : Int} (h : Dg w A c xs) (h' : Dg w B d ys) (hx : sg s (val xs) = x) (hy : sg r (val ys) = y) (hl : xs.length ≤ 900000) (hl' : ys.length ≤ 900000) (hz : x - y = z) :
    Calls Tryd.prog 18 #[.agg #[.bool s, .slice A xs.length c], .agg #[.bool r, .slice B ys.length d]] w fun e w' => Zr z w e w' := by
  subst hz; exact rzsub_z h h' hx hy hl hl'
theorem zmul_v {z : Int} (h : Dg w A c xs) (h' : Dg w B d ys) (hx : sg s (val xs) = x) (hy : sg r (val ys) = y) (hl : xs.length ≤ 500000) (hl' : ys.length ≤ 500000) (hz : x * y = z) :
    Calls Tryd.prog 19 #[.agg #[.bool s, .slice A xs.length c], .agg #[.bool r, .slice B ys.length d]] w fun e w' => Zr z w e w' := by
  subst hz; exact zmul_z h h' hx hy hl hl'
theorem rzmul_v {z : Int} (h : Dg w A c xs) (h' : Dg w B d ys) (hx : sg s (val xs) = x) (hy : sg r (val ys) = y) (hl : xs.length ≤ 400000) (hl' : ys.length ≤ 400000) (hz : x * y = z) :
    Calls Tryd.prog 20 #[.agg #[.bool s, .slice A xs.length c], .agg #[.bool r, .slice B ys.length d]] w fun e w' => Zr z w e w' := by
  subst hz; exact rzmul_z h h' hx hy hl hl'
theorem zneg_v {z : Int} (h : Dg w A c xs) (hx : sg s (val xs) = x) (hl : xs.length ≤ 1000000) (hz : -x = z) :
    Calls Tryd.prog 21 #[.agg #[.bool s, .slice A xs.length c]] w fun e w' => Zr z w e w' := by
  subst hz; exact zneg_z h hx hl
theorem rzneg_v {z : Int} (h : Dg w A c xs) (hx : sg s (val xs) = x) (hl : xs.length ≤ 1000000) (hz : -x = z) :
    Calls Tryd.prog 22 #[.agg #[.bool s, .slice A xs.length c]] w fun e w' => Zr z w e w' := by
  subst hz; exact rzneg_z h hx hl
theorem same_z {x y : Int} (h : Dg w A c (digs x.natAbs)) (h' : Dg w B d (digs y.natAbs)) (hl : (digs x.natAbs).length ≤ 16777216) (he : x = y) :
    Calls Tryd.prog 14 #[.agg #[.bool (decide (x < 0)), .slice A (digs x.natAbs).length c], .agg #[.bool (decide (y < 0)), .slice B (digs y.natAbs).length d]] w fun e w' => e = .returned (.bool true) ∧ Below w.heap.size w w' := by
  subst he; exact same_any A B c d _ _ w h h' hl
end
end Go.Proofs.YthgkdpfkaobgoaaDoor
end

section
/-
  The law's own 'examples' of chapter 4.
-/
namespace Go.Proofs.YthgkdpfkaobgoaaDoor
open Go.RowKit
theorem is_z (n : Int) : ∃ z : Int, n = z := ⟨n, rfl⟩
set_option maxHeartbeats 8000000 in
set_option maxRecDepth 100000 in
theorem examples_any (w : World) (htab : P10 w) : Calls Tryd.prog 12 #[] w fun e w' => e = .returned (.bool true) ∧ Below w.heap.size w w' := by
  have HT := Lib.hid htab
  clear htab
  obtain ⟨z1, h1⟩ := is_z (-7)
  obtain ⟨z2, h2⟩ := is_z 2
  obtain ⟨z4, h4⟩ := is_z (-4)
  obtain ⟨z0, h0⟩ := is_z 1
  obtain ⟨z5, h5⟩ := is_z (-5)
  obtain ⟨z6, h6⟩ := is_z (-9223372036854775808)
  obtain ⟨z7, h7⟩ := is_z (-120)
  have D1 := digs_one (a := 1) (by omega) (by omega)
  have D2 := digs_one (a := 2) (by omega) (by omega)
  have D4 := digs_one (a := 4) (by omega) (by omega)
  have D5 := digs_one (a := 5) (by omega) (by omega)
  have D7 := digs_one (a := 7) (by omega) (by omega)
  have D120 := digs_one (a := 120) (by omega) (by omega)
  have HQ := Lib.hid (show Int.fdiv z1 z2 = z4 by rw [← h1, ← h2, ← h4]; decide)
  have HR := Lib.hid (show Int.fmod z1 z2 = z0 by rw [← h1, ← h2, ← h0]; decide)
  have b1 : (digs z1.natAbs).length ≤ 1 := by rw [← h1]; show (digs 7).length ≤ 1; rw [D7]; simp
  have b2 : (digs z2.natAbs).length ≤ 1 := by rw [← h2]; show (digs 2).length ≤ 1; rw [D2]; simp
  have b4 : (digs z4.natAbs).length ≤ 1 := by rw [← h4]; show (digs 4).length ≤ 1; rw [D4]; simp
  have b0 : (digs z0.natAbs).length ≤ 1 := by rw [← h0]; show (digs 1).length ≤ 1; rw [D1]; simp
  have b5 : (digs z5.natAbs).length ≤ 1 := by rw [← h5]; show (digs 5).length ≤ 1; rw [D5]; simp
  have b6 : (digs z6.natAbs).length ≤ 2 := by rw [← h6]; exact digs_small (by decide)
  have b7 : (digs z7.natAbs).length ≤ 1 := by rw [← h7]; show (digs 120).length ≤ 1; rw [D120]; simp
  have HS := Lib.hid (show smallz z6 = z6 ∧ smallb z6 = true by rw [← h6]; decide)
  have HBY := Lib.hid (show rightB (decide (z5 < 0)) (digs z5.natAbs) = true ∧ zbytes (decide (z5 < 0)) (digs z5.natAbs) = [0, 3, 5, 0, 0, 0] by
    rw [← h5]
    show rightB true (digs 5) = true ∧ zbytes true (digs 5) = [0, 3, 5, 0, 0, 0]
    rw [D5]; decide)
  have HTX := Lib.hid (show 0 < val (digs z7.natAbs) ∧ val (digs z7.natAbs) < 1000000000 ∧ textOne (decide (z7 < 0)) (val (digs z7.natAbs)) = [45, 49, 50, 48] by
    rw [val_digs, ← h7]
    refine ⟨by decide, by decide, ?_⟩
    show textOne true 120 = _
    unfold textOne
    rw [Lib.decDigits, dif_neg (by omega), Lib.decDigits_two (by omega) (by omega)]
    decide)
  have HZ := Lib.hid (And.intro h1 (And.intro h2 (And.intro h4 (And.intro h0 (And.intro h5 (And.intro h6 h7))))))
  clear D1 D2 D4 D5 D7 D120 h1 h2 h4 h0 h5 h6 h7
  go_enter Tryd.func12, Tryd.ntmps12
  have L0 := Lib.hid (live_start w)
  go_wp2_with fail
  refine (zfrom_z (x := z1) HZ.out.1 (by have := HZ.out.1; omega) (by have := HZ.out.1; omega)).mono ?_
  rintro e w1 ⟨A1, c1, rfl, hd, hb⟩
  have L1 := Lib.hid ((L0.out.step hb).add hd)
  clear hb hd
  go_wp2_with fail
  refine (zfrom_z (x := z2) HZ.out.2.1 (by have := HZ.out.2.1; omega) (by have := HZ.out.2.1; omega)).mono ?_
  rintro e w2 ⟨A2, c2, rfl, hd, hb⟩
  have L2 := Lib.hid ((L1.out.step hb).add hd)
  clear hb hd
  go_wp2_with fail
  refine (zdiv_z (x := z1) (y := z2) (u := z4) (v := z0) (L2.out.get (by simp)) (L2.out.get (by simp)) (sg_z _) (sg_z _) (by omega) (by omega) (by have := HZ.out.2.1; omega) HQ.out HR.out).mono ?_
  rintro e w3 ⟨A3, c3, B3, d3, rfl, hd, hd', hb⟩
  have L3 := Lib.hid (((L2.out.step hb).add hd).add hd')
  clear hb hd hd'
  go_wp2_with fail
  obtain ⟨w4, hW⟩ : ∃ W : World, W = ((w3.alloc (.cells #[.bool (decide (z4 < 0)), .slice A3 (digs z4.natAbs).length c3] 24)).alloc (.cells #[.bool (decide (z0 < 0)), .slice B3 (digs z0.natAbs).length d3] 24)) := ⟨_, rfl⟩
  rw [← hW]
  have hb : Below w3.heap.size w3 w4 := by rw [hW]; exact below2 _ _ _
  have L4 := Lib.hid (L3.out.step hb)
  have Rq_4 := Lib.hid (show w4.heap[w3.heap.size]? = some (.cells #[.bool (decide (z4 < 0)), .slice A3 (digs z4.natAbs).length c3] 24 (0, 0)) by rw [hW]; exact heap_alloc2_old _ _ _)
  have Rr_4 := Lib.hid (show w4.heap[w3.heap.size + 1]? = some (.cells #[.bool (decide (z0 < 0)), .slice B3 (digs z0.natAbs).length d3] 24 (0, 0)) by rw [hW]; exact heap_alloc2_new _ _ _)
  clear hW hb
  go_wp2_with fail
  have fq0 := cell_of_row w4 _ 0 _ _ _ Rq_4.out
  have fq1 := cell_of_row w4 _ 1 _ _ _ Rq_4.out
  have xq := heap_lt Rq_4.out
  simp only [List.getElem?_toArray, List.getElem?_cons_zero, List.getElem?_cons_succ] at fq0 fq1
  have KD := Lib.hid (bd0 w4)
  have LD := Lib.hid (L4.out.step KD.out)
  go_region_held3 (fun w' => ∀ b o, b < w4.heap.size → w'.cell? ⟨b, o, none⟩ = w4.cell? ⟨b, o, none⟩)
    (first | with_reducible exact (bcell KD.out).1 | with_reducible exact (bcell K6.out).1 | with_reducible exact (bcell K7.out).1)
    (first
      | (go_at_call 23; (with_reducible refine (zfrom_z (x := z4) HZ.out.2.2.1 (by have := HZ.out.2.2.1; omega) (by have := HZ.out.2.2.1; omega)).mono ?_); rintro e w6 ⟨A6, c6, rfl, hd, hb⟩; (have K6 := Lib.hid (KD.out.trans (hb.mono KD.out.size))); (have L6 := Lib.hid ((LD.out.step hb).add hd)); clear hb hd)
      | (go_at_call 14; (with_reducible refine (same_z (x := z4) (y := z4) (L6.out.get (by simp)) (L6.out.get (by simp)) (by omega) rfl).mono ?_); rintro e w7 ⟨rfl, hb⟩; (have K7 := Lib.hid (K6.out.trans (hb.mono K6.out.size))); (have L7 := Lib.hid (L6.out.step hb)); clear hb ))
  clear fq0 fq1 xq
  have Rq_7 := Lib.hid (cells_of Rq_4.out K7.out)
  have Rr_7 := Lib.hid (cells_of Rr_4.out K7.out)
  clear KD LD
  go_wp2_with fail
  have fr0 := cell_of_row w7 _ 0 _ _ _ Rr_7.out
  have fr1 := cell_of_row w7 _ 1 _ _ _ Rr_7.out
  have xr := heap_lt Rr_7.out
  simp only [List.getElem?_toArray, List.getElem?_cons_zero, List.getElem?_cons_succ] at fr0 fr1
  have KD := Lib.hid (bd0 w7)
  have LD := Lib.hid (L7.out.step KD.out)
  go_region_held3 (fun w' => ∀ b o, b < w7.heap.size → w'.cell? ⟨b, o, none⟩ = w7.cell? ⟨b, o, none⟩)
    (first | with_reducible exact (bcell KD.out).1 | with_reducible exact (bcell K9.out).1 | with_reducible exact (bcell K10.out).1)
    (first
      | (go_at_call 23; (with_reducible refine (zfrom_z (x := z0) HZ.out.2.2.2.1 (by have := HZ.out.2.2.2.1; omega) (by have := HZ.out.2.2.2.1; omega)).mono ?_); rintro e w9 ⟨A9, c9, rfl, hd, hb⟩; (have K9 := Lib.hid (KD.out.trans (hb.mono KD.out.size))); (have L9 := Lib.hid ((LD.out.step hb).add hd)); clear hb hd)
      | (go_at_call 14; (with_reducible refine (same_z (x := z0) (y := z0) (L9.out.get (by simp)) (L9.out.get (by simp)) (by omega) rfl).mono ?_); rintro e w10 ⟨rfl, hb⟩; (have K10 := Lib.hid (K9.out.trans (hb.mono K9.out.size))); (have L10 := Lib.hid (L9.out.step hb)); clear hb ))
  clear fr0 fr1 xr
  have Rq_10 := Lib.hid (cells_of Rq_7.out K10.out)
  have Rr_10 := Lib.hid (cells_of Rr_7.out K10.out)
  clear KD LD
  go_wp2_with fail
  refine (zfrom_z (x := z5) HZ.out.2.2.2.2.1 (by have := HZ.out.2.2.2.2.1; omega) (by have := HZ.out.2.2.2.2.1; omega)).mono ?_
  rintro e w11 ⟨A11, c11, rfl, hd, hb⟩
  have L11 := Lib.hid ((L10.out.step hb).add hd)
  have Rq_11 := Lib.hid (cells_of Rq_10.out hb)
  have Rr_11 := Lib.hid (cells_of Rr_10.out hb)
  clear hb hd
  have BY := Lib.hid (zbytes_any A11 c11 (decide (z5 < 0)) (digs z5.natAbs) w11 (L11.out.get (by simp)) (by omega) HBY.out.1)
  rw [HBY.out.2] at BY
  go_wp2_with fail
  refine (BY.out).mono ?_
  rintro e w12 ⟨rfl, hb⟩
  have L12 := Lib.hid (L11.out.step hb)
  have Rq_12 := Lib.hid (cells_of Rq_11.out hb)
  have Rr_12 := Lib.hid (cells_of Rr_11.out hb)
  clear hb 
  clear BY
  go_wp2_with fail
  refine (zfrom_z (x := z6) HZ.out.2.2.2.2.2.1 (by have := HZ.out.2.2.2.2.2.1; omega) (by have := HZ.out.2.2.2.2.2.1; omega)).mono ?_
  rintro e w13 ⟨A13, c13, rfl, hd, hb⟩
  have L13 := Lib.hid ((L12.out.step hb).add hd)
  have Rq_13 := Lib.hid (cells_of Rq_12.out hb)
  have Rr_13 := Lib.hid (cells_of Rr_12.out hb)
  clear hb hd
  have Z6 := Lib.hid HZ.out.2.2.2.2.2.1
  have SM := Lib.hid (zsmall_z (x := z6) (q := -9223372036854775808) (ok := true) (L13.out.get (A := A13) (c := c13) (xs := digs z6.natAbs) (by simp)) (sg_z _) (by omega) (by rw [HS.out.1]; exact Z6.out.symm) HS.out.2)
  go_wp2_with fail
  refine (SM.out).mono ?_
  rintro e w14 ⟨rfl, hb⟩
  have L14 := Lib.hid (L13.out.step hb)
  have Rq_14 := Lib.hid (cells_of Rq_13.out hb)
  have Rr_14 := Lib.hid (cells_of Rr_13.out hb)
  clear hb 
  clear SM
  go_wp2_with fail
  refine (zfrom_z (x := z7) HZ.out.2.2.2.2.2.2 (by have := HZ.out.2.2.2.2.2.2; omega) (by have := HZ.out.2.2.2.2.2.2; omega)).mono ?_
  rintro e w15 ⟨A15, c15, rfl, hd, hb⟩
  have L15 := Lib.hid ((L14.out.step hb).add hd)
  have Rq_15 := Lib.hid (cells_of Rq_14.out hb)
  have Rr_15 := Lib.hid (cells_of Rr_14.out hb)
  clear hb hd
  have TX := Lib.hid (ztext_one A15 c15 (decide (z7 < 0)) (digs z7.natAbs) w15 (L15.out.get (by simp)) (by omega) HTX.out.1 HTX.out.2.1 (p10_below HT.out L15.out.1))
  rw [HTX.out.2.2] at TX
  go_wp2_with fail
  refine (TX.out).mono ?_
  rintro e w16 ⟨rfl, hb⟩
  have L16 := Lib.hid (L15.out.step hb)
  have Rq_16 := Lib.hid (cells_of Rq_15.out hb)
  have Rr_16 := Lib.hid (cells_of Rr_15.out hb)
  clear hb 
  clear TX
  go_wp2
  go_ret
  exact ⟨rfl, L16.out.1⟩
end Go.Proofs.YthgkdpfkaobgoaaDoor
end

section
/-
  Small words for the laws of chapter 4.
-/
namespace Go.Proofs.YthgkdpfkaobgoaaDoor
open Go.RowKit
theorem lshort_v {A : Option Addr} {c k : Nat} {s : Bool} {xs ts : List Nat} {w : World} (h : Dg w A c xs) (hk : k ≤ 1000000) (ht : xs.take k = ts) :
    Calls Tryd.prog 13 #[.agg #[.bool s, .slice A xs.length c], .int .i64 k] w fun e w' => e = .returned (.agg #[.bool s, .slice A ts.length c]) ∧ Below w.heap.size w w' := by
  subst ht; exact lshort_any A c k s xs w h hk
theorem le6 {n k : Nat} (h : n ≤ 100000) (hk : 100000 ≤ k := by omega) : n ≤ k := Nat.le_trans h hk
theorem below_n3 (w : World) (o1 o2 o3 : Obj) : Below w.heap.size w (((w.alloc o1).alloc o2).alloc o3) := below3 w o1 o2 o3
end Go.Proofs.YthgkdpfkaobgoaaDoor
end

section
/-
  A number of its own digits is right.
-/
namespace Go.Proofs.YthgkdpfkaobgoaaDoor
open Go.RowKit
set_option maxRecDepth 100000
theorem right_digs (x : Int) : rightB (decide (x < 0)) (digs x.natAbs) = true := by
  unfold rightB
  split
  · rename_i h
    have h0 : x.natAbs = 0 := by
      have := val_digs x.natAbs
      rw [List.length_eq_zero_iff.1 h] at this
      exact this.symm
    have : ¬ x < 0 := by omega
    simp [this]
  · rename_i h
    have hl : ∀ d, (digs x.natAbs)[(digs x.natAbs).length - 1]? = some d → d ≠ 0 := fun d hd => last_digs (n := x.natAbs) (by rw [List.getLast?_eq_getElem?]; exact hd)
    rcases hx : (digs x.natAbs)[(digs x.natAbs).length - 1]? with _ | d
    · rw [List.getElem?_eq_none_iff] at hx; omega
    · have := hl d hx
      simp [this]
theorem right_z {A : Option Addr} {c : Nat} {x : Int} {w : World} (h : Dg w A c (digs x.natAbs)) (hl : (digs x.natAbs).length ≤ 1000000) :
    Calls Tryd.prog 31 #[.agg #[.bool (decide (x < 0)), .slice A (digs x.natAbs).length c]] w fun e w' => e = .returned (.bool true) ∧ Below w.heap.size w w' :=
  right_any A c _ _ w h true (right_digs x) (by omega)
theorem right_w {A : Option Addr} {c : Nat} {s q : Bool} {xs : List Nat} {w : World} (h : Dg w A c xs) (hl : xs.length ≤ 9223372036854775807) (hq : rightB s xs = q) :
    Calls Tryd.prog 31 #[.agg #[.bool s, .slice A xs.length c]] w fun e w' => e = .returned (.bool q) ∧ Below w.heap.size w w' := right_any A c s xs w h q hq hl
theorem rright_w {A : Option Addr} {c : Nat} {s q : Bool} {xs : List Nat} {w : World} (h : Dg w A c xs) (hl : xs.length ≤ 9223372036854775807) (hq : rightB s xs = q) :
    Calls Tryd.prog 32 #[.agg #[.bool s, .slice A xs.length c]] w fun e w' => e = .returned (.bool q) ∧ Below w.heap.size w w' := rright_any A c s xs w h q hq hl
theorem zlen_64 {n : Int} (h0 : -9223372036854775808 ≤ n) (h1 : n ≤ 9223372036854775807) : (digs n.natAbs).length ≤ 2 := digs_small (n := n.natAbs) (by omega)
end Go.Proofs.YthgkdpfkaobgoaaDoor
end

section
/-
  Words on quotient and rest, for the laws of chapter 4.
-/
namespace Go.Proofs.YthgkdpfkaobgoaaDoor
open Go.RowKit
set_option maxRecDepth 100000
theorem fmod_bd (x : Int) {y : Int} (h : y ≠ 0) : (x.fmod y).natAbs < y.natAbs ∧ (x.fmod y ≠ 0 → decide (x.fmod y < 0) = decide (y < 0)) := by
  rcases Int.lt_or_gt_of_ne h with hn | hp
  · have e := Int.neg_fmod_neg x y
    have h1 := Int.fmod_lt_of_pos (-x) (show 0 < -y by omega)
    have h2 := Int.fmod_nonneg_of_pos (-x) (show 0 < -y by omega)
    rw [e] at h1 h2
    exact ⟨by omega, fun h0 => by rw [decide_eq_true hn, decide_eq_true (by omega)]⟩
  · have h1 := Int.fmod_lt_of_pos x hp
    have h2 := Int.fmod_nonneg_of_pos x hp
    exact ⟨by omega, fun h0 => by rw [decide_eq_false (by omega), decide_eq_false (by omega)]⟩
theorem zlen_fdiv (x y : Int) : (digs (x.fdiv y).natAbs).length ≤ (digs x.natAbs).length := digs_len_mono _ _ (Int.natAbs_fdiv_le_natAbs x y)
theorem zlen_fmod (x : Int) {y : Int} (h : y ≠ 0) : (digs (x.fmod y).natAbs).length ≤ (digs y.natAbs).length := digs_len_mono _ _ (Nat.le_of_lt (fmod_bd x h).1)
theorem zlen_abs (x : Int) : (digs (x.natAbs : Int).natAbs).length = (digs x.natAbs).length := by rw [Int.natAbs_natCast]
theorem sign_ne {x y : Int} (h : x ≠ y) : (Int.sign (x - y) == 0) = false := by
  rw [beq_eq_false_iff_ne]; intro e; exact h (by have := Int.sign_eq_zero_iff_zero.1 e; omega)
theorem sign_is {x : Int} : (Int.sign (x - 0) == 0) = decide (x = 0) := by
  rw [Int.sub_zero]
  by_cases h : x = 0
  · subst h; rfl
  · rw [decide_eq_false h, beq_eq_false_iff_ne]; intro e; exact h (Int.sign_eq_zero_iff_zero.1 e)
end Go.Proofs.YthgkdpfkaobgoaaDoor
end

section
/-
  Quotient and rest, and what is moved, whatever the divisor and the way: for the laws of chapter 4.
-/
namespace Go.Proofs.YthgkdpfkaobgoaaDoor
open Go.RowKit
set_option maxRecDepth 100000
def divr (x y : Int) : Int := if y = 0 then 0 else x.fmod y
def Zr3 (u v : Int) (ok : Bool) (w : World) (e : Ending) (w' : World) : Prop := ∃ A c B d, e = .returned (.tuple #[.agg #[.bool (decide (u < 0)), .slice A (digs u.natAbs).length c], .agg #[.bool (decide (v < 0)), .slice B (digs v.natAbs).length d], .bool ok]) ∧ Dg w' A c (digs u.natAbs) ∧ Dg w' B d (digs v.natAbs) ∧ Below w.heap.size w w'
theorem digs_int0 : digs (0 : Int).natAbs = [] := digs_zero
theorem zr3_none {w w' : World} (h : Below w.heap.size w w') : Zr3 0 0 false w (.returned (.tuple #[.agg #[.bool false, .slice none 0 0], .agg #[.bool false, .slice none 0 0], .bool false])) w' :=
  ⟨none, 0, none, 0, by rw [digs_int0]; rfl, by rw [digs_int0]; exact Dg.nil_ _ _, by rw [digs_int0]; exact Dg.nil_ _ _, h⟩
theorem zlen_divr (x y : Int) : (digs (divr x y).natAbs).length ≤ (digs y.natAbs).length := by
  unfold divr
  split
  · rw [digs_int0]; simp
  · rename_i h; exact zlen_fmod x h
/-- What is moved. -/
def shz (x n : Int) : Int := if n < -100000 ∨ 100000 < n then 0 else if 0 ≤ n then x * 2 ^ n.toNat else x / 2 ^ (-n).toNat
def shb (n : Int) : Bool := decide (-100000 ≤ n ∧ n ≤ 100000)
def Zrb (q : Int) (ok : Bool) (w : World) (e : Ending) (w' : World) : Prop := ∃ A c, e = .returned (.tuple #[.agg #[.bool (decide (q < 0)), .slice A (digs q.natAbs).length c], .bool ok]) ∧ Dg w' A c (digs q.natAbs) ∧ Below w.heap.size w w'
theorem zlen_up (x : Int) (k : Nat) : (digs (x * 2 ^ k).natAbs).length ≤ (digs x.natAbs).length + k / 32 + 1 := by
  have e : (x * 2 ^ k).natAbs = x.natAbs * 2 ^ k := by rw [Int.natAbs_mul, Int.natAbs_pow]; rfl
  rw [e]
  exact digs_shl_len x.natAbs k
theorem ediv_abs (x : Int) (k : Nat) : (x / 2 ^ k).natAbs ≤ x.natAbs := Int.natAbs_ediv_le_natAbs x _
theorem zlen_dn (x : Int) (k : Nat) : (digs (x / 2 ^ k).natAbs).length ≤ (digs x.natAbs).length := digs_len_mono _ _ (ediv_abs x k)
theorem zlen_shz (x n : Int) : (digs (shz x n).natAbs).length ≤ (digs x.natAbs).length + 3126 := by
  unfold shz
  split
  · rw [digs_int0]; simp
  · split
    · have := zlen_up x n.toNat; omega
    · have := zlen_dn x (-n).toNat; omega
section
variable {A B : Option Addr} {c d n m : Nat} {s r : Bool} {xs ys : List Nat} {x y : Int} {w : World}
theorem zdiv_w {u v : Int} {ok : Bool} (h : Dg w A c xs) (h' : Dg w B d ys) (hx : sg s (val xs) = x) (hy : sg r (val ys) = y) (hl : xs.length ≤ 500000) (hl' : ys.length ≤ 500000) (hu : Int.fdiv x y = u) (hv : divr x y = v) (hok : decide (y ≠ 0) = ok) :
    Calls Tryd.prog 33 #[.agg #[.bool s, .slice A xs.length c], .agg #[.bool r, .slice B ys.length d]] w fun e w' => Zr3 u v ok w e w' := by
  subst hu hv hok
  by_cases h0 : y = 0
  · subst h0
    refine (zdiv_z_no h h' hy hl hl').mono ?_
    rintro e w' ⟨rfl, hb⟩
    rw [Int.fdiv_zero]
    have e2 : divr x 0 = 0 := by unfold divr; simp
    rw [e2]
    exact zr3_none hb
  · refine (zdiv_z h h' hx hy hl hl' h0 rfl rfl).mono ?_
    rintro e w' ⟨A1, c1, B1, d1, rfl, hd, hd', hb⟩
    have e2 : divr x y = x.fmod y := by unfold divr; rw [if_neg h0]
    rw [e2]
    exact ⟨A1, c1, B1, d1, by rw [decide_eq_true h0], hd, hd', hb⟩
theorem rzdiv_w {u v : Int} {ok : Bool} (h : Dg w A c xs) (h' : Dg w B d ys) (hx : sg s (val xs) = x) (hy : sg r (val ys) = y) (hl : xs.length ≤ 100000) (hl' : ys.length ≤ 100000) (hu : Int.fdiv x y = u) (hv : divr x y = v) (hok : decide (y ≠ 0) = ok) :
    Calls Tryd.prog 34 #[.agg #[.bool s, .slice A xs.length c], .agg #[.bool r, .slice B ys.length d]] w fun e w' => Zr3 u v ok w e w' := by
  subst hu hv hok
  by_cases h0 : y = 0
  · subst h0
    refine (rzdiv_z_no h h' hy hl hl').mono ?_
    rintro e w' ⟨rfl, hb⟩
    rw [Int.fdiv_zero]
    have e2 : divr x 0 = 0 := by unfold divr; simp
    rw [e2]
    exact zr3_none hb
  · refine (rzdiv_z h h' hx hy hl hl' h0 rfl rfl).mono ?_
    rintro e w' ⟨A1, c1, B1, d1, rfl, hd, hd', hb⟩
    have e2 : divr x y = x.fmod y := by unfold divr; rw [if_neg h0]
    rw [e2]
    exact ⟨A1, c1, B1, d1, by rw [decide_eq_true h0], hd, hd', hb⟩
theorem zrb_of {q : Int} {e : Ending} {w' : World} (h : Zb q w e w') : Zrb q true w e w' := h
theorem zrb_none {w' : World} (h : Below w.heap.size w w') : Zrb 0 false w (.returned (.tuple #[.agg #[.bool false, .slice none 0 0], .bool false])) w' :=
  ⟨none, 0, by rw [digs_int0]; rfl, by rw [digs_int0]; exact Dg.nil_ _ _, h⟩
theorem zshift_w {n q : Int} {ok : Bool} (h : Dg w A c xs) (hx : sg s (val xs) = x) (hl : xs.length ≤ 100000) (hq : shz x n = q) (hok : shb n = ok) :
    Calls Tryd.prog 35 #[.agg #[.bool s, .slice A xs.length c], .int .i64 n] w fun e w' => Zrb q ok w e w' := by
  subst hq hok hx
  unfold shz shb
  by_cases h0 : n < -100000 ∨ 100000 < n
  · rw [if_pos h0, decide_eq_false (by omega)]
    refine (zshift_no A c s xs n w h0).mono ?_
    rintro e w' ⟨rfl, hb⟩
    exact zrb_none hb
  · rw [if_neg h0, decide_eq_true (by omega)]
    by_cases h1 : 0 ≤ n
    · rw [if_pos h1]
      have := zshift_up A c s xs n.toNat w h (by omega) (by omega)
      rw [Int.toNat_of_nonneg h1] at this
      exact this.mono fun _ _ g => zrb_of g
    · rw [if_neg h1]
      exact (zshift_down A c s xs (-n).toNat n w h (by omega) (by omega) (by omega) (by omega)).mono fun _ _ g => zrb_of g
theorem rzshift_w {n q : Int} {ok : Bool} (h : Dg w A c xs) (hx : sg s (val xs) = x) (hl : xs.length ≤ 100000) (hq : shz x n = q) (hok : shb n = ok) :
    Calls Tryd.prog 36 #[.agg #[.bool s, .slice A xs.length c], .int .i64 n] w fun e w' => Zrb q ok w e w' := by
  subst hq hok hx
  unfold shz shb
  by_cases h0 : n < -100000 ∨ 100000 < n
  · rw [if_pos h0, decide_eq_false (by omega)]
    refine (rzshift_no A c s xs n w h0).mono ?_
    rintro e w' ⟨rfl, hb⟩
    exact zrb_none hb
  · rw [if_neg h0, decide_eq_true (by omega)]
    by_cases h1 : 0 ≤ n
    · rw [if_pos h1]
      have := rzshift_up A c s xs n.toNat w h (by omega) (by omega)
      rw [Int.toNat_of_nonneg h1] at this
      exact this.mono fun _ _ g => zrb_of g
    · rw [if_neg h1]
      exact (rzshift_down A c s xs (-n).toNat n w h (by omega) (by omega) (by omega) (by omega)).mono fun _ _ g => zrb_of g
end
theorem shz_up {x n : Int} (h0 : 0 ≤ n) (h1 : n ≤ 100000) : shz x n = x * 2 ^ n.toNat := by
  unfold shz; rw [if_neg (by omega), if_pos h0]
theorem shz_dn {x n k : Int} (h : n = -k) (h0 : 0 ≤ k) (h1 : k ≤ 100000) : shz x n = x / 2 ^ k.toNat := by
  subst h
  unfold shz
  rw [if_neg (by omega)]
  by_cases hk : k = 0
  · subst hk; simp
  · rw [if_neg (by omega), Int.neg_neg]
theorem shb_in {n : Int} (h0 : -100000 ≤ n) (h1 : n ≤ 100000) : shb n = true := decide_eq_true ⟨h0, h1⟩
theorem digs_one_len : (digs (1 : Int).natAbs).length ≤ 1 := by show (digs 1).length ≤ 1; rw [digs_one (by omega) (by omega)]; simp
theorem fdiv_pow (x : Int) (k : Nat) : Int.fdiv x (2 ^ k) = x / 2 ^ k := Int.fdiv_eq_ediv_of_nonneg _ (Int.le_of_lt (Int.pow_pos (by omega)))
theorem two_ways (x : Int) {n m : Int} (hn : 0 ≤ n) (hm : 0 ≤ m) : x / 2 ^ n.toNat / 2 ^ m.toNat = x / 2 ^ (n + m).toNat := by
  rw [Int.ediv_ediv_of_nonneg (Int.le_of_lt (Int.pow_pos (by omega))), ← Int.pow_add, Int.toNat_add hn hm]
theorem smallz_in {x : Int} (h0 : -9223372036854775808 ≤ x) (h1 : x ≤ 9223372036854775807) : smallz x = x := if_pos ⟨h0, h1⟩
theorem smallb_in {x : Int} (h0 : -9223372036854775808 ≤ x) (h1 : x ≤ 9223372036854775807) : smallb x = true := decide_eq_true ⟨h0, h1⟩
theorem mul_bd {a b : Int} (a0 : -2147483648 ≤ a) (a9 : a ≤ 2147483647) (b0 : -2147483648 ≤ b) (b9 : b ≤ 2147483647) : -4611686018427387904 ≤ a * b ∧ a * b ≤ 4611686018427387904 := by
  have h : (a * b).natAbs ≤ 2147483648 * 2147483648 := by rw [Int.natAbs_mul]; exact Nat.mul_le_mul (by omega) (by omega)
  omega
theorem tdiv_ex {a b : Int} (hb : b ≠ 0) (h : a.tmod b = 0) : a.tdiv b = a.fdiv b := by
  have e := Int.mul_tdiv_add_tmod a b
  rw [h, Int.add_zero] at e
  have h2 := Int.mul_fdiv_cancel_left (a.tdiv b) hb
  rw [e] at h2
  exact h2.symm
theorem tdiv_uniq {a b q : Int} (hb : b ≠ 0) (h : (a - q * b).natAbs < b.natAbs) (hs : a - q * b = 0 ∨ decide (a - q * b < 0) = decide (b < 0)) : a.fdiv b = q := by
  have e := Int.mul_fdiv_add_fmod a b
  have f := fmod_bd a hb
  generalize a.fdiv b = u at *
  generalize a.fmod b = v at *
  have e2 : b * (u - q) = (a - q * b) - v := by rw [Int.mul_sub, Int.mul_comm b q]; omega
  have hz : u - q = 0 := by
    rcases Int.lt_trichotomy (u - q) 0 with h1 | h1 | h1
    · exfalso
      have h3 : b.natAbs ≤ (b * (u - q)).natAbs := by rw [Int.natAbs_mul]; exact Nat.le_mul_of_pos_right _ (by omega)
      rw [e2] at h3
      by_cases hv : v = 0
      · omega
      · have := f.2 hv
        rcases hs with hs | hs
        · omega
        · rw [← hs, decide_eq_decide] at this; omega
    · exact h1
    · exfalso
      have h3 : b.natAbs ≤ (b * (u - q)).natAbs := by rw [Int.natAbs_mul]; exact Nat.le_mul_of_pos_right _ (by omega)
      rw [e2] at h3
      by_cases hv : v = 0
      · omega
      · have := f.2 hv
        rcases hs with hs | hs
        · omega
        · rw [← hs, decide_eq_decide] at this; omega
  omega
theorem tmod_bd (a : Int) {b : Int} (hb : b ≠ 0) : (a.tmod b).natAbs < b.natAbs ∧ (a.tmod b ≠ 0 → decide (a.tmod b < 0) = decide (a < 0)) := by
  have h1 : (a.tmod b).natAbs = a.natAbs % b.natAbs := Int.natAbs_tmod a b
  refine ⟨by rw [h1]; exact Nat.mod_lt _ (by omega), fun h => ?_⟩
  by_cases ha : a < 0
  · have := Int.tmod_nonneg (-b) (show 0 ≤ -a by omega)
    rw [Int.neg_tmod, Int.tmod_neg] at this
    rw [decide_eq_true ha, decide_eq_true (by omega)]
  · have := Int.tmod_nonneg b (show 0 ≤ a by omega)
    rw [decide_eq_false (by omega), decide_eq_false (by omega)]
theorem tdiv_same {a b : Int} (hb : b ≠ 0) (h : a.tmod b ≠ 0) (hs : (a < 0) = (b < 0)) : a.tdiv b = a.fdiv b := by
  have e := Int.mul_tdiv_add_tmod a b
  have f := tmod_bd a hb
  have e2 : a - a.tdiv b * b = a.tmod b := by rw [Int.mul_comm]; omega
  exact (tdiv_uniq hb (by rw [e2]; exact f.1) (.inr (by rw [e2, f.2 h]; simp [hs]))).symm
theorem tdiv_less {a b : Int} (hb : b ≠ 0) (h : a.tmod b ≠ 0) (hs : (a < 0) ≠ (b < 0)) : a.tdiv b = a.fdiv b + 1 := by
  have e := Int.mul_tdiv_add_tmod a b
  have f := tmod_bd a hb
  have e2 : a - (a.tdiv b - 1) * b = a.tmod b + b := by rw [Int.sub_mul, Int.mul_comm]; omega
  have h1 := f.2 h
  rw [decide_eq_decide] at h1
  have hs' : ¬ (a < 0 ↔ b < 0) := fun e => hs (propext e)
  have := tdiv_uniq (a := a) (q := a.tdiv b - 1) hb (by rw [e2]; omega) (.inr (by rw [e2, decide_eq_decide]; omega))
  omega
end Go.Proofs.YthgkdpfkaobgoaaDoor
end

section
/-
  The law ZintSmalls of chapter 4, walked.
-/
namespace Go.Proofs.YthgkdpfkaobgoaaDoor
open Go.RowKit
set_option maxHeartbeats 16000000 in
set_option maxRecDepth 100000 in
theorem zsmalls_no (n a b : Int) (n0 : -9223372036854775808 ≤ n) (n9 : n ≤ 9223372036854775807) (a0 : -2147483648 ≤ a) (a9 : a ≤ 2147483647) (b0 : -2147483648 ≤ b) (b9 : b ≤ 2147483647) (cb : b = 0) (w : World) (htab : P10 w) :
    Calls Tryd.prog 11 #[.int .i64 n, .int .i32 a, .int .i32 b] w fun e w' => e = .returned (.bool true) ∧ Below w.heap.size w w' := by
  have AB := Lib.hid (show -2147483648 ≤ a ∧ a ≤ 2147483647 ∧ -2147483648 ≤ b ∧ b ≤ 2147483647 from ⟨a0, a9, b0, b9⟩)
  have NB := Lib.hid (show -9223372036854775808 ≤ n ∧ n ≤ 9223372036854775807 from ⟨n0, n9⟩)
  have CB := Lib.hid cb
  have hP := mul_bd a0 a9 b0 b9
  obtain ⟨vn, hvn⟩ := is_z (n)
  have dvn : -9223372036854775808 ≤ vn ∧ vn ≤ 9223372036854775807 := by omega
  have bvn := zlen_64 dvn.1 dvn.2
  have HVN := Lib.hid hvn
  have DVN := Lib.hid dvn
  obtain ⟨va, hva⟩ := is_z (a)
  have dva : -9223372036854775808 ≤ va ∧ va ≤ 9223372036854775807 := by omega
  have bva := zlen_64 dva.1 dva.2
  have HVA := Lib.hid hva
  have DVA := Lib.hid dva
  obtain ⟨vb, hvb⟩ := is_z (b)
  have dvb : -9223372036854775808 ≤ vb ∧ vb ≤ 9223372036854775807 := by omega
  have bvb := zlen_64 dvb.1 dvb.2
  have HVB := Lib.hid hvb
  have DVB := Lib.hid dvb
  obtain ⟨s1, hs1⟩ := is_z (va + vb)
  have ds1 : -9223372036854775808 ≤ s1 ∧ s1 ≤ 9223372036854775807 := by omega
  have bs1 := zlen_64 ds1.1 ds1.2
  have HS1 := Lib.hid hs1
  have DS1 := Lib.hid ds1
  obtain ⟨e1, he1⟩ := is_z (va - vb)
  have de1 : -9223372036854775808 ≤ e1 ∧ e1 ≤ 9223372036854775807 := by omega
  have be1 := zlen_64 de1.1 de1.2
  have HE1 := Lib.hid he1
  have DE1 := Lib.hid de1
  obtain ⟨p1, hp1⟩ := is_z (va * vb)
  have dp1 : -9223372036854775808 ≤ p1 ∧ p1 ≤ 9223372036854775807 := by rw [← hp1, ← hva, ← hvb]; omega
  have bp1 := zlen_64 dp1.1 dp1.2
  have HP1 := Lib.hid hp1
  have DP1 := Lib.hid dp1
  obtain ⟨k1, hk1⟩ := is_z (-va)
  have dk1 : -9223372036854775808 ≤ k1 ∧ k1 ≤ 9223372036854775807 := by omega
  have bk1 := zlen_64 dk1.1 dk1.2
  have HK1 := Lib.hid hk1
  have DK1 := Lib.hid dk1
  obtain ⟨k2, hk2⟩ := is_z (-k1)
  have dk2 : -9223372036854775808 ≤ k2 ∧ k2 ≤ 9223372036854775807 := by omega
  have bk2 := zlen_64 dk2.1 dk2.2
  have HK2 := Lib.hid hk2
  have DK2 := Lib.hid dk2
  have ea : IntKind.i64.wrap a = a := IntWalk.i64_in _ ⟨by omega, by omega⟩
  have wa : wrap64 a = a := IntWalk.wrap64_in _ ⟨by omega, by omega⟩
  have eb : IntKind.i64.wrap b = b := IntWalk.i64_in _ ⟨by omega, by omega⟩
  have wb : wrap64 b = b := IntWalk.wrap64_in _ ⟨by omega, by omega⟩
  have rs : a + b = s1 := by rw [← hs1, ← hva, ← hvb]
  have es : IntKind.i64.wrap (a + b) = s1 := by rw [rs]; exact IntWalk.i64_in _ ⟨ds1.1, ds1.2⟩
  have ws : wrap64 (a + b) = s1 := by rw [rs]; exact IntWalk.wrap64_in _ ⟨ds1.1, ds1.2⟩
  have rd : a - b = e1 := by rw [← he1, ← hva, ← hvb]
  have ed : IntKind.i64.wrap (a - b) = e1 := by rw [rd]; exact IntWalk.i64_in _ ⟨de1.1, de1.2⟩
  have wd : wrap64 (a - b) = e1 := by rw [rd]; exact IntWalk.wrap64_in _ ⟨de1.1, de1.2⟩
  have rp : a * b = p1 := by rw [← hp1, ← hva, ← hvb]
  have ep : IntKind.i64.wrap (a * b) = p1 := by rw [rp]; exact IntWalk.i64_in _ ⟨dp1.1, dp1.2⟩
  have wp : wrap64 (a * b) = p1 := by rw [rp]; exact IntWalk.wrap64_in _ ⟨dp1.1, dp1.2⟩
  have hb0 : (b == 0) = true := by rw [cb]; rfl
  have VB := Lib.hid (show vb = 0 by omega)
  have NN := Lib.hid (show smallz vn = n ∧ smallb vn = true from ⟨by rw [smallz_in dvn.1 dvn.2]; exact hvn.symm, smallb_in dvn.1 dvn.2⟩)
  have SS1 := Lib.hid (show smallz s1 = s1 ∧ smallb s1 = true from ⟨smallz_in ds1.1 ds1.2, smallb_in ds1.1 ds1.2⟩)
  have SE1 := Lib.hid (show smallz e1 = e1 ∧ smallb e1 = true from ⟨smallz_in de1.1 de1.2, smallb_in de1.1 de1.2⟩)
  have SP1 := Lib.hid (show smallz p1 = p1 ∧ smallb p1 = true from ⟨smallz_in dp1.1 dp1.2, smallb_in dp1.1 dp1.2⟩)
  have EB := Lib.hid (show k2 = va by omega)
  clear rs rd rp
  have lbvn := Lib.hid (show (digs vn.natAbs).length ≤ 100000 by omega)
  have lbva := Lib.hid (show (digs va.natAbs).length ≤ 100000 by omega)
  have lbvb := Lib.hid (show (digs vb.natAbs).length ≤ 100000 by omega)
  have lbs1 := Lib.hid (show (digs s1.natAbs).length ≤ 100000 by omega)
  have lbe1 := Lib.hid (show (digs e1.natAbs).length ≤ 100000 by omega)
  have lbp1 := Lib.hid (show (digs p1.natAbs).length ≤ 100000 by omega)
  have lbk1 := Lib.hid (show (digs k1.natAbs).length ≤ 100000 by omega)
  have lbk2 := Lib.hid (show (digs k2.natAbs).length ≤ 100000 by omega)
  have HT := Lib.hid htab
  clear htab n0 n9 a0 a9 b0 b9 cb hP hvn dvn bvn hva dva bva hvb dvb bvb hs1 ds1 bs1 he1 de1 be1 hp1 dp1 bp1 hk1 dk1 bk1 hk2 dk2 bk2
  have EX := Lib.hid (fun V hv => examples_any V hv)
  go_enter Tryd.func11, Tryd.ntmps11
  have L0 := Lib.hid (live_start w)
  go_wp2_with fail
  refine (EX.out w HT.out).mono ?_
  rintro e w1 ⟨rfl, hb⟩
  have L1 := Lib.hid (L0.out.step hb)
  clear hb 
  go_wp2_with fail
  refine (zfrom_z (x := vn) HVN.out DVN.out.1 DVN.out.2).mono ?_
  rintro e w2 ⟨A2, c2, rfl, hd, hb⟩
  have L2 := Lib.hid ((L1.out.step hb).add hd)
  clear hb hd
  go_wp2_with fail
  refine (zsmall_z (q := n) (ok := true) (L2.out.get (A := A2) (c := c2) (xs := (digs (vn).natAbs)) (by simp)) (sg_z _) (le6 lbvn.out) NN.out.1 NN.out.2).mono ?_
  rintro e w3 ⟨rfl, hb⟩
  have L3 := Lib.hid (L2.out.step hb)
  clear hb 
  go_wp2_with fail
  refine (zfrom_z (x := va) HVA.out DVA.out.1 DVA.out.2).mono ?_
  rintro e w4 ⟨A4, c4, rfl, hd, hb⟩
  have L4 := Lib.hid ((L3.out.step hb).add hd)
  clear hb hd
  go_wp2_with fail
  have Lx5 := Lib.hid (L4.out.step (below1 w4 (.cells #[.bool (decide (va < 0)), .slice A4 (digs va.natAbs).length c4] 24)))
  refine (zfrom_z (x := vb) HVB.out DVB.out.1 DVB.out.2).mono ?_
  rintro e w5 ⟨A5, c5, rfl, hd, hb⟩
  have L5 := Lib.hid ((Lx5.out.step hb).add hd)
  have Rx_5 := Lib.hid (cells_of (heap_alloc_new w4 (.cells #[.bool (decide (va < 0)), .slice A4 (digs va.natAbs).length c4] 24)) hb)
  clear hb hd
  have fx0 := cell_of_row w5 _ 0 _ _ _ Rx_5.out
  have fx1 := cell_of_row w5 _ 1 _ _ _ Rx_5.out
  have xx := heap_lt Rx_5.out
  simp only [List.getElem?_toArray, List.getElem?_cons_zero, List.getElem?_cons_succ] at fx0 fx1
  go_wp2_with fail
  have Lx6 := Lib.hid (L5.out.step (below1 w5 (.cells #[.bool (decide (vb < 0)), .slice A5 (digs vb.natAbs).length c5] 24)))
  refine (zadd_v (z := s1) (Lx6.out.get (A := A4) (c := c4) (xs := (digs (va).natAbs)) (by simp)) (Lx6.out.get (A := A5) (c := c5) (xs := (digs (vb).natAbs)) (by simp)) (sg_z _) (sg_z _) (le6 lbva.out) (le6 lbvb.out) HS1.out).mono ?_
  rintro e w6 ⟨A6, c6, rfl, hd, hb⟩
  have L6 := Lib.hid ((Lx6.out.step hb).add hd)
  have Rx_6 := Lib.hid (cells_of (cells_of Rx_5.out (below1 w5 (.cells #[.bool (decide (vb < 0)), .slice A5 (digs vb.natAbs).length c5] 24))) hb)
  clear fx0 fx1 xx
  have Ry_6 := Lib.hid (cells_of (heap_alloc_new w5 (.cells #[.bool (decide (vb < 0)), .slice A5 (digs vb.natAbs).length c5] 24)) hb)
  clear hb hd
  go_wp2_with fail
  refine (zsmall_z (q := s1) (ok := true) (L6.out.get (A := A6) (c := c6) (xs := (digs (s1).natAbs)) (by simp)) (sg_z _) (le6 lbs1.out) SS1.out.1 SS1.out.2).mono ?_
  rintro e w7 ⟨rfl, hb⟩
  have L7 := Lib.hid (L6.out.step hb)
  have Rx_7 := Lib.hid (cells_of Rx_6.out hb)
  have Ry_7 := Lib.hid (cells_of Ry_6.out hb)
  clear hb 
  have fx0 := cell_of_row w7 _ 0 _ _ _ Rx_7.out
  have fx1 := cell_of_row w7 _ 1 _ _ _ Rx_7.out
  have xx := heap_lt Rx_7.out
  have fy0 := cell_of_row w7 _ 0 _ _ _ Ry_7.out
  have fy1 := cell_of_row w7 _ 1 _ _ _ Ry_7.out
  have xy := heap_lt Ry_7.out
  simp only [List.getElem?_toArray, List.getElem?_cons_zero, List.getElem?_cons_succ] at fx0 fx1 fy0 fy1
  go_wp2_with fail
  refine (zsub_v (z := e1) (L7.out.get (A := A4) (c := c4) (xs := (digs (va).natAbs)) (by simp)) (L7.out.get (A := A5) (c := c5) (xs := (digs (vb).natAbs)) (by simp)) (sg_z _) (sg_z _) (le6 lbva.out) (le6 lbvb.out) HE1.out).mono ?_
  rintro e w8 ⟨A8, c8, rfl, hd, hb⟩
  have L8 := Lib.hid ((L7.out.step hb).add hd)
  have Rx_8 := Lib.hid (cells_of Rx_7.out hb)
  have Ry_8 := Lib.hid (cells_of Ry_7.out hb)
  clear fx0 fx1 xx fy0 fy1 xy
  clear hb hd
  go_wp2_with fail
  refine (zsmall_z (q := e1) (ok := true) (L8.out.get (A := A8) (c := c8) (xs := (digs (e1).natAbs)) (by simp)) (sg_z _) (le6 lbe1.out) SE1.out.1 SE1.out.2).mono ?_
  rintro e w9 ⟨rfl, hb⟩
  have L9 := Lib.hid (L8.out.step hb)
  have Rx_9 := Lib.hid (cells_of Rx_8.out hb)
  have Ry_9 := Lib.hid (cells_of Ry_8.out hb)
  clear hb 
  have fx0 := cell_of_row w9 _ 0 _ _ _ Rx_9.out
  have fx1 := cell_of_row w9 _ 1 _ _ _ Rx_9.out
  have xx := heap_lt Rx_9.out
  have fy0 := cell_of_row w9 _ 0 _ _ _ Ry_9.out
  have fy1 := cell_of_row w9 _ 1 _ _ _ Ry_9.out
  have xy := heap_lt Ry_9.out
  simp only [List.getElem?_toArray, List.getElem?_cons_zero, List.getElem?_cons_succ] at fx0 fx1 fy0 fy1
  go_wp2_with fail
  refine (zmul_v (z := p1) (L9.out.get (A := A4) (c := c4) (xs := (digs (va).natAbs)) (by simp)) (L9.out.get (A := A5) (c := c5) (xs := (digs (vb).natAbs)) (by simp)) (sg_z _) (sg_z _) (le6 lbva.out) (le6 lbvb.out) HP1.out).mono ?_
  rintro e w10 ⟨A10, c10, rfl, hd, hb⟩
  have L10 := Lib.hid ((L9.out.step hb).add hd)
  have Rx_10 := Lib.hid (cells_of Rx_9.out hb)
  have Ry_10 := Lib.hid (cells_of Ry_9.out hb)
  clear fx0 fx1 xx fy0 fy1 xy
  clear hb hd
  go_wp2_with fail
  refine (zsmall_z (q := p1) (ok := true) (L10.out.get (A := A10) (c := c10) (xs := (digs (p1).natAbs)) (by simp)) (sg_z _) (le6 lbp1.out) SP1.out.1 SP1.out.2).mono ?_
  rintro e w11 ⟨rfl, hb⟩
  have L11 := Lib.hid (L10.out.step hb)
  have Rx_11 := Lib.hid (cells_of Rx_10.out hb)
  have Ry_11 := Lib.hid (cells_of Ry_10.out hb)
  clear hb 
  have fx0 := cell_of_row w11 _ 0 _ _ _ Rx_11.out
  have fx1 := cell_of_row w11 _ 1 _ _ _ Rx_11.out
  have xx := heap_lt Rx_11.out
  have fy0 := cell_of_row w11 _ 0 _ _ _ Ry_11.out
  have fy1 := cell_of_row w11 _ 1 _ _ _ Ry_11.out
  have xy := heap_lt Ry_11.out
  simp only [List.getElem?_toArray, List.getElem?_cons_zero, List.getElem?_cons_succ] at fx0 fx1 fy0 fy1
  go_wp2_with fail
  refine (zdiv_z_no (L11.out.get (A := A4) (c := c4) (xs := (digs (va).natAbs)) (by simp)) (L11.out.get (A := A5) (c := c5) (xs := (digs (vb).natAbs)) (by simp)) (by rw [sg_z]; exact VB.out) (le6 lbva.out) (le6 lbvb.out)).mono ?_
  rintro e w12 ⟨rfl, hb⟩
  have L12 := Lib.hid (L11.out.step hb)
  have Rx_12 := Lib.hid (cells_of Rx_11.out hb)
  have Ry_12 := Lib.hid (cells_of Ry_11.out hb)
  clear fx0 fx1 xx fy0 fy1 xy
  clear hb 
  go_wp2_with fail
  obtain ⟨w13, hW⟩ : ∃ W : World, W = ((w12.alloc (.cells #[.bool false, .slice none 0 0] 24)).alloc (.cells #[.bool false, .slice none 0 0] 24)) := ⟨_, rfl⟩
  rw [← hW]
  have hb : Below w12.heap.size w12 w13 := by rw [hW]; exact below2 _ _ _
  have L13 := Lib.hid (L12.out.step hb)
  have Rx_13 := Lib.hid (cells_of Rx_12.out hb)
  have Ry_13 := Lib.hid (cells_of Ry_12.out hb)
  have Rq_13 := Lib.hid (show w13.heap[w12.heap.size]? = some (.cells #[.bool false, .slice none 0 0] 24 (0, 0)) by rw [hW]; exact heap_alloc2_old _ _ _)
  have Rr_13 := Lib.hid (show w13.heap[w12.heap.size + 1]? = some (.cells #[.bool false, .slice none 0 0] 24 (0, 0)) by rw [hW]; exact heap_alloc2_new _ _ _)
  clear hW hb
  have fx0 := cell_of_row w13 _ 0 _ _ _ Rx_13.out
  have fx1 := cell_of_row w13 _ 1 _ _ _ Rx_13.out
  have xx := heap_lt Rx_13.out
  simp only [List.getElem?_toArray, List.getElem?_cons_zero, List.getElem?_cons_succ] at fx0 fx1
  have KD := Lib.hid (bd0 w13)
  have LD := Lib.hid (L13.out.step KD.out)
  go_region_held3 (fun w' => ∀ b o, b < w13.heap.size → w'.cell? ⟨b, o, none⟩ = w13.cell? ⟨b, o, none⟩)
    (first | with_reducible exact (bcell KD.out).1 | with_reducible exact (bcell K15.out).1 | with_reducible exact (bcell K16.out).1 | with_reducible exact (bcell K17.out).1)
    (first
      | (go_at_call_of 21 A4; (with_reducible refine (zneg_v (z := k1) (LD.out.get (A := A4) (c := c4) (xs := (digs (va).natAbs)) (by simp)) (sg_z _) (le6 lbva.out) HK1.out).mono ?_); rintro e w15 ⟨A15, c15, rfl, hd, hb⟩; (have K15 := Lib.hid (KD.out.trans (hb.mono KD.out.size))); (have L15 := Lib.hid ((LD.out.step hb).add hd)); clear hb hd)
      | (go_at_call_of 21 A15; (with_reducible refine (zneg_v (z := k2) (L15.out.get (A := A15) (c := c15) (xs := (digs (k1).natAbs)) (by simp)) (sg_z _) (le6 lbk1.out) HK2.out).mono ?_); rintro e w16 ⟨A16, c16, rfl, hd, hb⟩; (have K16 := Lib.hid (K15.out.trans (hb.mono K15.out.size))); (have L16 := Lib.hid ((L15.out.step hb).add hd)); clear hb hd)
      | (go_at_call 14; (with_reducible refine (same_z (x := k2) (y := va) (L16.out.get (A := A16) (c := c16) (xs := (digs (k2).natAbs)) (by simp)) (L16.out.get (A := A4) (c := c4) (xs := (digs (va).natAbs)) (by simp)) (Nat.le_trans lbk2.out (by omega)) EB.out).mono ?_); rintro e w17 ⟨rfl, hb⟩; (have K17 := Lib.hid (K16.out.trans (hb.mono K16.out.size))); (have L17 := Lib.hid (L16.out.step hb)); clear hb ))
  clear fx0 fx1 xx
  have Rx_17 := Lib.hid (cells_of Rx_13.out K17.out)
  have Ry_17 := Lib.hid (cells_of Ry_13.out K17.out)
  have Rq_17 := Lib.hid (cells_of Rq_13.out K17.out)
  have Rr_17 := Lib.hid (cells_of Rr_13.out K17.out)
  clear KD LD
  go_wp2
  go_ret
  exact ⟨rfl, L17.out.1⟩
end Go.Proofs.YthgkdpfkaobgoaaDoor
end

section
/-
  The law ZintSmalls of chapter 4, walked.
-/
namespace Go.Proofs.YthgkdpfkaobgoaaDoor
open Go.RowKit
set_option maxHeartbeats 16000000 in
set_option maxRecDepth 100000 in
theorem zsmalls_ex (n a b : Int) (n0 : -9223372036854775808 ≤ n) (n9 : n ≤ 9223372036854775807) (a0 : -2147483648 ≤ a) (a9 : a ≤ 2147483647) (b0 : -2147483648 ≤ b) (b9 : b ≤ 2147483647) (cb : b ≠ 0) (cr : Int.tmod a b = 0) (w : World) (htab : P10 w) :
    Calls Tryd.prog 11 #[.int .i64 n, .int .i32 a, .int .i32 b] w fun e w' => e = .returned (.bool true) ∧ Below w.heap.size w w' := by
  have AB := Lib.hid (show -2147483648 ≤ a ∧ a ≤ 2147483647 ∧ -2147483648 ≤ b ∧ b ≤ 2147483647 from ⟨a0, a9, b0, b9⟩)
  have NB := Lib.hid (show -9223372036854775808 ≤ n ∧ n ≤ 9223372036854775807 from ⟨n0, n9⟩)
  have CB := Lib.hid cb
  have hP := mul_bd a0 a9 b0 b9
  obtain ⟨vn, hvn⟩ := is_z (n)
  have dvn : -9223372036854775808 ≤ vn ∧ vn ≤ 9223372036854775807 := by omega
  have bvn := zlen_64 dvn.1 dvn.2
  have HVN := Lib.hid hvn
  have DVN := Lib.hid dvn
  obtain ⟨va, hva⟩ := is_z (a)
  have dva : -9223372036854775808 ≤ va ∧ va ≤ 9223372036854775807 := by omega
  have bva := zlen_64 dva.1 dva.2
  have HVA := Lib.hid hva
  have DVA := Lib.hid dva
  obtain ⟨vb, hvb⟩ := is_z (b)
  have dvb : -9223372036854775808 ≤ vb ∧ vb ≤ 9223372036854775807 := by omega
  have bvb := zlen_64 dvb.1 dvb.2
  have HVB := Lib.hid hvb
  have DVB := Lib.hid dvb
  obtain ⟨s1, hs1⟩ := is_z (va + vb)
  have ds1 : -9223372036854775808 ≤ s1 ∧ s1 ≤ 9223372036854775807 := by omega
  have bs1 := zlen_64 ds1.1 ds1.2
  have HS1 := Lib.hid hs1
  have DS1 := Lib.hid ds1
  obtain ⟨e1, he1⟩ := is_z (va - vb)
  have de1 : -9223372036854775808 ≤ e1 ∧ e1 ≤ 9223372036854775807 := by omega
  have be1 := zlen_64 de1.1 de1.2
  have HE1 := Lib.hid he1
  have DE1 := Lib.hid de1
  obtain ⟨p1, hp1⟩ := is_z (va * vb)
  have dp1 : -9223372036854775808 ≤ p1 ∧ p1 ≤ 9223372036854775807 := by rw [← hp1, ← hva, ← hvb]; omega
  have bp1 := zlen_64 dp1.1 dp1.2
  have HP1 := Lib.hid hp1
  have DP1 := Lib.hid dp1
  obtain ⟨k1, hk1⟩ := is_z (-va)
  have dk1 : -9223372036854775808 ≤ k1 ∧ k1 ≤ 9223372036854775807 := by omega
  have bk1 := zlen_64 dk1.1 dk1.2
  have HK1 := Lib.hid hk1
  have DK1 := Lib.hid dk1
  obtain ⟨k2, hk2⟩ := is_z (-k1)
  have dk2 : -9223372036854775808 ≤ k2 ∧ k2 ≤ 9223372036854775807 := by omega
  have bk2 := zlen_64 dk2.1 dk2.2
  have HK2 := Lib.hid hk2
  have DK2 := Lib.hid dk2
  obtain ⟨dq, hdq⟩ := is_z (Int.fdiv va vb)
  have ddq : -9223372036854775808 ≤ dq ∧ dq ≤ 9223372036854775807 := by rw [← hdq, ← hva, ← hvb]; have := Int.natAbs_fdiv_le_natAbs a b; omega
  have bdq := zlen_64 ddq.1 ddq.2
  have HDQ := Lib.hid hdq
  have DDQ := Lib.hid ddq
  obtain ⟨dr, hdr⟩ := is_z (Int.fmod va vb)
  have ddr : -9223372036854775808 ≤ dr ∧ dr ≤ 9223372036854775807 := by rw [← hdr, ← hva, ← hvb]; have := (fmod_bd a cb).1; omega
  have bdr := zlen_64 ddr.1 ddr.2
  have HDR := Lib.hid hdr
  have DDR := Lib.hid ddr
  obtain ⟨t1, ht1⟩ := is_z (dq * vb)
  have dt1 : -9223372036854775808 ≤ t1 ∧ t1 ≤ 9223372036854775807 := by rw [← ht1]; have h1 := Int.mul_fdiv_add_fmod va vb; rw [hdq, hdr, Int.mul_comm] at h1; have h2 := (fmod_bd a cb).1; rw [hva, hvb, hdr] at h2; omega
  have bt1 := zlen_64 dt1.1 dt1.2
  have HT1 := Lib.hid ht1
  have DT1 := Lib.hid dt1
  have ea : IntKind.i64.wrap a = a := IntWalk.i64_in _ ⟨by omega, by omega⟩
  have wa : wrap64 a = a := IntWalk.wrap64_in _ ⟨by omega, by omega⟩
  have eb : IntKind.i64.wrap b = b := IntWalk.i64_in _ ⟨by omega, by omega⟩
  have wb : wrap64 b = b := IntWalk.wrap64_in _ ⟨by omega, by omega⟩
  have rs : a + b = s1 := by rw [← hs1, ← hva, ← hvb]
  have es : IntKind.i64.wrap (a + b) = s1 := by rw [rs]; exact IntWalk.i64_in _ ⟨ds1.1, ds1.2⟩
  have ws : wrap64 (a + b) = s1 := by rw [rs]; exact IntWalk.wrap64_in _ ⟨ds1.1, ds1.2⟩
  have rd : a - b = e1 := by rw [← he1, ← hva, ← hvb]
  have ed : IntKind.i64.wrap (a - b) = e1 := by rw [rd]; exact IntWalk.i64_in _ ⟨de1.1, de1.2⟩
  have wd : wrap64 (a - b) = e1 := by rw [rd]; exact IntWalk.wrap64_in _ ⟨de1.1, de1.2⟩
  have rp : a * b = p1 := by rw [← hp1, ← hva, ← hvb]
  have ep : IntKind.i64.wrap (a * b) = p1 := by rw [rp]; exact IntWalk.i64_in _ ⟨dp1.1, dp1.2⟩
  have wp : wrap64 (a * b) = p1 := by rw [rp]; exact IntWalk.wrap64_in _ ⟨dp1.1, dp1.2⟩
  have hb0 : (b == 0) = false := beq_eq_false_iff_ne.2 cb
  have VB := Lib.hid (show vb ≠ 0 by omega)
  have rt : a.tdiv b = dq := by rw [← hdq, ← hva, ← hvb]; exact tdiv_ex cb cr
  have et : IntKind.i64.wrap (a.tdiv b) = dq := by rw [rt]; exact IntWalk.i64_in _ ⟨ddq.1, ddq.2⟩
  have wt : wrap64 (a.tdiv b) = dq := by rw [rt]; exact IntWalk.wrap64_in _ ⟨ddq.1, ddq.2⟩
  have rm : dq * b = t1 := by rw [← ht1, ← hvb]
  have em : IntKind.i64.wrap (dq * b) = t1 := by rw [rm]; exact IntWalk.i64_in _ ⟨dt1.1, dt1.2⟩
  have wm : wrap64 (dq * b) = t1 := by rw [rm]; exact IntWalk.wrap64_in _ ⟨dt1.1, dt1.2⟩
  have rv : a - t1 = dr := by have h1 := Int.mul_fdiv_add_fmod va vb; rw [hdq, hdr, Int.mul_comm, ht1] at h1; omega
  have ev : IntKind.i64.wrap (a - t1) = dr := by rw [rv]; exact IntWalk.i64_in _ ⟨ddr.1, ddr.2⟩
  have wv : wrap64 (a - t1) = dr := by rw [rv]; exact IntWalk.wrap64_in _ ⟨ddr.1, ddr.2⟩
  have hc1 : (a.tmod b != 0) = false := by rw [cr]; rfl
  have NN := Lib.hid (show smallz vn = n ∧ smallb vn = true from ⟨by rw [smallz_in dvn.1 dvn.2]; exact hvn.symm, smallb_in dvn.1 dvn.2⟩)
  have SS1 := Lib.hid (show smallz s1 = s1 ∧ smallb s1 = true from ⟨smallz_in ds1.1 ds1.2, smallb_in ds1.1 ds1.2⟩)
  have SE1 := Lib.hid (show smallz e1 = e1 ∧ smallb e1 = true from ⟨smallz_in de1.1 de1.2, smallb_in de1.1 de1.2⟩)
  have SP1 := Lib.hid (show smallz p1 = p1 ∧ smallb p1 = true from ⟨smallz_in dp1.1 dp1.2, smallb_in dp1.1 dp1.2⟩)
  have SDQ := Lib.hid (show smallz dq = dq ∧ smallb dq = true from ⟨smallz_in ddq.1 ddq.2, smallb_in ddq.1 ddq.2⟩)
  have SDR := Lib.hid (show smallz dr = dr ∧ smallb dr = true from ⟨smallz_in ddr.1 ddr.2, smallb_in ddr.1 ddr.2⟩)
  have EB := Lib.hid (show k2 = va by omega)
  clear rs rd rp rt rm rv
  have lbvn := Lib.hid (show (digs vn.natAbs).length ≤ 100000 by omega)
  have lbva := Lib.hid (show (digs va.natAbs).length ≤ 100000 by omega)
  have lbvb := Lib.hid (show (digs vb.natAbs).length ≤ 100000 by omega)
  have lbs1 := Lib.hid (show (digs s1.natAbs).length ≤ 100000 by omega)
  have lbe1 := Lib.hid (show (digs e1.natAbs).length ≤ 100000 by omega)
  have lbp1 := Lib.hid (show (digs p1.natAbs).length ≤ 100000 by omega)
  have lbk1 := Lib.hid (show (digs k1.natAbs).length ≤ 100000 by omega)
  have lbk2 := Lib.hid (show (digs k2.natAbs).length ≤ 100000 by omega)
  have lbdq := Lib.hid (show (digs dq.natAbs).length ≤ 100000 by omega)
  have lbdr := Lib.hid (show (digs dr.natAbs).length ≤ 100000 by omega)
  have HT := Lib.hid htab
  clear htab n0 n9 a0 a9 b0 b9 cb hP cr hvn dvn bvn hva dva bva hvb dvb bvb hs1 ds1 bs1 he1 de1 be1 hp1 dp1 bp1 hk1 dk1 bk1 hk2 dk2 bk2 hdq ddq bdq hdr ddr bdr ht1 dt1 bt1
  have EX := Lib.hid (fun V hv => examples_any V hv)
  go_enter Tryd.func11, Tryd.ntmps11
  have L0 := Lib.hid (live_start w)
  go_wp2_with fail
  refine (EX.out w HT.out).mono ?_
  rintro e w1 ⟨rfl, hb⟩
  have L1 := Lib.hid (L0.out.step hb)
  clear hb 
  go_wp2_with fail
  refine (zfrom_z (x := vn) HVN.out DVN.out.1 DVN.out.2).mono ?_
  rintro e w2 ⟨A2, c2, rfl, hd, hb⟩
  have L2 := Lib.hid ((L1.out.step hb).add hd)
  clear hb hd
  go_wp2_with fail
  refine (zsmall_z (q := n) (ok := true) (L2.out.get (A := A2) (c := c2) (xs := (digs (vn).natAbs)) (by simp)) (sg_z _) (le6 lbvn.out) NN.out.1 NN.out.2).mono ?_
  rintro e w3 ⟨rfl, hb⟩
  have L3 := Lib.hid (L2.out.step hb)
  clear hb 
  go_wp2_with fail
  refine (zfrom_z (x := va) HVA.out DVA.out.1 DVA.out.2).mono ?_
  rintro e w4 ⟨A4, c4, rfl, hd, hb⟩
  have L4 := Lib.hid ((L3.out.step hb).add hd)
  clear hb hd
  go_wp2_with fail
  have Lx5 := Lib.hid (L4.out.step (below1 w4 (.cells #[.bool (decide (va < 0)), .slice A4 (digs va.natAbs).length c4] 24)))
  refine (zfrom_z (x := vb) HVB.out DVB.out.1 DVB.out.2).mono ?_
  rintro e w5 ⟨A5, c5, rfl, hd, hb⟩
  have L5 := Lib.hid ((Lx5.out.step hb).add hd)
  have Rx_5 := Lib.hid (cells_of (heap_alloc_new w4 (.cells #[.bool (decide (va < 0)), .slice A4 (digs va.natAbs).length c4] 24)) hb)
  clear hb hd
  have fx0 := cell_of_row w5 _ 0 _ _ _ Rx_5.out
  have fx1 := cell_of_row w5 _ 1 _ _ _ Rx_5.out
  have xx := heap_lt Rx_5.out
  simp only [List.getElem?_toArray, List.getElem?_cons_zero, List.getElem?_cons_succ] at fx0 fx1
  go_wp2_with fail
  have Lx6 := Lib.hid (L5.out.step (below1 w5 (.cells #[.bool (decide (vb < 0)), .slice A5 (digs vb.natAbs).length c5] 24)))
  refine (zadd_v (z := s1) (Lx6.out.get (A := A4) (c := c4) (xs := (digs (va).natAbs)) (by simp)) (Lx6.out.get (A := A5) (c := c5) (xs := (digs (vb).natAbs)) (by simp)) (sg_z _) (sg_z _) (le6 lbva.out) (le6 lbvb.out) HS1.out).mono ?_
  rintro e w6 ⟨A6, c6, rfl, hd, hb⟩
  have L6 := Lib.hid ((Lx6.out.step hb).add hd)
  have Rx_6 := Lib.hid (cells_of (cells_of Rx_5.out (below1 w5 (.cells #[.bool (decide (vb < 0)), .slice A5 (digs vb.natAbs).length c5] 24))) hb)
  clear fx0 fx1 xx
  have Ry_6 := Lib.hid (cells_of (heap_alloc_new w5 (.cells #[.bool (decide (vb < 0)), .slice A5 (digs vb.natAbs).length c5] 24)) hb)
  clear hb hd
  go_wp2_with fail
  refine (zsmall_z (q := s1) (ok := true) (L6.out.get (A := A6) (c := c6) (xs := (digs (s1).natAbs)) (by simp)) (sg_z _) (le6 lbs1.out) SS1.out.1 SS1.out.2).mono ?_
  rintro e w7 ⟨rfl, hb⟩
  have L7 := Lib.hid (L6.out.step hb)
  have Rx_7 := Lib.hid (cells_of Rx_6.out hb)
  have Ry_7 := Lib.hid (cells_of Ry_6.out hb)
  clear hb 
  have fx0 := cell_of_row w7 _ 0 _ _ _ Rx_7.out
  have fx1 := cell_of_row w7 _ 1 _ _ _ Rx_7.out
  have xx := heap_lt Rx_7.out
  have fy0 := cell_of_row w7 _ 0 _ _ _ Ry_7.out
  have fy1 := cell_of_row w7 _ 1 _ _ _ Ry_7.out
  have xy := heap_lt Ry_7.out
  simp only [List.getElem?_toArray, List.getElem?_cons_zero, List.getElem?_cons_succ] at fx0 fx1 fy0 fy1
  go_wp2_with fail
  refine (zsub_v (z := e1) (L7.out.get (A := A4) (c := c4) (xs := (digs (va).natAbs)) (by simp)) (L7.out.get (A := A5) (c := c5) (xs := (digs (vb).natAbs)) (by simp)) (sg_z _) (sg_z _) (le6 lbva.out) (le6 lbvb.out) HE1.out).mono ?_
  rintro e w8 ⟨A8, c8, rfl, hd, hb⟩
  have L8 := Lib.hid ((L7.out.step hb).add hd)
  have Rx_8 := Lib.hid (cells_of Rx_7.out hb)
  have Ry_8 := Lib.hid (cells_of Ry_7.out hb)
  clear fx0 fx1 xx fy0 fy1 xy
  clear hb hd
  go_wp2_with fail
  refine (zsmall_z (q := e1) (ok := true) (L8.out.get (A := A8) (c := c8) (xs := (digs (e1).natAbs)) (by simp)) (sg_z _) (le6 lbe1.out) SE1.out.1 SE1.out.2).mono ?_
  rintro e w9 ⟨rfl, hb⟩
  have L9 := Lib.hid (L8.out.step hb)
  have Rx_9 := Lib.hid (cells_of Rx_8.out hb)
  have Ry_9 := Lib.hid (cells_of Ry_8.out hb)
  clear hb 
  have fx0 := cell_of_row w9 _ 0 _ _ _ Rx_9.out
  have fx1 := cell_of_row w9 _ 1 _ _ _ Rx_9.out
  have xx := heap_lt Rx_9.out
  have fy0 := cell_of_row w9 _ 0 _ _ _ Ry_9.out
  have fy1 := cell_of_row w9 _ 1 _ _ _ Ry_9.out
  have xy := heap_lt Ry_9.out
  simp only [List.getElem?_toArray, List.getElem?_cons_zero, List.getElem?_cons_succ] at fx0 fx1 fy0 fy1
  go_wp2_with fail
  refine (zmul_v (z := p1) (L9.out.get (A := A4) (c := c4) (xs := (digs (va).natAbs)) (by simp)) (L9.out.get (A := A5) (c := c5) (xs := (digs (vb).natAbs)) (by simp)) (sg_z _) (sg_z _) (le6 lbva.out) (le6 lbvb.out) HP1.out).mono ?_
  rintro e w10 ⟨A10, c10, rfl, hd, hb⟩
  have L10 := Lib.hid ((L9.out.step hb).add hd)
  have Rx_10 := Lib.hid (cells_of Rx_9.out hb)
  have Ry_10 := Lib.hid (cells_of Ry_9.out hb)
  clear fx0 fx1 xx fy0 fy1 xy
  clear hb hd
  go_wp2_with fail
  refine (zsmall_z (q := p1) (ok := true) (L10.out.get (A := A10) (c := c10) (xs := (digs (p1).natAbs)) (by simp)) (sg_z _) (le6 lbp1.out) SP1.out.1 SP1.out.2).mono ?_
  rintro e w11 ⟨rfl, hb⟩
  have L11 := Lib.hid (L10.out.step hb)
  have Rx_11 := Lib.hid (cells_of Rx_10.out hb)
  have Ry_11 := Lib.hid (cells_of Ry_10.out hb)
  clear hb 
  have fx0 := cell_of_row w11 _ 0 _ _ _ Rx_11.out
  have fx1 := cell_of_row w11 _ 1 _ _ _ Rx_11.out
  have xx := heap_lt Rx_11.out
  have fy0 := cell_of_row w11 _ 0 _ _ _ Ry_11.out
  have fy1 := cell_of_row w11 _ 1 _ _ _ Ry_11.out
  have xy := heap_lt Ry_11.out
  simp only [List.getElem?_toArray, List.getElem?_cons_zero, List.getElem?_cons_succ] at fx0 fx1 fy0 fy1
  go_wp2_with fail
  refine (zdiv_z (u := dq) (v := dr) (L11.out.get (A := A4) (c := c4) (xs := (digs (va).natAbs)) (by simp)) (L11.out.get (A := A5) (c := c5) (xs := (digs (vb).natAbs)) (by simp)) (sg_z _) (sg_z _) (le6 lbva.out) (le6 lbvb.out) VB.out HDQ.out HDR.out).mono ?_
  rintro e w12 ⟨A12, c12, B12, d12, rfl, hd, hd', hb⟩
  have L12 := Lib.hid (((L11.out.step hb).add hd).add hd')
  have Rx_12 := Lib.hid (cells_of Rx_11.out hb)
  have Ry_12 := Lib.hid (cells_of Ry_11.out hb)
  clear fx0 fx1 xx fy0 fy1 xy
  clear hb hd hd'
  go_wp2_with fail
  obtain ⟨w13, hW⟩ : ∃ W : World, W = ((w12.alloc (.cells #[.bool (decide (dq < 0)), .slice A12 (digs dq.natAbs).length c12] 24)).alloc (.cells #[.bool (decide (dr < 0)), .slice B12 (digs dr.natAbs).length d12] 24)) := ⟨_, rfl⟩
  rw [← hW]
  have hb : Below w12.heap.size w12 w13 := by rw [hW]; exact below2 _ _ _
  have L13 := Lib.hid (L12.out.step hb)
  have Rx_13 := Lib.hid (cells_of Rx_12.out hb)
  have Ry_13 := Lib.hid (cells_of Ry_12.out hb)
  have Rq_13 := Lib.hid (show w13.heap[w12.heap.size]? = some (.cells #[.bool (decide (dq < 0)), .slice A12 (digs dq.natAbs).length c12] 24 (0, 0)) by rw [hW]; exact heap_alloc2_old _ _ _)
  have Rr_13 := Lib.hid (show w13.heap[w12.heap.size + 1]? = some (.cells #[.bool (decide (dr < 0)), .slice B12 (digs dr.natAbs).length d12] 24 (0, 0)) by rw [hW]; exact heap_alloc2_new _ _ _)
  clear hW hb
  have fx0 := cell_of_row w13 _ 0 _ _ _ Rx_13.out
  have fx1 := cell_of_row w13 _ 1 _ _ _ Rx_13.out
  have xx := heap_lt Rx_13.out
  simp only [List.getElem?_toArray, List.getElem?_cons_zero, List.getElem?_cons_succ] at fx0 fx1
  have KD := Lib.hid (bd0 w13)
  have LD := Lib.hid (L13.out.step KD.out)
  go_region_held3 (fun w' => ∀ b o, b < w13.heap.size → w'.cell? ⟨b, o, none⟩ = w13.cell? ⟨b, o, none⟩)
    (first | with_reducible exact (bcell KD.out).1 | with_reducible exact (bcell K15.out).1 | with_reducible exact (bcell K16.out).1 | with_reducible exact (bcell K17.out).1)
    (first
      | (go_at_call_of 21 A4; (with_reducible refine (zneg_v (z := k1) (LD.out.get (A := A4) (c := c4) (xs := (digs (va).natAbs)) (by simp)) (sg_z _) (le6 lbva.out) HK1.out).mono ?_); rintro e w15 ⟨A15, c15, rfl, hd, hb⟩; (have K15 := Lib.hid (KD.out.trans (hb.mono KD.out.size))); (have L15 := Lib.hid ((LD.out.step hb).add hd)); clear hb hd)
      | (go_at_call_of 21 A15; (with_reducible refine (zneg_v (z := k2) (L15.out.get (A := A15) (c := c15) (xs := (digs (k1).natAbs)) (by simp)) (sg_z _) (le6 lbk1.out) HK2.out).mono ?_); rintro e w16 ⟨A16, c16, rfl, hd, hb⟩; (have K16 := Lib.hid (K15.out.trans (hb.mono K15.out.size))); (have L16 := Lib.hid ((L15.out.step hb).add hd)); clear hb hd)
      | (go_at_call 14; (with_reducible refine (same_z (x := k2) (y := va) (L16.out.get (A := A16) (c := c16) (xs := (digs (k2).natAbs)) (by simp)) (L16.out.get (A := A4) (c := c4) (xs := (digs (va).natAbs)) (by simp)) (Nat.le_trans lbk2.out (by omega)) EB.out).mono ?_); rintro e w17 ⟨rfl, hb⟩; (have K17 := Lib.hid (K16.out.trans (hb.mono K16.out.size))); (have L17 := Lib.hid (L16.out.step hb)); clear hb ))
  clear fx0 fx1 xx
  have Rx_17 := Lib.hid (cells_of Rx_13.out K17.out)
  have Ry_17 := Lib.hid (cells_of Ry_13.out K17.out)
  have Rq_17 := Lib.hid (cells_of Rq_13.out K17.out)
  have Rr_17 := Lib.hid (cells_of Rr_13.out K17.out)
  clear KD LD
  have fq0 := cell_of_row w17 _ 0 _ _ _ Rq_17.out
  have fq1 := cell_of_row w17 _ 1 _ _ _ Rq_17.out
  have xq := heap_lt Rq_17.out
  simp only [List.getElem?_toArray, List.getElem?_cons_zero, List.getElem?_cons_succ] at fq0 fq1
  go_wp2_with fail
  refine (zsmall_z (q := dq) (ok := true) (L17.out.get (A := A12) (c := c12) (xs := (digs (dq).natAbs)) (by simp)) (sg_z _) (le6 lbdq.out) SDQ.out.1 SDQ.out.2).mono ?_
  rintro e w18 ⟨rfl, hb⟩
  have L18 := Lib.hid (L17.out.step hb)
  have Rx_18 := Lib.hid (cells_of Rx_17.out hb)
  have Ry_18 := Lib.hid (cells_of Ry_17.out hb)
  have Rq_18 := Lib.hid (cells_of Rq_17.out hb)
  have Rr_18 := Lib.hid (cells_of Rr_17.out hb)
  clear fq0 fq1 xq
  clear hb 
  have fr0 := cell_of_row w18 _ 0 _ _ _ Rr_18.out
  have fr1 := cell_of_row w18 _ 1 _ _ _ Rr_18.out
  have xr := heap_lt Rr_18.out
  simp only [List.getElem?_toArray, List.getElem?_cons_zero, List.getElem?_cons_succ] at fr0 fr1
  go_wp2_with fail
  refine (zsmall_z (q := dr) (ok := true) (L18.out.get (A := B12) (c := d12) (xs := (digs (dr).natAbs)) (by simp)) (sg_z _) (le6 lbdr.out) SDR.out.1 SDR.out.2).mono ?_
  rintro e w19 ⟨rfl, hb⟩
  have L19 := Lib.hid (L18.out.step hb)
  have Rx_19 := Lib.hid (cells_of Rx_18.out hb)
  have Ry_19 := Lib.hid (cells_of Ry_18.out hb)
  have Rq_19 := Lib.hid (cells_of Rq_18.out hb)
  have Rr_19 := Lib.hid (cells_of Rr_18.out hb)
  clear fr0 fr1 xr
  clear hb 
  go_wp2
  go_ret
  exact ⟨rfl, L19.out.1⟩
end Go.Proofs.YthgkdpfkaobgoaaDoor
end

section
/-
  The law ZintSmalls of chapter 4, walked.
-/
namespace Go.Proofs.YthgkdpfkaobgoaaDoor
open Go.RowKit
set_option maxHeartbeats 16000000 in
set_option maxRecDepth 100000 in
theorem zsmalls_nn (n a b : Int) (n0 : -9223372036854775808 ≤ n) (n9 : n ≤ 9223372036854775807) (a0 : -2147483648 ≤ a) (a9 : a ≤ 2147483647) (b0 : -2147483648 ≤ b) (b9 : b ≤ 2147483647) (cb : b ≠ 0) (cr : Int.tmod a b ≠ 0) (ca : a < 0) (cc : b < 0) (w : World) (htab : P10 w) :
    Calls Tryd.prog 11 #[.int .i64 n, .int .i32 a, .int .i32 b] w fun e w' => e = .returned (.bool true) ∧ Below w.heap.size w w' := by
  have AB := Lib.hid (show -2147483648 ≤ a ∧ a ≤ 2147483647 ∧ -2147483648 ≤ b ∧ b ≤ 2147483647 from ⟨a0, a9, b0, b9⟩)
  have NB := Lib.hid (show -9223372036854775808 ≤ n ∧ n ≤ 9223372036854775807 from ⟨n0, n9⟩)
  have CB := Lib.hid cb
  have hP := mul_bd a0 a9 b0 b9
  obtain ⟨vn, hvn⟩ := is_z (n)
  have dvn : -9223372036854775808 ≤ vn ∧ vn ≤ 9223372036854775807 := by omega
  have bvn := zlen_64 dvn.1 dvn.2
  have HVN := Lib.hid hvn
  have DVN := Lib.hid dvn
  obtain ⟨va, hva⟩ := is_z (a)
  have dva : -9223372036854775808 ≤ va ∧ va ≤ 9223372036854775807 := by omega
  have bva := zlen_64 dva.1 dva.2
  have HVA := Lib.hid hva
  have DVA := Lib.hid dva
  obtain ⟨vb, hvb⟩ := is_z (b)
  have dvb : -9223372036854775808 ≤ vb ∧ vb ≤ 9223372036854775807 := by omega
  have bvb := zlen_64 dvb.1 dvb.2
  have HVB := Lib.hid hvb
  have DVB := Lib.hid dvb
  obtain ⟨s1, hs1⟩ := is_z (va + vb)
  have ds1 : -9223372036854775808 ≤ s1 ∧ s1 ≤ 9223372036854775807 := by omega
  have bs1 := zlen_64 ds1.1 ds1.2
  have HS1 := Lib.hid hs1
  have DS1 := Lib.hid ds1
  obtain ⟨e1, he1⟩ := is_z (va - vb)
  have de1 : -9223372036854775808 ≤ e1 ∧ e1 ≤ 9223372036854775807 := by omega
  have be1 := zlen_64 de1.1 de1.2
  have HE1 := Lib.hid he1
  have DE1 := Lib.hid de1
  obtain ⟨p1, hp1⟩ := is_z (va * vb)
  have dp1 : -9223372036854775808 ≤ p1 ∧ p1 ≤ 9223372036854775807 := by rw [← hp1, ← hva, ← hvb]; omega
  have bp1 := zlen_64 dp1.1 dp1.2
  have HP1 := Lib.hid hp1
  have DP1 := Lib.hid dp1
  obtain ⟨k1, hk1⟩ := is_z (-va)
  have dk1 : -9223372036854775808 ≤ k1 ∧ k1 ≤ 9223372036854775807 := by omega
  have bk1 := zlen_64 dk1.1 dk1.2
  have HK1 := Lib.hid hk1
  have DK1 := Lib.hid dk1
  obtain ⟨k2, hk2⟩ := is_z (-k1)
  have dk2 : -9223372036854775808 ≤ k2 ∧ k2 ≤ 9223372036854775807 := by omega
  have bk2 := zlen_64 dk2.1 dk2.2
  have HK2 := Lib.hid hk2
  have DK2 := Lib.hid dk2
  obtain ⟨dq, hdq⟩ := is_z (Int.fdiv va vb)
  have ddq : -9223372036854775808 ≤ dq ∧ dq ≤ 9223372036854775807 := by rw [← hdq, ← hva, ← hvb]; have := Int.natAbs_fdiv_le_natAbs a b; omega
  have bdq := zlen_64 ddq.1 ddq.2
  have HDQ := Lib.hid hdq
  have DDQ := Lib.hid ddq
  obtain ⟨dr, hdr⟩ := is_z (Int.fmod va vb)
  have ddr : -9223372036854775808 ≤ dr ∧ dr ≤ 9223372036854775807 := by rw [← hdr, ← hva, ← hvb]; have := (fmod_bd a cb).1; omega
  have bdr := zlen_64 ddr.1 ddr.2
  have HDR := Lib.hid hdr
  have DDR := Lib.hid ddr
  obtain ⟨t1, ht1⟩ := is_z (dq * vb)
  have dt1 : -9223372036854775808 ≤ t1 ∧ t1 ≤ 9223372036854775807 := by rw [← ht1]; have h1 := Int.mul_fdiv_add_fmod va vb; rw [hdq, hdr, Int.mul_comm] at h1; have h2 := (fmod_bd a cb).1; rw [hva, hvb, hdr] at h2; omega
  have bt1 := zlen_64 dt1.1 dt1.2
  have HT1 := Lib.hid ht1
  have DT1 := Lib.hid dt1
  have ea : IntKind.i64.wrap a = a := IntWalk.i64_in _ ⟨by omega, by omega⟩
  have wa : wrap64 a = a := IntWalk.wrap64_in _ ⟨by omega, by omega⟩
  have eb : IntKind.i64.wrap b = b := IntWalk.i64_in _ ⟨by omega, by omega⟩
  have wb : wrap64 b = b := IntWalk.wrap64_in _ ⟨by omega, by omega⟩
  have rs : a + b = s1 := by rw [← hs1, ← hva, ← hvb]
  have es : IntKind.i64.wrap (a + b) = s1 := by rw [rs]; exact IntWalk.i64_in _ ⟨ds1.1, ds1.2⟩
  have ws : wrap64 (a + b) = s1 := by rw [rs]; exact IntWalk.wrap64_in _ ⟨ds1.1, ds1.2⟩
  have rd : a - b = e1 := by rw [← he1, ← hva, ← hvb]
  have ed : IntKind.i64.wrap (a - b) = e1 := by rw [rd]; exact IntWalk.i64_in _ ⟨de1.1, de1.2⟩
  have wd : wrap64 (a - b) = e1 := by rw [rd]; exact IntWalk.wrap64_in _ ⟨de1.1, de1.2⟩
  have rp : a * b = p1 := by rw [← hp1, ← hva, ← hvb]
  have ep : IntKind.i64.wrap (a * b) = p1 := by rw [rp]; exact IntWalk.i64_in _ ⟨dp1.1, dp1.2⟩
  have wp : wrap64 (a * b) = p1 := by rw [rp]; exact IntWalk.wrap64_in _ ⟨dp1.1, dp1.2⟩
  have hb0 : (b == 0) = false := beq_eq_false_iff_ne.2 cb
  have VB := Lib.hid (show vb ≠ 0 by omega)
  have rt : a.tdiv b = dq := by rw [← hdq, ← hva, ← hvb]; exact tdiv_same cb cr (by simp [ca, cc])
  have et : IntKind.i64.wrap (a.tdiv b) = dq := by rw [rt]; exact IntWalk.i64_in _ ⟨ddq.1, ddq.2⟩
  have wt : wrap64 (a.tdiv b) = dq := by rw [rt]; exact IntWalk.wrap64_in _ ⟨ddq.1, ddq.2⟩
  have rm : dq * b = t1 := by rw [← ht1, ← hvb]
  have em : IntKind.i64.wrap (dq * b) = t1 := by rw [rm]; exact IntWalk.i64_in _ ⟨dt1.1, dt1.2⟩
  have wm : wrap64 (dq * b) = t1 := by rw [rm]; exact IntWalk.wrap64_in _ ⟨dt1.1, dt1.2⟩
  have rv : a - t1 = dr := by have h1 := Int.mul_fdiv_add_fmod va vb; rw [hdq, hdr, Int.mul_comm, ht1] at h1; omega
  have ev : IntKind.i64.wrap (a - t1) = dr := by rw [rv]; exact IntWalk.i64_in _ ⟨ddr.1, ddr.2⟩
  have wv : wrap64 (a - t1) = dr := by rw [rv]; exact IntWalk.wrap64_in _ ⟨ddr.1, ddr.2⟩
  have hc1 : (a.tmod b != 0) = true := by simpa using cr
  have hc1b : ¬ a.tmod b = 0 := cr
  have hc2 : decide (a < 0) = true := by simp [ca]
  have hc3 : decide (b < 0) = true := by simp [cc]
  have NN := Lib.hid (show smallz vn = n ∧ smallb vn = true from ⟨by rw [smallz_in dvn.1 dvn.2]; exact hvn.symm, smallb_in dvn.1 dvn.2⟩)
  have SS1 := Lib.hid (show smallz s1 = s1 ∧ smallb s1 = true from ⟨smallz_in ds1.1 ds1.2, smallb_in ds1.1 ds1.2⟩)
  have SE1 := Lib.hid (show smallz e1 = e1 ∧ smallb e1 = true from ⟨smallz_in de1.1 de1.2, smallb_in de1.1 de1.2⟩)
  have SP1 := Lib.hid (show smallz p1 = p1 ∧ smallb p1 = true from ⟨smallz_in dp1.1 dp1.2, smallb_in dp1.1 dp1.2⟩)
  have SDQ := Lib.hid (show smallz dq = dq ∧ smallb dq = true from ⟨smallz_in ddq.1 ddq.2, smallb_in ddq.1 ddq.2⟩)
  have SDR := Lib.hid (show smallz dr = dr ∧ smallb dr = true from ⟨smallz_in ddr.1 ddr.2, smallb_in ddr.1 ddr.2⟩)
  have EB := Lib.hid (show k2 = va by omega)
  clear rs rd rp rt rm rv
  have lbvn := Lib.hid (show (digs vn.natAbs).length ≤ 100000 by omega)
  have lbva := Lib.hid (show (digs va.natAbs).length ≤ 100000 by omega)
  have lbvb := Lib.hid (show (digs vb.natAbs).length ≤ 100000 by omega)
  have lbs1 := Lib.hid (show (digs s1.natAbs).length ≤ 100000 by omega)
  have lbe1 := Lib.hid (show (digs e1.natAbs).length ≤ 100000 by omega)
  have lbp1 := Lib.hid (show (digs p1.natAbs).length ≤ 100000 by omega)
  have lbk1 := Lib.hid (show (digs k1.natAbs).length ≤ 100000 by omega)
  have lbk2 := Lib.hid (show (digs k2.natAbs).length ≤ 100000 by omega)
  have lbdq := Lib.hid (show (digs dq.natAbs).length ≤ 100000 by omega)
  have lbdr := Lib.hid (show (digs dr.natAbs).length ≤ 100000 by omega)
  have HT := Lib.hid htab
  clear htab n0 n9 a0 a9 b0 b9 cb hP cr ca cc hvn dvn bvn hva dva bva hvb dvb bvb hs1 ds1 bs1 he1 de1 be1 hp1 dp1 bp1 hk1 dk1 bk1 hk2 dk2 bk2 hdq ddq bdq hdr ddr bdr ht1 dt1 bt1
  have EX := Lib.hid (fun V hv => examples_any V hv)
  go_enter Tryd.func11, Tryd.ntmps11
  have L0 := Lib.hid (live_start w)
  go_wp2_with fail
  refine (EX.out w HT.out).mono ?_
  rintro e w1 ⟨rfl, hb⟩
  have L1 := Lib.hid (L0.out.step hb)
  clear hb 
  go_wp2_with fail
  refine (zfrom_z (x := vn) HVN.out DVN.out.1 DVN.out.2).mono ?_
  rintro e w2 ⟨A2, c2, rfl, hd, hb⟩
  have L2 := Lib.hid ((L1.out.step hb).add hd)
  clear hb hd
  go_wp2_with fail
  refine (zsmall_z (q := n) (ok := true) (L2.out.get (A := A2) (c := c2) (xs := (digs (vn).natAbs)) (by simp)) (sg_z _) (le6 lbvn.out) NN.out.1 NN.out.2).mono ?_
  rintro e w3 ⟨rfl, hb⟩
  have L3 := Lib.hid (L2.out.step hb)
  clear hb 
  go_wp2_with fail
  refine (zfrom_z (x := va) HVA.out DVA.out.1 DVA.out.2).mono ?_
  rintro e w4 ⟨A4, c4, rfl, hd, hb⟩
  have L4 := Lib.hid ((L3.out.step hb).add hd)
  clear hb hd
  go_wp2_with fail
  have Lx5 := Lib.hid (L4.out.step (below1 w4 (.cells #[.bool (decide (va < 0)), .slice A4 (digs va.natAbs).length c4] 24)))
  refine (zfrom_z (x := vb) HVB.out DVB.out.1 DVB.out.2).mono ?_
  rintro e w5 ⟨A5, c5, rfl, hd, hb⟩
  have L5 := Lib.hid ((Lx5.out.step hb).add hd)
  have Rx_5 := Lib.hid (cells_of (heap_alloc_new w4 (.cells #[.bool (decide (va < 0)), .slice A4 (digs va.natAbs).length c4] 24)) hb)
  clear hb hd
  have fx0 := cell_of_row w5 _ 0 _ _ _ Rx_5.out
  have fx1 := cell_of_row w5 _ 1 _ _ _ Rx_5.out
  have xx := heap_lt Rx_5.out
  simp only [List.getElem?_toArray, List.getElem?_cons_zero, List.getElem?_cons_succ] at fx0 fx1
  go_wp2_with fail
  have Lx6 := Lib.hid (L5.out.step (below1 w5 (.cells #[.bool (decide (vb < 0)), .slice A5 (digs vb.natAbs).length c5] 24)))
  refine (zadd_v (z := s1) (Lx6.out.get (A := A4) (c := c4) (xs := (digs (va).natAbs)) (by simp)) (Lx6.out.get (A := A5) (c := c5) (xs := (digs (vb).natAbs)) (by simp)) (sg_z _) (sg_z _) (le6 lbva.out) (le6 lbvb.out) HS1.out).mono ?_
  rintro e w6 ⟨A6, c6, rfl, hd, hb⟩
  have L6 := Lib.hid ((Lx6.out.step hb).add hd)
  have Rx_6 := Lib.hid (cells_of (cells_of Rx_5.out (below1 w5 (.cells #[.bool (decide (vb < 0)), .slice A5 (digs vb.natAbs).length c5] 24))) hb)
  clear fx0 fx1 xx
  have Ry_6 := Lib.hid (cells_of (heap_alloc_new w5 (.cells #[.bool (decide (vb < 0)), .slice A5 (digs vb.natAbs).length c5] 24)) hb)
  clear hb hd
  go_wp2_with fail
  refine (zsmall_z (q := s1) (ok := true) (L6.out.get (A := A6) (c := c6) (xs := (digs (s1).natAbs)) (by simp)) (sg_z _) (le6 lbs1.out) SS1.out.1 SS1.out.2).mono ?_
  rintro e w7 ⟨rfl, hb⟩
  have L7 := Lib.hid (L6.out.step hb)
  have Rx_7 := Lib.hid (cells_of Rx_6.out hb)
  have Ry_7 := Lib.hid (cells_of Ry_6.out hb)
  clear hb 
  have fx0 := cell_of_row w7 _ 0 _ _ _ Rx_7.out
  have fx1 := cell_of_row w7 _ 1 _ _ _ Rx_7.out
  have xx := heap_lt Rx_7.out
  have fy0 := cell_of_row w7 _ 0 _ _ _ Ry_7.out
  have fy1 := cell_of_row w7 _ 1 _ _ _ Ry_7.out
  have xy := heap_lt Ry_7.out
  simp only [List.getElem?_toArray, List.getElem?_cons_zero, List.getElem?_cons_succ] at fx0 fx1 fy0 fy1
  go_wp2_with fail
  refine (zsub_v (z := e1) (L7.out.get (A := A4) (c := c4) (xs := (digs (va).natAbs)) (by simp)) (L7.out.get (A := A5) (c := c5) (xs := (digs (vb).natAbs)) (by simp)) (sg_z _) (sg_z _) (le6 lbva.out) (le6 lbvb.out) HE1.out).mono ?_
  rintro e w8 ⟨A8, c8, rfl, hd, hb⟩
  have L8 := Lib.hid ((L7.out.step hb).add hd)
  have Rx_8 := Lib.hid (cells_of Rx_7.out hb)
  have Ry_8 := Lib.hid (cells_of Ry_7.out hb)
  clear fx0 fx1 xx fy0 fy1 xy
  clear hb hd
  go_wp2_with fail
  refine (zsmall_z (q := e1) (ok := true) (L8.out.get (A := A8) (c := c8) (xs := (digs (e1).natAbs)) (by simp)) (sg_z _) (le6 lbe1.out) SE1.out.1 SE1.out.2).mono ?_
  rintro e w9 ⟨rfl, hb⟩
  have L9 := Lib.hid (L8.out.step hb)
  have Rx_9 := Lib.hid (cells_of Rx_8.out hb)
  have Ry_9 := Lib.hid (cells_of Ry_8.out hb)
  clear hb 
  have fx0 := cell_of_row w9 _ 0 _ _ _ Rx_9.out
  have fx1 := cell_of_row w9 _ 1 _ _ _ Rx_9.out
  have xx := heap_lt Rx_9.out
  have fy0 := cell_of_row w9 _ 0 _ _ _ Ry_9.out
  have fy1 := cell_of_row w9 _ 1 _ _ _ Ry_9.out
  have xy := heap_lt Ry_9.out
  simp only [List.getElem?_toArray, List.getElem?_cons_zero, List.getElem?_cons_succ] at fx0 fx1 fy0 fy1
  go_wp2_with fail
  refine (zmul_v (z := p1) (L9.out.get (A := A4) (c := c4) (xs := (digs (va).natAbs)) (by simp)) (L9.out.get (A := A5) (c := c5) (xs := (digs (vb).natAbs)) (by simp)) (sg_z _) (sg_z _) (le6 lbva.out) (le6 lbvb.out) HP1.out).mono ?_
  rintro e w10 ⟨A10, c10, rfl, hd, hb⟩
  have L10 := Lib.hid ((L9.out.step hb).add hd)
  have Rx_10 := Lib.hid (cells_of Rx_9.out hb)
  have Ry_10 := Lib.hid (cells_of Ry_9.out hb)
  clear fx0 fx1 xx fy0 fy1 xy
  clear hb hd
  go_wp2_with fail
  refine (zsmall_z (q := p1) (ok := true) (L10.out.get (A := A10) (c := c10) (xs := (digs (p1).natAbs)) (by simp)) (sg_z _) (le6 lbp1.out) SP1.out.1 SP1.out.2).mono ?_
  rintro e w11 ⟨rfl, hb⟩
  have L11 := Lib.hid (L10.out.step hb)
  have Rx_11 := Lib.hid (cells_of Rx_10.out hb)
  have Ry_11 := Lib.hid (cells_of Ry_10.out hb)
  clear hb 
  have fx0 := cell_of_row w11 _ 0 _ _ _ Rx_11.out
  have fx1 := cell_of_row w11 _ 1 _ _ _ Rx_11.out
  have xx := heap_lt Rx_11.out
  have fy0 := cell_of_row w11 _ 0 _ _ _ Ry_11.out
  have fy1 := cell_of_row w11 _ 1 _ _ _ Ry_11.out
  have xy := heap_lt Ry_11.out
  simp only [List.getElem?_toArray, List.getElem?_cons_zero, List.getElem?_cons_succ] at fx0 fx1 fy0 fy1
  go_wp2_with fail
  refine (zdiv_z (u := dq) (v := dr) (L11.out.get (A := A4) (c := c4) (xs := (digs (va).natAbs)) (by simp)) (L11.out.get (A := A5) (c := c5) (xs := (digs (vb).natAbs)) (by simp)) (sg_z _) (sg_z _) (le6 lbva.out) (le6 lbvb.out) VB.out HDQ.out HDR.out).mono ?_
  rintro e w12 ⟨A12, c12, B12, d12, rfl, hd, hd', hb⟩
  have L12 := Lib.hid (((L11.out.step hb).add hd).add hd')
  have Rx_12 := Lib.hid (cells_of Rx_11.out hb)
  have Ry_12 := Lib.hid (cells_of Ry_11.out hb)
  clear fx0 fx1 xx fy0 fy1 xy
  clear hb hd hd'
  go_wp2_with fail
  obtain ⟨w13, hW⟩ : ∃ W : World, W = ((w12.alloc (.cells #[.bool (decide (dq < 0)), .slice A12 (digs dq.natAbs).length c12] 24)).alloc (.cells #[.bool (decide (dr < 0)), .slice B12 (digs dr.natAbs).length d12] 24)) := ⟨_, rfl⟩
  rw [← hW]
  have hb : Below w12.heap.size w12 w13 := by rw [hW]; exact below2 _ _ _
  have L13 := Lib.hid (L12.out.step hb)
  have Rx_13 := Lib.hid (cells_of Rx_12.out hb)
  have Ry_13 := Lib.hid (cells_of Ry_12.out hb)
  have Rq_13 := Lib.hid (show w13.heap[w12.heap.size]? = some (.cells #[.bool (decide (dq < 0)), .slice A12 (digs dq.natAbs).length c12] 24 (0, 0)) by rw [hW]; exact heap_alloc2_old _ _ _)
  have Rr_13 := Lib.hid (show w13.heap[w12.heap.size + 1]? = some (.cells #[.bool (decide (dr < 0)), .slice B12 (digs dr.natAbs).length d12] 24 (0, 0)) by rw [hW]; exact heap_alloc2_new _ _ _)
  clear hW hb
  have fx0 := cell_of_row w13 _ 0 _ _ _ Rx_13.out
  have fx1 := cell_of_row w13 _ 1 _ _ _ Rx_13.out
  have xx := heap_lt Rx_13.out
  simp only [List.getElem?_toArray, List.getElem?_cons_zero, List.getElem?_cons_succ] at fx0 fx1
  have KD := Lib.hid (bd0 w13)
  have LD := Lib.hid (L13.out.step KD.out)
  go_region_held3 (fun w' => ∀ b o, b < w13.heap.size → w'.cell? ⟨b, o, none⟩ = w13.cell? ⟨b, o, none⟩)
    (first | with_reducible exact (bcell KD.out).1 | with_reducible exact (bcell K15.out).1 | with_reducible exact (bcell K16.out).1 | with_reducible exact (bcell K17.out).1)
    (first
      | (go_at_call_of 21 A4; (with_reducible refine (zneg_v (z := k1) (LD.out.get (A := A4) (c := c4) (xs := (digs (va).natAbs)) (by simp)) (sg_z _) (le6 lbva.out) HK1.out).mono ?_); rintro e w15 ⟨A15, c15, rfl, hd, hb⟩; (have K15 := Lib.hid (KD.out.trans (hb.mono KD.out.size))); (have L15 := Lib.hid ((LD.out.step hb).add hd)); clear hb hd)
      | (go_at_call_of 21 A15; (with_reducible refine (zneg_v (z := k2) (L15.out.get (A := A15) (c := c15) (xs := (digs (k1).natAbs)) (by simp)) (sg_z _) (le6 lbk1.out) HK2.out).mono ?_); rintro e w16 ⟨A16, c16, rfl, hd, hb⟩; (have K16 := Lib.hid (K15.out.trans (hb.mono K15.out.size))); (have L16 := Lib.hid ((L15.out.step hb).add hd)); clear hb hd)
      | (go_at_call 14; (with_reducible refine (same_z (x := k2) (y := va) (L16.out.get (A := A16) (c := c16) (xs := (digs (k2).natAbs)) (by simp)) (L16.out.get (A := A4) (c := c4) (xs := (digs (va).natAbs)) (by simp)) (Nat.le_trans lbk2.out (by omega)) EB.out).mono ?_); rintro e w17 ⟨rfl, hb⟩; (have K17 := Lib.hid (K16.out.trans (hb.mono K16.out.size))); (have L17 := Lib.hid (L16.out.step hb)); clear hb ))
  clear fx0 fx1 xx
  have Rx_17 := Lib.hid (cells_of Rx_13.out K17.out)
  have Ry_17 := Lib.hid (cells_of Ry_13.out K17.out)
  have Rq_17 := Lib.hid (cells_of Rq_13.out K17.out)
  have Rr_17 := Lib.hid (cells_of Rr_13.out K17.out)
  clear KD LD
  have fq0 := cell_of_row w17 _ 0 _ _ _ Rq_17.out
  have fq1 := cell_of_row w17 _ 1 _ _ _ Rq_17.out
  have xq := heap_lt Rq_17.out
  simp only [List.getElem?_toArray, List.getElem?_cons_zero, List.getElem?_cons_succ] at fq0 fq1
  go_wp2_with fail
  refine (zsmall_z (q := dq) (ok := true) (L17.out.get (A := A12) (c := c12) (xs := (digs (dq).natAbs)) (by simp)) (sg_z _) (le6 lbdq.out) SDQ.out.1 SDQ.out.2).mono ?_
  rintro e w18 ⟨rfl, hb⟩
  have L18 := Lib.hid (L17.out.step hb)
  have Rx_18 := Lib.hid (cells_of Rx_17.out hb)
  have Ry_18 := Lib.hid (cells_of Ry_17.out hb)
  have Rq_18 := Lib.hid (cells_of Rq_17.out hb)
  have Rr_18 := Lib.hid (cells_of Rr_17.out hb)
  clear fq0 fq1 xq
  clear hb 
  have fr0 := cell_of_row w18 _ 0 _ _ _ Rr_18.out
  have fr1 := cell_of_row w18 _ 1 _ _ _ Rr_18.out
  have xr := heap_lt Rr_18.out
  simp only [List.getElem?_toArray, List.getElem?_cons_zero, List.getElem?_cons_succ] at fr0 fr1
  go_wp2_with fail
  refine (zsmall_z (q := dr) (ok := true) (L18.out.get (A := B12) (c := d12) (xs := (digs (dr).natAbs)) (by simp)) (sg_z _) (le6 lbdr.out) SDR.out.1 SDR.out.2).mono ?_
  rintro e w19 ⟨rfl, hb⟩
  have L19 := Lib.hid (L18.out.step hb)
  have Rx_19 := Lib.hid (cells_of Rx_18.out hb)
  have Ry_19 := Lib.hid (cells_of Ry_18.out hb)
  have Rq_19 := Lib.hid (cells_of Rq_18.out hb)
  have Rr_19 := Lib.hid (cells_of Rr_18.out hb)
  clear fr0 fr1 xr
  clear hb 
  go_wp2
  go_ret
  exact ⟨rfl, L19.out.1⟩
end Go.Proofs.YthgkdpfkaobgoaaDoor
end

section
/-
  The law ZintSmalls of chapter 4, walked.
-/
namespace Go.Proofs.YthgkdpfkaobgoaaDoor
open Go.RowKit
set_option maxHeartbeats 16000000 in
set_option maxRecDepth 100000 in
theorem zsmalls_pp (n a b : Int) (n0 : -9223372036854775808 ≤ n) (n9 : n ≤ 9223372036854775807) (a0 : -2147483648 ≤ a) (a9 : a ≤ 2147483647) (b0 : -2147483648 ≤ b) (b9 : b ≤ 2147483647) (cb : b ≠ 0) (cr : Int.tmod a b ≠ 0) (ca : ¬ a < 0) (cc : ¬ b < 0) (w : World) (htab : P10 w) :
    Calls Tryd.prog 11 #[.int .i64 n, .int .i32 a, .int .i32 b] w fun e w' => e = .returned (.bool true) ∧ Below w.heap.size w w' := by
  have AB := Lib.hid (show -2147483648 ≤ a ∧ a ≤ 2147483647 ∧ -2147483648 ≤ b ∧ b ≤ 2147483647 from ⟨a0, a9, b0, b9⟩)
  have NB := Lib.hid (show -9223372036854775808 ≤ n ∧ n ≤ 9223372036854775807 from ⟨n0, n9⟩)
  have CB := Lib.hid cb
  have hP := mul_bd a0 a9 b0 b9
  obtain ⟨vn, hvn⟩ := is_z (n)
  have dvn : -9223372036854775808 ≤ vn ∧ vn ≤ 9223372036854775807 := by omega
  have bvn := zlen_64 dvn.1 dvn.2
  have HVN := Lib.hid hvn
  have DVN := Lib.hid dvn
  obtain ⟨va, hva⟩ := is_z (a)
  have dva : -9223372036854775808 ≤ va ∧ va ≤ 9223372036854775807 := by omega
  have bva := zlen_64 dva.1 dva.2
  have HVA := Lib.hid hva
  have DVA := Lib.hid dva
  obtain ⟨vb, hvb⟩ := is_z (b)
  have dvb : -9223372036854775808 ≤ vb ∧ vb ≤ 9223372036854775807 := by omega
  have bvb := zlen_64 dvb.1 dvb.2
  have HVB := Lib.hid hvb
  have DVB := Lib.hid dvb
  obtain ⟨s1, hs1⟩ := is_z (va + vb)
  have ds1 : -9223372036854775808 ≤ s1 ∧ s1 ≤ 9223372036854775807 := by omega
  have bs1 := zlen_64 ds1.1 ds1.2
  have HS1 := Lib.hid hs1
  have DS1 := Lib.hid ds1
  obtain ⟨e1, he1⟩ := is_z (va - vb)
  have de1 : -9223372036854775808 ≤ e1 ∧ e1 ≤ 9223372036854775807 := by omega
  have be1 := zlen_64 de1.1 de1.2
  have HE1 := Lib.hid he1
  have DE1 := Lib.hid de1
  obtain ⟨p1, hp1⟩ := is_z (va * vb)
  have dp1 : -9223372036854775808 ≤ p1 ∧ p1 ≤ 9223372036854775807 := by rw [← hp1, ← hva, ← hvb]; omega
  have bp1 := zlen_64 dp1.1 dp1.2
  have HP1 := Lib.hid hp1
  have DP1 := Lib.hid dp1
  obtain ⟨k1, hk1⟩ := is_z (-va)
  have dk1 : -9223372036854775808 ≤ k1 ∧ k1 ≤ 9223372036854775807 := by omega
  have bk1 := zlen_64 dk1.1 dk1.2
  have HK1 := Lib.hid hk1
  have DK1 := Lib.hid dk1
  obtain ⟨k2, hk2⟩ := is_z (-k1)
  have dk2 : -9223372036854775808 ≤ k2 ∧ k2 ≤ 9223372036854775807 := by omega
  have bk2 := zlen_64 dk2.1 dk2.2
  have HK2 := Lib.hid hk2
  have DK2 := Lib.hid dk2
  obtain ⟨dq, hdq⟩ := is_z (Int.fdiv va vb)
  have ddq : -9223372036854775808 ≤ dq ∧ dq ≤ 9223372036854775807 := by rw [← hdq, ← hva, ← hvb]; have := Int.natAbs_fdiv_le_natAbs a b; omega
  have bdq := zlen_64 ddq.1 ddq.2
  have HDQ := Lib.hid hdq
  have DDQ := Lib.hid ddq
  obtain ⟨dr, hdr⟩ := is_z (Int.fmod va vb)
  have ddr : -9223372036854775808 ≤ dr ∧ dr ≤ 9223372036854775807 := by rw [← hdr, ← hva, ← hvb]; have := (fmod_bd a cb).1; omega
  have bdr := zlen_64 ddr.1 ddr.2
  have HDR := Lib.hid hdr
  have DDR := Lib.hid ddr
  obtain ⟨t1, ht1⟩ := is_z (dq * vb)
  have dt1 : -9223372036854775808 ≤ t1 ∧ t1 ≤ 9223372036854775807 := by rw [← ht1]; have h1 := Int.mul_fdiv_add_fmod va vb; rw [hdq, hdr, Int.mul_comm] at h1; have h2 := (fmod_bd a cb).1; rw [hva, hvb, hdr] at h2; omega
  have bt1 := zlen_64 dt1.1 dt1.2
  have HT1 := Lib.hid ht1
  have DT1 := Lib.hid dt1
  have ea : IntKind.i64.wrap a = a := IntWalk.i64_in _ ⟨by omega, by omega⟩
  have wa : wrap64 a = a := IntWalk.wrap64_in _ ⟨by omega, by omega⟩
  have eb : IntKind.i64.wrap b = b := IntWalk.i64_in _ ⟨by omega, by omega⟩
  have wb : wrap64 b = b := IntWalk.wrap64_in _ ⟨by omega, by omega⟩
  have rs : a + b = s1 := by rw [← hs1, ← hva, ← hvb]
  have es : IntKind.i64.wrap (a + b) = s1 := by rw [rs]; exact IntWalk.i64_in _ ⟨ds1.1, ds1.2⟩
  have ws : wrap64 (a + b) = s1 := by rw [rs]; exact IntWalk.wrap64_in _ ⟨ds1.1, ds1.2⟩
  have rd : a - b = e1 := by rw [← he1, ← hva, ← hvb]
  have ed : IntKind.i64.wrap (a - b) = e1 := by rw [rd]; exact IntWalk.i64_in _ ⟨de1.1, de1.2⟩
  have wd : wrap64 (a - b) = e1 := by rw [rd]; exact IntWalk.wrap64_in _ ⟨de1.1, de1.2⟩
  have rp : a * b = p1 := by rw [← hp1, ← hva, ← hvb]
  have ep : IntKind.i64.wrap (a * b) = p1 := by rw [rp]; exact IntWalk.i64_in _ ⟨dp1.1, dp1.2⟩
  have wp : wrap64 (a * b) = p1 := by rw [rp]; exact IntWalk.wrap64_in _ ⟨dp1.1, dp1.2⟩
  have hb0 : (b == 0) = false := beq_eq_false_iff_ne.2 cb
  have VB := Lib.hid (show vb ≠ 0 by omega)
  have rt : a.tdiv b = dq := by rw [← hdq, ← hva, ← hvb]; exact tdiv_same cb cr (by simp [ca, cc])
  have et : IntKind.i64.wrap (a.tdiv b) = dq := by rw [rt]; exact IntWalk.i64_in _ ⟨ddq.1, ddq.2⟩
  have wt : wrap64 (a.tdiv b) = dq := by rw [rt]; exact IntWalk.wrap64_in _ ⟨ddq.1, ddq.2⟩
  have rm : dq * b = t1 := by rw [← ht1, ← hvb]
  have em : IntKind.i64.wrap (dq * b) = t1 := by rw [rm]; exact IntWalk.i64_in _ ⟨dt1.1, dt1.2⟩
  have wm : wrap64 (dq * b) = t1 := by rw [rm]; exact IntWalk.wrap64_in _ ⟨dt1.1, dt1.2⟩
  have rv : a - t1 = dr := by have h1 := Int.mul_fdiv_add_fmod va vb; rw [hdq, hdr, Int.mul_comm, ht1] at h1; omega
  have ev : IntKind.i64.wrap (a - t1) = dr := by rw [rv]; exact IntWalk.i64_in _ ⟨ddr.1, ddr.2⟩
  have wv : wrap64 (a - t1) = dr := by rw [rv]; exact IntWalk.wrap64_in _ ⟨ddr.1, ddr.2⟩
  have hc1 : (a.tmod b != 0) = true := by simpa using cr
  have hc1b : ¬ a.tmod b = 0 := cr
  have hc2 : decide (a < 0) = false := by simp [ca]
  have hc3 : decide (b < 0) = false := by simp [cc]
  have NN := Lib.hid (show smallz vn = n ∧ smallb vn = true from ⟨by rw [smallz_in dvn.1 dvn.2]; exact hvn.symm, smallb_in dvn.1 dvn.2⟩)
  have SS1 := Lib.hid (show smallz s1 = s1 ∧ smallb s1 = true from ⟨smallz_in ds1.1 ds1.2, smallb_in ds1.1 ds1.2⟩)
  have SE1 := Lib.hid (show smallz e1 = e1 ∧ smallb e1 = true from ⟨smallz_in de1.1 de1.2, smallb_in de1.1 de1.2⟩)
  have SP1 := Lib.hid (show smallz p1 = p1 ∧ smallb p1 = true from ⟨smallz_in dp1.1 dp1.2, smallb_in dp1.1 dp1.2⟩)
  have SDQ := Lib.hid (show smallz dq = dq ∧ smallb dq = true from ⟨smallz_in ddq.1 ddq.2, smallb_in ddq.1 ddq.2⟩)
  have SDR := Lib.hid (show smallz dr = dr ∧ smallb dr = true from ⟨smallz_in ddr.1 ddr.2, smallb_in ddr.1 ddr.2⟩)
  have EB := Lib.hid (show k2 = va by omega)
  clear rs rd rp rt rm rv
  have lbvn := Lib.hid (show (digs vn.natAbs).length ≤ 100000 by omega)
  have lbva := Lib.hid (show (digs va.natAbs).length ≤ 100000 by omega)
  have lbvb := Lib.hid (show (digs vb.natAbs).length ≤ 100000 by omega)
  have lbs1 := Lib.hid (show (digs s1.natAbs).length ≤ 100000 by omega)
  have lbe1 := Lib.hid (show (digs e1.natAbs).length ≤ 100000 by omega)
  have lbp1 := Lib.hid (show (digs p1.natAbs).length ≤ 100000 by omega)
  have lbk1 := Lib.hid (show (digs k1.natAbs).length ≤ 100000 by omega)
  have lbk2 := Lib.hid (show (digs k2.natAbs).length ≤ 100000 by omega)
  have lbdq := Lib.hid (show (digs dq.natAbs).length ≤ 100000 by omega)
  have lbdr := Lib.hid (show (digs dr.natAbs).length ≤ 100000 by omega)
  have HT := Lib.hid htab
  clear htab n0 n9 a0 a9 b0 b9 cb hP cr ca cc hvn dvn bvn hva dva bva hvb dvb bvb hs1 ds1 bs1 he1 de1 be1 hp1 dp1 bp1 hk1 dk1 bk1 hk2 dk2 bk2 hdq ddq bdq hdr ddr bdr ht1 dt1 bt1
  have EX := Lib.hid (fun V hv => examples_any V hv)
  go_enter Tryd.func11, Tryd.ntmps11
  have L0 := Lib.hid (live_start w)
  go_wp2_with fail
  refine (EX.out w HT.out).mono ?_
  rintro e w1 ⟨rfl, hb⟩
  have L1 := Lib.hid (L0.out.step hb)
  clear hb 
  go_wp2_with fail
  refine (zfrom_z (x := vn) HVN.out DVN.out.1 DVN.out.2).mono ?_
  rintro e w2 ⟨A2, c2, rfl, hd, hb⟩
  have L2 := Lib.hid ((L1.out.step hb).add hd)
  clear hb hd
  go_wp2_with fail
  refine (zsmall_z (q := n) (ok := true) (L2.out.get (A := A2) (c := c2) (xs := (digs (vn).natAbs)) (by simp)) (sg_z _) (le6 lbvn.out) NN.out.1 NN.out.2).mono ?_
  rintro e w3 ⟨rfl, hb⟩
  have L3 := Lib.hid (L2.out.step hb)
  clear hb 
  go_wp2_with fail
  refine (zfrom_z (x := va) HVA.out DVA.out.1 DVA.out.2).mono ?_
  rintro e w4 ⟨A4, c4, rfl, hd, hb⟩
  have L4 := Lib.hid ((L3.out.step hb).add hd)
  clear hb hd
  go_wp2_with fail
  have Lx5 := Lib.hid (L4.out.step (below1 w4 (.cells #[.bool (decide (va < 0)), .slice A4 (digs va.natAbs).length c4] 24)))
  refine (zfrom_z (x := vb) HVB.out DVB.out.1 DVB.out.2).mono ?_
  rintro e w5 ⟨A5, c5, rfl, hd, hb⟩
  have L5 := Lib.hid ((Lx5.out.step hb).add hd)
  have Rx_5 := Lib.hid (cells_of (heap_alloc_new w4 (.cells #[.bool (decide (va < 0)), .slice A4 (digs va.natAbs).length c4] 24)) hb)
  clear hb hd
  have fx0 := cell_of_row w5 _ 0 _ _ _ Rx_5.out
  have fx1 := cell_of_row w5 _ 1 _ _ _ Rx_5.out
  have xx := heap_lt Rx_5.out
  simp only [List.getElem?_toArray, List.getElem?_cons_zero, List.getElem?_cons_succ] at fx0 fx1
  go_wp2_with fail
  have Lx6 := Lib.hid (L5.out.step (below1 w5 (.cells #[.bool (decide (vb < 0)), .slice A5 (digs vb.natAbs).length c5] 24)))
  refine (zadd_v (z := s1) (Lx6.out.get (A := A4) (c := c4) (xs := (digs (va).natAbs)) (by simp)) (Lx6.out.get (A := A5) (c := c5) (xs := (digs (vb).natAbs)) (by simp)) (sg_z _) (sg_z _) (le6 lbva.out) (le6 lbvb.out) HS1.out).mono ?_
  rintro e w6 ⟨A6, c6, rfl, hd, hb⟩
  have L6 := Lib.hid ((Lx6.out.step hb).add hd)
  have Rx_6 := Lib.hid (cells_of (cells_of Rx_5.out (below1 w5 (.cells #[.bool (decide (vb < 0)), .slice A5 (digs vb.natAbs).length c5] 24))) hb)
  clear fx0 fx1 xx
  have Ry_6 := Lib.hid (cells_of (heap_alloc_new w5 (.cells #[.bool (decide (vb < 0)), .slice A5 (digs vb.natAbs).length c5] 24)) hb)
  clear hb hd
  go_wp2_with fail
  refine (zsmall_z (q := s1) (ok := true) (L6.out.get (A := A6) (c := c6) (xs := (digs (s1).natAbs)) (by simp)) (sg_z _) (le6 lbs1.out) SS1.out.1 SS1.out.2).mono ?_
  rintro e w7 ⟨rfl, hb⟩
  have L7 := Lib.hid (L6.out.step hb)
  have Rx_7 := Lib.hid (cells_of Rx_6.out hb)
  have Ry_7 := Lib.hid (cells_of Ry_6.out hb)
  clear hb 
  have fx0 := cell_of_row w7 _ 0 _ _ _ Rx_7.out
  have fx1 := cell_of_row w7 _ 1 _ _ _ Rx_7.out
  have xx := heap_lt Rx_7.out
  have fy0 := cell_of_row w7 _ 0 _ _ _ Ry_7.out
  have fy1 := cell_of_row w7 _ 1 _ _ _ Ry_7.out
  have xy := heap_lt Ry_7.out
  simp only [List.getElem?_toArray, List.getElem?_cons_zero, List.getElem?_cons_succ] at fx0 fx1 fy0 fy1
  go_wp2_with fail
  refine (zsub_v (z := e1) (L7.out.get (A := A4) (c := c4) (xs := (digs (va).natAbs)) (by simp)) (L7.out.get (A := A5) (c := c5) (xs := (digs (vb).natAbs)) (by simp)) (sg_z _) (sg_z _) (le6 lbva.out) (le6 lbvb.out) HE1.out).mono ?_
  rintro e w8 ⟨A8, c8, rfl, hd, hb⟩
  have L8 := Lib.hid ((L7.out.step hb).add hd)
  have Rx_8 := Lib.hid (cells_of Rx_7.out hb)
  have Ry_8 := Lib.hid (cells_of Ry_7.out hb)
  clear fx0 fx1 xx fy0 fy1 xy
  clear hb hd
  go_wp2_with fail
  refine (zsmall_z (q := e1) (ok := true) (L8.out.get (A := A8) (c := c8) (xs := (digs (e1).natAbs)) (by simp)) (sg_z _) (le6 lbe1.out) SE1.out.1 SE1.out.2).mono ?_
  rintro e w9 ⟨rfl, hb⟩
  have L9 := Lib.hid (L8.out.step hb)
  have Rx_9 := Lib.hid (cells_of Rx_8.out hb)
  have Ry_9 := Lib.hid (cells_of Ry_8.out hb)
  clear hb 
  have fx0 := cell_of_row w9 _ 0 _ _ _ Rx_9.out
  have fx1 := cell_of_row w9 _ 1 _ _ _ Rx_9.out
  have xx := heap_lt Rx_9.out
  have fy0 := cell_of_row w9 _ 0 _ _ _ Ry_9.out
  have fy1 := cell_of_row w9 _ 1 _ _ _ Ry_9.out
  have xy := heap_lt Ry_9.out
  simp only [List.getElem?_toArray, List.getElem?_cons_zero, List.getElem?_cons_succ] at fx0 fx1 fy0 fy1
  go_wp2_with fail
  refine (zmul_v (z := p1) (L9.out.get (A := A4) (c := c4) (xs := (digs (va).natAbs)) (by simp)) (L9.out.get (A := A5) (c := c5) (xs := (digs (vb).natAbs)) (by simp)) (sg_z _) (sg_z _) (le6 lbva.out) (le6 lbvb.out) HP1.out).mono ?_
  rintro e w10 ⟨A10, c10, rfl, hd, hb⟩
  have L10 := Lib.hid ((L9.out.step hb).add hd)
  have Rx_10 := Lib.hid (cells_of Rx_9.out hb)
  have Ry_10 := Lib.hid (cells_of Ry_9.out hb)
  clear fx0 fx1 xx fy0 fy1 xy
  clear hb hd
  go_wp2_with fail
  refine (zsmall_z (q := p1) (ok := true) (L10.out.get (A := A10) (c := c10) (xs := (digs (p1).natAbs)) (by simp)) (sg_z _) (le6 lbp1.out) SP1.out.1 SP1.out.2).mono ?_
  rintro e w11 ⟨rfl, hb⟩
  have L11 := Lib.hid (L10.out.step hb)
  have Rx_11 := Lib.hid (cells_of Rx_10.out hb)
  have Ry_11 := Lib.hid (cells_of Ry_10.out hb)
  clear hb 
  have fx0 := cell_of_row w11 _ 0 _ _ _ Rx_11.out
  have fx1 := cell_of_row w11 _ 1 _ _ _ Rx_11.out
  have xx := heap_lt Rx_11.out
  have fy0 := cell_of_row w11 _ 0 _ _ _ Ry_11.out
  have fy1 := cell_of_row w11 _ 1 _ _ _ Ry_11.out
  have xy := heap_lt Ry_11.out
  simp only [List.getElem?_toArray, List.getElem?_cons_zero, List.getElem?_cons_succ] at fx0 fx1 fy0 fy1
  go_wp2_with fail
  refine (zdiv_z (u := dq) (v := dr) (L11.out.get (A := A4) (c := c4) (xs := (digs (va).natAbs)) (by simp)) (L11.out.get (A := A5) (c := c5) (xs := (digs (vb).natAbs)) (by simp)) (sg_z _) (sg_z _) (le6 lbva.out) (le6 lbvb.out) VB.out HDQ.out HDR.out).mono ?_
  rintro e w12 ⟨A12, c12, B12, d12, rfl, hd, hd', hb⟩
  have L12 := Lib.hid (((L11.out.step hb).add hd).add hd')
  have Rx_12 := Lib.hid (cells_of Rx_11.out hb)
  have Ry_12 := Lib.hid (cells_of Ry_11.out hb)
  clear fx0 fx1 xx fy0 fy1 xy
  clear hb hd hd'
  go_wp2_with fail
  obtain ⟨w13, hW⟩ : ∃ W : World, W = ((w12.alloc (.cells #[.bool (decide (dq < 0)), .slice A12 (digs dq.natAbs).length c12] 24)).alloc (.cells #[.bool (decide (dr < 0)), .slice B12 (digs dr.natAbs).length d12] 24)) := ⟨_, rfl⟩
  rw [← hW]
  have hb : Below w12.heap.size w12 w13 := by rw [hW]; exact below2 _ _ _
  have L13 := Lib.hid (L12.out.step hb)
  have Rx_13 := Lib.hid (cells_of Rx_12.out hb)
  have Ry_13 := Lib.hid (cells_of Ry_12.out hb)
  have Rq_13 := Lib.hid (show w13.heap[w12.heap.size]? = some (.cells #[.bool (decide (dq < 0)), .slice A12 (digs dq.natAbs).length c12] 24 (0, 0)) by rw [hW]; exact heap_alloc2_old _ _ _)
  have Rr_13 := Lib.hid (show w13.heap[w12.heap.size + 1]? = some (.cells #[.bool (decide (dr < 0)), .slice B12 (digs dr.natAbs).length d12] 24 (0, 0)) by rw [hW]; exact heap_alloc2_new _ _ _)
  clear hW hb
  have fx0 := cell_of_row w13 _ 0 _ _ _ Rx_13.out
  have fx1 := cell_of_row w13 _ 1 _ _ _ Rx_13.out
  have xx := heap_lt Rx_13.out
  simp only [List.getElem?_toArray, List.getElem?_cons_zero, List.getElem?_cons_succ] at fx0 fx1
  have KD := Lib.hid (bd0 w13)
  have LD := Lib.hid (L13.out.step KD.out)
  go_region_held3 (fun w' => ∀ b o, b < w13.heap.size → w'.cell? ⟨b, o, none⟩ = w13.cell? ⟨b, o, none⟩)
    (first | with_reducible exact (bcell KD.out).1 | with_reducible exact (bcell K15.out).1 | with_reducible exact (bcell K16.out).1 | with_reducible exact (bcell K17.out).1)
    (first
      | (go_at_call_of 21 A4; (with_reducible refine (zneg_v (z := k1) (LD.out.get (A := A4) (c := c4) (xs := (digs (va).natAbs)) (by simp)) (sg_z _) (le6 lbva.out) HK1.out).mono ?_); rintro e w15 ⟨A15, c15, rfl, hd, hb⟩; (have K15 := Lib.hid (KD.out.trans (hb.mono KD.out.size))); (have L15 := Lib.hid ((LD.out.step hb).add hd)); clear hb hd)
      | (go_at_call_of 21 A15; (with_reducible refine (zneg_v (z := k2) (L15.out.get (A := A15) (c := c15) (xs := (digs (k1).natAbs)) (by simp)) (sg_z _) (le6 lbk1.out) HK2.out).mono ?_); rintro e w16 ⟨A16, c16, rfl, hd, hb⟩; (have K16 := Lib.hid (K15.out.trans (hb.mono K15.out.size))); (have L16 := Lib.hid ((L15.out.step hb).add hd)); clear hb hd)
      | (go_at_call 14; (with_reducible refine (same_z (x := k2) (y := va) (L16.out.get (A := A16) (c := c16) (xs := (digs (k2).natAbs)) (by simp)) (L16.out.get (A := A4) (c := c4) (xs := (digs (va).natAbs)) (by simp)) (Nat.le_trans lbk2.out (by omega)) EB.out).mono ?_); rintro e w17 ⟨rfl, hb⟩; (have K17 := Lib.hid (K16.out.trans (hb.mono K16.out.size))); (have L17 := Lib.hid (L16.out.step hb)); clear hb ))
  clear fx0 fx1 xx
  have Rx_17 := Lib.hid (cells_of Rx_13.out K17.out)
  have Ry_17 := Lib.hid (cells_of Ry_13.out K17.out)
  have Rq_17 := Lib.hid (cells_of Rq_13.out K17.out)
  have Rr_17 := Lib.hid (cells_of Rr_13.out K17.out)
  clear KD LD
  have fq0 := cell_of_row w17 _ 0 _ _ _ Rq_17.out
  have fq1 := cell_of_row w17 _ 1 _ _ _ Rq_17.out
  have xq := heap_lt Rq_17.out
  simp only [List.getElem?_toArray, List.getElem?_cons_zero, List.getElem?_cons_succ] at fq0 fq1
  go_wp2_with fail
  refine (zsmall_z (q := dq) (ok := true) (L17.out.get (A := A12) (c := c12) (xs := (digs (dq).natAbs)) (by simp)) (sg_z _) (le6 lbdq.out) SDQ.out.1 SDQ.out.2).mono ?_
  rintro e w18 ⟨rfl, hb⟩
  have L18 := Lib.hid (L17.out.step hb)
  have Rx_18 := Lib.hid (cells_of Rx_17.out hb)
  have Ry_18 := Lib.hid (cells_of Ry_17.out hb)
  have Rq_18 := Lib.hid (cells_of Rq_17.out hb)
  have Rr_18 := Lib.hid (cells_of Rr_17.out hb)
  clear fq0 fq1 xq
  clear hb 
  have fr0 := cell_of_row w18 _ 0 _ _ _ Rr_18.out
  have fr1 := cell_of_row w18 _ 1 _ _ _ Rr_18.out
  have xr := heap_lt Rr_18.out
  simp only [List.getElem?_toArray, List.getElem?_cons_zero, List.getElem?_cons_succ] at fr0 fr1
  go_wp2_with fail
  refine (zsmall_z (q := dr) (ok := true) (L18.out.get (A := B12) (c := d12) (xs := (digs (dr).natAbs)) (by simp)) (sg_z _) (le6 lbdr.out) SDR.out.1 SDR.out.2).mono ?_
  rintro e w19 ⟨rfl, hb⟩
  have L19 := Lib.hid (L18.out.step hb)
  have Rx_19 := Lib.hid (cells_of Rx_18.out hb)
  have Ry_19 := Lib.hid (cells_of Ry_18.out hb)
  have Rq_19 := Lib.hid (cells_of Rq_18.out hb)
  have Rr_19 := Lib.hid (cells_of Rr_18.out hb)
  clear fr0 fr1 xr
  clear hb 
  go_wp2
  go_ret
  exact ⟨rfl, L19.out.1⟩
end Go.Proofs.YthgkdpfkaobgoaaDoor
end
