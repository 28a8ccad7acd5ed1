import Derived.Test.YthgkdpfkaobgoaaDoorM3
import Derived.Test.YthgkdpfkaobgoaaDoorM4
import Derived.Test.YthgkdpfkaobgoaaDoorM5
import Derived.Test.YthgkdpfkaobgoaaDoorRows
import Derived.Test.YthgkdpfkaobgoaaDoorM0
import Derived.WalkKit
import Derived.ProofKit
import Derived.OpenShut
import Derived.ChangeSame
import Derived.LaidMore
import Derived.Stop.Joined
import Derived.Stop.LaidErr
import Derived.Lib.SmallJoins
section
/-
  What a law's walk calls, by whole numbers: each contract at numbers that are told by a sign and digits.
-/
namespace Go.Proofs.YthgkdpfkaobgoaaDoor
open Go.RowKit
theorem zlen_add (x y : Int) : (digs (x + y).natAbs).length ≤ max (digs x.natAbs).length (digs y.natAbs).length + 1 :=
  Nat.le_trans (digs_len_mono _ _ (by omega : (x + y).natAbs ≤ x.natAbs + y.natAbs)) (digs_add_len _ _)
theorem zlen_sub (x y : Int) : (digs (x - y).natAbs).length ≤ max (digs x.natAbs).length (digs y.natAbs).length + 1 :=
  Nat.le_trans (digs_len_mono _ _ (by omega : (x - y).natAbs ≤ x.natAbs + y.natAbs)) (digs_add_len _ _)
theorem zlen_mul (x y : Int) : (digs (x * y).natAbs).length ≤ (digs x.natAbs).length + (digs y.natAbs).length := by
  rw [Int.natAbs_mul]; exact digs_mul_len _ _
theorem zlen_neg (x : Int) : (digs (-x).natAbs).length = (digs x.natAbs).length := by rw [Int.natAbs_neg]
theorem zlen_raw {s : Bool} {xs : List Nat} {x : Int} (hk : ok32 xs) (h : sg s (val xs) = x) : (digs x.natAbs).length ≤ xs.length := by
  rw [← h, sg_abs]; exact digs_len_le hk
theorem sg_z (z : Int) : sg (decide (z < 0)) (val (digs z.natAbs)) = z := sg_dec z
section
variable {A B : Option Addr} {c d n m : Nat} {s r : Bool} {xs ys : List Nat} {x y : Int} {w : World}
theorem zadd_z (h : Dg w A c xs) (h' : Dg w B d ys) (hx : sg s (val xs) = x) (hy : sg r (val ys) = y) (hl : xs.length ≤ 1000000) (hl' : ys.length ≤ 1000000) :
    Calls Tryd.prog 15 #[.agg #[.bool s, .slice A xs.length c], .agg #[.bool r, .slice B ys.length d]] w fun e w' => Zr (x + y) w e w' := by
  subst hx hy; exact zadd_any A B c d s r xs ys w h h' hl hl'
theorem rzadd_z (h : Dg w A c xs) (h' : Dg w B d ys) (hx : sg s (val xs) = x) (hy : sg r (val ys) = y) (hl : xs.length ≤ 900000) (hl' : ys.length ≤ 900000) :
    Calls Tryd.prog 16 #[.agg #[.bool s, .slice A xs.length c], .agg #[.bool r, .slice B ys.length d]] w fun e w' => Zr (x + y) w e w' := by
  subst hx hy; exact rzadd_any A B c d s r xs ys w h h' hl hl'
theorem zsub_z (h : Dg w A c xs) (h' : Dg w B d ys) (hx : sg s (val xs) = x) (hy : sg r (val ys) = y) (hl : xs.length ≤ 1000000) (hl' : ys.length ≤ 1000000) :
    Calls Tryd.prog 17 #[.agg #[.bool s, .slice A xs.length c], .agg #[.bool r, .slice B ys.length d]] w fun e w' => Zr (x - y) w e w' := by
  subst hx hy; exact zsub_any A B c d s r xs ys w h h' hl hl'
theorem rzsub_z (h : Dg w A c xs) (h' : Dg w B d ys) (hx : sg s (val xs) = x) (hy : sg r (val ys) = y) (hl : xs.length ≤ 900000) (hl' : ys.length ≤ 900000) :
    Calls Tryd.prog 18 #[.agg #[.bool s, .slice A xs.length c], .agg #[.bool r, .slice B ys.length d]] w fun e w' => Zr (x - y) w e w' := by
  subst hx hy; exact rzsub_any A B c d s r xs ys w h h' hl hl'
theorem zmul_z (h : Dg w A c xs) (h' : Dg w B d ys) (hx : sg s (val xs) = x) (hy : sg r (val ys) = y) (hl : xs.length ≤ 500000) (hl' : ys.length ≤ 500000) :
    Calls Tryd.prog 19 #[.agg #[.bool s, .slice A xs.length c], .agg #[.bool r, .slice B ys.length d]] w fun e w' => Zr (x * y) w e w' := by
  subst hx hy; exact zmul_any A B c d s r xs ys w h h' hl hl'
theorem rzmul_z (h : Dg w A c xs) (h' : Dg w B d ys) (hx : sg s (val xs) = x) (hy : sg r (val ys) = y) (hl : xs.length ≤ 400000) (hl' : ys.length ≤ 400000) :
    Calls Tryd.prog 20 #[.agg #[.bool s, .slice A xs.length c], .agg #[.bool r, .slice B ys.length d]] w fun e w' => Zr (x * y) w e w' := by
  subst hx hy; exact rzmul_any A B c d s r xs ys w h h' hl hl'
theorem zneg_z (h : Dg w A c xs) (hx : sg s (val xs) = x) (hl : xs.length ≤ 1000000) :
    Calls Tryd.prog 21 #[.agg #[.bool s, .slice A xs.length c]] w fun e w' => Zr (-x) w e w' := by
  subst hx; exact zneg_any A c s xs w h hl
theorem rzneg_z (h : Dg w A c xs) (hx : sg s (val xs) = x) (hl : xs.length ≤ 1000000) :
    Calls Tryd.prog 22 #[.agg #[.bool s, .slice A xs.length c]] w fun e w' => Zr (-x) w e w' := by
  subst hx; exact rneg_any A c s xs w h hl
theorem zmake_z (h : Dg w A c xs) (hx : sg s (val xs) = x) (hl : xs.length ≤ 1000000) :
    Calls Tryd.prog 25 #[.bool s, .slice A xs.length c] w fun e w' => Zr x w e w' := by
  subst hx; exact zmake_any A c s xs w h hl
theorem rzmake_z (h : Dg w A c xs) (hx : sg s (val xs) = x) (hl : xs.length ≤ 1000000) :
    Calls Tryd.prog 26 #[.bool s, .slice A xs.length c] w fun e w' => Zr x w e w' := by
  subst hx; exact rmake_any A c s xs w h hl
theorem zfrom_z {i : Int} (hx : i = x) (h0 : -9223372036854775808 ≤ x) (h1 : x ≤ 9223372036854775807) :
    Calls Tryd.prog 23 #[.int .i64 i] w fun e w' => Zr x w e w' := by
  subst hx; exact zfrom_any i w h0 h1
theorem rzfrom_z {i : Int} (hx : i = x) (h0 : -9223372036854775808 ≤ x) (h1 : x ≤ 9223372036854775807) :
    Calls Tryd.prog 24 #[.int .i64 i] w fun e w' => Zr x w e w' := by
  subst hx; exact rzfrom_any i w h0 h1
theorem zcmp_z {q : Int} (h : Dg w A c xs) (h' : Dg w B d ys) (hx : sg s (val xs) = x) (hy : sg r (val ys) = y) (hl : xs.length ≤ 1000000) (hl' : ys.length ≤ 1000000) (hq : Int.sign (x - y) = q) :
    Calls Tryd.prog 29 #[.agg #[.bool s, .slice A xs.length c], .agg #[.bool r, .slice B ys.length d]] w fun e w' => e = .returned (.int .i64 q) ∧ Below w.heap.size w w' := by
  subst hq hx hy; exact zcmp_any A B c d s r xs ys w h h' hl hl'
theorem rzcmp_z {q : Int} (h : Dg w A c xs) (h' : Dg w B d ys) (hx : sg s (val xs) = x) (hy : sg r (val ys) = y) (hl : xs.length ≤ 1000000) (hl' : ys.length ≤ 1000000) (hq : Int.sign (x - y) = q) :
    Calls Tryd.prog 30 #[.agg #[.bool s, .slice A xs.length c], .agg #[.bool r, .slice B ys.length d]] w fun e w' => e = .returned (.int .i64 q) ∧ Below w.heap.size w w' := by
  subst hq hx hy; exact rzcmp_any A B c d s r xs ys w h h' hl hl'
theorem zdiv_z {u v : Int} (h : Dg w A c xs) (h' : Dg w B d ys) (hx : sg s (val xs) = x) (hy : sg r (val ys) = y) (hl : xs.length ≤ 500000) (hl' : ys.length ≤ 500000) (y0 : y ≠ 0) (hu : Int.fdiv x y = u) (hv : Int.fmod x y = v) :
    Calls Tryd.prog 33 #[.agg #[.bool s, .slice A xs.length c], .agg #[.bool r, .slice B ys.length d]] w fun e w' => Zr2 u v w e w' := by
  subst hu hv hx hy; exact zdiv_any A B c d s r xs ys w h h' hl hl' (fun e => y0 (by rw [e]; unfold sg; cases r <;> rfl))
theorem zdiv_z_no (h : Dg w A c xs) (h' : Dg w B d ys) (hy : sg r (val ys) = 0) (hl : xs.length ≤ 500000) (hl' : ys.length ≤ 500000) :
    Calls Tryd.prog 33 #[.agg #[.bool s, .slice A xs.length c], .agg #[.bool r, .slice B ys.length d]] w fun e w' => e = .returned (.tuple #[.agg #[.bool false, .slice none 0 0], .agg #[.bool false, .slice none 0 0], .bool false]) ∧ Below w.heap.size w w' :=
  zdiv_no A B c d s r xs ys w h h' hl hl' (by have := sg_abs r (val ys); rw [hy] at this; simpa using this.symm)
theorem rzdiv_z {u v : Int} (h : Dg w A c xs) (h' : Dg w B d ys) (hx : sg s (val xs) = x) (hy : sg r (val ys) = y) (hl : xs.length ≤ 100000) (hl' : ys.length ≤ 100000) (y0 : y ≠ 0) (hu : Int.fdiv x y = u) (hv : Int.fmod x y = v) :
    Calls Tryd.prog 34 #[.agg #[.bool s, .slice A xs.length c], .agg #[.bool r, .slice B ys.length d]] w fun e w' => Zr2 u v w e w' := by
  subst hu hv hx hy; exact rzdiv_any A B c d s r xs ys w h h' hl hl' (fun e => y0 (by rw [e]; unfold sg; cases r <;> rfl))
theorem rzdiv_z_no (h : Dg w A c xs) (h' : Dg w B d ys) (hy : sg r (val ys) = 0) (hl : xs.length ≤ 100000) (hl' : ys.length ≤ 100000) :
    Calls Tryd.prog 34 #[.agg #[.bool s, .slice A xs.length c], .agg #[.bool r, .slice B ys.length d]] w fun e w' => e = .returned (.tuple #[.agg #[.bool false, .slice none 0 0], .agg #[.bool false, .slice none 0 0], .bool false]) ∧ Below w.heap.size w w' :=
  rzdiv_no A B c d s r xs ys w h h' hl hl' (by have := sg_abs r (val ys); rw [hy] at this; simpa using this.symm)
theorem zsmall_z {q : Int} {ok : Bool} (h : Dg w A c xs) (hx : sg s (val xs) = x) (hl : xs.length ≤ 1000000) (hq : smallz x = q) (hok : smallb x = ok) :
    Calls Tryd.prog 27 #[.agg #[.bool s, .slice A xs.length c]] w fun e w' => e = .returned (.tuple #[.int .i64 q, .bool ok]) ∧ Below w.heap.size w w' := by
  subst hx; exact zsmall_any A c s xs w h hl q ok hq hok
theorem rzsmall_z {q : Int} {ok : Bool} (h : Dg w A c xs) (hx : sg s (val xs) = x) (hl : xs.length ≤ 1000000) (hq : smallz x = q) (hok : smallb x = ok) :
    Calls Tryd.prog 28 #[.agg #[.bool s, .slice A xs.length c]] w fun e w' => e = .returned (.tuple #[.int .i64 q, .bool ok]) ∧ Below w.heap.size w w' := by
  subst hx; exact rzsmall_any A c s xs w h hl q ok hq hok
theorem zadd_v {z : Int} (h : Dg w A c xs) (h' : Dg w B d ys) (hx : sg s (val xs) = x) (hy : sg r (val ys) = y) (hl : xs.length ≤ 1000000) (hl' : ys.length ≤ 1000000) (hz : x + y = z) :
    Calls Tryd.prog 15 #[.agg #[.bool s, .slice A xs.length c], .agg #[.bool r, .slice B ys.length d]] w fun e w' => Zr z w e w' := by
  subst hz; exact zadd_z h h' hx hy hl hl'
theorem rzadd_v {z : Int} (h : Dg w A c xs) (h' : Dg w B d ys) (hx : sg s (val xs) = x) (hy : sg r (val ys) = y) (hl : xs.length ≤ 900000) (hl' : ys.length ≤ 900000) (hz : x + y = z) :
    Calls Tryd.prog 16 #[.agg #[.bool s, .slice A xs.length c], .agg #[.bool r, .slice B ys.length d]] w fun e w' => Zr z w e w' := by
  subst hz; exact rzadd_z h h' hx hy hl hl'
theorem zsub_v {z : Int} (h : Dg w A c xs) (h' : Dg w B d ys) (hx : sg s (val xs) = x) (hy : sg r (val ys) = y) (hl : xs.length ≤ 1000000) (hl' : ys.length ≤ 1000000) (hz : x - y = z) :
    Calls Tryd.prog 17 #[.agg #[.bool s, .slice A xs.length c], .agg #[.bool r, .slice B ys.length d]] w fun e w' => Zr z w e w' := by
  subst hz; exact zsub_z h h' hx hy hl hl'
theorem rzsub_v {z : Int} (h : Dg w A c xs) (h' : Dg w B d ys) (hx : sg s (val xs) = x) (hy : sg r (val ys) = y) (hl : xs.length ≤ 900000) (hl' : ys.length ≤ 900000) (hz : x - y = z) :
    Calls Tryd.prog 18 #[.agg #[.bool s, .slice A xs.length c], .agg #[.bool r, .slice B ys.length d]] w fun e w' => Zr z w e w' := by
  subst hz; exact rzsub_z h h' hx hy hl hl'
theorem zmul_v {z : Int} (h : Dg w A c xs) (h' : Dg w B d ys) (hx : sg s (val xs) = x) (hy : sg r (val ys) = y) (hl : xs.length ≤ 500000) (hl' : ys.length ≤ 500000) (hz : x * y = z) :
    Calls Tryd.prog 19 #[.agg #[.bool s, .slice A xs.length c], .agg #[.bool r, .slice B ys.length d]] w fun e w' => Zr z w e w' := by
  subst hz; exact zmul_z h h' hx hy hl hl'
theorem rzmul_v {z : Int} (h : Dg w A c xs) (h' : Dg w B d ys) (hx : sg s (val xs) = x) (hy : sg r (val ys) = y) (hl : xs.length ≤ 400000) (hl' : ys.length ≤ 400000) (hz : x * y = z) :
    Calls Tryd.prog 20 #[.agg #[.bool s, .slice A xs.length c], .agg #[.bool r, .slice B ys.length d]] w fun e w' => Zr z w e w' := by
  subst hz; exact rzmul_z h h' hx hy hl hl'
theorem zneg_v {z : Int} (h : Dg w A c xs) (hx : sg s (val xs) = x) (hl : xs.length ≤ 1000000) (hz : -x = z) :
    Calls Tryd.prog 21 #[.agg #[.bool s, .slice A xs.length c]] w fun e w' => Zr z w e w' := by
  subst hz; exact zneg_z h hx hl
theorem rzneg_v {z : Int} (h : Dg w A c xs) (hx : sg s (val xs) = x) (hl : xs.length ≤ 1000000) (hz : -x = z) :
    Calls Tryd.prog 22 #[.agg #[.bool s, .slice A xs.length c]] w fun e w' => Zr z w e w' := by
  subst hz; exact rzneg_z h hx hl
theorem same_z {x y : Int} (h : Dg w A c (digs x.natAbs)) (h' : Dg w B d (digs y.natAbs)) (hl : (digs x.natAbs).length ≤ 16777216) (he : x = y) :
    Calls Tryd.prog 14 #[.agg #[.bool (decide (x < 0)), .slice A (digs x.natAbs).length c], .agg #[.bool (decide (y < 0)), .slice B (digs y.natAbs).length d]] w fun e w' => e = .returned (.bool true) ∧ Below w.heap.size w w' := by
  subst he; exact same_any A B c d _ _ w h h' hl
end
end Go.Proofs.YthgkdpfkaobgoaaDoor
end

section
/-
  The law's own 'examples' of chapter 4.
-/
namespace Go.Proofs.YthgkdpfkaobgoaaDoor
open Go.RowKit
theorem is_z (n : Int) : ∃ z : Int, n = z := ⟨n, rfl⟩
set_option maxHeartbeats 8000000 in
set_option maxRecDepth 100000 in
theorem examples_any (w : World) (htab : P10 w) : Calls Tryd.prog 12 #[] w fun e w' => e = .returned (.bool true) ∧ Below w.heap.size w w' := by
  have HT := Lib.hid htab
  clear htab
  obtain ⟨z1, h1⟩ := is_z (-7)
  obtain ⟨z2, h2⟩ := is_z 2
  obtain ⟨z4, h4⟩ := is_z (-4)
  obtain ⟨z0, h0⟩ := is_z 1
  obtain ⟨z5, h5⟩ := is_z (-5)
  obtain ⟨z6, h6⟩ := is_z (-9223372036854775808)
  obtain ⟨z7, h7⟩ := is_z (-120)
  have D1 := digs_one (a := 1) (by omega) (by omega)
  have D2 := digs_one (a := 2) (by omega) (by omega)
  have D4 := digs_one (a := 4) (by omega) (by omega)
  have D5 := digs_one (a := 5) (by omega) (by omega)
  have D7 := digs_one (a := 7) (by omega) (by omega)
  have D120 := digs_one (a := 120) (by omega) (by omega)
  have HQ := Lib.hid (show Int.fdiv z1 z2 = z4 by rw [← h1, ← h2, ← h4]; decide)
  have HR := Lib.hid (show Int.fmod z1 z2 = z0 by rw [← h1, ← h2, ← h0]; decide)
  have b1 : (digs z1.natAbs).length ≤ 1 := by rw [← h1]; show (digs 7).length ≤ 1; rw [D7]; simp
  have b2 : (digs z2.natAbs).length ≤ 1 := by rw [← h2]; show (digs 2).length ≤ 1; rw [D2]; simp
  have b4 : (digs z4.natAbs).length ≤ 1 := by rw [← h4]; show (digs 4).length ≤ 1; rw [D4]; simp
  have b0 : (digs z0.natAbs).length ≤ 1 := by rw [← h0]; show (digs 1).length ≤ 1; rw [D1]; simp
  have b5 : (digs z5.natAbs).length ≤ 1 := by rw [← h5]; show (digs 5).length ≤ 1; rw [D5]; simp
  have b6 : (digs z6.natAbs).length ≤ 2 := by rw [← h6]; exact digs_small (by decide)
  have b7 : (digs z7.natAbs).length ≤ 1 := by rw [← h7]; show (digs 120).length ≤ 1; rw [D120]; simp
  have HS := Lib.hid (show smallz z6 = z6 ∧ smallb z6 = true by rw [← h6]; decide)
  have HBY := Lib.hid (show rightB (decide (z5 < 0)) (digs z5.natAbs) = true ∧ zbytes (decide (z5 < 0)) (digs z5.natAbs) = [0, 3, 5, 0, 0, 0] by
    rw [← h5]
    show rightB true (digs 5) = true ∧ zbytes true (digs 5) = [0, 3, 5, 0, 0, 0]
    rw [D5]; decide)
  have HTX := Lib.hid (show 0 < val (digs z7.natAbs) ∧ val (digs z7.natAbs) < 1000000000 ∧ textOne (decide (z7 < 0)) (val (digs z7.natAbs)) = [45, 49, 50, 48] by
    rw [val_digs, ← h7]
    refine ⟨by decide, by decide, ?_⟩
    show textOne true 120 = _
    unfold textOne
    rw [Lib.decDigits, dif_neg (by omega), Lib.decDigits_two (by omega) (by omega)]
    decide)
  have HZ := Lib.hid (And.intro h1 (And.intro h2 (And.intro h4 (And.intro h0 (And.intro h5 (And.intro h6 h7))))))
  clear D1 D2 D4 D5 D7 D120 h1 h2 h4 h0 h5 h6 h7
  go_enter Tryd.func12, Tryd.ntmps12
  have L0 := Lib.hid (live_start w)
  go_wp2_with fail
  refine (zfrom_z (x := z1) HZ.out.1 (by have := HZ.out.1; omega) (by have := HZ.out.1; omega)).mono ?_
  rintro e w1 ⟨A1, c1, rfl, hd, hb⟩
  have L1 := Lib.hid ((L0.out.step hb).add hd)
  clear hb hd
  go_wp2_with fail
  refine (zfrom_z (x := z2) HZ.out.2.1 (by have := HZ.out.2.1; omega) (by have := HZ.out.2.1; omega)).mono ?_
  rintro e w2 ⟨A2, c2, rfl, hd, hb⟩
  have L2 := Lib.hid ((L1.out.step hb).add hd)
  clear hb hd
  go_wp2_with fail
  refine (zdiv_z (x := z1) (y := z2) (u := z4) (v := z0) (L2.out.get (by simp)) (L2.out.get (by simp)) (sg_z _) (sg_z _) (by omega) (by omega) (by have := HZ.out.2.1; omega) HQ.out HR.out).mono ?_
  rintro e w3 ⟨A3, c3, B3, d3, rfl, hd, hd', hb⟩
  have L3 := Lib.hid (((L2.out.step hb).add hd).add hd')
  clear hb hd hd'
  go_wp2_with fail
  obtain ⟨w4, hW⟩ : ∃ W : World, W = ((w3.alloc (.cells #[.bool (decide (z4 < 0)), .slice A3 (digs z4.natAbs).length c3] 24)).alloc (.cells #[.bool (decide (z0 < 0)), .slice B3 (digs z0.natAbs).length d3] 24)) := ⟨_, rfl⟩
  rw [← hW]
  have hb : Below w3.heap.size w3 w4 := by rw [hW]; exact below2 _ _ _
  have L4 := Lib.hid (L3.out.step hb)
  have Rq_4 := Lib.hid (show w4.heap[w3.heap.size]? = some (.cells #[.bool (decide (z4 < 0)), .slice A3 (digs z4.natAbs).length c3] 24 (0, 0)) by rw [hW]; exact heap_alloc2_old _ _ _)
  have Rr_4 := Lib.hid (show w4.heap[w3.heap.size + 1]? = some (.cells #[.bool (decide (z0 < 0)), .slice B3 (digs z0.natAbs).length d3] 24 (0, 0)) by rw [hW]; exact heap_alloc2_new _ _ _)
  clear hW hb
  go_wp2_with fail
  have fq0 := cell_of_row w4 _ 0 _ _ _ Rq_4.out
  have fq1 := cell_of_row w4 _ 1 _ _ _ Rq_4.out
  have xq := heap_lt Rq_4.out
  simp only [List.getElem?_toArray, List.getElem?_cons_zero, List.getElem?_cons_succ] at fq0 fq1
  have KD := Lib.hid (bd0 w4)
  have LD := Lib.hid (L4.out.step KD.out)
  go_region_held3 (fun w' => ∀ b o, b < w4.heap.size → w'.cell? ⟨b, o, none⟩ = w4.cell? ⟨b, o, none⟩)
    (first | with_reducible exact (bcell KD.out).1 | with_reducible exact (bcell K6.out).1 | with_reducible exact (bcell K7.out).1)
    (first
      | (go_at_call 23; (with_reducible refine (zfrom_z (x := z4) HZ.out.2.2.1 (by have := HZ.out.2.2.1; omega) (by have := HZ.out.2.2.1; omega)).mono ?_); rintro e w6 ⟨A6, c6, rfl, hd, hb⟩; (have K6 := Lib.hid (KD.out.trans (hb.mono KD.out.size))); (have L6 := Lib.hid ((LD.out.step hb).add hd)); clear hb hd)
      | (go_at_call 14; (with_reducible refine (same_z (x := z4) (y := z4) (L6.out.get (by simp)) (L6.out.get (by simp)) (by omega) rfl).mono ?_); rintro e w7 ⟨rfl, hb⟩; (have K7 := Lib.hid (K6.out.trans (hb.mono K6.out.size))); (have L7 := Lib.hid (L6.out.step hb)); clear hb ))
  clear fq0 fq1 xq
  have Rq_7 := Lib.hid (cells_of Rq_4.out K7.out)
  have Rr_7 := Lib.hid (cells_of Rr_4.out K7.out)
  clear KD LD
  go_wp2_with fail
  have fr0 := cell_of_row w7 _ 0 _ _ _ Rr_7.out
  have fr1 := cell_of_row w7 _ 1 _ _ _ Rr_7.out
  have xr := heap_lt Rr_7.out
  simp only [List.getElem?_toArray, List.getElem?_cons_zero, List.getElem?_cons_succ] at fr0 fr1
  have KD := Lib.hid (bd0 w7)
  have LD := Lib.hid (L7.out.step KD.out)
  go_region_held3 (fun w' => ∀ b o, b < w7.heap.size → w'.cell? ⟨b, o, none⟩ = w7.cell? ⟨b, o, none⟩)
    (first | with_reducible exact (bcell KD.out).1 | with_reducible exact (bcell K9.out).1 | with_reducible exact (bcell K10.out).1)
    (first
      | (go_at_call 23; (with_reducible refine (zfrom_z (x := z0) HZ.out.2.2.2.1 (by have := HZ.out.2.2.2.1; omega) (by have := HZ.out.2.2.2.1; omega)).mono ?_); rintro e w9 ⟨A9, c9, rfl, hd, hb⟩; (have K9 := Lib.hid (KD.out.trans (hb.mono KD.out.size))); (have L9 := Lib.hid ((LD.out.step hb).add hd)); clear hb hd)
      | (go_at_call 14; (with_reducible refine (same_z (x := z0) (y := z0) (L9.out.get (by simp)) (L9.out.get (by simp)) (by omega) rfl).mono ?_); rintro e w10 ⟨rfl, hb⟩; (have K10 := Lib.hid (K9.out.trans (hb.mono K9.out.size))); (have L10 := Lib.hid (L9.out.step hb)); clear hb ))
  clear fr0 fr1 xr
  have Rq_10 := Lib.hid (cells_of Rq_7.out K10.out)
  have Rr_10 := Lib.hid (cells_of Rr_7.out K10.out)
  clear KD LD
  go_wp2_with fail
  refine (zfrom_z (x := z5) HZ.out.2.2.2.2.1 (by have := HZ.out.2.2.2.2.1; omega) (by have := HZ.out.2.2.2.2.1; omega)).mono ?_
  rintro e w11 ⟨A11, c11, rfl, hd, hb⟩
  have L11 := Lib.hid ((L10.out.step hb).add hd)
  have Rq_11 := Lib.hid (cells_of Rq_10.out hb)
  have Rr_11 := Lib.hid (cells_of Rr_10.out hb)
  clear hb hd
  have BY := Lib.hid (zbytes_any A11 c11 (decide (z5 < 0)) (digs z5.natAbs) w11 (L11.out.get (by simp)) (by omega) HBY.out.1)
  rw [HBY.out.2] at BY
  go_wp2_with fail
  refine (BY.out).mono ?_
  rintro e w12 ⟨rfl, hb⟩
  have L12 := Lib.hid (L11.out.step hb)
  have Rq_12 := Lib.hid (cells_of Rq_11.out hb)
  have Rr_12 := Lib.hid (cells_of Rr_11.out hb)
  clear hb 
  clear BY
  go_wp2_with fail
  refine (zfrom_z (x := z6) HZ.out.2.2.2.2.2.1 (by have := HZ.out.2.2.2.2.2.1; omega) (by have := HZ.out.2.2.2.2.2.1; omega)).mono ?_
  rintro e w13 ⟨A13, c13, rfl, hd, hb⟩
  have L13 := Lib.hid ((L12.out.step hb).add hd)
  have Rq_13 := Lib.hid (cells_of Rq_12.out hb)
  have Rr_13 := Lib.hid (cells_of Rr_12.out hb)
  clear hb hd
  have Z6 := Lib.hid HZ.out.2.2.2.2.2.1
  have SM := Lib.hid (zsmall_z (x := z6) (q := -9223372036854775808) (ok := true) (L13.out.get (A := A13) (c := c13) (xs := digs z6.natAbs) (by simp)) (sg_z _) (by omega) (by rw [HS.out.1]; exact Z6.out.symm) HS.out.2)
  go_wp2_with fail
  refine (SM.out).mono ?_
  rintro e w14 ⟨rfl, hb⟩
  have L14 := Lib.hid (L13.out.step hb)
  have Rq_14 := Lib.hid (cells_of Rq_13.out hb)
  have Rr_14 := Lib.hid (cells_of Rr_13.out hb)
  clear hb 
  clear SM
  go_wp2_with fail
  refine (zfrom_z (x := z7) HZ.out.2.2.2.2.2.2 (by have := HZ.out.2.2.2.2.2.2; omega) (by have := HZ.out.2.2.2.2.2.2; omega)).mono ?_
  rintro e w15 ⟨A15, c15, rfl, hd, hb⟩
  have L15 := Lib.hid ((L14.out.step hb).add hd)
  have Rq_15 := Lib.hid (cells_of Rq_14.out hb)
  have Rr_15 := Lib.hid (cells_of Rr_14.out hb)
  clear hb hd
  have TX := Lib.hid (ztext_one A15 c15 (decide (z7 < 0)) (digs z7.natAbs) w15 (L15.out.get (by simp)) (by omega) HTX.out.1 HTX.out.2.1 (p10_below HT.out L15.out.1))
  rw [HTX.out.2.2] at TX
  go_wp2_with fail
  refine (TX.out).mono ?_
  rintro e w16 ⟨rfl, hb⟩
  have L16 := Lib.hid (L15.out.step hb)
  have Rq_16 := Lib.hid (cells_of Rq_15.out hb)
  have Rr_16 := Lib.hid (cells_of Rr_15.out hb)
  clear hb 
  clear TX
  go_wp2
  go_ret
  exact ⟨rfl, L16.out.1⟩
end Go.Proofs.YthgkdpfkaobgoaaDoor
end

section
/-
  Small words for the laws of chapter 4.
-/
namespace Go.Proofs.YthgkdpfkaobgoaaDoor
open Go.RowKit
theorem lshort_v {A : Option Addr} {c k : Nat} {s : Bool} {xs ts : List Nat} {w : World} (h : Dg w A c xs) (hk : k ≤ 1000000) (ht : xs.take k = ts) :
    Calls Tryd.prog 13 #[.agg #[.bool s, .slice A xs.length c], .int .i64 k] w fun e w' => e = .returned (.agg #[.bool s, .slice A ts.length c]) ∧ Below w.heap.size w w' := by
  subst ht; exact lshort_any A c k s xs w h hk
theorem le6 {n k : Nat} (h : n ≤ 100000) (hk : 100000 ≤ k := by omega) : n ≤ k := Nat.le_trans h hk
theorem below_n3 (w : World) (o1 o2 o3 : Obj) : Below w.heap.size w (((w.alloc o1).alloc o2).alloc o3) := below3 w o1 o2 o3
end Go.Proofs.YthgkdpfkaobgoaaDoor
end

section
/-
  A number of its own digits is right.
-/
namespace Go.Proofs.YthgkdpfkaobgoaaDoor
open Go.RowKit
set_option maxRecDepth 100000
theorem right_digs (x : Int) : rightB (decide (x < 0)) (digs x.natAbs) = true := by
  unfold rightB
  split
  · rename_i h
    have h0 : x.natAbs = 0 := by
      have := val_digs x.natAbs
      rw [List.length_eq_zero_iff.1 h] at this
      exact this.symm
    have : ¬ x < 0 := by omega
    simp [this]
  · rename_i h
    have hl : ∀ d, (digs x.natAbs)[(digs x.natAbs).length - 1]? = some d → d ≠ 0 := fun d hd => last_digs (n := x.natAbs) (by rw [List.getLast?_eq_getElem?]; exact hd)
    rcases hx : (digs x.natAbs)[(digs x.natAbs).length - 1]? with _ | d
    · rw [List.getElem?_eq_none_iff] at hx; omega
    · have := hl d hx
      simp [this]
theorem right_z {A : Option Addr} {c : Nat} {x : Int} {w : World} (h : Dg w A c (digs x.natAbs)) (hl : (digs x.natAbs).length ≤ 1000000) :
    Calls Tryd.prog 31 #[.agg #[.bool (decide (x < 0)), .slice A (digs x.natAbs).length c]] w fun e w' => e = .returned (.bool true) ∧ Below w.heap.size w w' :=
  right_any A c _ _ w h true (right_digs x) (by omega)
theorem right_w {A : Option Addr} {c : Nat} {s q : Bool} {xs : List Nat} {w : World} (h : Dg w A c xs) (hl : xs.length ≤ 9223372036854775807) (hq : rightB s xs = q) :
    Calls Tryd.prog 31 #[.agg #[.bool s, .slice A xs.length c]] w fun e w' => e = .returned (.bool q) ∧ Below w.heap.size w w' := right_any A c s xs w h q hq hl
theorem rright_w {A : Option Addr} {c : Nat} {s q : Bool} {xs : List Nat} {w : World} (h : Dg w A c xs) (hl : xs.length ≤ 9223372036854775807) (hq : rightB s xs = q) :
    Calls Tryd.prog 32 #[.agg #[.bool s, .slice A xs.length c]] w fun e w' => e = .returned (.bool q) ∧ Below w.heap.size w w' := rright_any A c s xs w h q hq hl
theorem zlen_64 {n : Int} (h0 : -9223372036854775808 ≤ n) (h1 : n ≤ 9223372036854775807) : (digs n.natAbs).length ≤ 2 := digs_small (n := n.natAbs) (by omega)
end Go.Proofs.YthgkdpfkaobgoaaDoor
end

section
/-
  The law ZintReckons of chapter 4, walked.
-/
namespace Go.Proofs.YthgkdpfkaobgoaaDoor
open Go.RowKit
set_option maxHeartbeats 16000000 in
set_option maxRecDepth 100000 in
theorem zreckons_any (Ax : Option Addr) (cx : Nat) (sx : Bool) (xsx : List Nat) (Ay : Option Addr) (cy : Nat) (sy : Bool) (xsy : List Nat) (n : Int) (n0 : -9223372036854775808 ≤ n) (n9 : n ≤ 9223372036854775807) (lx : xsx.length ≤ 9223372036854775807) (w : World) (hx : Dg w Ax cx xsx) (hy : Dg w Ay cy xsy) (htab : P10 w) :
    Calls Tryd.prog 3 #[.agg #[.bool sx, .slice Ax xsx.length cx], .agg #[.bool sy, .slice Ay xsy.length cy], .int .i64 n] w fun e w' => e = .returned (.bool true) ∧ Below w.heap.size w w' := by
  obtain ⟨tx, htx⟩ : ∃ t, xsx.take 40 = t := ⟨_, rfl⟩
  have blx : tx.length ≤ 40 := by rw [← htx]; exact List.length_take_le _ _
  have TTx := Lib.hid htx
  obtain ⟨vx, hvx⟩ := is_z (sg sx (val tx))
  have bzx : (digs vx.natAbs).length ≤ 40 := Nat.le_trans (zlen_raw (by rw [← htx]; exact (hx.take 40).2.1) hvx) blx
  have HVx := Lib.hid hvx
  clear hvx htx
  obtain ⟨ty, hty⟩ : ∃ t, xsy.take 40 = t := ⟨_, rfl⟩
  have bly : ty.length ≤ 40 := by rw [← hty]; exact List.length_take_le _ _
  have TTy := Lib.hid hty
  obtain ⟨vy, hvy⟩ := is_z (sg sy (val ty))
  have bzy : (digs vy.natAbs).length ≤ 40 := Nat.le_trans (zlen_raw (by rw [← hty]; exact (hy.take 40).2.1) hvy) bly
  have HVy := Lib.hid hvy
  clear hvy hty
  have N0 := Lib.hid n0
  have N9 := Lib.hid n9
  have LX := Lib.hid lx
  clear n0 n9 lx
  obtain ⟨n1, hn1⟩ := is_z (vx + vy)
  have bn1 : (digs n1.natAbs).length ≤ 41 := by rw [← hn1]; have := zlen_add vx vy; omega
  have HN1 := Lib.hid hn1
  clear hn1
  obtain ⟨n2, hn2⟩ := is_z (vx - vy)
  have bn2 : (digs n2.natAbs).length ≤ 41 := by rw [← hn2]; have := zlen_sub vx vy; omega
  have HN2 := Lib.hid hn2
  clear hn2
  obtain ⟨m1, hm1⟩ := is_z (vx * vy)
  have bm1 : (digs m1.natAbs).length ≤ 80 := by rw [← hm1]; have := zlen_mul vx vy; omega
  have HM1 := Lib.hid hm1
  clear hm1
  obtain ⟨k1, hk1⟩ := is_z (-vx)
  have bk1 : (digs k1.natAbs).length ≤ 40 := by rw [← hk1]; have := zlen_neg vx; omega
  have HK1 := Lib.hid hk1
  clear hk1
  obtain ⟨f1, hf1⟩ := is_z n
  have bf1 : (digs f1.natAbs).length ≤ 2 := by rw [← hf1]; exact zlen_64 N0.out N9.out
  have HF1 := Lib.hid hf1
  clear hf1
  obtain ⟨u1, hu1⟩ := is_z (sg sy (val tx))
  have bu1 : (digs u1.natAbs).length ≤ 40 := Nat.le_trans (zlen_raw (by rw [← TTx.out]; exact (hx.take 40).2.1) hu1) blx
  have HU1 := Lib.hid hu1
  clear hu1
  obtain ⟨q1, hq1⟩ := is_z (Int.sign (vx - vy))
  have sq1 := sign_bd ((vx - vy))
  rw [hq1] at sq1
  obtain ⟨sq1l, sq1r⟩ := sq1
  have HQ1 := Lib.hid hq1
  clear hq1
  obtain ⟨s1, hs1⟩ : ∃ b, smallz vx = b := ⟨_, rfl⟩
  have HS1 := Lib.hid hs1
  clear hs1
  obtain ⟨o1, ho1⟩ : ∃ b, smallb vx = b := ⟨_, rfl⟩
  have HO1 := Lib.hid ho1
  clear ho1
  obtain ⟨r1, hr1⟩ : ∃ b, rightB sx xsx = b := ⟨_, rfl⟩
  have HR1 := Lib.hid hr1
  clear hr1
  have lbx := Lib.hid (show (tx).length ≤ 100000 by omega)
  have lby := Lib.hid (show (ty).length ≤ 100000 by omega)
  have lbn1 := Lib.hid (show (digs n1.natAbs).length ≤ 100000 by omega)
  have lbn2 := Lib.hid (show (digs n2.natAbs).length ≤ 100000 by omega)
  have lbm1 := Lib.hid (show (digs m1.natAbs).length ≤ 100000 by omega)
  have lbk1 := Lib.hid (show (digs k1.natAbs).length ≤ 100000 by omega)
  have lbf1 := Lib.hid (show (digs f1.natAbs).length ≤ 100000 by omega)
  have lbu1 := Lib.hid (show (digs u1.natAbs).length ≤ 100000 by omega)
  have HT := Lib.hid htab
  clear htab
  have EX := Lib.hid (fun V hv => examples_any V hv)
  go_enter Tryd.func3, Tryd.ntmps3
  go_upto_region 1 with fail
  obtain ⟨w0, hW⟩ : ∃ W : World, W = ((w.alloc (.cells #[.bool sx, .slice Ax xsx.length cx] 24)).alloc (.cells #[.bool sy, .slice Ay xsy.length cy] 24)) := ⟨_, rfl⟩
  rw [← hW]
  have hb : Below w.heap.size w w0 := by rw [hW]; exact below2 w _ _
  have L0 := Lib.hid (((((((live_start w).step hb).add (hx.below hb)).add (show Dg w0 Ax cx tx by rw [← TTx.out]; exact (hx.below hb).take 40)).add (hy.below hb)).add (show Dg w0 Ay cy ty by rw [← TTy.out]; exact (hy.below hb).take 40)))
  have Rx_0 := Lib.hid (show w0.heap[w.heap.size]? = some (.cells #[.bool sx, .slice Ax xsx.length cx] 24 (0, 0)) by rw [hW]; have := heap_alloc_new w (.cells #[.bool sx, .slice Ax xsx.length cx] 24); rw [heap_alloc_old _ _ (by simp <;> omega)]; simpa using this)
  have Ry_0 := Lib.hid (show w0.heap[w.heap.size + 1]? = some (.cells #[.bool sy, .slice Ay xsy.length cy] 24 (0, 0)) by rw [hW]; have := heap_alloc_new (w.alloc (.cells #[.bool sx, .slice Ax xsx.length cx] 24)) (.cells #[.bool sy, .slice Ay xsy.length cy] 24); simpa using this)
  clear hW hb hx hy
  go_wp2_with fail
  refine (EX.out w0 (p10_below HT.out L0.out.1)).mono ?_
  rintro e w1 ⟨rfl, hb⟩
  have L1 := Lib.hid (L0.out.step hb)
  have Rx_1 := Lib.hid (cells_of Rx_0.out hb)
  have Ry_1 := Lib.hid (cells_of Ry_0.out hb)
  clear hb 
  have fx0 := cell_of_row w1 _ 0 _ _ _ Rx_1.out
  have fx1 := cell_of_row w1 _ 1 _ _ _ Rx_1.out
  have xx := heap_lt Rx_1.out
  simp only [List.getElem?_toArray, List.getElem?_cons_zero, List.getElem?_cons_succ] at fx0 fx1
  go_wp2_with fail
  refine (lshort_v (s := sx) (L1.out.get (by simp)) (by omega) TTx.out).mono ?_
  rintro e w2 ⟨rfl, hb⟩
  have L2 := Lib.hid (L1.out.step hb)
  have Rx_2 := Lib.hid (cells_of Rx_1.out hb)
  have Ry_2 := Lib.hid (cells_of Ry_1.out hb)
  clear fx0 fx1 xx
  clear hb 
  have fy0 := cell_of_row w2 _ 0 _ _ _ Ry_2.out
  have fy1 := cell_of_row w2 _ 1 _ _ _ Ry_2.out
  have xy := heap_lt Ry_2.out
  simp only [List.getElem?_toArray, List.getElem?_cons_zero, List.getElem?_cons_succ] at fy0 fy1
  go_wp2_with fail
  have Lx3 := Lib.hid (L2.out.step (below1 w2 (.cells #[.bool sx, .slice Ax tx.length cx] 24)))
  refine (lshort_v (s := sy) (Lx3.out.get (by simp)) (by omega) TTy.out).mono ?_
  rintro e w3 ⟨rfl, hb⟩
  have L3 := Lib.hid (Lx3.out.step hb)
  have Rx_3 := Lib.hid (cells_of (cells_of Rx_2.out (below1 w2 (.cells #[.bool sx, .slice Ax tx.length cx] 24))) hb)
  have Ry_3 := Lib.hid (cells_of (cells_of Ry_2.out (below1 w2 (.cells #[.bool sx, .slice Ax tx.length cx] 24))) hb)
  clear fy0 fy1 xy
  have Ra_3 := Lib.hid (cells_of (heap_alloc_new w2 (.cells #[.bool sx, .slice Ax tx.length cx] 24)) hb)
  clear hb 
  go_wp2_with fail
  obtain ⟨w4, hW⟩ : ∃ W : World, W = (w3.alloc (.cells #[.bool sy, .slice Ay ty.length cy] 24)) := ⟨_, rfl⟩
  rw [← hW]
  have hb : Below w3.heap.size w3 w4 := by rw [hW]; exact below1 _ _
  have L4 := Lib.hid (L3.out.step hb)
  have Rx_4 := Lib.hid (cells_of Rx_3.out hb)
  have Ry_4 := Lib.hid (cells_of Ry_3.out hb)
  have Ra_4 := Lib.hid (cells_of Ra_3.out hb)
  have Rb_4 := Lib.hid (show w4.heap[w3.heap.size]? = some (.cells #[.bool sy, .slice Ay ty.length cy] 24 (0, 0)) by rw [hW]; exact heap_alloc_new _ _)
  clear hW hb
  have fa0 := cell_of_row w4 _ 0 _ _ _ Ra_4.out
  have fa1 := cell_of_row w4 _ 1 _ _ _ Ra_4.out
  have xa := heap_lt Ra_4.out
  have fb0 := cell_of_row w4 _ 0 _ _ _ Rb_4.out
  have fb1 := cell_of_row w4 _ 1 _ _ _ Rb_4.out
  have xb := heap_lt Rb_4.out
  simp only [List.getElem?_toArray, List.getElem?_cons_zero, List.getElem?_cons_succ] at fa0 fa1 fb0 fb1
  have KD := Lib.hid (bd0 w4)
  have LD := Lib.hid (L4.out.step KD.out)
  go_region_held3 (fun w' => ∀ b o, b < w4.heap.size → w'.cell? ⟨b, o, none⟩ = w4.cell? ⟨b, o, none⟩)
    (first | with_reducible exact (bcell KD.out).1 | with_reducible exact (bcell K6.out).1 | with_reducible exact (bcell K7.out).1 | with_reducible exact (bcell K8.out).1)
    (first
      | (go_at_call 15; (with_reducible refine (zadd_v (z := n1) (LD.out.get (A := Ax) (c := cx) (xs := tx) (by simp)) (LD.out.get (A := Ay) (c := cy) (xs := ty) (by simp)) HVx.out HVy.out (le6 lbx.out) (le6 lby.out) HN1.out).mono ?_); rintro e w6 ⟨A6, c6, rfl, hd, hb⟩; (have K6 := Lib.hid (KD.out.trans (hb.mono KD.out.size))); (have L6 := Lib.hid ((LD.out.step hb).add hd)); clear hb hd)
      | (go_at_call 16; (with_reducible refine (rzadd_v (z := n1) (L6.out.get (A := Ax) (c := cx) (xs := tx) (by simp)) (L6.out.get (A := Ay) (c := cy) (xs := ty) (by simp)) HVx.out HVy.out (le6 lbx.out) (le6 lby.out) HN1.out).mono ?_); rintro e w7 ⟨A7, c7, rfl, hd, hb⟩; (have K7 := Lib.hid (K6.out.trans (hb.mono K6.out.size))); (have L7 := Lib.hid ((L6.out.step hb).add hd)); clear hb hd)
      | (go_at_call 14; (with_reducible refine (same_z (x := n1) (y := n1) (L7.out.get (A := A6) (c := c6) (xs := (digs (n1).natAbs)) (by simp)) (L7.out.get (A := A7) (c := c7) (xs := (digs (n1).natAbs)) (by simp)) (Nat.le_trans lbn1.out (by omega)) rfl).mono ?_); rintro e w8 ⟨rfl, hb⟩; (have K8 := Lib.hid (K7.out.trans (hb.mono K7.out.size))); (have L8 := Lib.hid (L7.out.step hb)); clear hb ))
  clear fa0 fa1 xa fb0 fb1 xb
  have Rx_8 := Lib.hid (cells_of Rx_4.out K8.out)
  have Ry_8 := Lib.hid (cells_of Ry_4.out K8.out)
  have Ra_8 := Lib.hid (cells_of Ra_4.out K8.out)
  have Rb_8 := Lib.hid (cells_of Rb_4.out K8.out)
  clear KD LD
  go_wp2_with fail
  have fa0 := cell_of_row w8 _ 0 _ _ _ Ra_8.out
  have fa1 := cell_of_row w8 _ 1 _ _ _ Ra_8.out
  have xa := heap_lt Ra_8.out
  have fb0 := cell_of_row w8 _ 0 _ _ _ Rb_8.out
  have fb1 := cell_of_row w8 _ 1 _ _ _ Rb_8.out
  have xb := heap_lt Rb_8.out
  simp only [List.getElem?_toArray, List.getElem?_cons_zero, List.getElem?_cons_succ] at fa0 fa1 fb0 fb1
  have KD := Lib.hid (bd0 w8)
  have LD := Lib.hid (L8.out.step KD.out)
  go_region_held3 (fun w' => ∀ b o, b < w8.heap.size → w'.cell? ⟨b, o, none⟩ = w8.cell? ⟨b, o, none⟩)
    (first | with_reducible exact (bcell KD.out).1 | with_reducible exact (bcell K10.out).1 | with_reducible exact (bcell K11.out).1 | with_reducible exact (bcell K12.out).1)
    (first
      | (go_at_call 17; (with_reducible refine (zsub_v (z := n2) (LD.out.get (A := Ax) (c := cx) (xs := tx) (by simp)) (LD.out.get (A := Ay) (c := cy) (xs := ty) (by simp)) HVx.out HVy.out (le6 lbx.out) (le6 lby.out) HN2.out).mono ?_); rintro e w10 ⟨A10, c10, rfl, hd, hb⟩; (have K10 := Lib.hid (KD.out.trans (hb.mono KD.out.size))); (have L10 := Lib.hid ((LD.out.step hb).add hd)); clear hb hd)
      | (go_at_call 18; (with_reducible refine (rzsub_v (z := n2) (L10.out.get (A := Ax) (c := cx) (xs := tx) (by simp)) (L10.out.get (A := Ay) (c := cy) (xs := ty) (by simp)) HVx.out HVy.out (le6 lbx.out) (le6 lby.out) HN2.out).mono ?_); rintro e w11 ⟨A11, c11, rfl, hd, hb⟩; (have K11 := Lib.hid (K10.out.trans (hb.mono K10.out.size))); (have L11 := Lib.hid ((L10.out.step hb).add hd)); clear hb hd)
      | (go_at_call 14; (with_reducible refine (same_z (x := n2) (y := n2) (L11.out.get (A := A10) (c := c10) (xs := (digs (n2).natAbs)) (by simp)) (L11.out.get (A := A11) (c := c11) (xs := (digs (n2).natAbs)) (by simp)) (Nat.le_trans lbn2.out (by omega)) rfl).mono ?_); rintro e w12 ⟨rfl, hb⟩; (have K12 := Lib.hid (K11.out.trans (hb.mono K11.out.size))); (have L12 := Lib.hid (L11.out.step hb)); clear hb ))
  clear fa0 fa1 xa fb0 fb1 xb
  have Rx_12 := Lib.hid (cells_of Rx_8.out K12.out)
  have Ry_12 := Lib.hid (cells_of Ry_8.out K12.out)
  have Ra_12 := Lib.hid (cells_of Ra_8.out K12.out)
  have Rb_12 := Lib.hid (cells_of Rb_8.out K12.out)
  clear KD LD
  go_wp2_with fail
  have fa0 := cell_of_row w12 _ 0 _ _ _ Ra_12.out
  have fa1 := cell_of_row w12 _ 1 _ _ _ Ra_12.out
  have xa := heap_lt Ra_12.out
  have fb0 := cell_of_row w12 _ 0 _ _ _ Rb_12.out
  have fb1 := cell_of_row w12 _ 1 _ _ _ Rb_12.out
  have xb := heap_lt Rb_12.out
  simp only [List.getElem?_toArray, List.getElem?_cons_zero, List.getElem?_cons_succ] at fa0 fa1 fb0 fb1
  have KD := Lib.hid (bd0 w12)
  have LD := Lib.hid (L12.out.step KD.out)
  go_region_held3 (fun w' => ∀ b o, b < w12.heap.size → w'.cell? ⟨b, o, none⟩ = w12.cell? ⟨b, o, none⟩)
    (first | with_reducible exact (bcell KD.out).1 | with_reducible exact (bcell K14.out).1 | with_reducible exact (bcell K15.out).1 | with_reducible exact (bcell K16.out).1)
    (first
      | (go_at_call 19; (with_reducible refine (zmul_v (z := m1) (LD.out.get (A := Ax) (c := cx) (xs := tx) (by simp)) (LD.out.get (A := Ay) (c := cy) (xs := ty) (by simp)) HVx.out HVy.out (le6 lbx.out) (le6 lby.out) HM1.out).mono ?_); rintro e w14 ⟨A14, c14, rfl, hd, hb⟩; (have K14 := Lib.hid (KD.out.trans (hb.mono KD.out.size))); (have L14 := Lib.hid ((LD.out.step hb).add hd)); clear hb hd)
      | (go_at_call 20; (with_reducible refine (rzmul_v (z := m1) (L14.out.get (A := Ax) (c := cx) (xs := tx) (by simp)) (L14.out.get (A := Ay) (c := cy) (xs := ty) (by simp)) HVx.out HVy.out (le6 lbx.out) (le6 lby.out) HM1.out).mono ?_); rintro e w15 ⟨A15, c15, rfl, hd, hb⟩; (have K15 := Lib.hid (K14.out.trans (hb.mono K14.out.size))); (have L15 := Lib.hid ((L14.out.step hb).add hd)); clear hb hd)
      | (go_at_call 14; (with_reducible refine (same_z (x := m1) (y := m1) (L15.out.get (A := A14) (c := c14) (xs := (digs (m1).natAbs)) (by simp)) (L15.out.get (A := A15) (c := c15) (xs := (digs (m1).natAbs)) (by simp)) (Nat.le_trans lbm1.out (by omega)) rfl).mono ?_); rintro e w16 ⟨rfl, hb⟩; (have K16 := Lib.hid (K15.out.trans (hb.mono K15.out.size))); (have L16 := Lib.hid (L15.out.step hb)); clear hb ))
  clear fa0 fa1 xa fb0 fb1 xb
  have Rx_16 := Lib.hid (cells_of Rx_12.out K16.out)
  have Ry_16 := Lib.hid (cells_of Ry_12.out K16.out)
  have Ra_16 := Lib.hid (cells_of Ra_12.out K16.out)
  have Rb_16 := Lib.hid (cells_of Rb_12.out K16.out)
  clear KD LD
  go_wp2_with fail
  have fa0 := cell_of_row w16 _ 0 _ _ _ Ra_16.out
  have fa1 := cell_of_row w16 _ 1 _ _ _ Ra_16.out
  have xa := heap_lt Ra_16.out
  simp only [List.getElem?_toArray, List.getElem?_cons_zero, List.getElem?_cons_succ] at fa0 fa1
  have KD := Lib.hid (bd0 w16)
  have LD := Lib.hid (L16.out.step KD.out)
  go_region_held3 (fun w' => ∀ b o, b < w16.heap.size → w'.cell? ⟨b, o, none⟩ = w16.cell? ⟨b, o, none⟩)
    (first | with_reducible exact (bcell KD.out).1 | with_reducible exact (bcell K18.out).1 | with_reducible exact (bcell K19.out).1 | with_reducible exact (bcell K20.out).1)
    (first
      | (go_at_call 21; (with_reducible refine (zneg_v (z := k1) (LD.out.get (A := Ax) (c := cx) (xs := tx) (by simp)) HVx.out (le6 lbx.out) HK1.out).mono ?_); rintro e w18 ⟨A18, c18, rfl, hd, hb⟩; (have K18 := Lib.hid (KD.out.trans (hb.mono KD.out.size))); (have L18 := Lib.hid ((LD.out.step hb).add hd)); clear hb hd)
      | (go_at_call 22; (with_reducible refine (rzneg_v (z := k1) (L18.out.get (A := Ax) (c := cx) (xs := tx) (by simp)) HVx.out (le6 lbx.out) HK1.out).mono ?_); rintro e w19 ⟨A19, c19, rfl, hd, hb⟩; (have K19 := Lib.hid (K18.out.trans (hb.mono K18.out.size))); (have L19 := Lib.hid ((L18.out.step hb).add hd)); clear hb hd)
      | (go_at_call 14; (with_reducible refine (same_z (x := k1) (y := k1) (L19.out.get (A := A18) (c := c18) (xs := (digs (k1).natAbs)) (by simp)) (L19.out.get (A := A19) (c := c19) (xs := (digs (k1).natAbs)) (by simp)) (Nat.le_trans lbk1.out (by omega)) rfl).mono ?_); rintro e w20 ⟨rfl, hb⟩; (have K20 := Lib.hid (K19.out.trans (hb.mono K19.out.size))); (have L20 := Lib.hid (L19.out.step hb)); clear hb ))
  clear fa0 fa1 xa
  have Rx_20 := Lib.hid (cells_of Rx_16.out K20.out)
  have Ry_20 := Lib.hid (cells_of Ry_16.out K20.out)
  have Ra_20 := Lib.hid (cells_of Ra_16.out K20.out)
  have Rb_20 := Lib.hid (cells_of Rb_16.out K20.out)
  clear KD LD
  go_wp2_with fail
  refine (zfrom_z (x := f1) HF1.out (by have := HF1.out; have := N0.out; omega) (by have := HF1.out; have := N9.out; omega)).mono ?_
  rintro e w21 ⟨A21, c21, rfl, hd, hb⟩
  have L21 := Lib.hid ((L20.out.step hb).add hd)
  have Rx_21 := Lib.hid (cells_of Rx_20.out hb)
  have Ry_21 := Lib.hid (cells_of Ry_20.out hb)
  have Ra_21 := Lib.hid (cells_of Ra_20.out hb)
  have Rb_21 := Lib.hid (cells_of Rb_20.out hb)
  clear hb hd
  go_wp2_with fail
  refine (rzfrom_z (x := f1) HF1.out (by have := HF1.out; have := N0.out; omega) (by have := HF1.out; have := N9.out; omega)).mono ?_
  rintro e w22 ⟨A22, c22, rfl, hd, hb⟩
  have L22 := Lib.hid ((L21.out.step hb).add hd)
  have Rx_22 := Lib.hid (cells_of Rx_21.out hb)
  have Ry_22 := Lib.hid (cells_of Ry_21.out hb)
  have Ra_22 := Lib.hid (cells_of Ra_21.out hb)
  have Rb_22 := Lib.hid (cells_of Rb_21.out hb)
  clear hb hd
  go_wp2_with fail
  refine (same_z (x := f1) (y := f1) (L22.out.get (A := A21) (c := c21) (xs := (digs (f1).natAbs)) (by simp)) (L22.out.get (A := A22) (c := c22) (xs := (digs (f1).natAbs)) (by simp)) (Nat.le_trans lbf1.out (by omega)) rfl).mono ?_
  rintro e w23 ⟨rfl, hb⟩
  have L23 := Lib.hid (L22.out.step hb)
  have Rx_23 := Lib.hid (cells_of Rx_22.out hb)
  have Ry_23 := Lib.hid (cells_of Ry_22.out hb)
  have Ra_23 := Lib.hid (cells_of Ra_22.out hb)
  have Rb_23 := Lib.hid (cells_of Rb_22.out hb)
  clear hb 
  go_wp2_with fail
  have fa0 := cell_of_row w23 _ 0 _ _ _ Ra_23.out
  have fa1 := cell_of_row w23 _ 1 _ _ _ Ra_23.out
  have xa := heap_lt Ra_23.out
  have fb0 := cell_of_row w23 _ 0 _ _ _ Rb_23.out
  have fb1 := cell_of_row w23 _ 1 _ _ _ Rb_23.out
  have xb := heap_lt Rb_23.out
  simp only [List.getElem?_toArray, List.getElem?_cons_zero, List.getElem?_cons_succ] at fa0 fa1 fb0 fb1
  have KD := Lib.hid (bd0 w23)
  have LD := Lib.hid (L23.out.step KD.out)
  go_region_held3 (fun w' => ∀ b o, b < w23.heap.size → w'.cell? ⟨b, o, none⟩ = w23.cell? ⟨b, o, none⟩)
    (first | with_reducible exact (bcell KD.out).1 | with_reducible exact (bcell K25.out).1 | with_reducible exact (bcell K26.out).1 | with_reducible exact (bcell K27.out).1)
    (first
      | (go_at_call 25; (with_reducible refine (zmake_z (x := u1) (LD.out.get (A := Ax) (c := cx) (xs := tx) (by simp)) HU1.out (le6 lbx.out)).mono ?_); rintro e w25 ⟨A25, c25, rfl, hd, hb⟩; (have K25 := Lib.hid (KD.out.trans (hb.mono KD.out.size))); (have L25 := Lib.hid ((LD.out.step hb).add hd)); clear hb hd)
      | (go_at_call 26; (with_reducible refine (rzmake_z (x := u1) (L25.out.get (A := Ax) (c := cx) (xs := tx) (by simp)) HU1.out (le6 lbx.out)).mono ?_); rintro e w26 ⟨A26, c26, rfl, hd, hb⟩; (have K26 := Lib.hid (K25.out.trans (hb.mono K25.out.size))); (have L26 := Lib.hid ((L25.out.step hb).add hd)); clear hb hd)
      | (go_at_call 14; (with_reducible refine (same_z (x := u1) (y := u1) (L26.out.get (A := A25) (c := c25) (xs := (digs (u1).natAbs)) (by simp)) (L26.out.get (A := A26) (c := c26) (xs := (digs (u1).natAbs)) (by simp)) (Nat.le_trans lbu1.out (by omega)) rfl).mono ?_); rintro e w27 ⟨rfl, hb⟩; (have K27 := Lib.hid (K26.out.trans (hb.mono K26.out.size))); (have L27 := Lib.hid (L26.out.step hb)); clear hb ))
  clear fa0 fa1 xa fb0 fb1 xb
  have Rx_27 := Lib.hid (cells_of Rx_23.out K27.out)
  have Ry_27 := Lib.hid (cells_of Ry_23.out K27.out)
  have Ra_27 := Lib.hid (cells_of Ra_23.out K27.out)
  have Rb_27 := Lib.hid (cells_of Rb_23.out K27.out)
  clear KD LD
  have fa0 := cell_of_row w27 _ 0 _ _ _ Ra_27.out
  have fa1 := cell_of_row w27 _ 1 _ _ _ Ra_27.out
  have xa := heap_lt Ra_27.out
  simp only [List.getElem?_toArray, List.getElem?_cons_zero, List.getElem?_cons_succ] at fa0 fa1
  go_wp2_with fail
  refine (zsmall_z (q := s1) (ok := o1) (L27.out.get (A := Ax) (c := cx) (xs := tx) (by simp)) HVx.out (le6 lbx.out) HS1.out HO1.out).mono ?_
  rintro e w28 ⟨rfl, hb⟩
  have L28 := Lib.hid (L27.out.step hb)
  have Rx_28 := Lib.hid (cells_of Rx_27.out hb)
  have Ry_28 := Lib.hid (cells_of Ry_27.out hb)
  have Ra_28 := Lib.hid (cells_of Ra_27.out hb)
  have Rb_28 := Lib.hid (cells_of Rb_27.out hb)
  clear fa0 fa1 xa
  clear hb 
  have fa0 := cell_of_row w28 _ 0 _ _ _ Ra_28.out
  have fa1 := cell_of_row w28 _ 1 _ _ _ Ra_28.out
  have xa := heap_lt Ra_28.out
  simp only [List.getElem?_toArray, List.getElem?_cons_zero, List.getElem?_cons_succ] at fa0 fa1
  go_wp2_with fail
  refine (rzsmall_z (q := s1) (ok := o1) (L28.out.get (A := Ax) (c := cx) (xs := tx) (by simp)) HVx.out (le6 lbx.out) HS1.out HO1.out).mono ?_
  rintro e w29 ⟨rfl, hb⟩
  have L29 := Lib.hid (L28.out.step hb)
  have Rx_29 := Lib.hid (cells_of Rx_28.out hb)
  have Ry_29 := Lib.hid (cells_of Ry_28.out hb)
  have Ra_29 := Lib.hid (cells_of Ra_28.out hb)
  have Rb_29 := Lib.hid (cells_of Rb_28.out hb)
  clear fa0 fa1 xa
  clear hb 
  go_wp2_with fail
  have fa0 := cell_of_row w29 _ 0 _ _ _ Ra_29.out
  have fa1 := cell_of_row w29 _ 1 _ _ _ Ra_29.out
  have xa := heap_lt Ra_29.out
  have fb0 := cell_of_row w29 _ 0 _ _ _ Rb_29.out
  have fb1 := cell_of_row w29 _ 1 _ _ _ Rb_29.out
  have xb := heap_lt Rb_29.out
  have fx0 := cell_of_row w29 _ 0 _ _ _ Rx_29.out
  have fx1 := cell_of_row w29 _ 1 _ _ _ Rx_29.out
  have xx := heap_lt Rx_29.out
  simp only [List.getElem?_toArray, List.getElem?_cons_zero, List.getElem?_cons_succ] at fa0 fa1 fb0 fb1 fx0 fx1
  have KD := Lib.hid (bd0 w29)
  have LD := Lib.hid (L29.out.step KD.out)
  go_region_held3 (fun w' => ∀ b o, b < w29.heap.size → w'.cell? ⟨b, o, none⟩ = w29.cell? ⟨b, o, none⟩)
    (first | with_reducible exact (bcell KD.out).1 | with_reducible exact (bcell K31.out).1 | with_reducible exact (bcell K32.out).1 | with_reducible exact (bcell K33.out).1 | with_reducible exact (bcell K34.out).1)
    (first
      | (go_at_call 29; (with_reducible refine (zcmp_z (q := q1) (LD.out.get (A := Ax) (c := cx) (xs := tx) (by simp)) (LD.out.get (A := Ay) (c := cy) (xs := ty) (by simp)) HVx.out HVy.out (le6 lbx.out) (le6 lby.out) HQ1.out).mono ?_); rintro e w31 ⟨rfl, hb⟩; (have K31 := Lib.hid (KD.out.trans (hb.mono KD.out.size))); (have L31 := Lib.hid (LD.out.step hb)); clear hb )
      | (go_at_call 30; (with_reducible refine (rzcmp_z (q := q1) (L31.out.get (A := Ax) (c := cx) (xs := tx) (by simp)) (L31.out.get (A := Ay) (c := cy) (xs := ty) (by simp)) HVx.out HVy.out (le6 lbx.out) (le6 lby.out) HQ1.out).mono ?_); rintro e w32 ⟨rfl, hb⟩; (have K32 := Lib.hid (K31.out.trans (hb.mono K31.out.size))); (have L32 := Lib.hid (L31.out.step hb)); clear hb )
      | (go_at_call 31; (with_reducible refine (right_w (L32.out.get (A := Ax) (c := cx) (xs := xsx) (by simp)) LX.out HR1.out).mono ?_); rintro e w33 ⟨rfl, hb⟩; (have K33 := Lib.hid (K32.out.trans (hb.mono K32.out.size))); (have L33 := Lib.hid (L32.out.step hb)); clear hb )
      | (go_at_call 32; (with_reducible refine (rright_w (L33.out.get (A := Ax) (c := cx) (xs := xsx) (by simp)) LX.out HR1.out).mono ?_); rintro e w34 ⟨rfl, hb⟩; (have K34 := Lib.hid (K33.out.trans (hb.mono K33.out.size))); (have L34 := Lib.hid (L33.out.step hb)); clear hb ))
  clear fa0 fa1 xa fb0 fb1 xb fx0 fx1 xx
  have Rx_34 := Lib.hid (cells_of Rx_29.out K34.out)
  have Ry_34 := Lib.hid (cells_of Ry_29.out K34.out)
  have Ra_34 := Lib.hid (cells_of Ra_29.out K34.out)
  have Rb_34 := Lib.hid (cells_of Rb_29.out K34.out)
  clear KD LD
  go_wp2
  go_ret
  exact ⟨rfl, L34.out.1⟩
end Go.Proofs.YthgkdpfkaobgoaaDoor
end

section
/-
  From a law's walk to its statement: what comes in is opened, read again behind the call, and handed on.
-/
namespace Go.Proofs.YthgkdpfkaobgoaaDoor
open Go.RowKit Go.WideShapes Go.ChangeShapes Go.ChangeAt
set_option maxRecDepth 100000
theorem own : ownKnob Tryd.prog.godebug = none := by kernel_rfl
theorem laidOut : laidOutB Tryd.prog = true := by kernel_rfl
theorem below_cell_lt {w : World} {b o : Nat} {v : Value} (h : w.cell? ⟨b, o, none⟩ = some v) : b < w.heap.size := by
  rcases Nat.lt_or_ge b w.heap.size with hlt | hge
  · exact hlt
  · have e := Array.getElem?_eq_none hge
    simp [World.cell?, e] at h
theorem cellsElem : Tryd.prog.cellsOf 75 = 1 := by kernel_rfl
/-- A slice of digits that came in. -/
theorem open_dg {H : Type} {enc : TypeId × Value → H} {W : World} {base : Nat} {spare : Nat → Bool} {held : Bool} {v : Value} {d : DataW H} {ps : List MemPlace}
    (hval : Value.okWide Tryd.prog W .any base 22 v) (hd : DataW.Trod enc Tryd.prog W 0 spare held 22 v d ps) : ∃ A c xs, v = .slice A xs.length c ∧ Dg W A c xs := by
  obtain ⟨a0, len, cap, rfl⟩ := okWide_slice Tryd.underlying22 hval
  obtain ⟨fuel, hf⟩ := hd
  rcases open_ints Tryd.underlying22 Tryd.underlying75 cellsElem hf with ⟨hcs, _⟩ | ⟨a, len', cap', zs, hcs, _, hl, hm, hz, _, hcell, hwz⟩
  · simp [Value.cells] at hcs
    obtain ⟨rfl, rfl, rfl⟩ := hcs
    exact ⟨none, 0, [], rfl, Dg.nil_ _ _⟩
  · simp [Value.cells] at hcs
    obtain ⟨rfl, rfl, rfl⟩ := hcs
    have hlz : len ≤ zs.length := by rw [hz]; split <;> omega
    have hn : ∀ n ∈ zs, 0 ≤ n ∧ n ≤ 4294967295 := fun n hn => by simpa [Lit.wf, IntKind.min, IntKind.max, IntKind.signed, IntKind.bits] using hwz n hn
    have hxl : ((zs.take len).map Int.toNat).length = len := by simp; omega
    refine ⟨some a, cap, (zs.take len).map Int.toNat, by rw [hxl], by rw [hxl]; exact hl, ?_, fun h0 => ?_⟩
    · intro x hx
      obtain ⟨z, hz', rfl⟩ := List.mem_map.1 hx
      have := hn z (List.mem_of_mem_take hz')
      omega
    · rw [hxl] at h0
      obtain ⟨b, off, spot⟩ := a
      have hspot : spot = none := by simpa [Addr.add] using World.cell?_spot (hcell 0 (by omega))
      subst hspot
      refine ⟨b, off, rfl, below_cell_lt (v := .int .u32 (zs.getD 0 0)) (o := off) (by have := hcell 0 (by omega); simpa [Addr.add] using this), fun j hj => ?_⟩
      rw [hxl] at hj
      have hc := hcell j (by omega)
      rw [Addr.add_lit] at hc
      rw [hc]
      have hjz : j < zs.length := by omega
      have hb := hn zs[j] (List.getElem_mem hjz)
      simp [hj, List.getElem?_eq_getElem hjz]
      omega
section
variable {H : Type} {enc : TypeId × Value → H} {P : Program}
/-- A law's end: true; older memory stays; each argument reads as it read. -/
theorem law_post {f : Func} {s : ChangeSpec} {W W' : World} {args : Array Value} {ds : List (DataW H)} {before : List MemPlace} {tb : TypeId}
    (hW : DataW.Whole enc P f.params.toList s.vars false W args.toList ds [] before) (hb : Below W.heap.size W W') (hv : s.vars = []) (hrt : f.resultTypes = #[tb]) (htb : P.underlying tb = some .bool)
    (hsr : (s.fn H (ds ++ [])).results = [.lit (.bool true)]) (hsv : (s.fn H (ds ++ [])).vars = [])
    (hargs : ∀ sp : Nat → Bool, (∀ p ∈ before, sp p.block = true) → DataW.TrodAll enc P W' 0 sp true f.params.toList args.toList (s.fn H (ds ++ [])).args before) :
    s.post enc P f false true false false W args (.bool true) W' := by
  have hlt : ∀ p ∈ before, p.block < W.heap.size := fun p hp => hW.lt p hp
  have hold : ∀ p ∈ before, (fun b => decide (b < W.heap.size)) p.block = true := fun p hp => by simpa using hlt p hp
  have hvars : ∀ sp : Nat → Bool, DataW.TrodVars enc P W' sp s.vars (s.fn H (ds ++ [])).vars [] := fun sp => by rw [hv, hsv]; rfl
  refine ⟨ds, [], before, [], before, [], hW, ?_, hargs _ hold, hvars _, World.keptBut_mono (fun p hp => ⟨hp, by simpa using hp⟩) (hb.frame (· ∈ before)), fun h => by cases h⟩
  rw [hrt, hsr]
  exact trodAll_cons_mk (shut_bool htb _) trodAll_mk0
end
/-- An argument reads behind the call as it read ahead of it. -/
theorem again {H : Type} {enc : TypeId × Value → H} {W W' : World} {t : TypeId} {v : Value} {d : DataW H} {ps : List MemPlace} (hr : Tryd.prog.readableRec t = true) (hrow : t < Tryd.prog.types.size)
    (h : DataW.Trod enc Tryd.prog W 0 (fun _ => true) true t v d ps) (hb : Below W.heap.size W W') (hlt : ∀ x ∈ ps, x.block < W.heap.size) (sp : Nat → Bool) (hsp : ∀ x ∈ ps, sp x.block = true) :
    DataW.Trod enc Tryd.prog W' 0 sp true t v d ps :=
  WideElems.Trod_stays laidOut hr hrow h (fun x hx => hb.same (hlt x hx)) hsp
end Go.Proofs.YthgkdpfkaobgoaaDoor
end

section
/-
  From a walk of layer 4 to its card: what the laid tables give, and a whole number that comes in.
-/
namespace Go.Proofs.YthgkdpfkaobgoaaDoor
open Go.RowKit Go.WideShapes Go.ChangeShapes Go.ChangeAt Go.Deep
set_option maxRecDepth 100000
theorem i64_lo {a : Int} (g : (Lit.int .i64 a).wf = true) : -9223372036854775808 ≤ a := by
  simp only [Lit.wf, Bool.and_eq_true, decide_eq_true_eq] at g; exact g.1
theorem i64_hi {a : Int} (g : (Lit.int .i64 a).wf = true) : a ≤ 9223372036854775807 := by
  simp only [Lit.wf, Bool.and_eq_true, decide_eq_true_eq] at g; exact g.2
theorem i32_lo {a : Int} (g : (Lit.int .i32 a).wf = true) : -2147483648 ≤ a := by
  simp only [Lit.wf, Bool.and_eq_true, decide_eq_true_eq] at g; exact g.1
theorem i32_hi {a : Int} (g : (Lit.int .i32 a).wf = true) : a ≤ 2147483647 := by
  simp only [Lit.wf, Bool.and_eq_true, decide_eq_true_eq] at g; exact g.2
theorem gPow : Tryd.prog.globalNamed "internal/strconv.uint64pow10" = some 1 := by kernel_rfl
theorem tPow : (Tryd.prog.globals[1]?).map (·.type) = some 127 := by kernel_rfl
/-- THE TABLE OF POWERS, out of the row's condition. -/
theorem p10_laid {W : World} {a b : String × DataW Unit} (h : laidMet Tryd.prog (a :: b :: ("internal/strconv.uint64pow10", Lib.tabData .u64 Lib.pow10Tab) :: []) W) : P10 W :=
  Lib.tabIs_of_head gPow tPow Tryd.underlying127 Tryd.underlying67 (by kernel_rfl) (by kernel_rfl) h.tail.tail
/-- Digits that came in as a part. -/
theorem open_dg0 {H : Type} {enc : TypeId × Value → H} {W : World} {spare : Nat → Bool} {held : Bool} {a0 : Option Addr} {len cap : Nat} {y : DataW H × List MemPlace}
    (hd : ∃ n, DataW.trod enc Tryd.prog W 0 spare held n 22 [.slice a0 len cap] = some y) : ∃ A c xs, Value.slice a0 len cap = .slice A xs.length c ∧ Dg W A c xs ∧ xs.length ≤ 9223372036854775807 := by
  obtain ⟨fuel, hf⟩ := hd
  obtain ⟨d, ps⟩ := y
  rcases open_ints Tryd.underlying22 Tryd.underlying75 cellsElem hf with ⟨hcs, _⟩ | ⟨a, len', cap', zs, hcs, _, hl, hm, hz, _, hcell, hwz⟩
  · simp at hcs
    obtain ⟨rfl, rfl, rfl⟩ := hcs
    exact ⟨none, 0, [], rfl, Dg.nil_ _ _, by simp⟩
  · simp at hcs
    obtain ⟨rfl, rfl, rfl⟩ := hcs
    have hlz : len ≤ zs.length := by rw [hz]; split <;> omega
    have hn : ∀ n ∈ zs, 0 ≤ n ∧ n ≤ 4294967295 := fun n hn => by simpa [Lit.wf, IntKind.min, IntKind.max, IntKind.signed, IntKind.bits] using hwz n hn
    have hxl : ((zs.take len).map Int.toNat).length = len := by simp; omega
    refine ⟨some a, cap, (zs.take len).map Int.toNat, by rw [hxl], ⟨by rw [hxl]; exact hl, ?_, fun h0 => ?_⟩, by rw [hxl]; unfold maxLen at hm; omega⟩
    · intro x hx
      obtain ⟨z, hz', rfl⟩ := List.mem_map.1 hx
      have := hn z (List.mem_of_mem_take hz')
      omega
    · rw [hxl] at h0
      obtain ⟨b, off, spot⟩ := a
      have hspot : spot = none := by simpa [Addr.add] using World.cell?_spot (hcell 0 (by omega))
      subst hspot
      refine ⟨b, off, rfl, below_cell_lt (v := .int .u32 (zs.getD 0 0)) (o := off) (by have := hcell 0 (by omega); simpa [Addr.add] using this), fun j hj => ?_⟩
      rw [hxl] at hj
      have hc := hcell j (by omega)
      rw [Addr.add_lit] at hc
      rw [hc]
      have hjz : j < zs.length := by omega
      have hb := hn zs[j] (List.getElem_mem hjz)
      simp [hj, List.getElem?_eq_getElem hjz]
      omega
/-- A whole number that came in. -/
theorem open_z {H : Type} {enc : TypeId × Value → H} {W : World} {base : Nat} {v : Value} {d : DataW H} {ps : List MemPlace}
    (hval : Value.okWide Tryd.prog W .any base 24 v) (hd : DataW.Trod enc Tryd.prog W 0 (fun _ => true) true 24 v d ps) :
    ∃ s A c xs, v = .agg #[.bool s, .slice A xs.length c] ∧ Dg W A c xs ∧ xs.length ≤ 9223372036854775807 := by
  obtain ⟨v0, v1, y0, y1, n, rfl, _, _, h0, h1⟩ := Go.Joins.open_agg2 Tryd.underlying24 (by kernel_rfl) (by kernel_rfl) hval hd
  obtain ⟨s, e0, _⟩ := DataW.trod_bool Tryd.underlying4 h0
  obtain rfl : v0 = .bool s := by simpa using e0
  obtain ⟨a0, len, cap, e1⟩ := Go.Joins.slice_form Tryd.underlying22 h1
  obtain rfl : v1 = .slice a0 len cap := by simpa using e1
  obtain ⟨A, c, xs, e, g⟩ := open_dg0 ⟨n, h1⟩
  exact ⟨s, A, c, xs, by rw [e], g⟩
end Go.Proofs.YthgkdpfkaobgoaaDoor
end
