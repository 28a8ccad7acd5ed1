import Derived.Test.YtfhdhldgflbpjaaDoorMB2
import Derived.Test.YtfhdhldgflbpjaaDoorMB1
import Derived.Test.YtfhdhldgflbpjaaDoorMB0
section
/-
  dyad.Take.
-/
namespace Go.Proofs.YtfhdhldgflbpjaaDoor
open Go.RowKit
set_option linter.unusedSimpArgs false
set_option linter.unusedVariables false
set_option maxHeartbeats 4000000 in
set_option maxRecDepth 100000 in
theorem dtk_a (b t1 t2 : ByteArray) (m n q : Int) (w : World) (T1 : ∀ W, Calls Tryd.prog 61 #[.string b] W fun e w' => Zt m t1 2 W e w') (T2 : ∀ W, Calls Tryd.prog 61 #[.string t1] W fun e w' => Zt n t2 2 W e w') (hl : (digs m.natAbs).length ≤ 400) (hn : (digs n.natAbs).length ≤ 400) (hq : smallz n = q) (hok : smallb n = true) (hR : dyR (decide (m < 0)) (digs m.natAbs) q = false):
    Calls Tryd.prog 44 #[.string b] w fun e w' => e = .returned (.tuple #[.agg #[.bool false, .slice none 0 0, .int .i64 0], .string ⟨#[]⟩, .int .i64 2]) ∧ Below w.heap.size w w' := by
  have HT1 := Lib.hid T1
  have HT2 := Lib.hid T2
  have lx := Lib.hid hl
  have ly := Lib.hid hn
  have SM := Lib.hid (fun W A c hW => zsm_yes (A := A) (c := c) (Nat.le_trans hn (by omega)) hq hok W hW)
  have HR := Lib.hid hR
  have L0 := Lib.hid (live_start w)
  clear T1 T2 hl hn hq hok hR
  go_enter Tryd.func44, Tryd.ntmps44
  go_wp2_with fail
  obtain ⟨v1, hW⟩ : ∃ W : World, W = ((w.alloc (.cells #[.bool false, .slice none 0 0, .int .i64 0] 26)).alloc (.cells #[.int .i64 0] 80)) := ⟨_, rfl⟩
  rw [← hW]
  have hb : Below w.heap.size w v1 := by rw [hW]; exact (((Below.refl _ _).alloc (by simp <;> omega) _).alloc (by simp <;> omega) _)
  have L1 := Lib.hid (L0.out.step hb)
  have Rr_1 := Lib.hid (show v1.heap[w.heap.size]? = some (.cells #[.bool false, .slice none 0 0, .int .i64 0] 26 (0, 0)) by rw [hW]; have := heap_alloc_new w (.cells #[.bool false, .slice none 0 0, .int .i64 0] 26); rw [heap_alloc_old _ _ (by simp <;> omega)]; simpa using this)
  have Gr : w.heap.size ≤ w.heap.size := by have := L0.out.1.size; omega
  have Rk_1 := Lib.hid (show v1.heap[w.heap.size + 1]? = some (.cells #[.int .i64 0] 80 (0, 0)) by rw [hW]; have := heap_alloc_new (w.alloc (.cells #[.bool false, .slice none 0 0, .int .i64 0] 26)) (.cells #[.int .i64 0] 80); simpa using this)
  have Gk : w.heap.size ≤ w.heap.size + 1 := by have := L0.out.1.size; omega
  have Nrk : w.heap.size < w.heap.size + 1 := by omega
  clear hW hb
  refine (HT1.out _).mono ?_
  rintro e w2 ⟨A2, c2, rfl, hd, hb⟩
  have L2 := Lib.hid ((L1.out.step hb).add hd)
  have Rr_2 := Lib.hid (cells_of Rr_1.out hb)
  have Rk_2 := Lib.hid (cells_of Rk_1.out hb)
  clear hb hd
  go_wp2_with fail
  obtain ⟨w3, hW⟩ : ∃ W : World, W = (w2.alloc (.cells #[.bool (decide (m < 0)), .slice A2 (digs m.natAbs).length c2] 24)) := ⟨_, rfl⟩
  rw [← hW]
  have hb : Below w2.heap.size w2 w3 := by rw [hW]; exact ((Below.refl _ _).alloc (by simp <;> omega) _)
  have L3 := Lib.hid (L2.out.step hb)
  have Rr_3 := Lib.hid (cells_of Rr_2.out hb)
  have Rk_3 := Lib.hid (cells_of Rk_2.out hb)
  have Ra_3 := Lib.hid (show w3.heap[w2.heap.size]? = some (.cells #[.bool (decide (m < 0)), .slice A2 (digs m.natAbs).length c2] 24 (0, 0)) by rw [hW]; have := heap_alloc_new w2 (.cells #[.bool (decide (m < 0)), .slice A2 (digs m.natAbs).length c2] 24); simpa using this)
  have Ga : w.heap.size ≤ w2.heap.size := by have := L2.out.1.size; omega
  have Nra : w.heap.size < w2.heap.size := by have := heap_lt Rr_2.out; omega
  have Nka : w.heap.size + 1 < w2.heap.size := by have := heap_lt Rk_2.out; omega
  clear hW hb
  refine (tell_yes _ 2 _ (row_c Rk_3.out (i := 0) rfl) (frozen_of_row _ _ 0 _ _ Rk_3.out)).mono ?_
  rintro e w4 ⟨rfl, rfl⟩
  obtain ⟨w5, hW⟩ : ∃ W : World, W = (w3.setCell ⟨w.heap.size + 1, 0, none⟩ (.int .i64 2)) := ⟨_, rfl⟩
  rw [← hW]
  have hO : Only (w.heap.size + 1) w3 w5 := by rw [hW]; exact ((Only.refl (w.heap.size + 1) w3).setCell 0 _)
  have L5 := Lib.hid (live_only L3.out hO Rk_3.out noint_re Gk)
  have Rr_5 := Lib.hid ((hO.block _ (by omega)).trans Rr_3.out)
  have Ra_5 := Lib.hid ((hO.block _ (by omega)).trans Ra_3.out)
  have Rk_5 := Lib.hid (show w5.heap[w.heap.size + 1]? = some (.cells #[.int .i64 2] 80 (0, 0)) by rw [hW]; exact (heap_setCell_same _ _ 0 _ _ _ Rk_3.out))
  clear hW hO
  go_wp2_with fail
  refine (HT2.out _).mono ?_
  rintro e w6 ⟨A6, c6, rfl, hd, hb⟩
  have L6 := Lib.hid ((L5.out.step hb).add hd)
  have Rr_6 := Lib.hid (cells_of Rr_5.out hb)
  have Rk_6 := Lib.hid (cells_of Rk_5.out hb)
  have Ra_6 := Lib.hid (cells_of Ra_5.out hb)
  clear hb hd
  go_wp2_with fail
  obtain ⟨w7, hW⟩ : ∃ W : World, W = (w6.alloc (.cells #[.bool (decide (n < 0)), .slice A6 (digs n.natAbs).length c6] 24)) := ⟨_, rfl⟩
  rw [← hW]
  have hb : Below w6.heap.size w6 w7 := by rw [hW]; exact ((Below.refl _ _).alloc (by simp <;> omega) _)
  have L7 := Lib.hid (L6.out.step hb)
  have Rr_7 := Lib.hid (cells_of Rr_6.out hb)
  have Rk_7 := Lib.hid (cells_of Rk_6.out hb)
  have Ra_7 := Lib.hid (cells_of Ra_6.out hb)
  have Rc_7 := Lib.hid (show w7.heap[w6.heap.size]? = some (.cells #[.bool (decide (n < 0)), .slice A6 (digs n.natAbs).length c6] 24 (0, 0)) by rw [hW]; have := heap_alloc_new w6 (.cells #[.bool (decide (n < 0)), .slice A6 (digs n.natAbs).length c6] 24); simpa using this)
  have Gc : w.heap.size ≤ w6.heap.size := by have := L6.out.1.size; omega
  have Nrc : w.heap.size < w6.heap.size := by have := heap_lt Rr_6.out; omega
  have Nkc : w.heap.size + 1 < w6.heap.size := by have := heap_lt Rk_6.out; omega
  have Nac : w2.heap.size < w6.heap.size := by have := heap_lt Ra_6.out; omega
  clear hW hb
  refine (tell_no _ 2 2 true _ (row_c Rk_7.out (i := 0) rfl) (.inr rfl)).mono ?_
  rintro e w8 ⟨rfl, rfl⟩
  have fc0 := row_c (i := 0) Rc_7.out rfl
  have zc0 := frozen_of_row _ _ 0 _ _ Rc_7.out
  have fc1 := row_c (i := 1) Rc_7.out rfl
  have zc1 := frozen_of_row _ _ 1 _ _ Rc_7.out
  have xc := heap_lt Rc_7.out
  go_wp2_with fail
  refine (SM.out _ _ _ (L7.out.get (A := A6) (c := c6) (xs := digs n.natAbs) (by simp))).mono ?_
  rintro e w9 ⟨rfl, hb⟩
  have L9 := Lib.hid (L7.out.step hb)
  clear fc0 zc0 fc1 zc1 xc
  have Rr_9 := Lib.hid (cells_of Rr_7.out hb)
  have Rk_9 := Lib.hid (cells_of Rk_7.out hb)
  have Ra_9 := Lib.hid (cells_of Ra_7.out hb)
  have Rc_9 := Lib.hid (cells_of Rc_7.out hb)
  clear hb 
  have fa0 := row_c (i := 0) Ra_9.out rfl
  have za0 := frozen_of_row _ _ 0 _ _ Ra_9.out
  have fa1 := row_c (i := 1) Ra_9.out rfl
  have za1 := frozen_of_row _ _ 1 _ _ Ra_9.out
  have xa := heap_lt Ra_9.out
  have fr0 := row_c (i := 0) Rr_9.out rfl
  have zr0 := frozen_of_row _ _ 0 _ _ Rr_9.out
  have fr1 := row_c (i := 1) Rr_9.out rfl
  have zr1 := frozen_of_row _ _ 1 _ _ Rr_9.out
  have fr2 := row_c (i := 2) Rr_9.out rfl
  have zr2 := frozen_of_row _ _ 2 _ _ Rr_9.out
  have xr := heap_lt Rr_9.out
  go_wp2_with fail
  obtain ⟨w10, hW⟩ : ∃ W : World, W = (((w9.setCell ⟨w.heap.size, 0, none⟩ (.bool (decide (m < 0)))).setCell ⟨w.heap.size, 1, none⟩ (.slice A2 (digs m.natAbs).length c2)).setCell ⟨w.heap.size, 2, none⟩ (.int .i64 q)) := ⟨_, rfl⟩
  rw [← hW]
  have hO : Only (w.heap.size) w9 w10 := by rw [hW]; exact ((((Only.refl (w.heap.size) w9).setCell 0 _).setCell 1 _).setCell 2 _)
  have L10 := Lib.hid (live_only L9.out hO Rr_9.out noint_dy Gr)
  have Rk_10 := Lib.hid ((hO.block _ (by omega)).trans Rk_9.out)
  have Ra_10 := Lib.hid ((hO.block _ (by omega)).trans Ra_9.out)
  have Rc_10 := Lib.hid ((hO.block _ (by omega)).trans Rc_9.out)
  have Rr_10 := Lib.hid (show w10.heap[w.heap.size]? = some (.cells #[.bool (decide (m < 0)), .slice A2 (digs m.natAbs).length c2, .int .i64 q] 26 (0, 0)) by rw [hW]; exact (heap_setCell_same _ _ 2 _ _ _ (heap_setCell_same _ _ 1 _ _ _ (heap_setCell_same _ _ 0 _ _ _ Rr_9.out))))
  clear hW hO
  clear fa0 za0 fa1 za1 xa fr0 zr0 fr1 zr1 fr2 zr2 xr
  have fr0 := row_c (i := 0) Rr_10.out rfl
  have zr0 := frozen_of_row _ _ 0 _ _ Rr_10.out
  have fr1 := row_c (i := 1) Rr_10.out rfl
  have zr1 := frozen_of_row _ _ 1 _ _ Rr_10.out
  have fr2 := row_c (i := 2) Rr_10.out rfl
  have zr2 := frozen_of_row _ _ 2 _ _ Rr_10.out
  have xr := heap_lt Rr_10.out
  go_wp2_with fail
  refine (dright_any A2 c2 (decide (m < 0)) (digs m.natAbs) q _ (L10.out.get (A := A2) (c := c2) (xs := digs m.natAbs) (by simp)) false HR.out (Nat.le_trans lx.out (by omega))).mono ?_
  rintro e w11 ⟨rfl, hb⟩
  have L11 := Lib.hid (L10.out.step hb)
  clear fr0 zr0 fr1 zr1 fr2 zr2 xr
  have Rr_11 := Lib.hid (cells_of Rr_10.out hb)
  have Rk_11 := Lib.hid (cells_of Rk_10.out hb)
  have Ra_11 := Lib.hid (cells_of Ra_10.out hb)
  have Rc_11 := Lib.hid (cells_of Rc_10.out hb)
  clear hb 
  go_wp2_with fail
  refine (tell_no _ 2 2 true _ (row_c Rk_11.out (i := 0) rfl) (.inr rfl)).mono ?_
  rintro e w12 ⟨rfl, rfl⟩
  go_wp2_with fail
  refine (fails_any _ 2 true _ (row_c Rk_11.out (i := 0) rfl) rfl).mono ?_
  rintro e w13 ⟨rfl, rfl⟩
  have fk0 := row_c (i := 0) Rk_11.out rfl
  have zk0 := frozen_of_row _ _ 0 _ _ Rk_11.out
  have xk := heap_lt Rk_11.out
  have fr0 := row_c (i := 0) Rr_11.out rfl
  have zr0 := frozen_of_row _ _ 0 _ _ Rr_11.out
  have fr1 := row_c (i := 1) Rr_11.out rfl
  have zr1 := frozen_of_row _ _ 1 _ _ Rr_11.out
  have fr2 := row_c (i := 2) Rr_11.out rfl
  have zr2 := frozen_of_row _ _ 2 _ _ Rr_11.out
  have xr := heap_lt Rr_11.out
  go_wp2_with fail
  go_region
  go_wp2
  clear fk0 zk0 xk fr0 zr0 fr1 zr1 fr2 zr2 xr
  obtain ⟨w14, hW⟩ : ∃ W : World, W = (((w11.setCell ⟨w.heap.size, 0, none⟩ (.bool false)).setCell ⟨w.heap.size, 1, none⟩ (.slice none 0 0)).setCell ⟨w.heap.size, 2, none⟩ (.int .i64 0)) := ⟨_, rfl⟩
  rw [← hW]
  have hO : Only (w.heap.size) w11 w14 := by rw [hW]; exact ((((Only.refl (w.heap.size) w11).setCell 0 _).setCell 1 _).setCell 2 _)
  have L14 := Lib.hid (live_only L11.out hO Rr_11.out noint_dy Gr)
  have Rk_14 := Lib.hid ((hO.block _ (by omega)).trans Rk_11.out)
  have Ra_14 := Lib.hid ((hO.block _ (by omega)).trans Ra_11.out)
  have Rc_14 := Lib.hid ((hO.block _ (by omega)).trans Rc_11.out)
  have Rr_14 := Lib.hid (show w14.heap[w.heap.size]? = some (.cells #[.bool false, .slice none 0 0, .int .i64 0] 26 (0, 0)) by rw [hW]; exact (heap_setCell_same _ _ 2 _ _ _ (heap_setCell_same _ _ 1 _ _ _ (heap_setCell_same _ _ 0 _ _ _ Rr_11.out))))
  clear hW hO
  obtain ⟨w15, hW⟩ : ∃ W : World, W = w14.drew := ⟨_, rfl⟩
  rw [← hW]
  have hb : Below w14.heap.size w14 w15 := by rw [hW]; exact bd0 _
  have L15 := Lib.hid (L14.out.step hb)
  have Rr_15 := Lib.hid (cells_of Rr_14.out hb)
  have Rk_15 := Lib.hid (cells_of Rk_14.out hb)
  have Ra_15 := Lib.hid (cells_of Ra_14.out hb)
  have Rc_15 := Lib.hid (cells_of Rc_14.out hb)
  clear hW hb
  have fr0 := row_c (i := 0) Rr_15.out rfl
  have zr0 := frozen_of_row _ _ 0 _ _ Rr_15.out
  have fr1 := row_c (i := 1) Rr_15.out rfl
  have zr1 := frozen_of_row _ _ 1 _ _ Rr_15.out
  have fr2 := row_c (i := 2) Rr_15.out rfl
  have zr2 := frozen_of_row _ _ 2 _ _ Rr_15.out
  have xr := heap_lt Rr_15.out
  refine bodyPost_ret (v := .tuple #[.agg #[.bool false, .slice none 0 0, .int .i64 0], .string ⟨#[]⟩, .int .i64 2]) (by simp [results, Tryd.results44, go_sem, fr0, fr1, fr2]) rfl ?_
  
  exact ⟨rfl, L15.out.1⟩

set_option maxHeartbeats 4000000 in
set_option maxRecDepth 100000 in
theorem dtk_b (b t1 t2 : ByteArray) (m n q : Int) (bI : Bool) (w : World) (T1 : ∀ W, Calls Tryd.prog 61 #[.string b] W fun e w' => Zt m t1 2 W e w') (T2 : ∀ W, Calls Tryd.prog 61 #[.string t1] W fun e w' => Zt n t2 2 W e w') (hl : (digs m.natAbs).length ≤ 400) (hn : (digs n.natAbs).length ≤ 400) (hq : smallz n = q) (hok : smallb n = true) (hR : dyR (decide (m < 0)) (digs m.natAbs) q = true) (hI : inR m q = bI):
    Calls Tryd.prog 44 #[.string b] w fun e w' => e = .returned (.tuple #[.agg #[.bool false, .slice none 0 0, .int .i64 0], .string ⟨#[]⟩, .int .i64 2]) ∧ Below w.heap.size w w' := by
  have HT1 := Lib.hid T1
  have HT2 := Lib.hid T2
  have lx := Lib.hid hl
  have ly := Lib.hid hn
  have SM := Lib.hid (fun W A c hW => zsm_yes (A := A) (c := c) (Nat.le_trans hn (by omega)) hq hok W hW)
  have HR := Lib.hid hR
  have HI := Lib.hid hI
  have L0 := Lib.hid (live_start w)
  clear T1 T2 hl hn hq hok hR hI
  go_enter Tryd.func44, Tryd.ntmps44
  go_wp2_with fail
  obtain ⟨v1, hW⟩ : ∃ W : World, W = ((w.alloc (.cells #[.bool false, .slice none 0 0, .int .i64 0] 26)).alloc (.cells #[.int .i64 0] 80)) := ⟨_, rfl⟩
  rw [← hW]
  have hb : Below w.heap.size w v1 := by rw [hW]; exact (((Below.refl _ _).alloc (by simp <;> omega) _).alloc (by simp <;> omega) _)
  have L1 := Lib.hid (L0.out.step hb)
  have Rr_1 := Lib.hid (show v1.heap[w.heap.size]? = some (.cells #[.bool false, .slice none 0 0, .int .i64 0] 26 (0, 0)) by rw [hW]; have := heap_alloc_new w (.cells #[.bool false, .slice none 0 0, .int .i64 0] 26); rw [heap_alloc_old _ _ (by simp <;> omega)]; simpa using this)
  have Gr : w.heap.size ≤ w.heap.size := by have := L0.out.1.size; omega
  have Rk_1 := Lib.hid (show v1.heap[w.heap.size + 1]? = some (.cells #[.int .i64 0] 80 (0, 0)) by rw [hW]; have := heap_alloc_new (w.alloc (.cells #[.bool false, .slice none 0 0, .int .i64 0] 26)) (.cells #[.int .i64 0] 80); simpa using this)
  have Gk : w.heap.size ≤ w.heap.size + 1 := by have := L0.out.1.size; omega
  have Nrk : w.heap.size < w.heap.size + 1 := by omega
  clear hW hb
  refine (HT1.out _).mono ?_
  rintro e w2 ⟨A2, c2, rfl, hd, hb⟩
  have L2 := Lib.hid ((L1.out.step hb).add hd)
  have Rr_2 := Lib.hid (cells_of Rr_1.out hb)
  have Rk_2 := Lib.hid (cells_of Rk_1.out hb)
  clear hb hd
  go_wp2_with fail
  obtain ⟨w3, hW⟩ : ∃ W : World, W = (w2.alloc (.cells #[.bool (decide (m < 0)), .slice A2 (digs m.natAbs).length c2] 24)) := ⟨_, rfl⟩
  rw [← hW]
  have hb : Below w2.heap.size w2 w3 := by rw [hW]; exact ((Below.refl _ _).alloc (by simp <;> omega) _)
  have L3 := Lib.hid (L2.out.step hb)
  have Rr_3 := Lib.hid (cells_of Rr_2.out hb)
  have Rk_3 := Lib.hid (cells_of Rk_2.out hb)
  have Ra_3 := Lib.hid (show w3.heap[w2.heap.size]? = some (.cells #[.bool (decide (m < 0)), .slice A2 (digs m.natAbs).length c2] 24 (0, 0)) by rw [hW]; have := heap_alloc_new w2 (.cells #[.bool (decide (m < 0)), .slice A2 (digs m.natAbs).length c2] 24); simpa using this)
  have Ga : w.heap.size ≤ w2.heap.size := by have := L2.out.1.size; omega
  have Nra : w.heap.size < w2.heap.size := by have := heap_lt Rr_2.out; omega
  have Nka : w.heap.size + 1 < w2.heap.size := by have := heap_lt Rk_2.out; omega
  clear hW hb
  refine (tell_yes _ 2 _ (row_c Rk_3.out (i := 0) rfl) (frozen_of_row _ _ 0 _ _ Rk_3.out)).mono ?_
  rintro e w4 ⟨rfl, rfl⟩
  obtain ⟨w5, hW⟩ : ∃ W : World, W = (w3.setCell ⟨w.heap.size + 1, 0, none⟩ (.int .i64 2)) := ⟨_, rfl⟩
  rw [← hW]
  have hO : Only (w.heap.size + 1) w3 w5 := by rw [hW]; exact ((Only.refl (w.heap.size + 1) w3).setCell 0 _)
  have L5 := Lib.hid (live_only L3.out hO Rk_3.out noint_re Gk)
  have Rr_5 := Lib.hid ((hO.block _ (by omega)).trans Rr_3.out)
  have Ra_5 := Lib.hid ((hO.block _ (by omega)).trans Ra_3.out)
  have Rk_5 := Lib.hid (show w5.heap[w.heap.size + 1]? = some (.cells #[.int .i64 2] 80 (0, 0)) by rw [hW]; exact (heap_setCell_same _ _ 0 _ _ _ Rk_3.out))
  clear hW hO
  go_wp2_with fail
  refine (HT2.out _).mono ?_
  rintro e w6 ⟨A6, c6, rfl, hd, hb⟩
  have L6 := Lib.hid ((L5.out.step hb).add hd)
  have Rr_6 := Lib.hid (cells_of Rr_5.out hb)
  have Rk_6 := Lib.hid (cells_of Rk_5.out hb)
  have Ra_6 := Lib.hid (cells_of Ra_5.out hb)
  clear hb hd
  go_wp2_with fail
  obtain ⟨w7, hW⟩ : ∃ W : World, W = (w6.alloc (.cells #[.bool (decide (n < 0)), .slice A6 (digs n.natAbs).length c6] 24)) := ⟨_, rfl⟩
  rw [← hW]
  have hb : Below w6.heap.size w6 w7 := by rw [hW]; exact ((Below.refl _ _).alloc (by simp <;> omega) _)
  have L7 := Lib.hid (L6.out.step hb)
  have Rr_7 := Lib.hid (cells_of Rr_6.out hb)
  have Rk_7 := Lib.hid (cells_of Rk_6.out hb)
  have Ra_7 := Lib.hid (cells_of Ra_6.out hb)
  have Rc_7 := Lib.hid (show w7.heap[w6.heap.size]? = some (.cells #[.bool (decide (n < 0)), .slice A6 (digs n.natAbs).length c6] 24 (0, 0)) by rw [hW]; have := heap_alloc_new w6 (.cells #[.bool (decide (n < 0)), .slice A6 (digs n.natAbs).length c6] 24); simpa using this)
  have Gc : w.heap.size ≤ w6.heap.size := by have := L6.out.1.size; omega
  have Nrc : w.heap.size < w6.heap.size := by have := heap_lt Rr_6.out; omega
  have Nkc : w.heap.size + 1 < w6.heap.size := by have := heap_lt Rk_6.out; omega
  have Nac : w2.heap.size < w6.heap.size := by have := heap_lt Ra_6.out; omega
  clear hW hb
  refine (tell_no _ 2 2 true _ (row_c Rk_7.out (i := 0) rfl) (.inr rfl)).mono ?_
  rintro e w8 ⟨rfl, rfl⟩
  have fc0 := row_c (i := 0) Rc_7.out rfl
  have zc0 := frozen_of_row _ _ 0 _ _ Rc_7.out
  have fc1 := row_c (i := 1) Rc_7.out rfl
  have zc1 := frozen_of_row _ _ 1 _ _ Rc_7.out
  have xc := heap_lt Rc_7.out
  go_wp2_with fail
  refine (SM.out _ _ _ (L7.out.get (A := A6) (c := c6) (xs := digs n.natAbs) (by simp))).mono ?_
  rintro e w9 ⟨rfl, hb⟩
  have L9 := Lib.hid (L7.out.step hb)
  clear fc0 zc0 fc1 zc1 xc
  have Rr_9 := Lib.hid (cells_of Rr_7.out hb)
  have Rk_9 := Lib.hid (cells_of Rk_7.out hb)
  have Ra_9 := Lib.hid (cells_of Ra_7.out hb)
  have Rc_9 := Lib.hid (cells_of Rc_7.out hb)
  clear hb 
  have fa0 := row_c (i := 0) Ra_9.out rfl
  have za0 := frozen_of_row _ _ 0 _ _ Ra_9.out
  have fa1 := row_c (i := 1) Ra_9.out rfl
  have za1 := frozen_of_row _ _ 1 _ _ Ra_9.out
  have xa := heap_lt Ra_9.out
  have fr0 := row_c (i := 0) Rr_9.out rfl
  have zr0 := frozen_of_row _ _ 0 _ _ Rr_9.out
  have fr1 := row_c (i := 1) Rr_9.out rfl
  have zr1 := frozen_of_row _ _ 1 _ _ Rr_9.out
  have fr2 := row_c (i := 2) Rr_9.out rfl
  have zr2 := frozen_of_row _ _ 2 _ _ Rr_9.out
  have xr := heap_lt Rr_9.out
  go_wp2_with fail
  obtain ⟨w10, hW⟩ : ∃ W : World, W = (((w9.setCell ⟨w.heap.size, 0, none⟩ (.bool (decide (m < 0)))).setCell ⟨w.heap.size, 1, none⟩ (.slice A2 (digs m.natAbs).length c2)).setCell ⟨w.heap.size, 2, none⟩ (.int .i64 q)) := ⟨_, rfl⟩
  rw [← hW]
  have hO : Only (w.heap.size) w9 w10 := by rw [hW]; exact ((((Only.refl (w.heap.size) w9).setCell 0 _).setCell 1 _).setCell 2 _)
  have L10 := Lib.hid (live_only L9.out hO Rr_9.out noint_dy Gr)
  have Rk_10 := Lib.hid ((hO.block _ (by omega)).trans Rk_9.out)
  have Ra_10 := Lib.hid ((hO.block _ (by omega)).trans Ra_9.out)
  have Rc_10 := Lib.hid ((hO.block _ (by omega)).trans Rc_9.out)
  have Rr_10 := Lib.hid (show w10.heap[w.heap.size]? = some (.cells #[.bool (decide (m < 0)), .slice A2 (digs m.natAbs).length c2, .int .i64 q] 26 (0, 0)) by rw [hW]; exact (heap_setCell_same _ _ 2 _ _ _ (heap_setCell_same _ _ 1 _ _ _ (heap_setCell_same _ _ 0 _ _ _ Rr_9.out))))
  clear hW hO
  clear fa0 za0 fa1 za1 xa fr0 zr0 fr1 zr1 fr2 zr2 xr
  have fr0 := row_c (i := 0) Rr_10.out rfl
  have zr0 := frozen_of_row _ _ 0 _ _ Rr_10.out
  have fr1 := row_c (i := 1) Rr_10.out rfl
  have zr1 := frozen_of_row _ _ 1 _ _ Rr_10.out
  have fr2 := row_c (i := 2) Rr_10.out rfl
  have zr2 := frozen_of_row _ _ 2 _ _ Rr_10.out
  have xr := heap_lt Rr_10.out
  go_wp2_with fail
  refine (dright_any A2 c2 (decide (m < 0)) (digs m.natAbs) q _ (L10.out.get (A := A2) (c := c2) (xs := digs m.natAbs) (by simp)) true HR.out (Nat.le_trans lx.out (by omega))).mono ?_
  rintro e w11 ⟨rfl, hb⟩
  have L11 := Lib.hid (L10.out.step hb)
  clear fr0 zr0 fr1 zr1 fr2 zr2 xr
  have Rr_11 := Lib.hid (cells_of Rr_10.out hb)
  have Rk_11 := Lib.hid (cells_of Rk_10.out hb)
  have Ra_11 := Lib.hid (cells_of Ra_10.out hb)
  have Rc_11 := Lib.hid (cells_of Rc_10.out hb)
  clear hb 
  have fr0 := row_c (i := 0) Rr_11.out rfl
  have zr0 := frozen_of_row _ _ 0 _ _ Rr_11.out
  have fr1 := row_c (i := 1) Rr_11.out rfl
  have zr1 := frozen_of_row _ _ 1 _ _ Rr_11.out
  have fr2 := row_c (i := 2) Rr_11.out rfl
  have zr2 := frozen_of_row _ _ 2 _ _ Rr_11.out
  have xr := heap_lt Rr_11.out
  go_wp2_with fail
  refine (inRange_any A2 c2 (decide (m < 0)) m q _ (L11.out.get (A := A2) (c := c2) (xs := digs m.natAbs) (by simp)) bI HI.out (Nat.le_trans lx.out (by omega))).mono ?_
  rintro e w12 ⟨rfl, hb⟩
  have L12 := Lib.hid (L11.out.step hb)
  clear fr0 zr0 fr1 zr1 fr2 zr2 xr
  have Rr_12 := Lib.hid (cells_of Rr_11.out hb)
  have Rk_12 := Lib.hid (cells_of Rk_11.out hb)
  have Ra_12 := Lib.hid (cells_of Ra_11.out hb)
  have Rc_12 := Lib.hid (cells_of Rc_11.out hb)
  clear hb 
  go_wp2_with fail
  refine (tell_no _ 2 2 (!bI) _ (row_c Rk_12.out (i := 0) rfl) (.inr rfl)).mono ?_
  rintro e w13 ⟨rfl, rfl⟩
  go_wp2_with fail
  refine (fails_any _ 2 true _ (row_c Rk_12.out (i := 0) rfl) rfl).mono ?_
  rintro e w14 ⟨rfl, rfl⟩
  have fk0 := row_c (i := 0) Rk_12.out rfl
  have zk0 := frozen_of_row _ _ 0 _ _ Rk_12.out
  have xk := heap_lt Rk_12.out
  have fr0 := row_c (i := 0) Rr_12.out rfl
  have zr0 := frozen_of_row _ _ 0 _ _ Rr_12.out
  have fr1 := row_c (i := 1) Rr_12.out rfl
  have zr1 := frozen_of_row _ _ 1 _ _ Rr_12.out
  have fr2 := row_c (i := 2) Rr_12.out rfl
  have zr2 := frozen_of_row _ _ 2 _ _ Rr_12.out
  have xr := heap_lt Rr_12.out
  go_wp2_with fail
  go_region
  go_wp2
  clear fk0 zk0 xk fr0 zr0 fr1 zr1 fr2 zr2 xr
  obtain ⟨w15, hW⟩ : ∃ W : World, W = (((w12.setCell ⟨w.heap.size, 0, none⟩ (.bool false)).setCell ⟨w.heap.size, 1, none⟩ (.slice none 0 0)).setCell ⟨w.heap.size, 2, none⟩ (.int .i64 0)) := ⟨_, rfl⟩
  rw [← hW]
  have hO : Only (w.heap.size) w12 w15 := by rw [hW]; exact ((((Only.refl (w.heap.size) w12).setCell 0 _).setCell 1 _).setCell 2 _)
  have L15 := Lib.hid (live_only L12.out hO Rr_12.out noint_dy Gr)
  have Rk_15 := Lib.hid ((hO.block _ (by omega)).trans Rk_12.out)
  have Ra_15 := Lib.hid ((hO.block _ (by omega)).trans Ra_12.out)
  have Rc_15 := Lib.hid ((hO.block _ (by omega)).trans Rc_12.out)
  have Rr_15 := Lib.hid (show w15.heap[w.heap.size]? = some (.cells #[.bool false, .slice none 0 0, .int .i64 0] 26 (0, 0)) by rw [hW]; exact (heap_setCell_same _ _ 2 _ _ _ (heap_setCell_same _ _ 1 _ _ _ (heap_setCell_same _ _ 0 _ _ _ Rr_12.out))))
  clear hW hO
  obtain ⟨w16, hW⟩ : ∃ W : World, W = w15.drew := ⟨_, rfl⟩
  rw [← hW]
  have hb : Below w15.heap.size w15 w16 := by rw [hW]; exact bd0 _
  have L16 := Lib.hid (L15.out.step hb)
  have Rr_16 := Lib.hid (cells_of Rr_15.out hb)
  have Rk_16 := Lib.hid (cells_of Rk_15.out hb)
  have Ra_16 := Lib.hid (cells_of Ra_15.out hb)
  have Rc_16 := Lib.hid (cells_of Rc_15.out hb)
  clear hW hb
  have fr0 := row_c (i := 0) Rr_16.out rfl
  have zr0 := frozen_of_row _ _ 0 _ _ Rr_16.out
  have fr1 := row_c (i := 1) Rr_16.out rfl
  have zr1 := frozen_of_row _ _ 1 _ _ Rr_16.out
  have fr2 := row_c (i := 2) Rr_16.out rfl
  have zr2 := frozen_of_row _ _ 2 _ _ Rr_16.out
  have xr := heap_lt Rr_16.out
  refine bodyPost_ret (v := .tuple #[.agg #[.bool false, .slice none 0 0, .int .i64 0], .string ⟨#[]⟩, .int .i64 2]) (by simp [results, Tryd.results44, go_sem, fr0, fr1, fr2]) rfl ?_
  
  exact ⟨rfl, L16.out.1⟩

set_option maxHeartbeats 4000000 in
set_option maxRecDepth 100000 in
theorem dtk_c (b t1 t2 : ByteArray) (m n q : Int) (w : World) (T1 : ∀ W, Calls Tryd.prog 61 #[.string b] W fun e w' => Zt m t1 0 W e w') (T2 : ∀ W, Calls Tryd.prog 61 #[.string t1] W fun e w' => Zt n t2 2 W e w') (hl : (digs m.natAbs).length ≤ 400) (hn : (digs n.natAbs).length ≤ 400) (hq : smallz n = q) (hok : smallb n = true) (hR : dyR (decide (m < 0)) (digs m.natAbs) q = false):
    Calls Tryd.prog 44 #[.string b] w fun e w' => e = .returned (.tuple #[.agg #[.bool false, .slice none 0 0, .int .i64 0], .string ⟨#[]⟩, .int .i64 2]) ∧ Below w.heap.size w w' := by
  have HT1 := Lib.hid T1
  have HT2 := Lib.hid T2
  have lx := Lib.hid hl
  have ly := Lib.hid hn
  have SM := Lib.hid (fun W A c hW => zsm_yes (A := A) (c := c) (Nat.le_trans hn (by omega)) hq hok W hW)
  have HR := Lib.hid hR
  have L0 := Lib.hid (live_start w)
  clear T1 T2 hl hn hq hok hR
  go_enter Tryd.func44, Tryd.ntmps44
  go_wp2_with fail
  obtain ⟨v1, hW⟩ : ∃ W : World, W = ((w.alloc (.cells #[.bool false, .slice none 0 0, .int .i64 0] 26)).alloc (.cells #[.int .i64 0] 80)) := ⟨_, rfl⟩
  rw [← hW]
  have hb : Below w.heap.size w v1 := by rw [hW]; exact (((Below.refl _ _).alloc (by simp <;> omega) _).alloc (by simp <;> omega) _)
  have L1 := Lib.hid (L0.out.step hb)
  have Rr_1 := Lib.hid (show v1.heap[w.heap.size]? = some (.cells #[.bool false, .slice none 0 0, .int .i64 0] 26 (0, 0)) by rw [hW]; have := heap_alloc_new w (.cells #[.bool false, .slice none 0 0, .int .i64 0] 26); rw [heap_alloc_old _ _ (by simp <;> omega)]; simpa using this)
  have Gr : w.heap.size ≤ w.heap.size := by have := L0.out.1.size; omega
  have Rk_1 := Lib.hid (show v1.heap[w.heap.size + 1]? = some (.cells #[.int .i64 0] 80 (0, 0)) by rw [hW]; have := heap_alloc_new (w.alloc (.cells #[.bool false, .slice none 0 0, .int .i64 0] 26)) (.cells #[.int .i64 0] 80); simpa using this)
  have Gk : w.heap.size ≤ w.heap.size + 1 := by have := L0.out.1.size; omega
  have Nrk : w.heap.size < w.heap.size + 1 := by omega
  clear hW hb
  refine (HT1.out _).mono ?_
  rintro e w2 ⟨A2, c2, rfl, hd, hb⟩
  have L2 := Lib.hid ((L1.out.step hb).add hd)
  have Rr_2 := Lib.hid (cells_of Rr_1.out hb)
  have Rk_2 := Lib.hid (cells_of Rk_1.out hb)
  clear hb hd
  go_wp2_with fail
  obtain ⟨w3, hW⟩ : ∃ W : World, W = (w2.alloc (.cells #[.bool (decide (m < 0)), .slice A2 (digs m.natAbs).length c2] 24)) := ⟨_, rfl⟩
  rw [← hW]
  have hb : Below w2.heap.size w2 w3 := by rw [hW]; exact ((Below.refl _ _).alloc (by simp <;> omega) _)
  have L3 := Lib.hid (L2.out.step hb)
  have Rr_3 := Lib.hid (cells_of Rr_2.out hb)
  have Rk_3 := Lib.hid (cells_of Rk_2.out hb)
  have Ra_3 := Lib.hid (show w3.heap[w2.heap.size]? = some (.cells #[.bool (decide (m < 0)), .slice A2 (digs m.natAbs).length c2] 24 (0, 0)) by rw [hW]; have := heap_alloc_new w2 (.cells #[.bool (decide (m < 0)), .slice A2 (digs m.natAbs).length c2] 24); simpa using this)
  have Ga : w.heap.size ≤ w2.heap.size := by have := L2.out.1.size; omega
  have Nra : w.heap.size < w2.heap.size := by have := heap_lt Rr_2.out; omega
  have Nka : w.heap.size + 1 < w2.heap.size := by have := heap_lt Rk_2.out; omega
  clear hW hb
  refine (tell_no _ 0 0 false _ (row_c Rk_3.out (i := 0) rfl) (.inl rfl)).mono ?_
  rintro e w4 ⟨rfl, rfl⟩
  go_wp2_with fail
  refine (HT2.out _).mono ?_
  rintro e w5 ⟨A5, c5, rfl, hd, hb⟩
  have L5 := Lib.hid ((L3.out.step hb).add hd)
  have Rr_5 := Lib.hid (cells_of Rr_3.out hb)
  have Rk_5 := Lib.hid (cells_of Rk_3.out hb)
  have Ra_5 := Lib.hid (cells_of Ra_3.out hb)
  clear hb hd
  go_wp2_with fail
  obtain ⟨w6, hW⟩ : ∃ W : World, W = (w5.alloc (.cells #[.bool (decide (n < 0)), .slice A5 (digs n.natAbs).length c5] 24)) := ⟨_, rfl⟩
  rw [← hW]
  have hb : Below w5.heap.size w5 w6 := by rw [hW]; exact ((Below.refl _ _).alloc (by simp <;> omega) _)
  have L6 := Lib.hid (L5.out.step hb)
  have Rr_6 := Lib.hid (cells_of Rr_5.out hb)
  have Rk_6 := Lib.hid (cells_of Rk_5.out hb)
  have Ra_6 := Lib.hid (cells_of Ra_5.out hb)
  have Rc_6 := Lib.hid (show w6.heap[w5.heap.size]? = some (.cells #[.bool (decide (n < 0)), .slice A5 (digs n.natAbs).length c5] 24 (0, 0)) by rw [hW]; have := heap_alloc_new w5 (.cells #[.bool (decide (n < 0)), .slice A5 (digs n.natAbs).length c5] 24); simpa using this)
  have Gc : w.heap.size ≤ w5.heap.size := by have := L5.out.1.size; omega
  have Nrc : w.heap.size < w5.heap.size := by have := heap_lt Rr_5.out; omega
  have Nkc : w.heap.size + 1 < w5.heap.size := by have := heap_lt Rk_5.out; omega
  have Nac : w2.heap.size < w5.heap.size := by have := heap_lt Ra_5.out; omega
  clear hW hb
  refine (tell_yes _ 2 _ (row_c Rk_6.out (i := 0) rfl) (frozen_of_row _ _ 0 _ _ Rk_6.out)).mono ?_
  rintro e w7 ⟨rfl, rfl⟩
  obtain ⟨w8, hW⟩ : ∃ W : World, W = (w6.setCell ⟨w.heap.size + 1, 0, none⟩ (.int .i64 2)) := ⟨_, rfl⟩
  rw [← hW]
  have hO : Only (w.heap.size + 1) w6 w8 := by rw [hW]; exact ((Only.refl (w.heap.size + 1) w6).setCell 0 _)
  have L8 := Lib.hid (live_only L6.out hO Rk_6.out noint_re Gk)
  have Rr_8 := Lib.hid ((hO.block _ (by omega)).trans Rr_6.out)
  have Ra_8 := Lib.hid ((hO.block _ (by omega)).trans Ra_6.out)
  have Rc_8 := Lib.hid ((hO.block _ (by omega)).trans Rc_6.out)
  have Rk_8 := Lib.hid (show w8.heap[w.heap.size + 1]? = some (.cells #[.int .i64 2] 80 (0, 0)) by rw [hW]; exact (heap_setCell_same _ _ 0 _ _ _ Rk_6.out))
  clear hW hO
  have fc0 := row_c (i := 0) Rc_8.out rfl
  have zc0 := frozen_of_row _ _ 0 _ _ Rc_8.out
  have fc1 := row_c (i := 1) Rc_8.out rfl
  have zc1 := frozen_of_row _ _ 1 _ _ Rc_8.out
  have xc := heap_lt Rc_8.out
  go_wp2_with fail
  refine (SM.out _ _ _ (L8.out.get (A := A5) (c := c5) (xs := digs n.natAbs) (by simp))).mono ?_
  rintro e w9 ⟨rfl, hb⟩
  have L9 := Lib.hid (L8.out.step hb)
  clear fc0 zc0 fc1 zc1 xc
  have Rr_9 := Lib.hid (cells_of Rr_8.out hb)
  have Rk_9 := Lib.hid (cells_of Rk_8.out hb)
  have Ra_9 := Lib.hid (cells_of Ra_8.out hb)
  have Rc_9 := Lib.hid (cells_of Rc_8.out hb)
  clear hb 
  have fa0 := row_c (i := 0) Ra_9.out rfl
  have za0 := frozen_of_row _ _ 0 _ _ Ra_9.out
  have fa1 := row_c (i := 1) Ra_9.out rfl
  have za1 := frozen_of_row _ _ 1 _ _ Ra_9.out
  have xa := heap_lt Ra_9.out
  have fr0 := row_c (i := 0) Rr_9.out rfl
  have zr0 := frozen_of_row _ _ 0 _ _ Rr_9.out
  have fr1 := row_c (i := 1) Rr_9.out rfl
  have zr1 := frozen_of_row _ _ 1 _ _ Rr_9.out
  have fr2 := row_c (i := 2) Rr_9.out rfl
  have zr2 := frozen_of_row _ _ 2 _ _ Rr_9.out
  have xr := heap_lt Rr_9.out
  go_wp2_with fail
  obtain ⟨w10, hW⟩ : ∃ W : World, W = (((w9.setCell ⟨w.heap.size, 0, none⟩ (.bool (decide (m < 0)))).setCell ⟨w.heap.size, 1, none⟩ (.slice A2 (digs m.natAbs).length c2)).setCell ⟨w.heap.size, 2, none⟩ (.int .i64 q)) := ⟨_, rfl⟩
  rw [← hW]
  have hO : Only (w.heap.size) w9 w10 := by rw [hW]; exact ((((Only.refl (w.heap.size) w9).setCell 0 _).setCell 1 _).setCell 2 _)
  have L10 := Lib.hid (live_only L9.out hO Rr_9.out noint_dy Gr)
  have Rk_10 := Lib.hid ((hO.block _ (by omega)).trans Rk_9.out)
  have Ra_10 := Lib.hid ((hO.block _ (by omega)).trans Ra_9.out)
  have Rc_10 := Lib.hid ((hO.block _ (by omega)).trans Rc_9.out)
  have Rr_10 := Lib.hid (show w10.heap[w.heap.size]? = some (.cells #[.bool (decide (m < 0)), .slice A2 (digs m.natAbs).length c2, .int .i64 q] 26 (0, 0)) by rw [hW]; exact (heap_setCell_same _ _ 2 _ _ _ (heap_setCell_same _ _ 1 _ _ _ (heap_setCell_same _ _ 0 _ _ _ Rr_9.out))))
  clear hW hO
  clear fa0 za0 fa1 za1 xa fr0 zr0 fr1 zr1 fr2 zr2 xr
  have fr0 := row_c (i := 0) Rr_10.out rfl
  have zr0 := frozen_of_row _ _ 0 _ _ Rr_10.out
  have fr1 := row_c (i := 1) Rr_10.out rfl
  have zr1 := frozen_of_row _ _ 1 _ _ Rr_10.out
  have fr2 := row_c (i := 2) Rr_10.out rfl
  have zr2 := frozen_of_row _ _ 2 _ _ Rr_10.out
  have xr := heap_lt Rr_10.out
  go_wp2_with fail
  refine (dright_any A2 c2 (decide (m < 0)) (digs m.natAbs) q _ (L10.out.get (A := A2) (c := c2) (xs := digs m.natAbs) (by simp)) false HR.out (Nat.le_trans lx.out (by omega))).mono ?_
  rintro e w11 ⟨rfl, hb⟩
  have L11 := Lib.hid (L10.out.step hb)
  clear fr0 zr0 fr1 zr1 fr2 zr2 xr
  have Rr_11 := Lib.hid (cells_of Rr_10.out hb)
  have Rk_11 := Lib.hid (cells_of Rk_10.out hb)
  have Ra_11 := Lib.hid (cells_of Ra_10.out hb)
  have Rc_11 := Lib.hid (cells_of Rc_10.out hb)
  clear hb 
  go_wp2_with fail
  refine (tell_no _ 2 2 true _ (row_c Rk_11.out (i := 0) rfl) (.inr rfl)).mono ?_
  rintro e w12 ⟨rfl, rfl⟩
  go_wp2_with fail
  refine (fails_any _ 2 true _ (row_c Rk_11.out (i := 0) rfl) rfl).mono ?_
  rintro e w13 ⟨rfl, rfl⟩
  have fk0 := row_c (i := 0) Rk_11.out rfl
  have zk0 := frozen_of_row _ _ 0 _ _ Rk_11.out
  have xk := heap_lt Rk_11.out
  have fr0 := row_c (i := 0) Rr_11.out rfl
  have zr0 := frozen_of_row _ _ 0 _ _ Rr_11.out
  have fr1 := row_c (i := 1) Rr_11.out rfl
  have zr1 := frozen_of_row _ _ 1 _ _ Rr_11.out
  have fr2 := row_c (i := 2) Rr_11.out rfl
  have zr2 := frozen_of_row _ _ 2 _ _ Rr_11.out
  have xr := heap_lt Rr_11.out
  go_wp2_with fail
  go_region
  go_wp2
  clear fk0 zk0 xk fr0 zr0 fr1 zr1 fr2 zr2 xr
  obtain ⟨w14, hW⟩ : ∃ W : World, W = (((w11.setCell ⟨w.heap.size, 0, none⟩ (.bool false)).setCell ⟨w.heap.size, 1, none⟩ (.slice none 0 0)).setCell ⟨w.heap.size, 2, none⟩ (.int .i64 0)) := ⟨_, rfl⟩
  rw [← hW]
  have hO : Only (w.heap.size) w11 w14 := by rw [hW]; exact ((((Only.refl (w.heap.size) w11).setCell 0 _).setCell 1 _).setCell 2 _)
  have L14 := Lib.hid (live_only L11.out hO Rr_11.out noint_dy Gr)
  have Rk_14 := Lib.hid ((hO.block _ (by omega)).trans Rk_11.out)
  have Ra_14 := Lib.hid ((hO.block _ (by omega)).trans Ra_11.out)
  have Rc_14 := Lib.hid ((hO.block _ (by omega)).trans Rc_11.out)
  have Rr_14 := Lib.hid (show w14.heap[w.heap.size]? = some (.cells #[.bool false, .slice none 0 0, .int .i64 0] 26 (0, 0)) by rw [hW]; exact (heap_setCell_same _ _ 2 _ _ _ (heap_setCell_same _ _ 1 _ _ _ (heap_setCell_same _ _ 0 _ _ _ Rr_11.out))))
  clear hW hO
  obtain ⟨w15, hW⟩ : ∃ W : World, W = w14.drew := ⟨_, rfl⟩
  rw [← hW]
  have hb : Below w14.heap.size w14 w15 := by rw [hW]; exact bd0 _
  have L15 := Lib.hid (L14.out.step hb)
  have Rr_15 := Lib.hid (cells_of Rr_14.out hb)
  have Rk_15 := Lib.hid (cells_of Rk_14.out hb)
  have Ra_15 := Lib.hid (cells_of Ra_14.out hb)
  have Rc_15 := Lib.hid (cells_of Rc_14.out hb)
  clear hW hb
  have fr0 := row_c (i := 0) Rr_15.out rfl
  have zr0 := frozen_of_row _ _ 0 _ _ Rr_15.out
  have fr1 := row_c (i := 1) Rr_15.out rfl
  have zr1 := frozen_of_row _ _ 1 _ _ Rr_15.out
  have fr2 := row_c (i := 2) Rr_15.out rfl
  have zr2 := frozen_of_row _ _ 2 _ _ Rr_15.out
  have xr := heap_lt Rr_15.out
  refine bodyPost_ret (v := .tuple #[.agg #[.bool false, .slice none 0 0, .int .i64 0], .string ⟨#[]⟩, .int .i64 2]) (by simp [results, Tryd.results44, go_sem, fr0, fr1, fr2]) rfl ?_
  
  exact ⟨rfl, L15.out.1⟩

set_option maxHeartbeats 4000000 in
set_option maxRecDepth 100000 in
theorem dtk_d (b t1 t2 : ByteArray) (m n q : Int) (bI : Bool) (w : World) (T1 : ∀ W, Calls Tryd.prog 61 #[.string b] W fun e w' => Zt m t1 0 W e w') (T2 : ∀ W, Calls Tryd.prog 61 #[.string t1] W fun e w' => Zt n t2 2 W e w') (hl : (digs m.natAbs).length ≤ 400) (hn : (digs n.natAbs).length ≤ 400) (hq : smallz n = q) (hok : smallb n = true) (hR : dyR (decide (m < 0)) (digs m.natAbs) q = true) (hI : inR m q = bI):
    Calls Tryd.prog 44 #[.string b] w fun e w' => e = .returned (.tuple #[.agg #[.bool false, .slice none 0 0, .int .i64 0], .string ⟨#[]⟩, .int .i64 2]) ∧ Below w.heap.size w w' := by
  have HT1 := Lib.hid T1
  have HT2 := Lib.hid T2
  have lx := Lib.hid hl
  have ly := Lib.hid hn
  have SM := Lib.hid (fun W A c hW => zsm_yes (A := A) (c := c) (Nat.le_trans hn (by omega)) hq hok W hW)
  have HR := Lib.hid hR
  have HI := Lib.hid hI
  have L0 := Lib.hid (live_start w)
  clear T1 T2 hl hn hq hok hR hI
  go_enter Tryd.func44, Tryd.ntmps44
  go_wp2_with fail
  obtain ⟨v1, hW⟩ : ∃ W : World, W = ((w.alloc (.cells #[.bool false, .slice none 0 0, .int .i64 0] 26)).alloc (.cells #[.int .i64 0] 80)) := ⟨_, rfl⟩
  rw [← hW]
  have hb : Below w.heap.size w v1 := by rw [hW]; exact (((Below.refl _ _).alloc (by simp <;> omega) _).alloc (by simp <;> omega) _)
  have L1 := Lib.hid (L0.out.step hb)
  have Rr_1 := Lib.hid (show v1.heap[w.heap.size]? = some (.cells #[.bool false, .slice none 0 0, .int .i64 0] 26 (0, 0)) by rw [hW]; have := heap_alloc_new w (.cells #[.bool false, .slice none 0 0, .int .i64 0] 26); rw [heap_alloc_old _ _ (by simp <;> omega)]; simpa using this)
  have Gr : w.heap.size ≤ w.heap.size := by have := L0.out.1.size; omega
  have Rk_1 := Lib.hid (show v1.heap[w.heap.size + 1]? = some (.cells #[.int .i64 0] 80 (0, 0)) by rw [hW]; have := heap_alloc_new (w.alloc (.cells #[.bool false, .slice none 0 0, .int .i64 0] 26)) (.cells #[.int .i64 0] 80); simpa using this)
  have Gk : w.heap.size ≤ w.heap.size + 1 := by have := L0.out.1.size; omega
  have Nrk : w.heap.size < w.heap.size + 1 := by omega
  clear hW hb
  refine (HT1.out _).mono ?_
  rintro e w2 ⟨A2, c2, rfl, hd, hb⟩
  have L2 := Lib.hid ((L1.out.step hb).add hd)
  have Rr_2 := Lib.hid (cells_of Rr_1.out hb)
  have Rk_2 := Lib.hid (cells_of Rk_1.out hb)
  clear hb hd
  go_wp2_with fail
  obtain ⟨w3, hW⟩ : ∃ W : World, W = (w2.alloc (.cells #[.bool (decide (m < 0)), .slice A2 (digs m.natAbs).length c2] 24)) := ⟨_, rfl⟩
  rw [← hW]
  have hb : Below w2.heap.size w2 w3 := by rw [hW]; exact ((Below.refl _ _).alloc (by simp <;> omega) _)
  have L3 := Lib.hid (L2.out.step hb)
  have Rr_3 := Lib.hid (cells_of Rr_2.out hb)
  have Rk_3 := Lib.hid (cells_of Rk_2.out hb)
  have Ra_3 := Lib.hid (show w3.heap[w2.heap.size]? = some (.cells #[.bool (decide (m < 0)), .slice A2 (digs m.natAbs).length c2] 24 (0, 0)) by rw [hW]; have := heap_alloc_new w2 (.cells #[.bool (decide (m < 0)), .slice A2 (digs m.natAbs).length c2] 24); simpa using this)
  have Ga : w.heap.size ≤ w2.heap.size := by have := L2.out.1.size; omega
  have Nra : w.heap.size < w2.heap.size := by have := heap_lt Rr_2.out; omega
  have Nka : w.heap.size + 1 < w2.heap.size := by have := heap_lt Rk_2.out; omega
  clear hW hb
  refine (tell_no _ 0 0 false _ (row_c Rk_3.out (i := 0) rfl) (.inl rfl)).mono ?_
  rintro e w4 ⟨rfl, rfl⟩
  go_wp2_with fail
  refine (HT2.out _).mono ?_
  rintro e w5 ⟨A5, c5, rfl, hd, hb⟩
  have L5 := Lib.hid ((L3.out.step hb).add hd)
  have Rr_5 := Lib.hid (cells_of Rr_3.out hb)
  have Rk_5 := Lib.hid (cells_of Rk_3.out hb)
  have Ra_5 := Lib.hid (cells_of Ra_3.out hb)
  clear hb hd
  go_wp2_with fail
  obtain ⟨w6, hW⟩ : ∃ W : World, W = (w5.alloc (.cells #[.bool (decide (n < 0)), .slice A5 (digs n.natAbs).length c5] 24)) := ⟨_, rfl⟩
  rw [← hW]
  have hb : Below w5.heap.size w5 w6 := by rw [hW]; exact ((Below.refl _ _).alloc (by simp <;> omega) _)
  have L6 := Lib.hid (L5.out.step hb)
  have Rr_6 := Lib.hid (cells_of Rr_5.out hb)
  have Rk_6 := Lib.hid (cells_of Rk_5.out hb)
  have Ra_6 := Lib.hid (cells_of Ra_5.out hb)
  have Rc_6 := Lib.hid (show w6.heap[w5.heap.size]? = some (.cells #[.bool (decide (n < 0)), .slice A5 (digs n.natAbs).length c5] 24 (0, 0)) by rw [hW]; have := heap_alloc_new w5 (.cells #[.bool (decide (n < 0)), .slice A5 (digs n.natAbs).length c5] 24); simpa using this)
  have Gc : w.heap.size ≤ w5.heap.size := by have := L5.out.1.size; omega
  have Nrc : w.heap.size < w5.heap.size := by have := heap_lt Rr_5.out; omega
  have Nkc : w.heap.size + 1 < w5.heap.size := by have := heap_lt Rk_5.out; omega
  have Nac : w2.heap.size < w5.heap.size := by have := heap_lt Ra_5.out; omega
  clear hW hb
  refine (tell_yes _ 2 _ (row_c Rk_6.out (i := 0) rfl) (frozen_of_row _ _ 0 _ _ Rk_6.out)).mono ?_
  rintro e w7 ⟨rfl, rfl⟩
  obtain ⟨w8, hW⟩ : ∃ W : World, W = (w6.setCell ⟨w.heap.size + 1, 0, none⟩ (.int .i64 2)) := ⟨_, rfl⟩
  rw [← hW]
  have hO : Only (w.heap.size + 1) w6 w8 := by rw [hW]; exact ((Only.refl (w.heap.size + 1) w6).setCell 0 _)
  have L8 := Lib.hid (live_only L6.out hO Rk_6.out noint_re Gk)
  have Rr_8 := Lib.hid ((hO.block _ (by omega)).trans Rr_6.out)
  have Ra_8 := Lib.hid ((hO.block _ (by omega)).trans Ra_6.out)
  have Rc_8 := Lib.hid ((hO.block _ (by omega)).trans Rc_6.out)
  have Rk_8 := Lib.hid (show w8.heap[w.heap.size + 1]? = some (.cells #[.int .i64 2] 80 (0, 0)) by rw [hW]; exact (heap_setCell_same _ _ 0 _ _ _ Rk_6.out))
  clear hW hO
  have fc0 := row_c (i := 0) Rc_8.out rfl
  have zc0 := frozen_of_row _ _ 0 _ _ Rc_8.out
  have fc1 := row_c (i := 1) Rc_8.out rfl
  have zc1 := frozen_of_row _ _ 1 _ _ Rc_8.out
  have xc := heap_lt Rc_8.out
  go_wp2_with fail
  refine (SM.out _ _ _ (L8.out.get (A := A5) (c := c5) (xs := digs n.natAbs) (by simp))).mono ?_
  rintro e w9 ⟨rfl, hb⟩
  have L9 := Lib.hid (L8.out.step hb)
  clear fc0 zc0 fc1 zc1 xc
  have Rr_9 := Lib.hid (cells_of Rr_8.out hb)
  have Rk_9 := Lib.hid (cells_of Rk_8.out hb)
  have Ra_9 := Lib.hid (cells_of Ra_8.out hb)
  have Rc_9 := Lib.hid (cells_of Rc_8.out hb)
  clear hb 
  have fa0 := row_c (i := 0) Ra_9.out rfl
  have za0 := frozen_of_row _ _ 0 _ _ Ra_9.out
  have fa1 := row_c (i := 1) Ra_9.out rfl
  have za1 := frozen_of_row _ _ 1 _ _ Ra_9.out
  have xa := heap_lt Ra_9.out
  have fr0 := row_c (i := 0) Rr_9.out rfl
  have zr0 := frozen_of_row _ _ 0 _ _ Rr_9.out
  have fr1 := row_c (i := 1) Rr_9.out rfl
  have zr1 := frozen_of_row _ _ 1 _ _ Rr_9.out
  have fr2 := row_c (i := 2) Rr_9.out rfl
  have zr2 := frozen_of_row _ _ 2 _ _ Rr_9.out
  have xr := heap_lt Rr_9.out
  go_wp2_with fail
  obtain ⟨w10, hW⟩ : ∃ W : World, W = (((w9.setCell ⟨w.heap.size, 0, none⟩ (.bool (decide (m < 0)))).setCell ⟨w.heap.size, 1, none⟩ (.slice A2 (digs m.natAbs).length c2)).setCell ⟨w.heap.size, 2, none⟩ (.int .i64 q)) := ⟨_, rfl⟩
  rw [← hW]
  have hO : Only (w.heap.size) w9 w10 := by rw [hW]; exact ((((Only.refl (w.heap.size) w9).setCell 0 _).setCell 1 _).setCell 2 _)
  have L10 := Lib.hid (live_only L9.out hO Rr_9.out noint_dy Gr)
  have Rk_10 := Lib.hid ((hO.block _ (by omega)).trans Rk_9.out)
  have Ra_10 := Lib.hid ((hO.block _ (by omega)).trans Ra_9.out)
  have Rc_10 := Lib.hid ((hO.block _ (by omega)).trans Rc_9.out)
  have Rr_10 := Lib.hid (show w10.heap[w.heap.size]? = some (.cells #[.bool (decide (m < 0)), .slice A2 (digs m.natAbs).length c2, .int .i64 q] 26 (0, 0)) by rw [hW]; exact (heap_setCell_same _ _ 2 _ _ _ (heap_setCell_same _ _ 1 _ _ _ (heap_setCell_same _ _ 0 _ _ _ Rr_9.out))))
  clear hW hO
  clear fa0 za0 fa1 za1 xa fr0 zr0 fr1 zr1 fr2 zr2 xr
  have fr0 := row_c (i := 0) Rr_10.out rfl
  have zr0 := frozen_of_row _ _ 0 _ _ Rr_10.out
  have fr1 := row_c (i := 1) Rr_10.out rfl
  have zr1 := frozen_of_row _ _ 1 _ _ Rr_10.out
  have fr2 := row_c (i := 2) Rr_10.out rfl
  have zr2 := frozen_of_row _ _ 2 _ _ Rr_10.out
  have xr := heap_lt Rr_10.out
  go_wp2_with fail
  refine (dright_any A2 c2 (decide (m < 0)) (digs m.natAbs) q _ (L10.out.get (A := A2) (c := c2) (xs := digs m.natAbs) (by simp)) true HR.out (Nat.le_trans lx.out (by omega))).mono ?_
  rintro e w11 ⟨rfl, hb⟩
  have L11 := Lib.hid (L10.out.step hb)
  clear fr0 zr0 fr1 zr1 fr2 zr2 xr
  have Rr_11 := Lib.hid (cells_of Rr_10.out hb)
  have Rk_11 := Lib.hid (cells_of Rk_10.out hb)
  have Ra_11 := Lib.hid (cells_of Ra_10.out hb)
  have Rc_11 := Lib.hid (cells_of Rc_10.out hb)
  clear hb 
  have fr0 := row_c (i := 0) Rr_11.out rfl
  have zr0 := frozen_of_row _ _ 0 _ _ Rr_11.out
  have fr1 := row_c (i := 1) Rr_11.out rfl
  have zr1 := frozen_of_row _ _ 1 _ _ Rr_11.out
  have fr2 := row_c (i := 2) Rr_11.out rfl
  have zr2 := frozen_of_row _ _ 2 _ _ Rr_11.out
  have xr := heap_lt Rr_11.out
  go_wp2_with fail
  refine (inRange_any A2 c2 (decide (m < 0)) m q _ (L11.out.get (A := A2) (c := c2) (xs := digs m.natAbs) (by simp)) bI HI.out (Nat.le_trans lx.out (by omega))).mono ?_
  rintro e w12 ⟨rfl, hb⟩
  have L12 := Lib.hid (L11.out.step hb)
  clear fr0 zr0 fr1 zr1 fr2 zr2 xr
  have Rr_12 := Lib.hid (cells_of Rr_11.out hb)
  have Rk_12 := Lib.hid (cells_of Rk_11.out hb)
  have Ra_12 := Lib.hid (cells_of Ra_11.out hb)
  have Rc_12 := Lib.hid (cells_of Rc_11.out hb)
  clear hb 
  go_wp2_with fail
  refine (tell_no _ 2 2 (!bI) _ (row_c Rk_12.out (i := 0) rfl) (.inr rfl)).mono ?_
  rintro e w13 ⟨rfl, rfl⟩
  go_wp2_with fail
  refine (fails_any _ 2 true _ (row_c Rk_12.out (i := 0) rfl) rfl).mono ?_
  rintro e w14 ⟨rfl, rfl⟩
  have fk0 := row_c (i := 0) Rk_12.out rfl
  have zk0 := frozen_of_row _ _ 0 _ _ Rk_12.out
  have xk := heap_lt Rk_12.out
  have fr0 := row_c (i := 0) Rr_12.out rfl
  have zr0 := frozen_of_row _ _ 0 _ _ Rr_12.out
  have fr1 := row_c (i := 1) Rr_12.out rfl
  have zr1 := frozen_of_row _ _ 1 _ _ Rr_12.out
  have fr2 := row_c (i := 2) Rr_12.out rfl
  have zr2 := frozen_of_row _ _ 2 _ _ Rr_12.out
  have xr := heap_lt Rr_12.out
  go_wp2_with fail
  go_region
  go_wp2
  clear fk0 zk0 xk fr0 zr0 fr1 zr1 fr2 zr2 xr
  obtain ⟨w15, hW⟩ : ∃ W : World, W = (((w12.setCell ⟨w.heap.size, 0, none⟩ (.bool false)).setCell ⟨w.heap.size, 1, none⟩ (.slice none 0 0)).setCell ⟨w.heap.size, 2, none⟩ (.int .i64 0)) := ⟨_, rfl⟩
  rw [← hW]
  have hO : Only (w.heap.size) w12 w15 := by rw [hW]; exact ((((Only.refl (w.heap.size) w12).setCell 0 _).setCell 1 _).setCell 2 _)
  have L15 := Lib.hid (live_only L12.out hO Rr_12.out noint_dy Gr)
  have Rk_15 := Lib.hid ((hO.block _ (by omega)).trans Rk_12.out)
  have Ra_15 := Lib.hid ((hO.block _ (by omega)).trans Ra_12.out)
  have Rc_15 := Lib.hid ((hO.block _ (by omega)).trans Rc_12.out)
  have Rr_15 := Lib.hid (show w15.heap[w.heap.size]? = some (.cells #[.bool false, .slice none 0 0, .int .i64 0] 26 (0, 0)) by rw [hW]; exact (heap_setCell_same _ _ 2 _ _ _ (heap_setCell_same _ _ 1 _ _ _ (heap_setCell_same _ _ 0 _ _ _ Rr_12.out))))
  clear hW hO
  obtain ⟨w16, hW⟩ : ∃ W : World, W = w15.drew := ⟨_, rfl⟩
  rw [← hW]
  have hb : Below w15.heap.size w15 w16 := by rw [hW]; exact bd0 _
  have L16 := Lib.hid (L15.out.step hb)
  have Rr_16 := Lib.hid (cells_of Rr_15.out hb)
  have Rk_16 := Lib.hid (cells_of Rk_15.out hb)
  have Ra_16 := Lib.hid (cells_of Ra_15.out hb)
  have Rc_16 := Lib.hid (cells_of Rc_15.out hb)
  clear hW hb
  have fr0 := row_c (i := 0) Rr_16.out rfl
  have zr0 := frozen_of_row _ _ 0 _ _ Rr_16.out
  have fr1 := row_c (i := 1) Rr_16.out rfl
  have zr1 := frozen_of_row _ _ 1 _ _ Rr_16.out
  have fr2 := row_c (i := 2) Rr_16.out rfl
  have zr2 := frozen_of_row _ _ 2 _ _ Rr_16.out
  have xr := heap_lt Rr_16.out
  refine bodyPost_ret (v := .tuple #[.agg #[.bool false, .slice none 0 0, .int .i64 0], .string ⟨#[]⟩, .int .i64 2]) (by simp [results, Tryd.results44, go_sem, fr0, fr1, fr2]) rfl ?_
  
  exact ⟨rfl, L16.out.1⟩

set_option maxHeartbeats 4000000 in
set_option maxRecDepth 100000 in
theorem dtk_e (b t1 t2 : ByteArray) (m n q : Int) (w : World) (T1 : ∀ W, Calls Tryd.prog 61 #[.string b] W fun e w' => Zt m t1 0 W e w') (T2 : ∀ W, Calls Tryd.prog 61 #[.string t1] W fun e w' => Zt n t2 0 W e w') (hl : (digs m.natAbs).length ≤ 400) (hn : (digs n.natAbs).length ≤ 400) (hq : smallz n = q) (hok : smallb n = false):
    Calls Tryd.prog 44 #[.string b] w fun e w' => e = .returned (.tuple #[.agg #[.bool false, .slice none 0 0, .int .i64 0], .string ⟨#[]⟩, .int .i64 2]) ∧ Below w.heap.size w w' := by
  have HT1 := Lib.hid T1
  have HT2 := Lib.hid T2
  have lx := Lib.hid hl
  have ly := Lib.hid hn
  have SM := Lib.hid (fun W A c hW => zsm_yes (A := A) (c := c) (Nat.le_trans hn (by omega)) hq hok W hW)
  have L0 := Lib.hid (live_start w)
  clear T1 T2 hl hn hq hok
  go_enter Tryd.func44, Tryd.ntmps44
  go_wp2_with fail
  obtain ⟨v1, hW⟩ : ∃ W : World, W = ((w.alloc (.cells #[.bool false, .slice none 0 0, .int .i64 0] 26)).alloc (.cells #[.int .i64 0] 80)) := ⟨_, rfl⟩
  rw [← hW]
  have hb : Below w.heap.size w v1 := by rw [hW]; exact (((Below.refl _ _).alloc (by simp <;> omega) _).alloc (by simp <;> omega) _)
  have L1 := Lib.hid (L0.out.step hb)
  have Rr_1 := Lib.hid (show v1.heap[w.heap.size]? = some (.cells #[.bool false, .slice none 0 0, .int .i64 0] 26 (0, 0)) by rw [hW]; have := heap_alloc_new w (.cells #[.bool false, .slice none 0 0, .int .i64 0] 26); rw [heap_alloc_old _ _ (by simp <;> omega)]; simpa using this)
  have Gr : w.heap.size ≤ w.heap.size := by have := L0.out.1.size; omega
  have Rk_1 := Lib.hid (show v1.heap[w.heap.size + 1]? = some (.cells #[.int .i64 0] 80 (0, 0)) by rw [hW]; have := heap_alloc_new (w.alloc (.cells #[.bool false, .slice none 0 0, .int .i64 0] 26)) (.cells #[.int .i64 0] 80); simpa using this)
  have Gk : w.heap.size ≤ w.heap.size + 1 := by have := L0.out.1.size; omega
  have Nrk : w.heap.size < w.heap.size + 1 := by omega
  clear hW hb
  refine (HT1.out _).mono ?_
  rintro e w2 ⟨A2, c2, rfl, hd, hb⟩
  have L2 := Lib.hid ((L1.out.step hb).add hd)
  have Rr_2 := Lib.hid (cells_of Rr_1.out hb)
  have Rk_2 := Lib.hid (cells_of Rk_1.out hb)
  clear hb hd
  go_wp2_with fail
  obtain ⟨w3, hW⟩ : ∃ W : World, W = (w2.alloc (.cells #[.bool (decide (m < 0)), .slice A2 (digs m.natAbs).length c2] 24)) := ⟨_, rfl⟩
  rw [← hW]
  have hb : Below w2.heap.size w2 w3 := by rw [hW]; exact ((Below.refl _ _).alloc (by simp <;> omega) _)
  have L3 := Lib.hid (L2.out.step hb)
  have Rr_3 := Lib.hid (cells_of Rr_2.out hb)
  have Rk_3 := Lib.hid (cells_of Rk_2.out hb)
  have Ra_3 := Lib.hid (show w3.heap[w2.heap.size]? = some (.cells #[.bool (decide (m < 0)), .slice A2 (digs m.natAbs).length c2] 24 (0, 0)) by rw [hW]; have := heap_alloc_new w2 (.cells #[.bool (decide (m < 0)), .slice A2 (digs m.natAbs).length c2] 24); simpa using this)
  have Ga : w.heap.size ≤ w2.heap.size := by have := L2.out.1.size; omega
  have Nra : w.heap.size < w2.heap.size := by have := heap_lt Rr_2.out; omega
  have Nka : w.heap.size + 1 < w2.heap.size := by have := heap_lt Rk_2.out; omega
  clear hW hb
  refine (tell_no _ 0 0 false _ (row_c Rk_3.out (i := 0) rfl) (.inl rfl)).mono ?_
  rintro e w4 ⟨rfl, rfl⟩
  go_wp2_with fail
  refine (HT2.out _).mono ?_
  rintro e w5 ⟨A5, c5, rfl, hd, hb⟩
  have L5 := Lib.hid ((L3.out.step hb).add hd)
  have Rr_5 := Lib.hid (cells_of Rr_3.out hb)
  have Rk_5 := Lib.hid (cells_of Rk_3.out hb)
  have Ra_5 := Lib.hid (cells_of Ra_3.out hb)
  clear hb hd
  go_wp2_with fail
  obtain ⟨w6, hW⟩ : ∃ W : World, W = (w5.alloc (.cells #[.bool (decide (n < 0)), .slice A5 (digs n.natAbs).length c5] 24)) := ⟨_, rfl⟩
  rw [← hW]
  have hb : Below w5.heap.size w5 w6 := by rw [hW]; exact ((Below.refl _ _).alloc (by simp <;> omega) _)
  have L6 := Lib.hid (L5.out.step hb)
  have Rr_6 := Lib.hid (cells_of Rr_5.out hb)
  have Rk_6 := Lib.hid (cells_of Rk_5.out hb)
  have Ra_6 := Lib.hid (cells_of Ra_5.out hb)
  have Rc_6 := Lib.hid (show w6.heap[w5.heap.size]? = some (.cells #[.bool (decide (n < 0)), .slice A5 (digs n.natAbs).length c5] 24 (0, 0)) by rw [hW]; have := heap_alloc_new w5 (.cells #[.bool (decide (n < 0)), .slice A5 (digs n.natAbs).length c5] 24); simpa using this)
  have Gc : w.heap.size ≤ w5.heap.size := by have := L5.out.1.size; omega
  have Nrc : w.heap.size < w5.heap.size := by have := heap_lt Rr_5.out; omega
  have Nkc : w.heap.size + 1 < w5.heap.size := by have := heap_lt Rk_5.out; omega
  have Nac : w2.heap.size < w5.heap.size := by have := heap_lt Ra_5.out; omega
  clear hW hb
  refine (tell_no _ 0 0 false _ (row_c Rk_6.out (i := 0) rfl) (.inl rfl)).mono ?_
  rintro e w7 ⟨rfl, rfl⟩
  have fc0 := row_c (i := 0) Rc_6.out rfl
  have zc0 := frozen_of_row _ _ 0 _ _ Rc_6.out
  have fc1 := row_c (i := 1) Rc_6.out rfl
  have zc1 := frozen_of_row _ _ 1 _ _ Rc_6.out
  have xc := heap_lt Rc_6.out
  go_wp2_with fail
  refine (SM.out _ _ _ (L6.out.get (A := A5) (c := c5) (xs := digs n.natAbs) (by simp))).mono ?_
  rintro e w8 ⟨rfl, hb⟩
  have L8 := Lib.hid (L6.out.step hb)
  clear fc0 zc0 fc1 zc1 xc
  have Rr_8 := Lib.hid (cells_of Rr_6.out hb)
  have Rk_8 := Lib.hid (cells_of Rk_6.out hb)
  have Ra_8 := Lib.hid (cells_of Ra_6.out hb)
  have Rc_8 := Lib.hid (cells_of Rc_6.out hb)
  clear hb 
  have fa0 := row_c (i := 0) Ra_8.out rfl
  have za0 := frozen_of_row _ _ 0 _ _ Ra_8.out
  have fa1 := row_c (i := 1) Ra_8.out rfl
  have za1 := frozen_of_row _ _ 1 _ _ Ra_8.out
  have xa := heap_lt Ra_8.out
  have fr0 := row_c (i := 0) Rr_8.out rfl
  have zr0 := frozen_of_row _ _ 0 _ _ Rr_8.out
  have fr1 := row_c (i := 1) Rr_8.out rfl
  have zr1 := frozen_of_row _ _ 1 _ _ Rr_8.out
  have fr2 := row_c (i := 2) Rr_8.out rfl
  have zr2 := frozen_of_row _ _ 2 _ _ Rr_8.out
  have xr := heap_lt Rr_8.out
  go_wp2_with fail
  obtain ⟨w9, hW⟩ : ∃ W : World, W = (((w8.setCell ⟨w.heap.size, 0, none⟩ (.bool (decide (m < 0)))).setCell ⟨w.heap.size, 1, none⟩ (.slice A2 (digs m.natAbs).length c2)).setCell ⟨w.heap.size, 2, none⟩ (.int .i64 q)) := ⟨_, rfl⟩
  rw [← hW]
  have hO : Only (w.heap.size) w8 w9 := by rw [hW]; exact ((((Only.refl (w.heap.size) w8).setCell 0 _).setCell 1 _).setCell 2 _)
  have L9 := Lib.hid (live_only L8.out hO Rr_8.out noint_dy Gr)
  have Rk_9 := Lib.hid ((hO.block _ (by omega)).trans Rk_8.out)
  have Ra_9 := Lib.hid ((hO.block _ (by omega)).trans Ra_8.out)
  have Rc_9 := Lib.hid ((hO.block _ (by omega)).trans Rc_8.out)
  have Rr_9 := Lib.hid (show w9.heap[w.heap.size]? = some (.cells #[.bool (decide (m < 0)), .slice A2 (digs m.natAbs).length c2, .int .i64 q] 26 (0, 0)) by rw [hW]; exact (heap_setCell_same _ _ 2 _ _ _ (heap_setCell_same _ _ 1 _ _ _ (heap_setCell_same _ _ 0 _ _ _ Rr_8.out))))
  clear hW hO
  clear fa0 za0 fa1 za1 xa fr0 zr0 fr1 zr1 fr2 zr2 xr
  go_wp2_with fail
  refine (tell_yes _ 2 _ (row_c Rk_9.out (i := 0) rfl) (frozen_of_row _ _ 0 _ _ Rk_9.out)).mono ?_
  rintro e w10 ⟨rfl, rfl⟩
  obtain ⟨w11, hW⟩ : ∃ W : World, W = (w9.setCell ⟨w.heap.size + 1, 0, none⟩ (.int .i64 2)) := ⟨_, rfl⟩
  rw [← hW]
  have hO : Only (w.heap.size + 1) w9 w11 := by rw [hW]; exact ((Only.refl (w.heap.size + 1) w9).setCell 0 _)
  have L11 := Lib.hid (live_only L9.out hO Rk_9.out noint_re Gk)
  have Rr_11 := Lib.hid ((hO.block _ (by omega)).trans Rr_9.out)
  have Ra_11 := Lib.hid ((hO.block _ (by omega)).trans Ra_9.out)
  have Rc_11 := Lib.hid ((hO.block _ (by omega)).trans Rc_9.out)
  have Rk_11 := Lib.hid (show w11.heap[w.heap.size + 1]? = some (.cells #[.int .i64 2] 80 (0, 0)) by rw [hW]; exact (heap_setCell_same _ _ 0 _ _ _ Rk_9.out))
  clear hW hO
  go_wp2_with fail
  refine (fails_any _ 2 true _ (row_c Rk_11.out (i := 0) rfl) rfl).mono ?_
  rintro e w12 ⟨rfl, rfl⟩
  have fk0 := row_c (i := 0) Rk_11.out rfl
  have zk0 := frozen_of_row _ _ 0 _ _ Rk_11.out
  have xk := heap_lt Rk_11.out
  have fr0 := row_c (i := 0) Rr_11.out rfl
  have zr0 := frozen_of_row _ _ 0 _ _ Rr_11.out
  have fr1 := row_c (i := 1) Rr_11.out rfl
  have zr1 := frozen_of_row _ _ 1 _ _ Rr_11.out
  have fr2 := row_c (i := 2) Rr_11.out rfl
  have zr2 := frozen_of_row _ _ 2 _ _ Rr_11.out
  have xr := heap_lt Rr_11.out
  go_wp2_with fail
  go_region
  go_wp2
  clear fk0 zk0 xk fr0 zr0 fr1 zr1 fr2 zr2 xr
  obtain ⟨w13, hW⟩ : ∃ W : World, W = (((w11.setCell ⟨w.heap.size, 0, none⟩ (.bool false)).setCell ⟨w.heap.size, 1, none⟩ (.slice none 0 0)).setCell ⟨w.heap.size, 2, none⟩ (.int .i64 0)) := ⟨_, rfl⟩
  rw [← hW]
  have hO : Only (w.heap.size) w11 w13 := by rw [hW]; exact ((((Only.refl (w.heap.size) w11).setCell 0 _).setCell 1 _).setCell 2 _)
  have L13 := Lib.hid (live_only L11.out hO Rr_11.out noint_dy Gr)
  have Rk_13 := Lib.hid ((hO.block _ (by omega)).trans Rk_11.out)
  have Ra_13 := Lib.hid ((hO.block _ (by omega)).trans Ra_11.out)
  have Rc_13 := Lib.hid ((hO.block _ (by omega)).trans Rc_11.out)
  have Rr_13 := Lib.hid (show w13.heap[w.heap.size]? = some (.cells #[.bool false, .slice none 0 0, .int .i64 0] 26 (0, 0)) by rw [hW]; exact (heap_setCell_same _ _ 2 _ _ _ (heap_setCell_same _ _ 1 _ _ _ (heap_setCell_same _ _ 0 _ _ _ Rr_11.out))))
  clear hW hO
  obtain ⟨w14, hW⟩ : ∃ W : World, W = w13.drew := ⟨_, rfl⟩
  rw [← hW]
  have hb : Below w13.heap.size w13 w14 := by rw [hW]; exact bd0 _
  have L14 := Lib.hid (L13.out.step hb)
  have Rr_14 := Lib.hid (cells_of Rr_13.out hb)
  have Rk_14 := Lib.hid (cells_of Rk_13.out hb)
  have Ra_14 := Lib.hid (cells_of Ra_13.out hb)
  have Rc_14 := Lib.hid (cells_of Rc_13.out hb)
  clear hW hb
  have fr0 := row_c (i := 0) Rr_14.out rfl
  have zr0 := frozen_of_row _ _ 0 _ _ Rr_14.out
  have fr1 := row_c (i := 1) Rr_14.out rfl
  have zr1 := frozen_of_row _ _ 1 _ _ Rr_14.out
  have fr2 := row_c (i := 2) Rr_14.out rfl
  have zr2 := frozen_of_row _ _ 2 _ _ Rr_14.out
  have xr := heap_lt Rr_14.out
  refine bodyPost_ret (v := .tuple #[.agg #[.bool false, .slice none 0 0, .int .i64 0], .string ⟨#[]⟩, .int .i64 2]) (by simp [results, Tryd.results44, go_sem, fr0, fr1, fr2]) rfl ?_
  
  exact ⟨rfl, L14.out.1⟩

set_option maxHeartbeats 4000000 in
set_option maxRecDepth 100000 in
theorem dtk_f (b t1 t2 : ByteArray) (m n q : Int) (w : World) (T1 : ∀ W, Calls Tryd.prog 61 #[.string b] W fun e w' => Zt m t1 0 W e w') (T2 : ∀ W, Calls Tryd.prog 61 #[.string t1] W fun e w' => Zt n t2 0 W e w') (hl : (digs m.natAbs).length ≤ 400) (hn : (digs n.natAbs).length ≤ 400) (hq : smallz n = q) (hok : smallb n = true) (hR : dyR (decide (m < 0)) (digs m.natAbs) q = false):
    Calls Tryd.prog 44 #[.string b] w fun e w' => e = .returned (.tuple #[.agg #[.bool false, .slice none 0 0, .int .i64 0], .string ⟨#[]⟩, .int .i64 2]) ∧ Below w.heap.size w w' := by
  have HT1 := Lib.hid T1
  have HT2 := Lib.hid T2
  have lx := Lib.hid hl
  have ly := Lib.hid hn
  have SM := Lib.hid (fun W A c hW => zsm_yes (A := A) (c := c) (Nat.le_trans hn (by omega)) hq hok W hW)
  have HR := Lib.hid hR
  have L0 := Lib.hid (live_start w)
  clear T1 T2 hl hn hq hok hR
  go_enter Tryd.func44, Tryd.ntmps44
  go_wp2_with fail
  obtain ⟨v1, hW⟩ : ∃ W : World, W = ((w.alloc (.cells #[.bool false, .slice none 0 0, .int .i64 0] 26)).alloc (.cells #[.int .i64 0] 80)) := ⟨_, rfl⟩
  rw [← hW]
  have hb : Below w.heap.size w v1 := by rw [hW]; exact (((Below.refl _ _).alloc (by simp <;> omega) _).alloc (by simp <;> omega) _)
  have L1 := Lib.hid (L0.out.step hb)
  have Rr_1 := Lib.hid (show v1.heap[w.heap.size]? = some (.cells #[.bool false, .slice none 0 0, .int .i64 0] 26 (0, 0)) by rw [hW]; have := heap_alloc_new w (.cells #[.bool false, .slice none 0 0, .int .i64 0] 26); rw [heap_alloc_old _ _ (by simp <;> omega)]; simpa using this)
  have Gr : w.heap.size ≤ w.heap.size := by have := L0.out.1.size; omega
  have Rk_1 := Lib.hid (show v1.heap[w.heap.size + 1]? = some (.cells #[.int .i64 0] 80 (0, 0)) by rw [hW]; have := heap_alloc_new (w.alloc (.cells #[.bool false, .slice none 0 0, .int .i64 0] 26)) (.cells #[.int .i64 0] 80); simpa using this)
  have Gk : w.heap.size ≤ w.heap.size + 1 := by have := L0.out.1.size; omega
  have Nrk : w.heap.size < w.heap.size + 1 := by omega
  clear hW hb
  refine (HT1.out _).mono ?_
  rintro e w2 ⟨A2, c2, rfl, hd, hb⟩
  have L2 := Lib.hid ((L1.out.step hb).add hd)
  have Rr_2 := Lib.hid (cells_of Rr_1.out hb)
  have Rk_2 := Lib.hid (cells_of Rk_1.out hb)
  clear hb hd
  go_wp2_with fail
  obtain ⟨w3, hW⟩ : ∃ W : World, W = (w2.alloc (.cells #[.bool (decide (m < 0)), .slice A2 (digs m.natAbs).length c2] 24)) := ⟨_, rfl⟩
  rw [← hW]
  have hb : Below w2.heap.size w2 w3 := by rw [hW]; exact ((Below.refl _ _).alloc (by simp <;> omega) _)
  have L3 := Lib.hid (L2.out.step hb)
  have Rr_3 := Lib.hid (cells_of Rr_2.out hb)
  have Rk_3 := Lib.hid (cells_of Rk_2.out hb)
  have Ra_3 := Lib.hid (show w3.heap[w2.heap.size]? = some (.cells #[.bool (decide (m < 0)), .slice A2 (digs m.natAbs).length c2] 24 (0, 0)) by rw [hW]; have := heap_alloc_new w2 (.cells #[.bool (decide (m < 0)), .slice A2 (digs m.natAbs).length c2] 24); simpa using this)
  have Ga : w.heap.size ≤ w2.heap.size := by have := L2.out.1.size; omega
  have Nra : w.heap.size < w2.heap.size := by have := heap_lt Rr_2.out; omega
  have Nka : w.heap.size + 1 < w2.heap.size := by have := heap_lt Rk_2.out; omega
  clear hW hb
  refine (tell_no _ 0 0 false _ (row_c Rk_3.out (i := 0) rfl) (.inl rfl)).mono ?_
  rintro e w4 ⟨rfl, rfl⟩
  go_wp2_with fail
  refine (HT2.out _).mono ?_
  rintro e w5 ⟨A5, c5, rfl, hd, hb⟩
  have L5 := Lib.hid ((L3.out.step hb).add hd)
  have Rr_5 := Lib.hid (cells_of Rr_3.out hb)
  have Rk_5 := Lib.hid (cells_of Rk_3.out hb)
  have Ra_5 := Lib.hid (cells_of Ra_3.out hb)
  clear hb hd
  go_wp2_with fail
  obtain ⟨w6, hW⟩ : ∃ W : World, W = (w5.alloc (.cells #[.bool (decide (n < 0)), .slice A5 (digs n.natAbs).length c5] 24)) := ⟨_, rfl⟩
  rw [← hW]
  have hb : Below w5.heap.size w5 w6 := by rw [hW]; exact ((Below.refl _ _).alloc (by simp <;> omega) _)
  have L6 := Lib.hid (L5.out.step hb)
  have Rr_6 := Lib.hid (cells_of Rr_5.out hb)
  have Rk_6 := Lib.hid (cells_of Rk_5.out hb)
  have Ra_6 := Lib.hid (cells_of Ra_5.out hb)
  have Rc_6 := Lib.hid (show w6.heap[w5.heap.size]? = some (.cells #[.bool (decide (n < 0)), .slice A5 (digs n.natAbs).length c5] 24 (0, 0)) by rw [hW]; have := heap_alloc_new w5 (.cells #[.bool (decide (n < 0)), .slice A5 (digs n.natAbs).length c5] 24); simpa using this)
  have Gc : w.heap.size ≤ w5.heap.size := by have := L5.out.1.size; omega
  have Nrc : w.heap.size < w5.heap.size := by have := heap_lt Rr_5.out; omega
  have Nkc : w.heap.size + 1 < w5.heap.size := by have := heap_lt Rk_5.out; omega
  have Nac : w2.heap.size < w5.heap.size := by have := heap_lt Ra_5.out; omega
  clear hW hb
  refine (tell_no _ 0 0 false _ (row_c Rk_6.out (i := 0) rfl) (.inl rfl)).mono ?_
  rintro e w7 ⟨rfl, rfl⟩
  have fc0 := row_c (i := 0) Rc_6.out rfl
  have zc0 := frozen_of_row _ _ 0 _ _ Rc_6.out
  have fc1 := row_c (i := 1) Rc_6.out rfl
  have zc1 := frozen_of_row _ _ 1 _ _ Rc_6.out
  have xc := heap_lt Rc_6.out
  go_wp2_with fail
  refine (SM.out _ _ _ (L6.out.get (A := A5) (c := c5) (xs := digs n.natAbs) (by simp))).mono ?_
  rintro e w8 ⟨rfl, hb⟩
  have L8 := Lib.hid (L6.out.step hb)
  clear fc0 zc0 fc1 zc1 xc
  have Rr_8 := Lib.hid (cells_of Rr_6.out hb)
  have Rk_8 := Lib.hid (cells_of Rk_6.out hb)
  have Ra_8 := Lib.hid (cells_of Ra_6.out hb)
  have Rc_8 := Lib.hid (cells_of Rc_6.out hb)
  clear hb 
  have fa0 := row_c (i := 0) Ra_8.out rfl
  have za0 := frozen_of_row _ _ 0 _ _ Ra_8.out
  have fa1 := row_c (i := 1) Ra_8.out rfl
  have za1 := frozen_of_row _ _ 1 _ _ Ra_8.out
  have xa := heap_lt Ra_8.out
  have fr0 := row_c (i := 0) Rr_8.out rfl
  have zr0 := frozen_of_row _ _ 0 _ _ Rr_8.out
  have fr1 := row_c (i := 1) Rr_8.out rfl
  have zr1 := frozen_of_row _ _ 1 _ _ Rr_8.out
  have fr2 := row_c (i := 2) Rr_8.out rfl
  have zr2 := frozen_of_row _ _ 2 _ _ Rr_8.out
  have xr := heap_lt Rr_8.out
  go_wp2_with fail
  obtain ⟨w9, hW⟩ : ∃ W : World, W = (((w8.setCell ⟨w.heap.size, 0, none⟩ (.bool (decide (m < 0)))).setCell ⟨w.heap.size, 1, none⟩ (.slice A2 (digs m.natAbs).length c2)).setCell ⟨w.heap.size, 2, none⟩ (.int .i64 q)) := ⟨_, rfl⟩
  rw [← hW]
  have hO : Only (w.heap.size) w8 w9 := by rw [hW]; exact ((((Only.refl (w.heap.size) w8).setCell 0 _).setCell 1 _).setCell 2 _)
  have L9 := Lib.hid (live_only L8.out hO Rr_8.out noint_dy Gr)
  have Rk_9 := Lib.hid ((hO.block _ (by omega)).trans Rk_8.out)
  have Ra_9 := Lib.hid ((hO.block _ (by omega)).trans Ra_8.out)
  have Rc_9 := Lib.hid ((hO.block _ (by omega)).trans Rc_8.out)
  have Rr_9 := Lib.hid (show w9.heap[w.heap.size]? = some (.cells #[.bool (decide (m < 0)), .slice A2 (digs m.natAbs).length c2, .int .i64 q] 26 (0, 0)) by rw [hW]; exact (heap_setCell_same _ _ 2 _ _ _ (heap_setCell_same _ _ 1 _ _ _ (heap_setCell_same _ _ 0 _ _ _ Rr_8.out))))
  clear hW hO
  clear fa0 za0 fa1 za1 xa fr0 zr0 fr1 zr1 fr2 zr2 xr
  have fr0 := row_c (i := 0) Rr_9.out rfl
  have zr0 := frozen_of_row _ _ 0 _ _ Rr_9.out
  have fr1 := row_c (i := 1) Rr_9.out rfl
  have zr1 := frozen_of_row _ _ 1 _ _ Rr_9.out
  have fr2 := row_c (i := 2) Rr_9.out rfl
  have zr2 := frozen_of_row _ _ 2 _ _ Rr_9.out
  have xr := heap_lt Rr_9.out
  go_wp2_with fail
  refine (dright_any A2 c2 (decide (m < 0)) (digs m.natAbs) q _ (L9.out.get (A := A2) (c := c2) (xs := digs m.natAbs) (by simp)) false HR.out (Nat.le_trans lx.out (by omega))).mono ?_
  rintro e w10 ⟨rfl, hb⟩
  have L10 := Lib.hid (L9.out.step hb)
  clear fr0 zr0 fr1 zr1 fr2 zr2 xr
  have Rr_10 := Lib.hid (cells_of Rr_9.out hb)
  have Rk_10 := Lib.hid (cells_of Rk_9.out hb)
  have Ra_10 := Lib.hid (cells_of Ra_9.out hb)
  have Rc_10 := Lib.hid (cells_of Rc_9.out hb)
  clear hb 
  go_wp2_with fail
  refine (tell_yes _ 2 _ (row_c Rk_10.out (i := 0) rfl) (frozen_of_row _ _ 0 _ _ Rk_10.out)).mono ?_
  rintro e w11 ⟨rfl, rfl⟩
  obtain ⟨w12, hW⟩ : ∃ W : World, W = (w10.setCell ⟨w.heap.size + 1, 0, none⟩ (.int .i64 2)) := ⟨_, rfl⟩
  rw [← hW]
  have hO : Only (w.heap.size + 1) w10 w12 := by rw [hW]; exact ((Only.refl (w.heap.size + 1) w10).setCell 0 _)
  have L12 := Lib.hid (live_only L10.out hO Rk_10.out noint_re Gk)
  have Rr_12 := Lib.hid ((hO.block _ (by omega)).trans Rr_10.out)
  have Ra_12 := Lib.hid ((hO.block _ (by omega)).trans Ra_10.out)
  have Rc_12 := Lib.hid ((hO.block _ (by omega)).trans Rc_10.out)
  have Rk_12 := Lib.hid (show w12.heap[w.heap.size + 1]? = some (.cells #[.int .i64 2] 80 (0, 0)) by rw [hW]; exact (heap_setCell_same _ _ 0 _ _ _ Rk_10.out))
  clear hW hO
  go_wp2_with fail
  refine (fails_any _ 2 true _ (row_c Rk_12.out (i := 0) rfl) rfl).mono ?_
  rintro e w13 ⟨rfl, rfl⟩
  have fk0 := row_c (i := 0) Rk_12.out rfl
  have zk0 := frozen_of_row _ _ 0 _ _ Rk_12.out
  have xk := heap_lt Rk_12.out
  have fr0 := row_c (i := 0) Rr_12.out rfl
  have zr0 := frozen_of_row _ _ 0 _ _ Rr_12.out
  have fr1 := row_c (i := 1) Rr_12.out rfl
  have zr1 := frozen_of_row _ _ 1 _ _ Rr_12.out
  have fr2 := row_c (i := 2) Rr_12.out rfl
  have zr2 := frozen_of_row _ _ 2 _ _ Rr_12.out
  have xr := heap_lt Rr_12.out
  go_wp2_with fail
  go_region
  go_wp2
  clear fk0 zk0 xk fr0 zr0 fr1 zr1 fr2 zr2 xr
  obtain ⟨w14, hW⟩ : ∃ W : World, W = (((w12.setCell ⟨w.heap.size, 0, none⟩ (.bool false)).setCell ⟨w.heap.size, 1, none⟩ (.slice none 0 0)).setCell ⟨w.heap.size, 2, none⟩ (.int .i64 0)) := ⟨_, rfl⟩
  rw [← hW]
  have hO : Only (w.heap.size) w12 w14 := by rw [hW]; exact ((((Only.refl (w.heap.size) w12).setCell 0 _).setCell 1 _).setCell 2 _)
  have L14 := Lib.hid (live_only L12.out hO Rr_12.out noint_dy Gr)
  have Rk_14 := Lib.hid ((hO.block _ (by omega)).trans Rk_12.out)
  have Ra_14 := Lib.hid ((hO.block _ (by omega)).trans Ra_12.out)
  have Rc_14 := Lib.hid ((hO.block _ (by omega)).trans Rc_12.out)
  have Rr_14 := Lib.hid (show w14.heap[w.heap.size]? = some (.cells #[.bool false, .slice none 0 0, .int .i64 0] 26 (0, 0)) by rw [hW]; exact (heap_setCell_same _ _ 2 _ _ _ (heap_setCell_same _ _ 1 _ _ _ (heap_setCell_same _ _ 0 _ _ _ Rr_12.out))))
  clear hW hO
  obtain ⟨w15, hW⟩ : ∃ W : World, W = w14.drew := ⟨_, rfl⟩
  rw [← hW]
  have hb : Below w14.heap.size w14 w15 := by rw [hW]; exact bd0 _
  have L15 := Lib.hid (L14.out.step hb)
  have Rr_15 := Lib.hid (cells_of Rr_14.out hb)
  have Rk_15 := Lib.hid (cells_of Rk_14.out hb)
  have Ra_15 := Lib.hid (cells_of Ra_14.out hb)
  have Rc_15 := Lib.hid (cells_of Rc_14.out hb)
  clear hW hb
  have fr0 := row_c (i := 0) Rr_15.out rfl
  have zr0 := frozen_of_row _ _ 0 _ _ Rr_15.out
  have fr1 := row_c (i := 1) Rr_15.out rfl
  have zr1 := frozen_of_row _ _ 1 _ _ Rr_15.out
  have fr2 := row_c (i := 2) Rr_15.out rfl
  have zr2 := frozen_of_row _ _ 2 _ _ Rr_15.out
  have xr := heap_lt Rr_15.out
  refine bodyPost_ret (v := .tuple #[.agg #[.bool false, .slice none 0 0, .int .i64 0], .string ⟨#[]⟩, .int .i64 2]) (by simp [results, Tryd.results44, go_sem, fr0, fr1, fr2]) rfl ?_
  
  exact ⟨rfl, L15.out.1⟩

set_option maxHeartbeats 4000000 in
set_option maxRecDepth 100000 in
theorem dtk_g (b t1 t2 : ByteArray) (m n q : Int) (w : World) (T1 : ∀ W, Calls Tryd.prog 61 #[.string b] W fun e w' => Zt m t1 0 W e w') (T2 : ∀ W, Calls Tryd.prog 61 #[.string t1] W fun e w' => Zt n t2 0 W e w') (hl : (digs m.natAbs).length ≤ 400) (hn : (digs n.natAbs).length ≤ 400) (hq : smallz n = q) (hok : smallb n = true) (hR : dyR (decide (m < 0)) (digs m.natAbs) q = true) (hI : inR m q = false):
    Calls Tryd.prog 44 #[.string b] w fun e w' => e = .returned (.tuple #[.agg #[.bool false, .slice none 0 0, .int .i64 0], .string ⟨#[]⟩, .int .i64 2]) ∧ Below w.heap.size w w' := by
  have HT1 := Lib.hid T1
  have HT2 := Lib.hid T2
  have lx := Lib.hid hl
  have ly := Lib.hid hn
  have SM := Lib.hid (fun W A c hW => zsm_yes (A := A) (c := c) (Nat.le_trans hn (by omega)) hq hok W hW)
  have HR := Lib.hid hR
  have HI := Lib.hid hI
  have L0 := Lib.hid (live_start w)
  clear T1 T2 hl hn hq hok hR hI
  go_enter Tryd.func44, Tryd.ntmps44
  go_wp2_with fail
  obtain ⟨v1, hW⟩ : ∃ W : World, W = ((w.alloc (.cells #[.bool false, .slice none 0 0, .int .i64 0] 26)).alloc (.cells #[.int .i64 0] 80)) := ⟨_, rfl⟩
  rw [← hW]
  have hb : Below w.heap.size w v1 := by rw [hW]; exact (((Below.refl _ _).alloc (by simp <;> omega) _).alloc (by simp <;> omega) _)
  have L1 := Lib.hid (L0.out.step hb)
  have Rr_1 := Lib.hid (show v1.heap[w.heap.size]? = some (.cells #[.bool false, .slice none 0 0, .int .i64 0] 26 (0, 0)) by rw [hW]; have := heap_alloc_new w (.cells #[.bool false, .slice none 0 0, .int .i64 0] 26); rw [heap_alloc_old _ _ (by simp <;> omega)]; simpa using this)
  have Gr : w.heap.size ≤ w.heap.size := by have := L0.out.1.size; omega
  have Rk_1 := Lib.hid (show v1.heap[w.heap.size + 1]? = some (.cells #[.int .i64 0] 80 (0, 0)) by rw [hW]; have := heap_alloc_new (w.alloc (.cells #[.bool false, .slice none 0 0, .int .i64 0] 26)) (.cells #[.int .i64 0] 80); simpa using this)
  have Gk : w.heap.size ≤ w.heap.size + 1 := by have := L0.out.1.size; omega
  have Nrk : w.heap.size < w.heap.size + 1 := by omega
  clear hW hb
  refine (HT1.out _).mono ?_
  rintro e w2 ⟨A2, c2, rfl, hd, hb⟩
  have L2 := Lib.hid ((L1.out.step hb).add hd)
  have Rr_2 := Lib.hid (cells_of Rr_1.out hb)
  have Rk_2 := Lib.hid (cells_of Rk_1.out hb)
  clear hb hd
  go_wp2_with fail
  obtain ⟨w3, hW⟩ : ∃ W : World, W = (w2.alloc (.cells #[.bool (decide (m < 0)), .slice A2 (digs m.natAbs).length c2] 24)) := ⟨_, rfl⟩
  rw [← hW]
  have hb : Below w2.heap.size w2 w3 := by rw [hW]; exact ((Below.refl _ _).alloc (by simp <;> omega) _)
  have L3 := Lib.hid (L2.out.step hb)
  have Rr_3 := Lib.hid (cells_of Rr_2.out hb)
  have Rk_3 := Lib.hid (cells_of Rk_2.out hb)
  have Ra_3 := Lib.hid (show w3.heap[w2.heap.size]? = some (.cells #[.bool (decide (m < 0)), .slice A2 (digs m.natAbs).length c2] 24 (0, 0)) by rw [hW]; have := heap_alloc_new w2 (.cells #[.bool (decide (m < 0)), .slice A2 (digs m.natAbs).length c2] 24); simpa using this)
  have Ga : w.heap.size ≤ w2.heap.size := by have := L2.out.1.size; omega
  have Nra : w.heap.size < w2.heap.size := by have := heap_lt Rr_2.out; omega
  have Nka : w.heap.size + 1 < w2.heap.size := by have := heap_lt Rk_2.out; omega
  clear hW hb
  refine (tell_no _ 0 0 false _ (row_c Rk_3.out (i := 0) rfl) (.inl rfl)).mono ?_
  rintro e w4 ⟨rfl, rfl⟩
  go_wp2_with fail
  refine (HT2.out _).mono ?_
  rintro e w5 ⟨A5, c5, rfl, hd, hb⟩
  have L5 := Lib.hid ((L3.out.step hb).add hd)
  have Rr_5 := Lib.hid (cells_of Rr_3.out hb)
  have Rk_5 := Lib.hid (cells_of Rk_3.out hb)
  have Ra_5 := Lib.hid (cells_of Ra_3.out hb)
  clear hb hd
  go_wp2_with fail
  obtain ⟨w6, hW⟩ : ∃ W : World, W = (w5.alloc (.cells #[.bool (decide (n < 0)), .slice A5 (digs n.natAbs).length c5] 24)) := ⟨_, rfl⟩
  rw [← hW]
  have hb : Below w5.heap.size w5 w6 := by rw [hW]; exact ((Below.refl _ _).alloc (by simp <;> omega) _)
  have L6 := Lib.hid (L5.out.step hb)
  have Rr_6 := Lib.hid (cells_of Rr_5.out hb)
  have Rk_6 := Lib.hid (cells_of Rk_5.out hb)
  have Ra_6 := Lib.hid (cells_of Ra_5.out hb)
  have Rc_6 := Lib.hid (show w6.heap[w5.heap.size]? = some (.cells #[.bool (decide (n < 0)), .slice A5 (digs n.natAbs).length c5] 24 (0, 0)) by rw [hW]; have := heap_alloc_new w5 (.cells #[.bool (decide (n < 0)), .slice A5 (digs n.natAbs).length c5] 24); simpa using this)
  have Gc : w.heap.size ≤ w5.heap.size := by have := L5.out.1.size; omega
  have Nrc : w.heap.size < w5.heap.size := by have := heap_lt Rr_5.out; omega
  have Nkc : w.heap.size + 1 < w5.heap.size := by have := heap_lt Rk_5.out; omega
  have Nac : w2.heap.size < w5.heap.size := by have := heap_lt Ra_5.out; omega
  clear hW hb
  refine (tell_no _ 0 0 false _ (row_c Rk_6.out (i := 0) rfl) (.inl rfl)).mono ?_
  rintro e w7 ⟨rfl, rfl⟩
  have fc0 := row_c (i := 0) Rc_6.out rfl
  have zc0 := frozen_of_row _ _ 0 _ _ Rc_6.out
  have fc1 := row_c (i := 1) Rc_6.out rfl
  have zc1 := frozen_of_row _ _ 1 _ _ Rc_6.out
  have xc := heap_lt Rc_6.out
  go_wp2_with fail
  refine (SM.out _ _ _ (L6.out.get (A := A5) (c := c5) (xs := digs n.natAbs) (by simp))).mono ?_
  rintro e w8 ⟨rfl, hb⟩
  have L8 := Lib.hid (L6.out.step hb)
  clear fc0 zc0 fc1 zc1 xc
  have Rr_8 := Lib.hid (cells_of Rr_6.out hb)
  have Rk_8 := Lib.hid (cells_of Rk_6.out hb)
  have Ra_8 := Lib.hid (cells_of Ra_6.out hb)
  have Rc_8 := Lib.hid (cells_of Rc_6.out hb)
  clear hb 
  have fa0 := row_c (i := 0) Ra_8.out rfl
  have za0 := frozen_of_row _ _ 0 _ _ Ra_8.out
  have fa1 := row_c (i := 1) Ra_8.out rfl
  have za1 := frozen_of_row _ _ 1 _ _ Ra_8.out
  have xa := heap_lt Ra_8.out
  have fr0 := row_c (i := 0) Rr_8.out rfl
  have zr0 := frozen_of_row _ _ 0 _ _ Rr_8.out
  have fr1 := row_c (i := 1) Rr_8.out rfl
  have zr1 := frozen_of_row _ _ 1 _ _ Rr_8.out
  have fr2 := row_c (i := 2) Rr_8.out rfl
  have zr2 := frozen_of_row _ _ 2 _ _ Rr_8.out
  have xr := heap_lt Rr_8.out
  go_wp2_with fail
  obtain ⟨w9, hW⟩ : ∃ W : World, W = (((w8.setCell ⟨w.heap.size, 0, none⟩ (.bool (decide (m < 0)))).setCell ⟨w.heap.size, 1, none⟩ (.slice A2 (digs m.natAbs).length c2)).setCell ⟨w.heap.size, 2, none⟩ (.int .i64 q)) := ⟨_, rfl⟩
  rw [← hW]
  have hO : Only (w.heap.size) w8 w9 := by rw [hW]; exact ((((Only.refl (w.heap.size) w8).setCell 0 _).setCell 1 _).setCell 2 _)
  have L9 := Lib.hid (live_only L8.out hO Rr_8.out noint_dy Gr)
  have Rk_9 := Lib.hid ((hO.block _ (by omega)).trans Rk_8.out)
  have Ra_9 := Lib.hid ((hO.block _ (by omega)).trans Ra_8.out)
  have Rc_9 := Lib.hid ((hO.block _ (by omega)).trans Rc_8.out)
  have Rr_9 := Lib.hid (show w9.heap[w.heap.size]? = some (.cells #[.bool (decide (m < 0)), .slice A2 (digs m.natAbs).length c2, .int .i64 q] 26 (0, 0)) by rw [hW]; exact (heap_setCell_same _ _ 2 _ _ _ (heap_setCell_same _ _ 1 _ _ _ (heap_setCell_same _ _ 0 _ _ _ Rr_8.out))))
  clear hW hO
  clear fa0 za0 fa1 za1 xa fr0 zr0 fr1 zr1 fr2 zr2 xr
  have fr0 := row_c (i := 0) Rr_9.out rfl
  have zr0 := frozen_of_row _ _ 0 _ _ Rr_9.out
  have fr1 := row_c (i := 1) Rr_9.out rfl
  have zr1 := frozen_of_row _ _ 1 _ _ Rr_9.out
  have fr2 := row_c (i := 2) Rr_9.out rfl
  have zr2 := frozen_of_row _ _ 2 _ _ Rr_9.out
  have xr := heap_lt Rr_9.out
  go_wp2_with fail
  refine (dright_any A2 c2 (decide (m < 0)) (digs m.natAbs) q _ (L9.out.get (A := A2) (c := c2) (xs := digs m.natAbs) (by simp)) true HR.out (Nat.le_trans lx.out (by omega))).mono ?_
  rintro e w10 ⟨rfl, hb⟩
  have L10 := Lib.hid (L9.out.step hb)
  clear fr0 zr0 fr1 zr1 fr2 zr2 xr
  have Rr_10 := Lib.hid (cells_of Rr_9.out hb)
  have Rk_10 := Lib.hid (cells_of Rk_9.out hb)
  have Ra_10 := Lib.hid (cells_of Ra_9.out hb)
  have Rc_10 := Lib.hid (cells_of Rc_9.out hb)
  clear hb 
  have fr0 := row_c (i := 0) Rr_10.out rfl
  have zr0 := frozen_of_row _ _ 0 _ _ Rr_10.out
  have fr1 := row_c (i := 1) Rr_10.out rfl
  have zr1 := frozen_of_row _ _ 1 _ _ Rr_10.out
  have fr2 := row_c (i := 2) Rr_10.out rfl
  have zr2 := frozen_of_row _ _ 2 _ _ Rr_10.out
  have xr := heap_lt Rr_10.out
  go_wp2_with fail
  refine (inRange_any A2 c2 (decide (m < 0)) m q _ (L10.out.get (A := A2) (c := c2) (xs := digs m.natAbs) (by simp)) false HI.out (Nat.le_trans lx.out (by omega))).mono ?_
  rintro e w11 ⟨rfl, hb⟩
  have L11 := Lib.hid (L10.out.step hb)
  clear fr0 zr0 fr1 zr1 fr2 zr2 xr
  have Rr_11 := Lib.hid (cells_of Rr_10.out hb)
  have Rk_11 := Lib.hid (cells_of Rk_10.out hb)
  have Ra_11 := Lib.hid (cells_of Ra_10.out hb)
  have Rc_11 := Lib.hid (cells_of Rc_10.out hb)
  clear hb 
  go_wp2_with fail
  refine (tell_yes _ 2 _ (row_c Rk_11.out (i := 0) rfl) (frozen_of_row _ _ 0 _ _ Rk_11.out)).mono ?_
  rintro e w12 ⟨rfl, rfl⟩
  obtain ⟨w13, hW⟩ : ∃ W : World, W = (w11.setCell ⟨w.heap.size + 1, 0, none⟩ (.int .i64 2)) := ⟨_, rfl⟩
  rw [← hW]
  have hO : Only (w.heap.size + 1) w11 w13 := by rw [hW]; exact ((Only.refl (w.heap.size + 1) w11).setCell 0 _)
  have L13 := Lib.hid (live_only L11.out hO Rk_11.out noint_re Gk)
  have Rr_13 := Lib.hid ((hO.block _ (by omega)).trans Rr_11.out)
  have Ra_13 := Lib.hid ((hO.block _ (by omega)).trans Ra_11.out)
  have Rc_13 := Lib.hid ((hO.block _ (by omega)).trans Rc_11.out)
  have Rk_13 := Lib.hid (show w13.heap[w.heap.size + 1]? = some (.cells #[.int .i64 2] 80 (0, 0)) by rw [hW]; exact (heap_setCell_same _ _ 0 _ _ _ Rk_11.out))
  clear hW hO
  go_wp2_with fail
  refine (fails_any _ 2 true _ (row_c Rk_13.out (i := 0) rfl) rfl).mono ?_
  rintro e w14 ⟨rfl, rfl⟩
  have fk0 := row_c (i := 0) Rk_13.out rfl
  have zk0 := frozen_of_row _ _ 0 _ _ Rk_13.out
  have xk := heap_lt Rk_13.out
  have fr0 := row_c (i := 0) Rr_13.out rfl
  have zr0 := frozen_of_row _ _ 0 _ _ Rr_13.out
  have fr1 := row_c (i := 1) Rr_13.out rfl
  have zr1 := frozen_of_row _ _ 1 _ _ Rr_13.out
  have fr2 := row_c (i := 2) Rr_13.out rfl
  have zr2 := frozen_of_row _ _ 2 _ _ Rr_13.out
  have xr := heap_lt Rr_13.out
  go_wp2_with fail
  go_region
  go_wp2
  clear fk0 zk0 xk fr0 zr0 fr1 zr1 fr2 zr2 xr
  obtain ⟨w15, hW⟩ : ∃ W : World, W = (((w13.setCell ⟨w.heap.size, 0, none⟩ (.bool false)).setCell ⟨w.heap.size, 1, none⟩ (.slice none 0 0)).setCell ⟨w.heap.size, 2, none⟩ (.int .i64 0)) := ⟨_, rfl⟩
  rw [← hW]
  have hO : Only (w.heap.size) w13 w15 := by rw [hW]; exact ((((Only.refl (w.heap.size) w13).setCell 0 _).setCell 1 _).setCell 2 _)
  have L15 := Lib.hid (live_only L13.out hO Rr_13.out noint_dy Gr)
  have Rk_15 := Lib.hid ((hO.block _ (by omega)).trans Rk_13.out)
  have Ra_15 := Lib.hid ((hO.block _ (by omega)).trans Ra_13.out)
  have Rc_15 := Lib.hid ((hO.block _ (by omega)).trans Rc_13.out)
  have Rr_15 := Lib.hid (show w15.heap[w.heap.size]? = some (.cells #[.bool false, .slice none 0 0, .int .i64 0] 26 (0, 0)) by rw [hW]; exact (heap_setCell_same _ _ 2 _ _ _ (heap_setCell_same _ _ 1 _ _ _ (heap_setCell_same _ _ 0 _ _ _ Rr_13.out))))
  clear hW hO
  obtain ⟨w16, hW⟩ : ∃ W : World, W = w15.drew := ⟨_, rfl⟩
  rw [← hW]
  have hb : Below w15.heap.size w15 w16 := by rw [hW]; exact bd0 _
  have L16 := Lib.hid (L15.out.step hb)
  have Rr_16 := Lib.hid (cells_of Rr_15.out hb)
  have Rk_16 := Lib.hid (cells_of Rk_15.out hb)
  have Ra_16 := Lib.hid (cells_of Ra_15.out hb)
  have Rc_16 := Lib.hid (cells_of Rc_15.out hb)
  clear hW hb
  have fr0 := row_c (i := 0) Rr_16.out rfl
  have zr0 := frozen_of_row _ _ 0 _ _ Rr_16.out
  have fr1 := row_c (i := 1) Rr_16.out rfl
  have zr1 := frozen_of_row _ _ 1 _ _ Rr_16.out
  have fr2 := row_c (i := 2) Rr_16.out rfl
  have zr2 := frozen_of_row _ _ 2 _ _ Rr_16.out
  have xr := heap_lt Rr_16.out
  refine bodyPost_ret (v := .tuple #[.agg #[.bool false, .slice none 0 0, .int .i64 0], .string ⟨#[]⟩, .int .i64 2]) (by simp [results, Tryd.results44, go_sem, fr0, fr1, fr2]) rfl ?_
  
  exact ⟨rfl, L16.out.1⟩

set_option maxHeartbeats 4000000 in
set_option maxRecDepth 100000 in
theorem dtk_h (b t1 t2 : ByteArray) (m n q : Int) (w : World) (T1 : ∀ W, Calls Tryd.prog 61 #[.string b] W fun e w' => Zt m t1 0 W e w') (T2 : ∀ W, Calls Tryd.prog 61 #[.string t1] W fun e w' => Zt n t2 0 W e w') (hl : (digs m.natAbs).length ≤ 400) (hn : (digs n.natAbs).length ≤ 400) (hq : smallz n = q) (hok : smallb n = true) (hR : dyR (decide (m < 0)) (digs m.natAbs) q = true) (hI : inR m q = true):
    Calls Tryd.prog 44 #[.string b] w fun e w' => ∃ A c, e = .returned (.tuple #[.agg #[.bool (decide (m < 0)), .slice A (digs m.natAbs).length c, .int .i64 q], .string t2, .int .i64 0]) ∧ Dg w' A c (digs m.natAbs) ∧ Below w.heap.size w w' := by
  have HT1 := Lib.hid T1
  have HT2 := Lib.hid T2
  have lx := Lib.hid hl
  have ly := Lib.hid hn
  have SM := Lib.hid (fun W A c hW => zsm_yes (A := A) (c := c) (Nat.le_trans hn (by omega)) hq hok W hW)
  have HR := Lib.hid hR
  have HI := Lib.hid hI
  have L0 := Lib.hid (live_start w)
  clear T1 T2 hl hn hq hok hR hI
  go_enter Tryd.func44, Tryd.ntmps44
  go_wp2_with fail
  obtain ⟨v1, hW⟩ : ∃ W : World, W = ((w.alloc (.cells #[.bool false, .slice none 0 0, .int .i64 0] 26)).alloc (.cells #[.int .i64 0] 80)) := ⟨_, rfl⟩
  rw [← hW]
  have hb : Below w.heap.size w v1 := by rw [hW]; exact (((Below.refl _ _).alloc (by simp <;> omega) _).alloc (by simp <;> omega) _)
  have L1 := Lib.hid (L0.out.step hb)
  have Rr_1 := Lib.hid (show v1.heap[w.heap.size]? = some (.cells #[.bool false, .slice none 0 0, .int .i64 0] 26 (0, 0)) by rw [hW]; have := heap_alloc_new w (.cells #[.bool false, .slice none 0 0, .int .i64 0] 26); rw [heap_alloc_old _ _ (by simp <;> omega)]; simpa using this)
  have Gr : w.heap.size ≤ w.heap.size := by have := L0.out.1.size; omega
  have Rk_1 := Lib.hid (show v1.heap[w.heap.size + 1]? = some (.cells #[.int .i64 0] 80 (0, 0)) by rw [hW]; have := heap_alloc_new (w.alloc (.cells #[.bool false, .slice none 0 0, .int .i64 0] 26)) (.cells #[.int .i64 0] 80); simpa using this)
  have Gk : w.heap.size ≤ w.heap.size + 1 := by have := L0.out.1.size; omega
  have Nrk : w.heap.size < w.heap.size + 1 := by omega
  clear hW hb
  refine (HT1.out _).mono ?_
  rintro e w2 ⟨A2, c2, rfl, hd, hb⟩
  have L2 := Lib.hid ((L1.out.step hb).add hd)
  have Rr_2 := Lib.hid (cells_of Rr_1.out hb)
  have Rk_2 := Lib.hid (cells_of Rk_1.out hb)
  clear hb hd
  go_wp2_with fail
  obtain ⟨w3, hW⟩ : ∃ W : World, W = (w2.alloc (.cells #[.bool (decide (m < 0)), .slice A2 (digs m.natAbs).length c2] 24)) := ⟨_, rfl⟩
  rw [← hW]
  have hb : Below w2.heap.size w2 w3 := by rw [hW]; exact ((Below.refl _ _).alloc (by simp <;> omega) _)
  have L3 := Lib.hid (L2.out.step hb)
  have Rr_3 := Lib.hid (cells_of Rr_2.out hb)
  have Rk_3 := Lib.hid (cells_of Rk_2.out hb)
  have Ra_3 := Lib.hid (show w3.heap[w2.heap.size]? = some (.cells #[.bool (decide (m < 0)), .slice A2 (digs m.natAbs).length c2] 24 (0, 0)) by rw [hW]; have := heap_alloc_new w2 (.cells #[.bool (decide (m < 0)), .slice A2 (digs m.natAbs).length c2] 24); simpa using this)
  have Ga : w.heap.size ≤ w2.heap.size := by have := L2.out.1.size; omega
  have Nra : w.heap.size < w2.heap.size := by have := heap_lt Rr_2.out; omega
  have Nka : w.heap.size + 1 < w2.heap.size := by have := heap_lt Rk_2.out; omega
  clear hW hb
  refine (tell_no _ 0 0 false _ (row_c Rk_3.out (i := 0) rfl) (.inl rfl)).mono ?_
  rintro e w4 ⟨rfl, rfl⟩
  go_wp2_with fail
  refine (HT2.out _).mono ?_
  rintro e w5 ⟨A5, c5, rfl, hd, hb⟩
  have L5 := Lib.hid ((L3.out.step hb).add hd)
  have Rr_5 := Lib.hid (cells_of Rr_3.out hb)
  have Rk_5 := Lib.hid (cells_of Rk_3.out hb)
  have Ra_5 := Lib.hid (cells_of Ra_3.out hb)
  clear hb hd
  go_wp2_with fail
  obtain ⟨w6, hW⟩ : ∃ W : World, W = (w5.alloc (.cells #[.bool (decide (n < 0)), .slice A5 (digs n.natAbs).length c5] 24)) := ⟨_, rfl⟩
  rw [← hW]
  have hb : Below w5.heap.size w5 w6 := by rw [hW]; exact ((Below.refl _ _).alloc (by simp <;> omega) _)
  have L6 := Lib.hid (L5.out.step hb)
  have Rr_6 := Lib.hid (cells_of Rr_5.out hb)
  have Rk_6 := Lib.hid (cells_of Rk_5.out hb)
  have Ra_6 := Lib.hid (cells_of Ra_5.out hb)
  have Rc_6 := Lib.hid (show w6.heap[w5.heap.size]? = some (.cells #[.bool (decide (n < 0)), .slice A5 (digs n.natAbs).length c5] 24 (0, 0)) by rw [hW]; have := heap_alloc_new w5 (.cells #[.bool (decide (n < 0)), .slice A5 (digs n.natAbs).length c5] 24); simpa using this)
  have Gc : w.heap.size ≤ w5.heap.size := by have := L5.out.1.size; omega
  have Nrc : w.heap.size < w5.heap.size := by have := heap_lt Rr_5.out; omega
  have Nkc : w.heap.size + 1 < w5.heap.size := by have := heap_lt Rk_5.out; omega
  have Nac : w2.heap.size < w5.heap.size := by have := heap_lt Ra_5.out; omega
  clear hW hb
  refine (tell_no _ 0 0 false _ (row_c Rk_6.out (i := 0) rfl) (.inl rfl)).mono ?_
  rintro e w7 ⟨rfl, rfl⟩
  have fc0 := row_c (i := 0) Rc_6.out rfl
  have zc0 := frozen_of_row _ _ 0 _ _ Rc_6.out
  have fc1 := row_c (i := 1) Rc_6.out rfl
  have zc1 := frozen_of_row _ _ 1 _ _ Rc_6.out
  have xc := heap_lt Rc_6.out
  go_wp2_with fail
  refine (SM.out _ _ _ (L6.out.get (A := A5) (c := c5) (xs := digs n.natAbs) (by simp))).mono ?_
  rintro e w8 ⟨rfl, hb⟩
  have L8 := Lib.hid (L6.out.step hb)
  clear fc0 zc0 fc1 zc1 xc
  have Rr_8 := Lib.hid (cells_of Rr_6.out hb)
  have Rk_8 := Lib.hid (cells_of Rk_6.out hb)
  have Ra_8 := Lib.hid (cells_of Ra_6.out hb)
  have Rc_8 := Lib.hid (cells_of Rc_6.out hb)
  clear hb 
  have fa0 := row_c (i := 0) Ra_8.out rfl
  have za0 := frozen_of_row _ _ 0 _ _ Ra_8.out
  have fa1 := row_c (i := 1) Ra_8.out rfl
  have za1 := frozen_of_row _ _ 1 _ _ Ra_8.out
  have xa := heap_lt Ra_8.out
  have fr0 := row_c (i := 0) Rr_8.out rfl
  have zr0 := frozen_of_row _ _ 0 _ _ Rr_8.out
  have fr1 := row_c (i := 1) Rr_8.out rfl
  have zr1 := frozen_of_row _ _ 1 _ _ Rr_8.out
  have fr2 := row_c (i := 2) Rr_8.out rfl
  have zr2 := frozen_of_row _ _ 2 _ _ Rr_8.out
  have xr := heap_lt Rr_8.out
  go_wp2_with fail
  obtain ⟨w9, hW⟩ : ∃ W : World, W = (((w8.setCell ⟨w.heap.size, 0, none⟩ (.bool (decide (m < 0)))).setCell ⟨w.heap.size, 1, none⟩ (.slice A2 (digs m.natAbs).length c2)).setCell ⟨w.heap.size, 2, none⟩ (.int .i64 q)) := ⟨_, rfl⟩
  rw [← hW]
  have hO : Only (w.heap.size) w8 w9 := by rw [hW]; exact ((((Only.refl (w.heap.size) w8).setCell 0 _).setCell 1 _).setCell 2 _)
  have L9 := Lib.hid (live_only L8.out hO Rr_8.out noint_dy Gr)
  have Rk_9 := Lib.hid ((hO.block _ (by omega)).trans Rk_8.out)
  have Ra_9 := Lib.hid ((hO.block _ (by omega)).trans Ra_8.out)
  have Rc_9 := Lib.hid ((hO.block _ (by omega)).trans Rc_8.out)
  have Rr_9 := Lib.hid (show w9.heap[w.heap.size]? = some (.cells #[.bool (decide (m < 0)), .slice A2 (digs m.natAbs).length c2, .int .i64 q] 26 (0, 0)) by rw [hW]; exact (heap_setCell_same _ _ 2 _ _ _ (heap_setCell_same _ _ 1 _ _ _ (heap_setCell_same _ _ 0 _ _ _ Rr_8.out))))
  clear hW hO
  clear fa0 za0 fa1 za1 xa fr0 zr0 fr1 zr1 fr2 zr2 xr
  have fr0 := row_c (i := 0) Rr_9.out rfl
  have zr0 := frozen_of_row _ _ 0 _ _ Rr_9.out
  have fr1 := row_c (i := 1) Rr_9.out rfl
  have zr1 := frozen_of_row _ _ 1 _ _ Rr_9.out
  have fr2 := row_c (i := 2) Rr_9.out rfl
  have zr2 := frozen_of_row _ _ 2 _ _ Rr_9.out
  have xr := heap_lt Rr_9.out
  go_wp2_with fail
  refine (dright_any A2 c2 (decide (m < 0)) (digs m.natAbs) q _ (L9.out.get (A := A2) (c := c2) (xs := digs m.natAbs) (by simp)) true HR.out (Nat.le_trans lx.out (by omega))).mono ?_
  rintro e w10 ⟨rfl, hb⟩
  have L10 := Lib.hid (L9.out.step hb)
  clear fr0 zr0 fr1 zr1 fr2 zr2 xr
  have Rr_10 := Lib.hid (cells_of Rr_9.out hb)
  have Rk_10 := Lib.hid (cells_of Rk_9.out hb)
  have Ra_10 := Lib.hid (cells_of Ra_9.out hb)
  have Rc_10 := Lib.hid (cells_of Rc_9.out hb)
  clear hb 
  have fr0 := row_c (i := 0) Rr_10.out rfl
  have zr0 := frozen_of_row _ _ 0 _ _ Rr_10.out
  have fr1 := row_c (i := 1) Rr_10.out rfl
  have zr1 := frozen_of_row _ _ 1 _ _ Rr_10.out
  have fr2 := row_c (i := 2) Rr_10.out rfl
  have zr2 := frozen_of_row _ _ 2 _ _ Rr_10.out
  have xr := heap_lt Rr_10.out
  go_wp2_with fail
  refine (inRange_any A2 c2 (decide (m < 0)) m q _ (L10.out.get (A := A2) (c := c2) (xs := digs m.natAbs) (by simp)) true HI.out (Nat.le_trans lx.out (by omega))).mono ?_
  rintro e w11 ⟨rfl, hb⟩
  have L11 := Lib.hid (L10.out.step hb)
  clear fr0 zr0 fr1 zr1 fr2 zr2 xr
  have Rr_11 := Lib.hid (cells_of Rr_10.out hb)
  have Rk_11 := Lib.hid (cells_of Rk_10.out hb)
  have Ra_11 := Lib.hid (cells_of Ra_10.out hb)
  have Rc_11 := Lib.hid (cells_of Rc_10.out hb)
  clear hb 
  go_wp2_with fail
  refine (tell_no _ 0 2 false _ (row_c Rk_11.out (i := 0) rfl) (.inl rfl)).mono ?_
  rintro e w12 ⟨rfl, rfl⟩
  go_wp2_with fail
  refine (fails_any _ 0 false _ (row_c Rk_11.out (i := 0) rfl) rfl).mono ?_
  rintro e w13 ⟨rfl, rfl⟩
  have fr0 := row_c (i := 0) Rr_11.out rfl
  have zr0 := frozen_of_row _ _ 0 _ _ Rr_11.out
  have fr1 := row_c (i := 1) Rr_11.out rfl
  have zr1 := frozen_of_row _ _ 1 _ _ Rr_11.out
  have fr2 := row_c (i := 2) Rr_11.out rfl
  have zr2 := frozen_of_row _ _ 2 _ _ Rr_11.out
  have xr := heap_lt Rr_11.out
  go_wp2
  obtain ⟨w14, hW⟩ : ∃ W : World, W = (((w11.setCell ⟨w.heap.size, 0, none⟩ (.bool (decide (m < 0)))).setCell ⟨w.heap.size, 1, none⟩ (.slice A2 (digs m.natAbs).length c2)).setCell ⟨w.heap.size, 2, none⟩ (.int .i64 q)) := ⟨_, rfl⟩
  rw [← hW]
  have hO : Only (w.heap.size) w11 w14 := by rw [hW]; exact ((((Only.refl (w.heap.size) w11).setCell 0 _).setCell 1 _).setCell 2 _)
  have L14 := Lib.hid (live_only L11.out hO Rr_11.out noint_dy Gr)
  have Rk_14 := Lib.hid ((hO.block _ (by omega)).trans Rk_11.out)
  have Ra_14 := Lib.hid ((hO.block _ (by omega)).trans Ra_11.out)
  have Rc_14 := Lib.hid ((hO.block _ (by omega)).trans Rc_11.out)
  have Rr_14 := Lib.hid (show w14.heap[w.heap.size]? = some (.cells #[.bool (decide (m < 0)), .slice A2 (digs m.natAbs).length c2, .int .i64 q] 26 (0, 0)) by rw [hW]; exact (heap_setCell_same _ _ 2 _ _ _ (heap_setCell_same _ _ 1 _ _ _ (heap_setCell_same _ _ 0 _ _ _ Rr_11.out))))
  clear hW hO
  clear fr0 zr0 fr1 zr1 fr2 zr2 xr
  have fr0 := row_c (i := 0) Rr_14.out rfl
  have zr0 := frozen_of_row _ _ 0 _ _ Rr_14.out
  have fr1 := row_c (i := 1) Rr_14.out rfl
  have zr1 := frozen_of_row _ _ 1 _ _ Rr_14.out
  have fr2 := row_c (i := 2) Rr_14.out rfl
  have zr2 := frozen_of_row _ _ 2 _ _ Rr_14.out
  have xr := heap_lt Rr_14.out
  refine bodyPost_ret (v := .tuple #[.agg #[.bool (decide (m < 0)), .slice A2 (digs m.natAbs).length c2, .int .i64 q], .string t2, .int .i64 0]) (by simp [results, Tryd.results44, go_sem, fr0, fr1, fr2]) rfl ?_
  
  exact ⟨A2, c2, rfl, L14.out.get (A := A2) (c := c2) (xs := digs m.natAbs) (by simp), L14.out.1⟩
end Go.Proofs.YtfhdhldgflbpjaaDoor
end

section
/-
  dyad.Take, answered or refused.
-/
namespace Go.Proofs.YtfhdhldgflbpjaaDoor
open Go.RowKit
set_option linter.unusedSimpArgs false
set_option linter.unusedVariables false
theorem rt_of {m e : Int} (h : dyR (decide (m < 0)) (digs m.natAbs) e = true) : Rt m e := by
  unfold dyR at h
  by_cases hm : m.natAbs = 0
  · rw [hm, digs_zero] at h
    have h2 : (e == 0) = true := by simp at h; simp [h.2]
    have h3 : e = 0 := by simpa using h2
    exact ⟨.inl ⟨by omega, h3⟩, by omega, by omega⟩
  · have hl : (digs m.natAbs).length ≠ 0 := fun e => hm (digs_nil.1 e)
    rw [if_neg hl] at h
    simp only [Bool.and_eq_true, decide_eq_true_eq] at h
    obtain ⟨⟨⟨_, h2⟩, h3⟩, h4⟩ := h
    rw [digs_pos hm] at h2
    simp only [List.getElem?_cons_zero, Option.getD_some] at h2
    exact ⟨.inr (by omega), h3, h4⟩
theorem smz {n : Int} (h : smallb n = true) : smallz n = n := by
  unfold smallb at h; rw [decide_eq_true_eq] at h; exact if_pos h
theorem zb_pos (m : Int) : 0 < (zb m).length := by have := zbytes_len (decide (m < 0)) (digs m.natAbs); unfold zb; omega
theorem dtake_yes {b t : ByteArray} {m x : Int} (hb : b.data.toList = zb m ++ zb x ++ t.data.toList) (hl : (digs m.natAbs).length ≤ 400) (r : Rt m x) (hI : inR m x = true) (hm : b.data.toList.length ≤ 9223372036854775807) (w : World) :
    Calls Tryd.prog 44 #[.string b] w fun e w' => ∃ A c, e = .returned (.tuple #[.agg #[.bool (decide (m < 0)), .slice A (digs m.natAbs).length c, .int .i64 x], .string t, .int .i64 0]) ∧ Dg w' A c (digs m.natAbs) ∧ Below w.heap.size w w' := by
  obtain ⟨t1, ht1⟩ : ∃ t1 : ByteArray, t1.data.toList = zb x ++ t.data.toList := ⟨⟨(zb x ++ t.data.toList).toArray⟩, rfl⟩
  have x0 := r.2.1
  have x1 := r.2.2
  have h2 : (digs x.natAbs).length ≤ 400 := Nat.le_trans (digs_small (by omega)) (by omega)
  have hb1 : b.data.toList = zb m ++ t1.data.toList := by rw [hb, ht1, List.append_assoc]
  have hm1 : t1.data.toList.length ≤ 9223372036854775807 := by rw [hb1, List.length_append] at hm; omega
  exact dtk_h b t1 t m x x w (ztk_yes hb1 hl hm) (ztk_yes ht1 h2 hm1) hl h2 (if_pos ⟨by omega, by omega⟩) (decide_eq_true ⟨by omega, by omega⟩) (dyR_num r) hI
theorem dtake_no {b : ByteArray} (h : ¬ ∃ m x t, b.data.toList = zb m ++ zb x ++ t ∧ (digs m.natAbs).length ≤ 400 ∧ Rt m x ∧ inR m x = true) (hm : b.data.toList.length ≤ 9223372036854775807) (w : World) :
    Calls Tryd.prog 44 #[.string b] w fun e w' => e = .returned (.tuple #[.agg #[.bool false, .slice none 0 0, .int .i64 0], .string ⟨#[]⟩, .int .i64 2]) ∧ Below w.heap.size w w' := by
  have hz : (digs (0 : Int).natAbs).length ≤ 400 := by show (digs 0).length ≤ 400; rw [digs_zero]; simp
  have hs0 : smallz 0 = 0 := if_pos ⟨by omega, by omega⟩
  have hb0 : smallb 0 = true := decide_eq_true ⟨by omega, by omega⟩
  by_cases h1 : ∃ m r, (digs m.natAbs).length ≤ 400 ∧ b.data.toList = zb m ++ r
  · obtain ⟨m, r, hl, hb⟩ := h1
    obtain ⟨t1, rfl⟩ : ∃ t1 : ByteArray, t1.data.toList = r := ⟨⟨r.toArray⟩, rfl⟩
    have hm1 : t1.data.toList.length ≤ 9223372036854775807 := by rw [hb, List.length_append] at hm; omega
    by_cases h2 : ∃ n s, (digs n.natAbs).length ≤ 400 ∧ t1.data.toList = zb n ++ s
    · obtain ⟨n, s, hn, hb2⟩ := h2
      obtain ⟨t2, rfl⟩ : ∃ t2 : ByteArray, t2.data.toList = s := ⟨⟨s.toArray⟩, rfl⟩
      rcases hs : smallb n with _ | _
      · exact dtk_e b t1 t2 m n _ w (ztk_yes hb hl hm) (ztk_yes hb2 hn hm1) hl hn rfl hs
      · rcases hR : dyR (decide (m < 0)) (digs m.natAbs) n with _ | _
        · exact dtk_f b t1 t2 m n n w (ztk_yes hb hl hm) (ztk_yes hb2 hn hm1) hl hn (smz hs) hs hR
        · rcases hI : inR m n with _ | _
          · exact dtk_g b t1 t2 m n n w (ztk_yes hb hl hm) (ztk_yes hb2 hn hm1) hl hn (smz hs) hs hR hI
          · exact absurd ⟨m, n, t2.data.toList, by rw [hb, hb2, List.append_assoc], hl, rt_of hR, hI⟩ h
    · rcases hR : dyR (decide (m < 0)) (digs m.natAbs) 0 with _ | _
      · exact dtk_c b t1 ⟨#[]⟩ m 0 0 w (ztk_yes hb hl hm) (ztk_no hm1 h2) hl hz hs0 hb0 hR
      · exact dtk_d b t1 ⟨#[]⟩ m 0 0 _ w (ztk_yes hb hl hm) (ztk_no hm1 h2) hl hz hs0 hb0 hR rfl
  · have hn : ¬ ∃ m r, (digs m.natAbs).length ≤ 400 ∧ (⟨#[]⟩ : ByteArray).data.toList = zb m ++ r := by
      rintro ⟨m, r, _, e⟩
      have l1 := congrArg List.length e
      have l2 := zb_pos m
      rw [List.length_append] at l1
      simp at l1; omega
    have hm0 : (⟨#[]⟩ : ByteArray).data.toList.length ≤ 9223372036854775807 := by simp
    rcases hR : dyR (decide ((0 : Int) < 0)) (digs (0 : Int).natAbs) 0 with _ | _
    · exact dtk_a b ⟨#[]⟩ ⟨#[]⟩ 0 0 0 w (ztk_no hm h1) (ztk_no hm0 hn) hz hz hs0 hb0 hR
    · exact dtk_b b ⟨#[]⟩ ⟨#[]⟩ 0 0 0 _ w (ztk_no hm h1) (ztk_no hm0 hn) hz hz hs0 hb0 hR rfl
end Go.Proofs.YtfhdhldgflbpjaaDoor
end

section
/-
  dyad.Neg.
-/
namespace Go.Proofs.YtfhdhldgflbpjaaDoor
open Go.RowKit
set_option linter.unusedSimpArgs false
set_option linter.unusedVariables false
end Go.Proofs.YtfhdhldgflbpjaaDoor
end

section
/-
  dyad.Sub, Mul, Scale, Size.
-/
namespace Go.Proofs.YtfhdhldgflbpjaaDoor
open Go.RowKit
set_option linter.unusedSimpArgs false
set_option linter.unusedVariables false
set_option maxHeartbeats 4000000 in
set_option maxRecDepth 100000 in
theorem size_yes (A : Option Addr) (c : Nat) (m x : Int) (w : World) (h : Dg w A c (digs m.natAbs)) (hl : (digs m.natAbs).length ≤ 10000) (r1 : Rt m x) (m0 : m ≠ 0) {k : Int} (hk : x + bl m = k):
    Calls Tryd.prog 32 #[.agg #[.bool (decide (m < 0)), .slice A (digs m.natAbs).length c, .int .i64 x]] w fun e w' => e = .returned (.tuple #[.int .i64 k, .bool true]) ∧ Below w.heap.size w w' := by
  have lx := Lib.hid hl
  have x0 := r1.2.1
  have x1 := r1.2.2
  have D1 := Lib.hid (show decide (m = 0) = false by simp [m0])
  have DR := Lib.hid (fun W hW => dright_any A c (decide (m < 0)) (digs m.natAbs) x W hW true (dyR_num r1) (by omega))
  have b1 := bl_bd hl
  unfold bl at hk
  obtain ⟨z, hz⟩ : ∃ z : Int, (blen m.natAbs : Int) = z := ⟨_, rfl⟩
  have HZ := Lib.hid hz
  rw [hz] at hk
  have ws : IntKind.i64.wrap (x + z) = k := by rw [IntWalk.i64_in _ (by omega)]; exact hk
  have L0 := Lib.hid ((live_start w).add h)
  clear h hl r1 m0 hz hk b1
  go_enter Tryd.func32, Tryd.ntmps32
  go_wp2_with fail
  obtain ⟨v1, hW, hb, Rx_1⟩ := new1 w (.cells #[.bool (decide (m < 0)), .slice A (digs m.natAbs).length c, .int .i64 x] 26)
  rw [← hW]
  have L1 := ls L0 hb
  have Gx := gl0 L0.out
  clear hW hb
  refine (isz_d (x := x) D1.out).mono ?_
  rintro e w2 ⟨rfl, hb⟩
  have L2 := ls L1 hb
  have Rx_2 := co Rx_1 hb
  clear hb 
  obtain ⟨fx0, zx0, fx1, zx1, fx2, zx2, xx⟩ := ly3 Rx_2.out
  go_wp2_with fail
  refine (DR.out _ (L2.out.get (A := A) (c := c) (xs := digs m.natAbs) (by simp))).mono ?_
  rintro e w3 ⟨rfl, hb⟩
  have L3 := ls L2 hb
  clear fx0 zx0 fx1 zx1 fx2 zx2 xx
  have Rx_3 := co Rx_2 hb
  clear hb 
  obtain ⟨fx0, zx0, fx1, zx1, fx2, zx2, xx⟩ := ly3 Rx_3.out
  go_wp2_with fail
  clear fx0 zx0 fx1 zx1 fx2 zx2 xx
  obtain ⟨fx0, zx0, fx1, zx1, fx2, zx2, xx⟩ := ly3 Rx_3.out
  have KD := Lib.hid (bd0 w3)
  have LD := ls L3 KD.out
  go_region_held3 (fun w' => ∀ b o, b < w3.heap.size → w'.cell? ⟨b, o, none⟩ = w3.cell? ⟨b, o, none⟩)
    (first | with_reducible exact (bcell KD.out).1)
    (first
      | (go_at_call 55; (with_reducible refine (bits_b (LD.out.get (A := A) (c := c) (xs := digs m.natAbs) (by simp)) (Nat.le_trans lx.out (by omega)) HZ.out).mono ?_); rintro e w5 ⟨rfl, rfl⟩))
  rename_i hHeld
  clear hHeld
  clear fx0 zx0 fx1 zx1 fx2 zx2 xx
  clear KD LD
  obtain ⟨w6, hW⟩ : ∃ W : World, W = w3.drew := ⟨_, rfl⟩
  rw [← hW]
  have hb : Below w3.heap.size w3 w6 := by rw [hW]; exact bd0 _
  have L6 := ls L3 hb
  have Rx_6 := co Rx_3 hb
  clear hW hb
  clear ws
  go_wp2
  go_ret2
  exact ⟨rfl, L6.out.1⟩
end Go.Proofs.YtfhdhldgflbpjaaDoor
end

section
/-
  cheb.within, dyad.Size, ask.May.
-/
namespace Go.Proofs.YtfhdhldgflbpjaaDoor
open Go.RowKit
set_option linter.unusedSimpArgs false
set_option linter.unusedVariables false
set_option maxRecDepth 100000 in
theorem within_any (n lo hi : Int) (w : World) {q : Bool} (hq : (decide (lo ≤ n) && decide (n ≤ hi)) = q) :
    Calls Tryd.prog 19 #[.int .i64 n, .int .i64 lo, .int .i64 hi] w fun e w' => e = .returned (.bool q) ∧ w = w' := by
  obtain ⟨a, ha⟩ : ∃ a, decide (lo ≤ n) = a := ⟨_, rfl⟩
  obtain ⟨b, hb⟩ : ∃ a, decide (n ≤ hi) = a := ⟨_, rfl⟩
  rw [ha, hb] at hq
  subst hq
  cases a
  · go_enter Tryd.func19, Tryd.ntmps19
    go_wp2
    go_ret
    exact ⟨rfl, rfl⟩
  · go_enter Tryd.func19, Tryd.ntmps19
    go_wp2
    go_ret
    exact ⟨rfl, rfl⟩

/-- A number that is right has a value. -/
theorem num_of {s : Bool} {xs : List Nat} {x : Int} (hk : ok32 xs) (h : dyR s xs x = true) : ∃ m : Int, digs m.natAbs = xs ∧ decide (m < 0) = s ∧ Rt m x := by
  have hr : rightB s xs = true := by
    unfold dyR at h
    by_cases h0 : xs.length = 0
    · rw [if_pos h0] at h
      unfold rightB
      rw [if_pos h0]
      simp at h
      simp [h.1]
    · rw [if_neg h0] at h
      simp only [Bool.and_eq_true] at h
      exact h.1.1.1
  obtain ⟨m, rfl, rfl⟩ := right_num hk hr
  exact ⟨m, rfl, rfl, rt_of h⟩

/-- May a number be asked: right, of at most 400 bits. -/
def mayB (s : Bool) (xs : List Nat) (x : Int) : Bool := dyR s xs x && decide (blen (val xs) ≤ 400)
theorem may_num {m x : Int} (r : Rt m x) : mayB (decide (m < 0)) (digs m.natAbs) x = decide (bl m ≤ 400) := by
  unfold mayB bl; rw [dyR_num r, Bool.true_and, val_digs]

set_option maxHeartbeats 4000000 in
set_option maxRecDepth 100000 in
theorem size_rz (A : Option Addr) (c : Nat) (s : Bool) (xs : List Nat) (x : Int) (w : World) (h : Dg w A c xs) (hl : xs.length ≤ 9223372036854775807) (h0 : xs.length = 0):
    Calls Tryd.prog 32 #[.agg #[.bool s, .slice A xs.length c, .int .i64 x]] w fun e w' => e = .returned (.tuple #[.int .i64 0, .bool false]) ∧ Below w.heap.size w w' := by
  have lx := Lib.hid hl
  have HZ := Lib.hid (show ((xs.length : Int) == 0) = true by rw [h0]; rfl)
  have L0 := Lib.hid ((live_start w).add h)
  clear h hl h0
  go_enter Tryd.func32, Tryd.ntmps32
  go_wp2_with fail
  obtain ⟨v1, hW, hb, Rx_1⟩ := new1 w (.cells #[.bool s, .slice A xs.length c, .int .i64 x] 26)
  rw [← hW]
  have L1 := ls L0 hb
  have Gx := gl0 L0.out
  clear hW hb
  refine (isZero_any A xs.length c s x _ true HZ.out).mono ?_
  rintro e w2 ⟨rfl, hb⟩
  have L2 := ls L1 hb
  have Rx_2 := co Rx_1 hb
  clear hb 
  obtain ⟨fx0, zx0, fx1, zx1, fx2, zx2, xx⟩ := ly3 Rx_2.out
  go_wp2
  go_ret2
  exact ⟨rfl, L2.out.1⟩

set_option maxHeartbeats 4000000 in
set_option maxRecDepth 100000 in
theorem size_rw (A : Option Addr) (c : Nat) (s : Bool) (xs : List Nat) (x : Int) (w : World) (h : Dg w A c xs) (hl : xs.length ≤ 9223372036854775807) (h0 : xs.length ≠ 0) (hq : dyR s xs x = false):
    Calls Tryd.prog 32 #[.agg #[.bool s, .slice A xs.length c, .int .i64 x]] w fun e w' => e = .returned (.tuple #[.int .i64 0, .bool false]) ∧ Below w.heap.size w w' := by
  have lx := Lib.hid hl
  have HZ := Lib.hid (show ((xs.length : Int) == 0) = false by exact beq_eq_false_iff_ne.2 (by omega))
  have HQ := Lib.hid hq
  have L0 := Lib.hid ((live_start w).add h)
  clear h hl h0 hq
  go_enter Tryd.func32, Tryd.ntmps32
  go_wp2_with fail
  obtain ⟨v1, hW, hb, Rx_1⟩ := new1 w (.cells #[.bool s, .slice A xs.length c, .int .i64 x] 26)
  rw [← hW]
  have L1 := ls L0 hb
  have Gx := gl0 L0.out
  clear hW hb
  refine (isZero_any A xs.length c s x _ false HZ.out).mono ?_
  rintro e w2 ⟨rfl, hb⟩
  have L2 := ls L1 hb
  have Rx_2 := co Rx_1 hb
  clear hb 
  obtain ⟨fx0, zx0, fx1, zx1, fx2, zx2, xx⟩ := ly3 Rx_2.out
  go_wp2_with fail
  refine (dright_any A c s xs x _ (L2.out.get (A := A) (c := c) (xs := xs) (by simp)) false HQ.out lx.out).mono ?_
  rintro e w3 ⟨rfl, hb⟩
  have L3 := ls L2 hb
  clear fx0 zx0 fx1 zx1 fx2 zx2 xx
  have Rx_3 := co Rx_2 hb
  clear hb 
  obtain ⟨fx0, zx0, fx1, zx1, fx2, zx2, xx⟩ := ly3 Rx_3.out
  go_wp2
  go_ret2
  exact ⟨rfl, L3.out.1⟩

theorem dsz_no (A : Option Addr) (c : Nat) (s : Bool) (xs : List Nat) (x : Int) (w : World) (h : Dg w A c xs) (hl : xs.length ≤ 9223372036854775807) (hq : xs.length = 0 ∨ dyR s xs x = false) :
    Calls Tryd.prog 32 #[.agg #[.bool s, .slice A xs.length c, .int .i64 x]] w fun e w' => e = .returned (.tuple #[.int .i64 0, .bool false]) ∧ Below w.heap.size w w' := by
  by_cases h0 : xs.length = 0
  · exact size_rz A c s xs x w h hl h0
  · exact size_rw A c s xs x w h hl h0 (hq.resolve_left h0)

set_option maxHeartbeats 4000000 in
set_option maxRecDepth 100000 in
theorem may_w (A : Option Addr) (c : Nat) (s : Bool) (xs : List Nat) (x : Int) (w : World) (h : Dg w A c xs) (hl : xs.length ≤ 9223372036854775807) (hq : dyR s xs x = false):
    Calls Tryd.prog 57 #[.agg #[.bool s, .slice A xs.length c, .int .i64 x], .int .i64 400, .int .i64 400, .int .i64 400] w fun e w' => e = .returned (.bool false) ∧ Below w.heap.size w w' := by
  have lx := Lib.hid hl
  have HQ := Lib.hid hq
  have L0 := Lib.hid ((live_start w).add h)
  clear h hl hq
  go_enter Tryd.func57, Tryd.ntmps57
  go_wp2_with fail
  obtain ⟨v1, hW, hb, Rx_1⟩ := new1 w (.cells #[.bool s, .slice A xs.length c, .int .i64 x] 26)
  rw [← hW]
  have L1 := ls L0 hb
  have Gx := gl0 L0.out
  clear hW hb
  refine (dsz_no A c s xs x _ (L1.out.get (A := A) (c := c) (xs := xs) (by simp)) lx.out (.inr HQ.out)).mono ?_
  rintro e w2 ⟨rfl, hb⟩
  have L2 := ls L1 hb
  have Rx_2 := co Rx_1 hb
  clear hb 
  obtain ⟨fx0, zx0, fx1, zx1, fx2, zx2, xx⟩ := ly3 Rx_2.out
  go_wp2_with fail
  refine (dright_any A c s xs x _ (L2.out.get (A := A) (c := c) (xs := xs) (by simp)) false HQ.out lx.out).mono ?_
  rintro e w3 ⟨rfl, hb⟩
  have L3 := ls L2 hb
  clear fx0 zx0 fx1 zx1 fx2 zx2 xx
  have Rx_3 := co Rx_2 hb
  clear hb 
  obtain ⟨fx0, zx0, fx1, zx1, fx2, zx2, xx⟩ := ly3 Rx_3.out
  go_wp2
  go_ret
  exact ⟨rfl, L3.out.1⟩

set_option maxHeartbeats 4000000 in
set_option maxRecDepth 100000 in
theorem may_z (A : Option Addr) (c : Nat) (m x : Int) (w : World) (h : Dg w A c (digs m.natAbs)) (hl : (digs m.natAbs).length ≤ 10000) (r1 : Rt m x) (m0 : m = 0):
    Calls Tryd.prog 57 #[.agg #[.bool (decide (m < 0)), .slice A (digs m.natAbs).length c, .int .i64 x], .int .i64 400, .int .i64 400, .int .i64 400] w fun e w' => e = .returned (.bool true) ∧ Below w.heap.size w w' := by
  have lx := Lib.hid hl
  have HR := Lib.hid (dyR_num r1)
  have HR1 := Lib.hid r1
  have x0 := nf_zero r1.1 m0
  have HZL := Lib.hid (show (digs m.natAbs).length = 0 by rw [m0, show digs (0 : Int).natAbs = [] from digs_zero]; rfl)
  subst x0
  have L0 := Lib.hid ((live_start w).add h)
  clear h hl r1 m0
  go_enter Tryd.func57, Tryd.ntmps57
  go_wp2_with fail
  obtain ⟨v1, hW, hb, Rx_1⟩ := new1 w (.cells #[.bool (decide (m < 0)), .slice A (digs m.natAbs).length c, .int .i64 ((0 : Int))] 26)
  rw [← hW]
  have L1 := ls L0 hb
  have Gx := gl0 L0.out
  clear hW hb
  refine (dsz_no A c _ _ _ _ (L1.out.get (A := A) (c := c) (xs := digs m.natAbs) (by simp)) (Nat.le_trans lx.out (by omega)) (.inl HZL.out)).mono ?_
  rintro e w2 ⟨rfl, hb⟩
  have L2 := ls L1 hb
  have Rx_2 := co Rx_1 hb
  clear hb 
  obtain ⟨fx0, zx0, fx1, zx1, fx2, zx2, xx⟩ := ly3 Rx_2.out
  go_wp2_with fail
  refine (dright_any A c _ _ _ _ (L2.out.get (A := A) (c := c) (xs := digs m.natAbs) (by simp)) true HR.out (Nat.le_trans lx.out (by omega))).mono ?_
  rintro e w3 ⟨rfl, hb⟩
  have L3 := ls L2 hb
  clear fx0 zx0 fx1 zx1 fx2 zx2 xx
  have Rx_3 := co Rx_2 hb
  clear hb 
  obtain ⟨fx0, zx0, fx1, zx1, fx2, zx2, xx⟩ := ly3 Rx_3.out
  go_wp2
  go_ret
  exact ⟨rfl, L3.out.1⟩

set_option maxHeartbeats 4000000 in
set_option maxRecDepth 100000 in
theorem may_y (A : Option Addr) (c : Nat) (m x : Int) (w : World) (h : Dg w A c (digs m.natAbs)) (hl : (digs m.natAbs).length ≤ 10000) (r1 : Rt m x) (m0 : m ≠ 0) {q : Bool} (hq : decide (bl m ≤ 400) = q):
    Calls Tryd.prog 57 #[.agg #[.bool (decide (m < 0)), .slice A (digs m.natAbs).length c, .int .i64 x], .int .i64 400, .int .i64 400, .int .i64 400] w fun e w' => e = .returned (.bool q) ∧ Below w.heap.size w w' := by
  have lx := Lib.hid hl
  have HR := Lib.hid (dyR_num r1)
  have HR1 := Lib.hid r1
  have x0 := r1.2.1
  have x1 := r1.2.2
  have b1 := bl_bd hl
  obtain ⟨k, hk⟩ : ∃ k : Int, x + bl m = k := ⟨_, rfl⟩
  have HK := Lib.hid hk
  have HM0 := Lib.hid m0
  have ws : IntKind.i64.wrap (k - x) = k - x := by rw [IntWalk.i64_in _ (by unfold bl at hk; omega)]
  have hd : decide (k - x ≤ 400) = q := by rw [← hq, decide_eq_decide]; omega
  have z0 : -1000000 ≤ k := by unfold bl at hk; omega
  have z1 : k ≤ 1000000 := by unfold bl at hk; omega
  have L0 := Lib.hid ((live_start w).add h)
  clear h hl r1 m0 hk b1 hq
  go_enter Tryd.func57, Tryd.ntmps57
  go_wp2_with fail
  obtain ⟨v1, hW, hb, Rx_1⟩ := new1 w (.cells #[.bool (decide (m < 0)), .slice A (digs m.natAbs).length c, .int .i64 x] 26)
  rw [← hW]
  have L1 := ls L0 hb
  have Gx := gl0 L0.out
  clear hW hb
  refine (size_yes A c m x _ (L1.out.get (A := A) (c := c) (xs := digs m.natAbs) (by simp)) lx.out HR1.out HM0.out HK.out).mono ?_
  rintro e w2 ⟨rfl, hb⟩
  have L2 := ls L1 hb
  have Rx_2 := co Rx_1 hb
  clear hb 
  obtain ⟨fx0, zx0, fx1, zx1, fx2, zx2, xx⟩ := ly3 Rx_2.out
  go_wp2_with fail
  refine (dright_any A c _ _ _ _ (L2.out.get (A := A) (c := c) (xs := digs m.natAbs) (by simp)) true HR.out (Nat.le_trans lx.out (by omega))).mono ?_
  rintro e w3 ⟨rfl, hb⟩
  have L3 := ls L2 hb
  clear fx0 zx0 fx1 zx1 fx2 zx2 xx
  have Rx_3 := co Rx_2 hb
  clear hb 
  obtain ⟨fx0, zx0, fx1, zx1, fx2, zx2, xx⟩ := ly3 Rx_3.out
  go_wp2
  go_ret
  exact ⟨rfl, L3.out.1⟩

theorem may_any {A : Option Addr} {c : Nat} {s : Bool} {xs : List Nat} {x : Int} {q : Bool} {w : World} (h : Dg w A c xs) (hl : xs.length ≤ 10000) (hq : mayB s xs x = q) :
    Calls Tryd.prog 57 #[.agg #[.bool s, .slice A xs.length c, .int .i64 x], .int .i64 400, .int .i64 400, .int .i64 400] w fun e w' => e = .returned (.bool q) ∧ Below w.heap.size w w' := by
  cases hr : dyR s xs x
  · obtain rfl : q = false := by rw [← hq]; unfold mayB; rw [hr]; rfl
    exact may_w A c s xs x w h (by omega) hr
  · obtain ⟨m, rfl, rfl, r1⟩ := num_of h.2.1 hr
    rw [may_num r1] at hq
    by_cases m0 : m = 0
    · obtain rfl : q = true := by rw [← hq, m0, bl_zero]; rfl
      exact may_z A c m x w h hl r1 m0
    · exact may_y A c m x w h hl r1 m0 hq
end Go.Proofs.YtfhdhldgflbpjaaDoor
end

section
/-
  answer of what is not in range.
-/
namespace Go.Proofs.YtfhdhldgflbpjaaDoor
open Go.RowKit
set_option linter.unusedSimpArgs false
set_option linter.unusedVariables false
set_option maxHeartbeats 4000000 in
set_option maxRecDepth 100000 in
theorem answer_no (g : Nat) (A : Option Addr) (c : Nat) (s : Bool) (m x : Int) (w : World) (hR : w.heap[g]? = some (.cells #[.int .i64 0] 80 (0, 0))) (h : Dg w A c (digs m.natAbs)) (hl : (digs m.natAbs).length ≤ 1000000) (hq : inR m x = false):
    Calls Tryd.prog 49 #[.pointer (some ⟨g, 0, none⟩), .agg #[.bool s, .slice A (digs m.natAbs).length c, .int .i64 x]] w fun e w' => e = .returned (.tuple #[.agg #[.bool false, .slice none 0 0, .int .i64 0], .int .i64 4]) ∧ Below g w w' := by
  have RK_0 := Lib.hid hR
  have hg := heap_lt hR
  have lx := Lib.hid hl
  have HQ := Lib.hid hq
  have L0 := Lib.hid ((live_start w).add h)
  clear h hl hq hR
  go_enter Tryd.func49, Tryd.ntmps49
  go_wp2_with fail
  obtain ⟨v1, hW, hb, Rx_1, Rr_1⟩ := new2 w (.cells #[.bool s, .slice A (digs m.natAbs).length c, .int .i64 x] 26) (.cells #[.bool false, .slice none 0 0, .int .i64 0] 26)
  rw [← hW]
  have L1 := ls L0 hb
  have Rk_1 := co RK_0 hb
  have Gx := gl0 L0.out
  have Nkx := nl0 RK_0.out
  have Gr := gl1 L0.out
  have Nkr := nl1 RK_0.out
  have Nxr : w.heap.size < w.heap.size + 1 := by omega
  clear hW hb
  obtain ⟨fx0, zx0, fx1, zx1, fx2, zx2, xx⟩ := ly3 Rx_1.out
  have KD := Lib.hid (bd0 v1)
  have xg := heap_lt Rx_1.out
  have xne : w.heap.size ≠ g := by omega
  go_region_held3 (fun w' => ∀ o, w'.cell? ⟨w.heap.size, o, none⟩ = v1.cell? ⟨w.heap.size, o, none⟩)
    (first | with_reducible exact keep_b KD.out xg | with_reducible exact keep_b K1.out xg | with_reducible exact keep_set (keep_b K1.out xg) xne)
    (first
      | (go_at_call 40; (with_reducible refine (inRange_any A c s m x _ ((L1.out.step KD.out).get (A := A) (c := c) (xs := digs m.natAbs) (by simp)) false HQ.out lx.out).mono ?_); rintro e w1 ⟨rfl, hb⟩; (have K1 := bt KD hb); clear hb)
      | (go_at_call 39; (with_reducible refine (tell_yes _ 4 _ (row_c (cells_of Rk_1.out K1.out) (i := 0) rfl) (frozen_of_row _ _ 0 _ _ (cells_of Rk_1.out K1.out))).mono ?_); rintro e w2 ⟨rfl, rfl⟩))
  rename_i hHeld
  clear hHeld
  clear fx0 zx0 fx1 zx1 fx2 zx2 xx
  have RK1 := co Rk_1 K1.out
  have Rr1 := co Rr_1 K1.out
  have LZ := ls L1 K1.out
  obtain ⟨wz, hW⟩ : ∃ W : World, W = w1.setCell ⟨g, 0, none⟩ (.int .i64 4) := ⟨_, rfl⟩
  rw [← hW]
  have hO : Only g w1 wz := by rw [hW]; exact ((Only.refl g w1).setCell 0 _)
  have HB := Lib.hid (hO.below (LZ.out.1.mono (Nat.le_of_lt hg)) (Nat.le_refl g))
  have RKz := Lib.hid (show wz.heap[g]? = some (.cells #[.int .i64 4] 80 (0, 0)) by rw [hW]; exact heap_setCell_same _ _ 0 _ _ _ RK1.out)
  have Rrz := Lib.hid ((hO.block _ (by omega)).trans Rr1.out)
  clear hW hO
  go_wp2_with fail
  refine (fails_any _ 4 true _ (row_c RKz.out (i := 0) rfl) rfl).mono ?_
  rintro e wf ⟨rfl, rfl⟩
  go_wp2_with fail
  refine (none_any _ 4 _ (row_c RKz.out (i := 0) rfl) (heap_lt RKz.out)).mono ?_
  rintro e wn ⟨rfl, hb⟩
  have HB2 := Lib.hid (HB.out.trans (hb.mono (Nat.le_of_lt (heap_lt RKz.out))))
  have Rrn := co Rrz hb
  clear hb
  have gr : g ≤ w.heap.size + 1 := by omega
  obtain ⟨fr0, zr0, fr1, zr1, fr2, zr2, xr⟩ := ly3 Rrn.out
  go_wp2
  refine bodyPost_ret (v := .tuple #[.agg #[.bool false, .slice none 0 0, .int .i64 0], .int .i64 4]) (by simp [results, Tryd.results49, go_sem, fr0, fr1, fr2]) rfl ?_
  
  exact ⟨rfl, ((((Only.refl _ _).setCell 0 _).setCell 1 _).setCell 2 _).below HB2.out gr⟩
end Go.Proofs.YtfhdhldgflbpjaaDoor
end

section
/-
  dyad.cut.
-/
namespace Go.Proofs.YtfhdhldgflbpjaaDoor
open Go.RowKit
set_option linter.unusedSimpArgs false
set_option linter.unusedVariables false
theorem dg_one {w : World} {g : Nat} {T : TypeId} (h : w.heap[g]? = some (.cells #[.int .u32 1] T (0, 0))) : Dg w (some ⟨g, 0, none⟩) 1 [1] :=
  ⟨Nat.le_refl _, by intro x hx; simp at hx; omega, fun _ => ⟨g, 0, rfl, heap_lt h, fun j hj => by
    have : j = 0 := by simp at hj; omega
    subst this
    exact row_c h rfl⟩⟩
theorem nadd1 {A : Option Addr} {c k g : Nat} {T : TypeId} {w : World} (h : Dg w A c (digs k)) (hl : (digs k).length ≤ 1000000) (hR : w.heap[g]? = some (.cells #[.int .u32 1] T (0, 0))) :
    Calls Tryd.prog 80 #[.slice A (digs k).length c, .slice (some ⟨g, 0, none⟩) 1 1] w fun e w' => ∃ A' c', e = .returned (.slice A' (digs (k + 1)).length c') ∧ Dg w' A' c' (digs (k + 1)) ∧ Below w.heap.size w w' := by
  have := add_any A (some ⟨g, 0, none⟩) c 1 (digs k) [1] w h (dg_one hR) (by omega) (by simp)
  rw [val_digs, show val [1] = 1 from rfl] at this
  exact this
theorem shr_i {A : Option Addr} {c q d : Nat} {i : Int} {w : World} (h : Dg w A c (digs q)) (hl : (digs q).length ≤ 1000000) (hi : i = (d : Int)) (hd : d ≤ 100000000) :
    Calls Tryd.prog 69 #[.slice A (digs q).length c, .int .i64 i] w fun e w' => ∃ A' c', e = .returned (.slice A' (digs (q / 2 ^ d)).length c') ∧ Dg w' A' c' (digs (q / 2 ^ d)) ∧ Below w.heap.size w w' := by
  subst hi
  have := shr_any A c (digs q) d w h (by omega) (by omega)
  rw [val_digs] at this
  exact this
theorem zeros_i {A : Option Addr} {c q : Nat} {t : Int} {w : World} (h : Dg w A c (digs q)) (hl : (digs q).length ≤ 1000000) (h0 : q ≠ 0) (hT : T32 w) (ht : ((tz q : Nat) : Int) = t) :
    Calls Tryd.prog 68 #[.slice A (digs q).length c] w fun e w' => e = .returned (.int .i64 t) ∧ w = w' := by
  have := zeros_any A c (digs q) w h (by rw [val_digs]; exact h0) hl hT
  rw [val_digs, ht] at this
  exact this
theorem tz_low {q d : Nat} (h : q ≠ 0) : decide (tz q < d) = decide (q % 2 ^ d ≠ 0) := by
  rw [decide_eq_decide]
  have ⟨a, b⟩ := tz_spec q h
  constructor
  · intro hlt h0
    have hd : 2 ^ d ∣ q := Nat.dvd_of_mod_eq_zero h0
    have h1 : 2 ^ (tz q + 1) ∣ q := Nat.dvd_trans (Nat.pow_dvd_pow 2 hlt) hd
    obtain ⟨v, hv⟩ := h1
    have key : ∀ (u t v n : Nat), n = u * 2 ^ t → n = 2 ^ (t + 1) * v → u % 2 = 0 := by
      intro u t v n h1 h2
      have h3 : u * 2 ^ t = (2 * v) * 2 ^ t := by rw [← h1, h2, Nat.pow_succ]; grind
      have := Nat.eq_of_mul_eq_mul_right (Nat.pow_pos (by omega)) h3
      omega
    have := key _ _ _ _ b hv
    omega
  · intro h1
    rcases Nat.lt_or_ge (tz q) d with h2 | h2
    · exact h2
    · exfalso; apply h1
      exact Nat.mod_eq_zero_of_dvd (Nat.dvd_trans (Nat.pow_dvd_pow 2 h2) ⟨q / 2 ^ tz q, by rw [Nat.mul_comm]; exact b⟩)

end Go.Proofs.YtfhdhldgflbpjaaDoor
end

section
/-
  dyad.cut, whole.
-/
namespace Go.Proofs.YtfhdhldgflbpjaaDoor
open Go.RowKit
set_option linter.unusedSimpArgs false
set_option linter.unusedVariables false
end Go.Proofs.YtfhdhldgflbpjaaDoor
end

section
/-
  dyad.Round.
-/
namespace Go.Proofs.YtfhdhldgflbpjaaDoor
open Go.RowKit
set_option linter.unusedSimpArgs false
set_option linter.unusedVariables false
theorem rd_kept {q p : Nat} {more up s : Bool} {r : Rat} {e : Int} (hp : p ≤ blen q) (h1 : 1 ≤ p) (hlo : dv q e ≤ r) (hhi : r < dv (q + 1 : Int) e) (hm : more = decide (r ≠ dv q e)) :
    RdOf (if s then -r else r) p up (nm (sg s (kept q p more (up != s)))) (nx (sg s (kept q p more (up != s))) (e + (blen q - p : Nat))) := by
  have ⟨hs, hr⟩ := kept_rn (away := (up != s)) hp h1 hlo hhi hm
  refine ⟨nf_n _ _, .inr ⟨e + (blen q - p : Nat), sg s (kept q p more (up != s)), ?_, ?_, dv_n _ _⟩⟩
  · cases s
    · exact hs
    · show Sz (-r) _
      unfold Sz at hs ⊢
      rw [Rat.abs_neg]; exact hs
  · cases s
    · have e1 : (up != false) = up := by cases up <;> rfl
      rw [e1] at hr ⊢
      exact hr
    · have e1 : (up != true) = !up := by cases up <;> rfl
      rw [e1] at hr ⊢
      have := hr.neg
      rw [Bool.not_not] at this
      exact this
theorem dv_sign (m x : Int) : dv m x = if decide (m < 0) = true then -dv (m.natAbs : Int) x else dv (m.natAbs : Int) x := by
  by_cases h : m < 0
  · rw [if_pos (by simpa using h), ← dv_neg]; congr 1; omega
  · rw [if_neg (by simpa using h)]; congr 1; omega
theorem precB_in {P : Int} (h0 : 2 ≤ P) (h1 : P ≤ 400) : precB P = true := by unfold precB; rw [decide_eq_true h0, decide_eq_true h1]; rfl

end Go.Proofs.YtfhdhldgflbpjaaDoor
end

section
/-
  dyad, in range or not: Add, Scale, Round.
-/
namespace Go.Proofs.YtfhdhldgflbpjaaDoor
open Go.RowKit
set_option linter.unusedSimpArgs false
set_option linter.unusedVariables false
/-- An answer in range, or the error ErrRange. -/
def tot (M E : Int) : Int × Int × Int := if inR M E then (M, E, 0) else (0, 0, 4)
theorem answer_t {g : Nat} {A : Option Addr} {c : Nat} {M E K F t : Int} {w : World} (hR : w.heap[g]? = some (.cells #[.int .i64 0] 80 (0, 0))) (h : Dg w A c (digs M.natAbs)) (hl : (digs M.natAbs).length ≤ 1000000) (hq : tot M E = (K, F, t)) :
    Calls Tryd.prog 49 #[.pointer (some ⟨g, 0, none⟩), .agg #[.bool (decide (M < 0)), .slice A (digs M.natAbs).length c, .int .i64 E]] w fun e w' => ∃ A c, e = .returned (.tuple #[.agg #[.bool (decide (K < 0)), .slice A (digs K.natAbs).length c, .int .i64 F], .int .i64 t]) ∧ Dg w' A c (digs K.natAbs) ∧ Below g w w' := by
  unfold tot at hq
  by_cases hi : inR M E = true
  · rw [if_pos hi] at hq
    obtain ⟨rfl, rfl, rfl⟩ : M = K ∧ E = F ∧ 0 = t := by simpa using hq
    refine (answer_d (row_c (i := 0) hR rfl) (heap_lt hR) h hl hi).mono ?_
    rintro e w' ⟨A, c, rfl, hd, hb⟩
    exact ⟨A, c, rfl, hd, hb.mono (Nat.le_of_lt (heap_lt hR))⟩
  · rw [if_neg hi] at hq
    obtain ⟨rfl, rfl, rfl⟩ : 0 = K ∧ 0 = F ∧ 4 = t := by simpa using hq
    refine (answer_no g A c (decide (M < 0)) M E w hR h hl (by simpa using hi)).mono ?_
    rintro e w' ⟨rfl, hb⟩
    have e0 : digs (0 : Int).natAbs = [] := digs_zero
    exact ⟨none, 0, by rw [e0]; rfl, by rw [e0]; exact Dg.nil_ _ _, hb⟩
theorem live_upto {w v w' : World} {g : Nat} {A : Option Addr} {c : Nat} {xs : List Nat} (hL : Below w.heap.size w v) (hb : Below g v w') (hg : w.heap.size ≤ g) (hd : Dg w' A c xs) : Live w w' [(A, c, xs)] :=
  ⟨hL.trans (hb.mono hg), fun t ht => by simp at ht; subst ht; exact hd⟩
theorem tot_len {M E K F t : Int} (h : tot M E = (K, F, t)) (hn : Nf M E) : (digs K.natAbs).length ≤ 10000 ∧ Nf K F := by
  unfold tot at h
  by_cases hi : inR M E = true
  · rw [if_pos hi] at h
    obtain ⟨rfl, rfl, rfl⟩ : M = K ∧ E = F ∧ 0 = t := by simpa using h
    exact ⟨inr_len hi, hn⟩
  · rw [if_neg hi] at h
    obtain ⟨rfl, rfl, rfl⟩ : 0 = K ∧ 0 = F ∧ 4 = t := by simpa using h
    exact ⟨by rw [show digs (0 : Int).natAbs = [] from digs_zero]; simp, .inl ⟨rfl, rfl⟩⟩

set_option maxHeartbeats 4000000 in
set_option maxRecDepth 100000 in
theorem tadd_z_ (A B : Option Addr) (c d : Nat) (m n x y : Int) (M E : Int) (w : World) (h : Dg w A c (digs m.natAbs)) (h' : Dg w B d (digs n.natAbs)) (hl : (digs m.natAbs).length ≤ 10000) (hl' : (digs n.natAbs).length ≤ 10000) (r1 : Rt m x) (r2 : Rt n y) (hT : T32 w) (hs : IsD (dv m x + dv n y) M E) (hlm : (digs M.natAbs).length ≤ 900000) {K F V : Int} (hq : tot M E = (K, F, V)) (m0 : m = 0):
    Calls Tryd.prog 28 #[.agg #[.bool (decide (m < 0)), .slice A (digs m.natAbs).length c, .int .i64 x], .agg #[.bool (decide (n < 0)), .slice B (digs n.natAbs).length d, .int .i64 y]] w fun e w' => Ye K F V w e w' := by
  have HR1 := Lib.hid r1
  have HR2 := Lib.hid r2
  have lx := Lib.hid hl
  have ly := Lib.hid hl'
  have HQ := Lib.hid hq
  have x0 := r1.2.1
  have x1 := r1.2.2
  have y0 := r2.2.1
  have y1 := r2.2.2
  have LM := Lib.hid hlm
  have d1 : decide (m = 0) = true := by simp [m0]
  have hu := IsD.uniq (show IsD (dv m x + dv n y) n y from ⟨r2.1, by rw [m0, dv_zero, Rat.zero_add]⟩) hs
  obtain ⟨rfl, rfl⟩ := hu
  have D1 := Lib.hid d1
  have HT := Lib.hid hT
  clear hT
  have L0 := Lib.hid (((live_start w).add h).add h')
  clear h h' hl hl' r1 r2 hs hq d1 m0
  go_enter Tryd.func28, Tryd.ntmps28
  go_wp2_with fail
  obtain ⟨v1, hW, hb, Rx_1, Ry_1, Rr_1, Rsl_1⟩ := new4 w (.cells #[.bool (decide (m < 0)), .slice A (digs m.natAbs).length c, .int .i64 x] 26) (.cells #[.bool (decide (n < 0)), .slice B (digs n.natAbs).length d, .int .i64 y] 26) (.cells #[.bool false, .slice none 0 0, .int .i64 0] 26) (.cells #[.bool (decide (m < 0)), .slice A (digs m.natAbs).length c, .int .i64 x, .bool (decide (n < 0)), .slice B (digs n.natAbs).length d, .int .i64 y] 26)
  rw [← hW]
  have L1 := ls L0 hb
  have Gx := gl0 L0.out
  have Gy := gl1 L0.out
  have Nxy : w.heap.size < w.heap.size + 1 := by omega
  have Gr := gl2 L0.out
  have Nxr : w.heap.size < w.heap.size + 1 + 1 := by omega
  have Nyr : w.heap.size + 1 < w.heap.size + 1 + 1 := by omega
  have Gsl := gl3 L0.out
  have Nxsl : w.heap.size < w.heap.size + 1 + 1 + 1 := by omega
  have Nysl : w.heap.size + 1 < w.heap.size + 1 + 1 + 1 := by omega
  have Nrsl : w.heap.size + 1 + 1 < w.heap.size + 1 + 1 + 1 := by omega
  clear hW hb
  refine (begin_2 Rsl_1.out (L1.out.get (A := A) (c := c) (xs := digs m.natAbs) (by simp)) (L1.out.get (A := B) (c := d) (xs := digs n.natAbs) (by simp)) (dyR_num HR1.out) (dyR_num HR2.out) (Nat.le_trans lx.out (by omega)) (Nat.le_trans ly.out (by omega)) (k := 0) rfl).mono ?_
  rintro e w2 ⟨rfl, hb⟩
  have L2 := ls L1 hb
  have Rx_2 := co Rx_1 hb
  have Ry_2 := co Ry_1 hb
  have Rr_2 := co Rr_1 hb
  have Rsl_2 := co Rsl_1 hb
  clear hb 
  go_wp2_with fail
  obtain ⟨w3, hW, hb, Rk_3⟩ := new1 w2 (.cells #[.int .i64 0] 80)
  rw [← hW]
  have L3 := ls L2 hb
  have Rx_3 := co Rx_2 hb
  have Ry_3 := co Ry_2 hb
  have Rr_3 := co Rr_2 hb
  have Rsl_3 := co Rsl_2 hb
  have Gk := gl0 L2.out
  have Nxk := nl0 Rx_2.out
  have Nyk := nl0 Ry_2.out
  have Nrk := nl0 Rr_2.out
  have Nslk := nl0 Rsl_2.out
  clear hW hb
  refine (fails_any _ 0 false _ (row_c Rk_3.out (i := 0) rfl) rfl).mono ?_
  rintro e w4 ⟨rfl, rfl⟩
  obtain ⟨fx0, zx0, fx1, zx1, fx2, zx2, xx⟩ := ly3 Rx_3.out
  go_wp2_with fail
  refine (isz_d (x := x) D1.out).mono ?_
  rintro e w5 ⟨rfl, hb⟩
  have L5 := ls L3 hb
  clear fx0 zx0 fx1 zx1 fx2 zx2 xx
  have Rx_5 := co Rx_3 hb
  have Ry_5 := co Ry_3 hb
  have Rr_5 := co Rr_3 hb
  have Rsl_5 := co Rsl_3 hb
  have Rk_5 := co Rk_3 hb
  clear hb 
  obtain ⟨fy0, zy0, fy1, zy1, fy2, zy2, xy⟩ := ly3 Ry_5.out
  go_wp2_with fail
  refine (answer_t Rk_5.out (L5.out.get (A := B) (c := d) (xs := digs n.natAbs) (by simp)) (Nat.le_trans LM.out (by omega)) HQ.out).mono ?_
  rintro e wz ⟨Az, cz, rfl, hd, hb⟩
  clear fy0 zy0 fy1 zy1 fy2 zy2 xy
  have Rr_z := Lib.hid ((hb.block (w.heap.size + 1 + 1) (by omega)).trans Rr_5.out)
  have Lz := Lib.hid (live_upto L5.out.1 hb Gk hd)
  clear hd hb
  obtain ⟨fr0, zr0, fr1, zr1, fr2, zr2, xr⟩ := ly3 Rr_z.out
  go_wp2
  refine bodyPost_ret (v := .tuple #[.agg #[.bool (decide (K < 0)), .slice Az (digs K.natAbs).length cz, .int .i64 F], .int .i64 V]) (by simp [results, Tryd.results28, go_sem, fr0, fr1, fr2]) rfl ?_
  
  refine ⟨Az, cz, rfl, ?_, ?_⟩
  · exact (fin3 Lz.out Rr_z.out noint3 Gr).get (A := Az) (c := cz) (xs := digs K.natAbs) (by simp)
  · exact (fin3 Lz.out Rr_z.out noint3 Gr).1

set_option maxHeartbeats 4000000 in
set_option maxRecDepth 100000 in
theorem tadd_y_ (A B : Option Addr) (c d : Nat) (m n x y : Int) (M E : Int) (w : World) (h : Dg w A c (digs m.natAbs)) (h' : Dg w B d (digs n.natAbs)) (hl : (digs m.natAbs).length ≤ 10000) (hl' : (digs n.natAbs).length ≤ 10000) (r1 : Rt m x) (r2 : Rt n y) (hT : T32 w) (hs : IsD (dv m x + dv n y) M E) (hlm : (digs M.natAbs).length ≤ 900000) {K F V : Int} (hq : tot M E = (K, F, V)) (m0 : m ≠ 0) (n0 : n = 0):
    Calls Tryd.prog 28 #[.agg #[.bool (decide (m < 0)), .slice A (digs m.natAbs).length c, .int .i64 x], .agg #[.bool (decide (n < 0)), .slice B (digs n.natAbs).length d, .int .i64 y]] w fun e w' => Ye K F V w e w' := by
  have HR1 := Lib.hid r1
  have HR2 := Lib.hid r2
  have lx := Lib.hid hl
  have ly := Lib.hid hl'
  have HQ := Lib.hid hq
  have x0 := r1.2.1
  have x1 := r1.2.2
  have y0 := r2.2.1
  have y1 := r2.2.2
  have LM := Lib.hid hlm
  have d1 : decide (m = 0) = false := by simp [m0]
  have d2 : decide (n = 0) = true := by simp [n0]
  have hu := IsD.uniq (show IsD (dv m x + dv n y) m x from ⟨r1.1, by rw [n0, dv_zero, Rat.add_zero]⟩) hs
  obtain ⟨rfl, rfl⟩ := hu
  have D1 := Lib.hid d1
  have D2 := Lib.hid d2
  have HT := Lib.hid hT
  clear hT
  have L0 := Lib.hid (((live_start w).add h).add h')
  clear h h' hl hl' r1 r2 hs hq d1 m0 d2 n0
  go_enter Tryd.func28, Tryd.ntmps28
  go_wp2_with fail
  obtain ⟨v1, hW, hb, Rx_1, Ry_1, Rr_1, Rsl_1⟩ := new4 w (.cells #[.bool (decide (m < 0)), .slice A (digs m.natAbs).length c, .int .i64 x] 26) (.cells #[.bool (decide (n < 0)), .slice B (digs n.natAbs).length d, .int .i64 y] 26) (.cells #[.bool false, .slice none 0 0, .int .i64 0] 26) (.cells #[.bool (decide (m < 0)), .slice A (digs m.natAbs).length c, .int .i64 x, .bool (decide (n < 0)), .slice B (digs n.natAbs).length d, .int .i64 y] 26)
  rw [← hW]
  have L1 := ls L0 hb
  have Gx := gl0 L0.out
  have Gy := gl1 L0.out
  have Nxy : w.heap.size < w.heap.size + 1 := by omega
  have Gr := gl2 L0.out
  have Nxr : w.heap.size < w.heap.size + 1 + 1 := by omega
  have Nyr : w.heap.size + 1 < w.heap.size + 1 + 1 := by omega
  have Gsl := gl3 L0.out
  have Nxsl : w.heap.size < w.heap.size + 1 + 1 + 1 := by omega
  have Nysl : w.heap.size + 1 < w.heap.size + 1 + 1 + 1 := by omega
  have Nrsl : w.heap.size + 1 + 1 < w.heap.size + 1 + 1 + 1 := by omega
  clear hW hb
  refine (begin_2 Rsl_1.out (L1.out.get (A := A) (c := c) (xs := digs m.natAbs) (by simp)) (L1.out.get (A := B) (c := d) (xs := digs n.natAbs) (by simp)) (dyR_num HR1.out) (dyR_num HR2.out) (Nat.le_trans lx.out (by omega)) (Nat.le_trans ly.out (by omega)) (k := 0) rfl).mono ?_
  rintro e w2 ⟨rfl, hb⟩
  have L2 := ls L1 hb
  have Rx_2 := co Rx_1 hb
  have Ry_2 := co Ry_1 hb
  have Rr_2 := co Rr_1 hb
  have Rsl_2 := co Rsl_1 hb
  clear hb 
  go_wp2_with fail
  obtain ⟨w3, hW, hb, Rk_3⟩ := new1 w2 (.cells #[.int .i64 0] 80)
  rw [← hW]
  have L3 := ls L2 hb
  have Rx_3 := co Rx_2 hb
  have Ry_3 := co Ry_2 hb
  have Rr_3 := co Rr_2 hb
  have Rsl_3 := co Rsl_2 hb
  have Gk := gl0 L2.out
  have Nxk := nl0 Rx_2.out
  have Nyk := nl0 Ry_2.out
  have Nrk := nl0 Rr_2.out
  have Nslk := nl0 Rsl_2.out
  clear hW hb
  refine (fails_any _ 0 false _ (row_c Rk_3.out (i := 0) rfl) rfl).mono ?_
  rintro e w4 ⟨rfl, rfl⟩
  obtain ⟨fx0, zx0, fx1, zx1, fx2, zx2, xx⟩ := ly3 Rx_3.out
  go_wp2_with fail
  refine (isz_d (x := x) D1.out).mono ?_
  rintro e w5 ⟨rfl, hb⟩
  have L5 := ls L3 hb
  clear fx0 zx0 fx1 zx1 fx2 zx2 xx
  have Rx_5 := co Rx_3 hb
  have Ry_5 := co Ry_3 hb
  have Rr_5 := co Rr_3 hb
  have Rsl_5 := co Rsl_3 hb
  have Rk_5 := co Rk_3 hb
  clear hb 
  obtain ⟨fy0, zy0, fy1, zy1, fy2, zy2, xy⟩ := ly3 Ry_5.out
  go_wp2_with fail
  refine (isz_d (x := y) D2.out).mono ?_
  rintro e w6 ⟨rfl, hb⟩
  have L6 := ls L5 hb
  clear fy0 zy0 fy1 zy1 fy2 zy2 xy
  have Rx_6 := co Rx_5 hb
  have Ry_6 := co Ry_5 hb
  have Rr_6 := co Rr_5 hb
  have Rsl_6 := co Rsl_5 hb
  have Rk_6 := co Rk_5 hb
  clear hb 
  obtain ⟨fx0, zx0, fx1, zx1, fx2, zx2, xx⟩ := ly3 Rx_6.out
  go_wp2_with fail
  refine (answer_t Rk_6.out (L6.out.get (A := A) (c := c) (xs := digs m.natAbs) (by simp)) (Nat.le_trans LM.out (by omega)) HQ.out).mono ?_
  rintro e wz ⟨Az, cz, rfl, hd, hb⟩
  clear fx0 zx0 fx1 zx1 fx2 zx2 xx
  have Rr_z := Lib.hid ((hb.block (w.heap.size + 1 + 1) (by omega)).trans Rr_6.out)
  have Lz := Lib.hid (live_upto L6.out.1 hb Gk hd)
  clear hd hb
  obtain ⟨fr0, zr0, fr1, zr1, fr2, zr2, xr⟩ := ly3 Rr_z.out
  go_wp2
  refine bodyPost_ret (v := .tuple #[.agg #[.bool (decide (K < 0)), .slice Az (digs K.natAbs).length cz, .int .i64 F], .int .i64 V]) (by simp [results, Tryd.results28, go_sem, fr0, fr1, fr2]) rfl ?_
  
  refine ⟨Az, cz, rfl, ?_, ?_⟩
  · exact (fin3 Lz.out Rr_z.out noint3 Gr).get (A := Az) (c := cz) (xs := digs K.natAbs) (by simp)
  · exact (fin3 Lz.out Rr_z.out noint3 Gr).1

set_option maxHeartbeats 4000000 in
set_option maxRecDepth 100000 in
theorem tadd_b_ (A B : Option Addr) (c d : Nat) (m n x y : Int) (M E : Int) (w : World) (h : Dg w A c (digs m.natAbs)) (h' : Dg w B d (digs n.natAbs)) (hl : (digs m.natAbs).length ≤ 10000) (hl' : (digs n.natAbs).length ≤ 10000) (r1 : Rt m x) (r2 : Rt n y) (hT : T32 w) (hs : IsD (dv m x + dv n y) M E) (hlm : (digs M.natAbs).length ≤ 900000) {K F V : Int} (hq : tot M E = (K, F, V)) (m0 : m ≠ 0) (n0 : n ≠ 0):
    Calls Tryd.prog 28 #[.agg #[.bool (decide (m < 0)), .slice A (digs m.natAbs).length c, .int .i64 x], .agg #[.bool (decide (n < 0)), .slice B (digs n.natAbs).length d, .int .i64 y]] w fun e w' => Ye K F V w e w' := by
  have HR1 := Lib.hid r1
  have HR2 := Lib.hid r2
  have lx := Lib.hid hl
  have ly := Lib.hid hl'
  have HQ := Lib.hid hq
  have x0 := r1.2.1
  have x1 := r1.2.2
  have y0 := r2.2.1
  have y1 := r2.2.2
  have LM := Lib.hid hlm
  have d1 : decide (m = 0) = false := by simp [m0]
  have d2 : decide (n = 0) = false := by simp [n0]
  obtain ⟨e0, he0⟩ : ∃ e, min x y = e := ⟨_, rfl⟩
  have ez := sum_upto m x n y
  rw [he0] at ez
  have lp := upto_len2 (m := m) (x := x) (e0 := e0) hl (by omega)
  have lq := upto_len2 (m := n) (x := y) (e0 := e0) hl' (by omega)
  have hu := IsD.of (m := upto m x e0 + upto n y e0) (e := e0) (M := M) (E := E) (by rw [ez]; exact hs)
  obtain ⟨p, hp⟩ : ∃ e, upto m x e0 = e := ⟨_, rfl⟩
  obtain ⟨q, hq2⟩ : ∃ e, upto n y e0 = e := ⟨_, rfl⟩
  rw [hp] at lp hu
  rw [hq2] at lq hu
  obtain ⟨z, hz⟩ : ∃ z, p + q = z := ⟨_, rfl⟩
  have lz : (digs z.natAbs).length ≤ 20001 := by
    rw [← hz]
    have h1 := digs_len_mono _ _ (by omega : (p + q).natAbs ≤ p.natAbs + q.natAbs)
    have h2 := digs_add_len p.natAbs q.natAbs
    omega
  rw [hz] at hu
  have HM := Lib.hid hu.1
  have HE := Lib.hid hu.2
  have HP := Lib.hid hp
  have HQ2 := Lib.hid hq2
  have HE0 := Lib.hid he0
  have HZ := Lib.hid hz
  have LP := Lib.hid lp
  have LQ := Lib.hid lq
  have LZ := Lib.hid lz
  have z0 : -1000000000 ≤ e0 := by omega
  have z1 : e0 ≤ 1000000000 := by omega
  have D1 := Lib.hid d1
  have D2 := Lib.hid d2
  have HT := Lib.hid hT
  clear hT
  have L0 := Lib.hid (((live_start w).add h).add h')
  clear h h' hl hl' r1 r2 hs hq d1 m0 d2 n0 hu hp hq2 lp lq lz he0 hz ez
  go_enter Tryd.func28, Tryd.ntmps28
  go_wp2_with fail
  obtain ⟨v1, hW, hb, Rx_1, Ry_1, Rr_1, Rsl_1⟩ := new4 w (.cells #[.bool (decide (m < 0)), .slice A (digs m.natAbs).length c, .int .i64 x] 26) (.cells #[.bool (decide (n < 0)), .slice B (digs n.natAbs).length d, .int .i64 y] 26) (.cells #[.bool false, .slice none 0 0, .int .i64 0] 26) (.cells #[.bool (decide (m < 0)), .slice A (digs m.natAbs).length c, .int .i64 x, .bool (decide (n < 0)), .slice B (digs n.natAbs).length d, .int .i64 y] 26)
  rw [← hW]
  have L1 := ls L0 hb
  have Gx := gl0 L0.out
  have Gy := gl1 L0.out
  have Nxy : w.heap.size < w.heap.size + 1 := by omega
  have Gr := gl2 L0.out
  have Nxr : w.heap.size < w.heap.size + 1 + 1 := by omega
  have Nyr : w.heap.size + 1 < w.heap.size + 1 + 1 := by omega
  have Gsl := gl3 L0.out
  have Nxsl : w.heap.size < w.heap.size + 1 + 1 + 1 := by omega
  have Nysl : w.heap.size + 1 < w.heap.size + 1 + 1 + 1 := by omega
  have Nrsl : w.heap.size + 1 + 1 < w.heap.size + 1 + 1 + 1 := by omega
  clear hW hb
  refine (begin_2 Rsl_1.out (L1.out.get (A := A) (c := c) (xs := digs m.natAbs) (by simp)) (L1.out.get (A := B) (c := d) (xs := digs n.natAbs) (by simp)) (dyR_num HR1.out) (dyR_num HR2.out) (Nat.le_trans lx.out (by omega)) (Nat.le_trans ly.out (by omega)) (k := 0) rfl).mono ?_
  rintro e w2 ⟨rfl, hb⟩
  have L2 := ls L1 hb
  have Rx_2 := co Rx_1 hb
  have Ry_2 := co Ry_1 hb
  have Rr_2 := co Rr_1 hb
  have Rsl_2 := co Rsl_1 hb
  clear hb 
  go_wp2_with fail
  obtain ⟨w3, hW, hb, Rk_3⟩ := new1 w2 (.cells #[.int .i64 0] 80)
  rw [← hW]
  have L3 := ls L2 hb
  have Rx_3 := co Rx_2 hb
  have Ry_3 := co Ry_2 hb
  have Rr_3 := co Rr_2 hb
  have Rsl_3 := co Rsl_2 hb
  have Gk := gl0 L2.out
  have Nxk := nl0 Rx_2.out
  have Nyk := nl0 Ry_2.out
  have Nrk := nl0 Rr_2.out
  have Nslk := nl0 Rsl_2.out
  clear hW hb
  refine (fails_any _ 0 false _ (row_c Rk_3.out (i := 0) rfl) rfl).mono ?_
  rintro e w4 ⟨rfl, rfl⟩
  obtain ⟨fx0, zx0, fx1, zx1, fx2, zx2, xx⟩ := ly3 Rx_3.out
  go_wp2_with fail
  refine (isz_d (x := x) D1.out).mono ?_
  rintro e w5 ⟨rfl, hb⟩
  have L5 := ls L3 hb
  clear fx0 zx0 fx1 zx1 fx2 zx2 xx
  have Rx_5 := co Rx_3 hb
  have Ry_5 := co Ry_3 hb
  have Rr_5 := co Rr_3 hb
  have Rsl_5 := co Rsl_3 hb
  have Rk_5 := co Rk_3 hb
  clear hb 
  obtain ⟨fy0, zy0, fy1, zy1, fy2, zy2, xy⟩ := ly3 Ry_5.out
  go_wp2_with fail
  refine (isz_d (x := y) D2.out).mono ?_
  rintro e w6 ⟨rfl, hb⟩
  have L6 := ls L5 hb
  clear fy0 zy0 fy1 zy1 fy2 zy2 xy
  have Rx_6 := co Rx_5 hb
  have Ry_6 := co Ry_5 hb
  have Rr_6 := co Rr_5 hb
  have Rsl_6 := co Rsl_5 hb
  have Rk_6 := co Rk_5 hb
  clear hb 
  obtain ⟨fx0, zx0, fx1, zx1, fx2, zx2, xx⟩ := ly3 Rx_6.out
  obtain ⟨fy0, zy0, fy1, zy1, fy2, zy2, xy⟩ := ly3 Ry_6.out
  go_wp2_with fail
  refine (beside_any (p := p) (q := q) (e0 := e0) (L6.out.get (A := A) (c := c) (xs := digs m.natAbs) (by simp)) (L6.out.get (A := B) (c := d) (xs := digs n.natAbs) (by simp)) (Nat.le_trans lx.out (by omega)) (Nat.le_trans ly.out (by omega)) x0 x1 y0 y1 HE0.out HP.out HQ2.out).mono ?_
  rintro e w7 ⟨A7, c7, B7, d7, rfl, hd, hd', hb⟩
  have L7 := Lib.hid (((L6.out.step hb).add hd).add hd')
  clear fx0 zx0 fx1 zx1 fx2 zx2 xx fy0 zy0 fy1 zy1 fy2 zy2 xy
  have Rx_7 := co Rx_6 hb
  have Ry_7 := co Ry_6 hb
  have Rr_7 := co Rr_6 hb
  have Rsl_7 := co Rsl_6 hb
  have Rk_7 := co Rk_6 hb
  clear hb hd hd'
  go_wp2_with fail
  obtain ⟨w8, hW, hb, Ra_8, Rb_8⟩ := new2 w7 (.cells #[.bool (decide (p < 0)), .slice A7 (digs p.natAbs).length c7] 24) (.cells #[.bool (decide (q < 0)), .slice B7 (digs q.natAbs).length d7] 24)
  rw [← hW]
  have L8 := ls L7 hb
  have Rx_8 := co Rx_7 hb
  have Ry_8 := co Ry_7 hb
  have Rr_8 := co Rr_7 hb
  have Rsl_8 := co Rsl_7 hb
  have Rk_8 := co Rk_7 hb
  have Ga := gl0 L7.out
  have Nxa := nl0 Rx_7.out
  have Nya := nl0 Ry_7.out
  have Nra := nl0 Rr_7.out
  have Nsla := nl0 Rsl_7.out
  have Nka := nl0 Rk_7.out
  have Gb := gl1 L7.out
  have Nxb := nl1 Rx_7.out
  have Nyb := nl1 Ry_7.out
  have Nrb := nl1 Rr_7.out
  have Nslb := nl1 Rsl_7.out
  have Nkb := nl1 Rk_7.out
  have Nab : w7.heap.size < w7.heap.size + 1 := by omega
  clear hW hb
  refine (zadd_d (L8.out.get (A := A7) (c := c7) (xs := digs p.natAbs) (by simp)) (L8.out.get (A := B7) (c := d7) (xs := digs q.natAbs) (by simp)) (Nat.le_trans LP.out (by omega)) (Nat.le_trans LQ.out (by omega)) HZ.out).mono ?_
  rintro e w9 ⟨A9, c9, rfl, hd, hb⟩
  have L9 := la L8 hb hd
  have Rx_9 := co Rx_8 hb
  have Ry_9 := co Ry_8 hb
  have Rr_9 := co Rr_8 hb
  have Rsl_9 := co Rsl_8 hb
  have Rk_9 := co Rk_8 hb
  have Ra_9 := co Ra_8 hb
  have Rb_9 := co Rb_8 hb
  clear hb hd
  go_wp2_with fail
  refine (odd_d (L9.out.get (A := A9) (c := c9) (xs := digs z.natAbs) (by simp)) (Nat.le_trans LZ.out (by omega)) (t32_live HT.out L9.out) z0 z1 HM.out HE.out).mono ?_
  rintro e w10 ⟨A10, c10, rfl, hd, hb⟩
  have L10 := la L9 hb hd
  have Rx_10 := co Rx_9 hb
  have Ry_10 := co Ry_9 hb
  have Rr_10 := co Rr_9 hb
  have Rsl_10 := co Rsl_9 hb
  have Rk_10 := co Rk_9 hb
  have Ra_10 := co Ra_9 hb
  have Rb_10 := co Rb_9 hb
  clear hb hd
  go_wp2_with fail
  refine (answer_t Rk_10.out (L10.out.get (A := A10) (c := c10) (xs := digs M.natAbs) (by simp)) (Nat.le_trans LM.out (by omega)) HQ.out).mono ?_
  rintro e wz ⟨Az, cz, rfl, hd, hb⟩
  have Rr_z := Lib.hid ((hb.block (w.heap.size + 1 + 1) (by omega)).trans Rr_10.out)
  have Lz := Lib.hid (live_upto L10.out.1 hb Gk hd)
  clear hd hb
  obtain ⟨fr0, zr0, fr1, zr1, fr2, zr2, xr⟩ := ly3 Rr_z.out
  go_wp2
  refine bodyPost_ret (v := .tuple #[.agg #[.bool (decide (K < 0)), .slice Az (digs K.natAbs).length cz, .int .i64 F], .int .i64 V]) (by simp [results, Tryd.results28, go_sem, fr0, fr1, fr2]) rfl ?_
  
  refine ⟨Az, cz, rfl, ?_, ?_⟩
  · exact (fin3 Lz.out Rr_z.out noint3 Gr).get (A := Az) (c := cz) (xs := digs K.natAbs) (by simp)
  · exact (fin3 Lz.out Rr_z.out noint3 Gr).1

end Go.Proofs.YtfhdhldgflbpjaaDoor
end

section
/-
  dyad, in range or not: Sub, Mul.
-/
namespace Go.Proofs.YtfhdhldgflbpjaaDoor
open Go.RowKit
set_option linter.unusedSimpArgs false
set_option linter.unusedVariables false
theorem add_len {m n x y M E : Int} (hl : (digs m.natAbs).length ≤ 10000) (hl' : (digs n.natAbs).length ≤ 10000) (r1 : Rt m x) (r2 : Rt n y) (hs : IsD (dv m x + dv n y) M E) : (digs M.natAbs).length ≤ 900000 := by
  obtain ⟨e0, he0⟩ : ∃ e, min x y = e := ⟨_, rfl⟩
  have ez := sum_upto m x n y
  rw [he0] at ez
  have x0 := r1.2.1
  have x1 := r1.2.2
  have y0 := r2.2.1
  have y1 := r2.2.2
  have lp := upto_len2 (m := m) (x := x) (e0 := e0) hl (by omega)
  have lq := upto_len2 (m := n) (x := y) (e0 := e0) hl' (by omega)
  have hu := IsD.of (m := upto m x e0 + upto n y e0) (e := e0) (M := M) (E := E) (by rw [ez]; exact hs)
  rw [← hu.1]
  have h1 := digs_len_mono _ _ (by omega : (upto m x e0 + upto n y e0).natAbs ≤ (upto m x e0).natAbs + (upto n y e0).natAbs)
  have h2 := digs_add_len (upto m x e0).natAbs (upto n y e0).natAbs
  have h3 := nm_len (upto m x e0 + upto n y e0)
  omega

theorem tadd {A B : Option Addr} {c d : Nat} {m n x y M E K F V : Int} {w : World} (h : Dg w A c (digs m.natAbs)) (h' : Dg w B d (digs n.natAbs)) (hl : (digs m.natAbs).length ≤ 10000) (hl' : (digs n.natAbs).length ≤ 10000) (r1 : Rt m x) (r2 : Rt n y) (hT : T32 w) (hs : IsD (dv m x + dv n y) M E) (hq : tot M E = (K, F, V)) :
    Calls Tryd.prog 28 #[.agg #[.bool (decide (m < 0)), .slice A (digs m.natAbs).length c, .int .i64 x], .agg #[.bool (decide (n < 0)), .slice B (digs n.natAbs).length d, .int .i64 y]] w fun e w' => Ye K F V w e w' := by
  have hlm : (digs M.natAbs).length ≤ 900000 := add_len hl hl' r1 r2 hs
  by_cases m0 : m = 0
  · exact tadd_z_ A B c d m n x y M E w h h' hl hl' r1 r2 hT hs hlm hq m0
  · by_cases n0 : n = 0
    · exact tadd_y_ A B c d m n x y M E w h h' hl hl' r1 r2 hT hs hlm hq m0 n0
    · exact tadd_b_ A B c d m n x y M E w h h' hl hl' r1 r2 hT hs hlm hq m0 n0

end Go.Proofs.YtfhdhldgflbpjaaDoor
end

section
/-
  dyad.Half.
-/
namespace Go.Proofs.YtfhdhldgflbpjaaDoor
open Go.RowKit
set_option linter.unusedSimpArgs false
set_option linter.unusedVariables false
set_option maxHeartbeats 4000000 in
set_option maxRecDepth 100000 in
theorem half_u (x u : Int) (w : World) (hT : T32 w) (h0 : -65537 ≤ x) (h1 : x ≤ 65535) (hu : u = 1):
    Calls Tryd.prog 29 #[.int .i64 x] w fun e w' => Yr u x w e w' := by
  have FR : ∀ W, Calls Tryd.prog 42 #[.int .i64 1] W fun e w' => Zr u W e w' := fun W => by subst hu; exact zfrom_any 1 W (by omega) (by omega)
  have FR := Lib.hid FR
  have LN := Lib.hid (show (digs u.natAbs).length ≤ 2 from digs_small (by omega))
  have hI : inR u x = true := by
    subst hu
    have e : bl 1 = 1 := by decide +kernel
    unfold inR
    rw [decide_eq_true_eq, e]
    right
    omega
  have MY := Lib.hid (fun W A c (hW : Dg W A c (digs u.natAbs)) hT => make_yes A c (decide (u < 0)) (digs u.natAbs) x u x W hW (Nat.le_trans LN.out (by omega)) hT (by omega) (by omega) (by rw [sg_dz, hu]; exact (nm_odd rfl).1) (by rw [sg_dz, hu]; exact (nm_odd rfl).2 x) hI)
  have HT := Lib.hid hT
  clear hT
  have L0 := Lib.hid (live_start w)
  clear hu h0 h1 hI
  go_enter Tryd.func29, Tryd.ntmps29
  go_wp2_with fail
  obtain ⟨v1, hW, hb, Rr_1⟩ := new1 w (.cells #[.bool false, .slice none 0 0, .int .i64 0] 26)
  rw [← hW]
  have L1 := ls L0 hb
  have Gr := gl0 L0.out
  clear hW hb
  refine (FR.out _).mono ?_
  rintro e w2 ⟨A2, c2, rfl, hd, hb⟩
  have L2 := la L1 hb hd
  have Rr_2 := co Rr_1 hb
  clear hb hd
  go_wp2_with fail
  refine (MY.out _ A2 c2 (L2.out.get (A := A2) (c := c2) (xs := digs u.natAbs) (by simp)) (t32_live HT.out L2.out)).mono ?_
  rintro e w3 ⟨A3, c3, rfl, hd, hb⟩
  have L3 := la L2 hb hd
  have Rr_3 := co Rr_2 hb
  clear hb hd
  obtain ⟨fr0, zr0, fr1, zr1, fr2, zr2, xr⟩ := ly3 Rr_3.out
  go_wp2
  have al : ∀ (V : World) (o : Obj) (i : Nat), w.heap.size < V.heap.size → (V.alloc o).cell? ⟨w.heap.size, i, none⟩ = V.cell? ⟨w.heap.size, i, none⟩ := fun V o i h => (below1 V o).cell (p := ⟨_, i, none⟩) h
  refine bodyPost_ret (v := .agg #[.bool (decide (u < 0)), .slice A3 (digs u.natAbs).length c3, .int .i64 x]) (by simp [results, Tryd.results29, go_sem, al, xr, fr0, fr1, fr2]) rfl ?_
  refine ⟨A3, c3, rfl, ?_, ?_⟩
  · exact ((fin3 L3.out Rr_3.out noint3 Gr).step (below1 _ _)).get (A := A3) (c := c3) (xs := digs u.natAbs) (by simp)
  · exact ((fin3 L3.out Rr_3.out noint3 Gr).step (below1 _ _)).1
end Go.Proofs.YtfhdhldgflbpjaaDoor
end

section
/-
  cheb.short, end, plain.
-/
namespace Go.Proofs.YtfhdhldgflbpjaaDoor
open Go.RowKit
set_option linter.unusedSimpArgs false
set_option linter.unusedVariables false
/-- Numbers in cells behind one another. -/
def DyRowO (w : World) (b o n : Nat) (S : Nat → Bool) (A : Nat → Option Addr) (C : Nat → Nat) (X : Nat → List Nat) (E : Nat → Int) : Prop :=
  ∀ i, i < n → w.cell? ⟨b, o + i * 3, none⟩ = some (.bool (S i)) ∧ w.cell? ⟨b, o + i * 3 + 1, none⟩ = some (.slice (A i) (X i).length (C i)) ∧ w.cell? ⟨b, o + i * 3 + 2, none⟩ = some (.int .i64 (E i)) ∧ Dg w (A i) (C i) (X i)
/-- Do the first k hold? -/
def allB (R : Nat → Bool) : Nat → Bool
  | 0 => true
  | k + 1 => allB R k && R k
theorem allB_no {R : Nat → Bool} {k : Nat} (h : R k = false) : ∀ n, k < n → allB R n = false
  | 0, hn => by omega
  | n + 1, hn => by
    unfold allB
    by_cases e : k = n
    · subst e; rw [h, Bool.and_false]
    · rw [allB_no h n (by omega), Bool.false_and]
set_option maxHeartbeats 2000000 in
set_option maxRecDepth 100000 in
theorem shortN_any (b o n c : Nat) (S : Nat → Bool) (A : Nat → Option Addr) (C : Nat → Nat) (X : Nat → List Nat) (E : Nat → Int) (R : Nat → Bool) (w : World) (hb : b < w.heap.size) (hrow : DyRowO w b o n S A C X E) (hR : ∀ i, i < n → mayB (S i) (X i) (E i) = R i) (hX : ∀ i, i < n → (X i).length ≤ 10000) (hn : n ≤ 1000000) (hc : n ≤ c) :
    Calls Tryd.prog 34 #[.slice (some ⟨b, o, none⟩) n c] w fun e w' => e = .returned (.bool (allB R n)) ∧ Below w.heap.size w w' := by
  have H := Lib.hid hrow
  have HR := Lib.hid hR
  have HX := Lib.hid hX
  have HC := Lib.hid hc
  clear hrow hR hX hc
  go_enter Tryd.func34, Tryd.ntmps34
  go_wp2
  go_loopw [7] (fun i wr => ∃ k : Nat, k ≤ n ∧ i = .int .i64 k ∧ Hid (allB R k = true) ∧ Hid (Below w.heap.size w wr)) (fun i _ => n - (intOf i).toNat)
  case atStart => exact ⟨0, Nat.zero_le _, rfl, Lib.hid rfl, Lib.hid (Below.refl _ _)⟩
  case round =>
    obtain ⟨k, hk, rfl, HA, HB⟩ := hrel
    by_cases hlt : k < n
    · obtain ⟨c0, c1, c2, hd⟩ := H.out k hlt
      have g0 := (HB.out.cell (p := ⟨b, o + k * 3, none⟩) hb).trans c0
      have g1 := (HB.out.cell (p := ⟨b, o + k * 3 + 1, none⟩) hb).trans c1
      have g2 := (HB.out.cell (p := ⟨b, o + k * 3 + 2, none⟩) hb).trans c2
      have HD := Lib.hid (hd.below HB.out)
      clear c0 c1 c2 hd
      go_wp2_with fail
      refine (may_any (q := R k) (HD.out.below (below1 wr (.cells #[.bool (S k), .slice (A k) (X k).length (C k), .int .i64 (E k)] 26))) (HX.out k hlt) (HR.out k hlt)).mono ?_
      rintro e w1 ⟨rfl, hb1⟩
      have HB1 := Lib.hid (HB.out.trans (((below1 wr (.cells #[.bool (S k), .slice (A k) (X k).length (C k), .int .i64 (E k)] 26)).trans (hb1.mono (by simp))).mono HB.out.size))
      clear hb1 g0 g1 g2
      obtain ⟨r, hr⟩ : ∃ r, R k = r := ⟨_, rfl⟩
      have HRK := Lib.hid hr
      rw [hr]
      clear hr
      cases r
      · have HN := Lib.hid (allB_no HRK.out n hlt)
        go_wp2
        try rw [Exit.noGoto_ret]
        go_ret
        exact ⟨by rw [HN.out]; rfl, HB1.out⟩
      · have HS := Lib.hid (show allB R (k + 1) = true by unfold allB; rw [HA.out, HRK.out]; rfl)
        go_wp2
        go_roundw
        case rel => exact ⟨k + 1, by omega, by go_num, HS, HB1⟩
        case measure => simp [intOf]; omega
    · obtain rfl : k = n := by omega
      go_wp2
      go_ret
      exact ⟨by rw [HA.out]; rfl, HB.out⟩

set_option maxHeartbeats 4000000 in
set_option maxRecDepth 100000 in
theorem plain_w (A : Option Addr) (c : Nat) (s : Bool) (xs : List Nat) (x : Int) (w : World) (h : Dg w A c xs) (hl : xs.length ≤ 9223372036854775807) (hq : dyR s xs x = false):
    Calls Tryd.prog 20 #[.agg #[.bool s, .slice A xs.length c, .int .i64 x]] w fun e w' => e = .returned (.bool false) ∧ Below w.heap.size w w' := by
  have lx := Lib.hid hl
  have HQ := Lib.hid hq
  have L0 := Lib.hid ((live_start w).add h)
  clear h hl hq
  go_enter Tryd.func20, Tryd.ntmps20
  go_wp2_with fail
  obtain ⟨v1, hW, hb, Rx_1⟩ := new1 w (.cells #[.bool s, .slice A xs.length c, .int .i64 x] 26)
  rw [← hW]
  have L1 := ls L0 hb
  have Gx := gl0 L0.out
  clear hW hb
  refine (dsz_no A c s xs x _ (L1.out.get (A := A) (c := c) (xs := xs) (by simp)) lx.out (.inr HQ.out)).mono ?_
  rintro e w2 ⟨rfl, hb⟩
  have L2 := ls L1 hb
  have Rx_2 := co Rx_1 hb
  clear hb 
  obtain ⟨fx0, zx0, fx1, zx1, fx2, zx2, xx⟩ := ly3 Rx_2.out
  go_wp2_with fail
  refine (dright_any A c s xs x _ (L2.out.get (A := A) (c := c) (xs := xs) (by simp)) false HQ.out lx.out).mono ?_
  rintro e w3 ⟨rfl, hb⟩
  have L3 := ls L2 hb
  clear fx0 zx0 fx1 zx1 fx2 zx2 xx
  have Rx_3 := co Rx_2 hb
  clear hb 
  obtain ⟨fx0, zx0, fx1, zx1, fx2, zx2, xx⟩ := ly3 Rx_3.out
  go_wp2
  go_ret
  exact ⟨rfl, L3.out.1⟩

set_option maxHeartbeats 4000000 in
set_option maxRecDepth 100000 in
theorem plain_z (A : Option Addr) (c : Nat) (m x : Int) (w : World) (h : Dg w A c (digs m.natAbs)) (hl : (digs m.natAbs).length ≤ 10000) (r1 : Rt m x) (m0 : m = 0):
    Calls Tryd.prog 20 #[.agg #[.bool (decide (m < 0)), .slice A (digs m.natAbs).length c, .int .i64 x]] w fun e w' => e = .returned (.bool true) ∧ Below w.heap.size w w' := by
  have lx := Lib.hid hl
  have HR := Lib.hid (dyR_num r1)
  have HR1 := Lib.hid r1
  have HZL := Lib.hid (show (digs m.natAbs).length = 0 by rw [m0, show digs (0 : Int).natAbs = [] from digs_zero]; rfl)
  have L0 := Lib.hid ((live_start w).add h)
  clear h hl r1 m0
  go_enter Tryd.func20, Tryd.ntmps20
  go_wp2_with fail
  obtain ⟨v1, hW, hb, Rx_1⟩ := new1 w (.cells #[.bool (decide (m < 0)), .slice A (digs m.natAbs).length c, .int .i64 x] 26)
  rw [← hW]
  have L1 := ls L0 hb
  have Gx := gl0 L0.out
  clear hW hb
  refine (dsz_no A c _ _ _ _ (L1.out.get (A := A) (c := c) (xs := digs m.natAbs) (by simp)) (Nat.le_trans lx.out (by omega)) (.inl HZL.out)).mono ?_
  rintro e w2 ⟨rfl, hb⟩
  have L2 := ls L1 hb
  have Rx_2 := co Rx_1 hb
  clear hb 
  obtain ⟨fx0, zx0, fx1, zx1, fx2, zx2, xx⟩ := ly3 Rx_2.out
  go_wp2_with fail
  refine (dright_any A c _ _ _ _ (L2.out.get (A := A) (c := c) (xs := digs m.natAbs) (by simp)) true HR.out (Nat.le_trans lx.out (by omega))).mono ?_
  rintro e w3 ⟨rfl, hb⟩
  have L3 := ls L2 hb
  clear fx0 zx0 fx1 zx1 fx2 zx2 xx
  have Rx_3 := co Rx_2 hb
  clear hb 
  obtain ⟨fx0, zx0, fx1, zx1, fx2, zx2, xx⟩ := ly3 Rx_3.out
  go_wp2
  go_ret
  exact ⟨rfl, L3.out.1⟩

set_option maxHeartbeats 4000000 in
set_option maxRecDepth 100000 in
theorem plain_l (A : Option Addr) (c : Nat) (m x : Int) (w : World) (h : Dg w A c (digs m.natAbs)) (hl : (digs m.natAbs).length ≤ 10000) (r1 : Rt m x) (m0 : m ≠ 0) (hx : x < -64):
    Calls Tryd.prog 20 #[.agg #[.bool (decide (m < 0)), .slice A (digs m.natAbs).length c, .int .i64 x]] w fun e w' => e = .returned (.bool false) ∧ Below w.heap.size w w' := by
  have lx := Lib.hid hl
  have HR := Lib.hid (dyR_num r1)
  have HR1 := Lib.hid r1
  obtain ⟨k, hk⟩ : ∃ k : Int, x + bl m = k := ⟨_, rfl⟩
  have HK := Lib.hid hk
  have HM0 := Lib.hid m0
  have d1 : decide (-64 ≤ x) = false := decide_eq_false (by omega)
  have L0 := Lib.hid ((live_start w).add h)
  clear h hl r1 m0 hk hx
  go_enter Tryd.func20, Tryd.ntmps20
  go_wp2_with fail
  obtain ⟨v1, hW, hb, Rx_1⟩ := new1 w (.cells #[.bool (decide (m < 0)), .slice A (digs m.natAbs).length c, .int .i64 x] 26)
  rw [← hW]
  have L1 := ls L0 hb
  have Gx := gl0 L0.out
  clear hW hb
  refine (size_yes A c m x _ (L1.out.get (A := A) (c := c) (xs := digs m.natAbs) (by simp)) lx.out HR1.out HM0.out HK.out).mono ?_
  rintro e w2 ⟨rfl, hb⟩
  have L2 := ls L1 hb
  have Rx_2 := co Rx_1 hb
  clear hb 
  obtain ⟨fx0, zx0, fx1, zx1, fx2, zx2, xx⟩ := ly3 Rx_2.out
  go_wp2_with fail
  refine (dright_any A c _ _ _ _ (L2.out.get (A := A) (c := c) (xs := digs m.natAbs) (by simp)) true HR.out (Nat.le_trans lx.out (by omega))).mono ?_
  rintro e w3 ⟨rfl, hb⟩
  have L3 := ls L2 hb
  clear fx0 zx0 fx1 zx1 fx2 zx2 xx
  have Rx_3 := co Rx_2 hb
  clear hb 
  obtain ⟨fx0, zx0, fx1, zx1, fx2, zx2, xx⟩ := ly3 Rx_3.out
  go_wp2
  go_ret
  exact ⟨rfl, L3.out.1⟩

set_option maxHeartbeats 4000000 in
set_option maxRecDepth 100000 in
theorem plain_y (A : Option Addr) (c : Nat) (m x : Int) (w : World) (h : Dg w A c (digs m.natAbs)) (hl : (digs m.natAbs).length ≤ 10000) (r1 : Rt m x) (m0 : m ≠ 0) (hx : -64 ≤ x) {q : Bool} (hq : decide (x + bl m ≤ 16) = q):
    Calls Tryd.prog 20 #[.agg #[.bool (decide (m < 0)), .slice A (digs m.natAbs).length c, .int .i64 x]] w fun e w' => e = .returned (.bool q) ∧ Below w.heap.size w w' := by
  have lx := Lib.hid hl
  have HR := Lib.hid (dyR_num r1)
  have HR1 := Lib.hid r1
  obtain ⟨k, hk⟩ : ∃ k : Int, x + bl m = k := ⟨_, rfl⟩
  have HK := Lib.hid hk
  have HM0 := Lib.hid m0
  have d1 : decide (-64 ≤ x) = true := decide_eq_true (by omega)
  have d2 : decide (k ≤ 16) = q := by rw [← hq, hk]
  have L0 := Lib.hid ((live_start w).add h)
  clear h hl r1 m0 hk hx hq
  go_enter Tryd.func20, Tryd.ntmps20
  go_wp2_with fail
  obtain ⟨v1, hW, hb, Rx_1⟩ := new1 w (.cells #[.bool (decide (m < 0)), .slice A (digs m.natAbs).length c, .int .i64 x] 26)
  rw [← hW]
  have L1 := ls L0 hb
  have Gx := gl0 L0.out
  clear hW hb
  refine (size_yes A c m x _ (L1.out.get (A := A) (c := c) (xs := digs m.natAbs) (by simp)) lx.out HR1.out HM0.out HK.out).mono ?_
  rintro e w2 ⟨rfl, hb⟩
  have L2 := ls L1 hb
  have Rx_2 := co Rx_1 hb
  clear hb 
  obtain ⟨fx0, zx0, fx1, zx1, fx2, zx2, xx⟩ := ly3 Rx_2.out
  go_wp2_with fail
  refine (dright_any A c _ _ _ _ (L2.out.get (A := A) (c := c) (xs := digs m.natAbs) (by simp)) true HR.out (Nat.le_trans lx.out (by omega))).mono ?_
  rintro e w3 ⟨rfl, hb⟩
  have L3 := ls L2 hb
  clear fx0 zx0 fx1 zx1 fx2 zx2 xx
  have Rx_3 := co Rx_2 hb
  clear hb 
  obtain ⟨fx0, zx0, fx1, zx1, fx2, zx2, xx⟩ := ly3 Rx_3.out
  go_wp2
  go_ret
  exact ⟨rfl, L3.out.1⟩

/-- May a stretch begin here? -/
def plainB (s : Bool) (xs : List Nat) (x : Int) : Bool := dyR s xs x && (decide (xs.length = 0) || (decide (-64 ≤ x) && decide (x + (blen (val xs) : Nat) ≤ 16)))
theorem plain_any {A : Option Addr} {c : Nat} {s : Bool} {xs : List Nat} {x : Int} {q : Bool} {w : World} (h : Dg w A c xs) (hl : xs.length ≤ 10000) (hq : plainB s xs x = q) :
    Calls Tryd.prog 20 #[.agg #[.bool s, .slice A xs.length c, .int .i64 x]] w fun e w' => e = .returned (.bool q) ∧ Below w.heap.size w w' := by
  unfold plainB at hq
  cases hr : dyR s xs x
  · obtain rfl : q = false := by rw [← hq, hr]; rfl
    exact plain_w A c s xs x w h (by omega) hr
  · rw [hr, Bool.true_and] at hq
    obtain ⟨m, rfl, rfl, r1⟩ := num_of h.2.1 hr
    by_cases m0 : m = 0
    · obtain rfl : q = true := by rw [← hq, decide_eq_true (show (digs m.natAbs).length = 0 by rw [m0, show digs (0 : Int).natAbs = [] from digs_zero]; rfl)]; rfl
      exact plain_z A c m x w h hl r1 m0
    · rw [decide_eq_false (fun e => m0 (by have := digs_nil.1 e; omega)), Bool.false_or, val_digs] at hq
      by_cases hx : x < -64
      · obtain rfl : q = false := by rw [← hq, decide_eq_false (by omega)]; rfl
        exact plain_l A c m x w h hl r1 m0 hx
      · rw [decide_eq_true (by omega), Bool.true_and] at hq
        exact plain_y A c m x w h hl r1 m0 (by omega) hq
end Go.Proofs.YtfhdhldgflbpjaaDoor
end

section
/-
  A region that draws its order, whose last store may come ahead of what stands behind it ('x, ok := f(g(a), b)': the store into x's new box, and ok's part of the answer).
-/
namespace Go.Proofs.YtfhdhldgflbpjaaDoor
open Go.RowKit
section
variable {P : Program} {ops : Array Oper} {Q : Exit → Act → World → Prop} {md : Region.Mode}
theorem wpAny_phaseP {Pb Ob : Nat → Bool} (I : Array Bool → Act → World → Prop) (hb : backB md ops = true) (hne : ∃ j, j < ops.size ∧ Ob j = false)
    (hP : ∀ i, i < ops.size → Ob i = false → ∀ k, k < ops.size → Pb k = true → waitsT md ops ops.size i k = true)
    (step : ∀ l a w i, I l a w → l.size = ops.size → i < ops.size → Ob i = true → i ∈ Region.ready md ops l → wpOp P ops Q i (fun a' w' => I (l.setIfInBounds i true) a' w') a w)
    (fin : ∀ l a w, I l a w → l.size = ops.size → (∀ i, i < ops.size → Pb i = true → l.getD i false = true) → (∀ i, i < ops.size → Ob i = false → l.getD i false = false) → ∀ fuel, still l ≤ fuel → wpAny P md ops Q fuel l a w) :
    ∀ (fuel : Nat) (l : Array Bool) (a : Act) (w : World), still l ≤ fuel → l.size = ops.size → Down md ops l → (∀ k, k < ops.size → Ob k = false → l.getD k false = false) → I l a w → wpAny P md ops Q fuel l a w := by
  intro fuel
  induction fuel with
  | zero =>
    intro l a w hf hl hd hno hI
    exfalso
    obtain ⟨j, hj, hjp⟩ := hne
    have h1 := hno j hj hjp
    have h2 : l.getD j true = false := by
      have : j < l.size := by omega
      simp [this] at h1 ⊢; exact h1
    have := still_set h2
    omega
  | succ fuel ih =>
    intro l a w hf hl hd hno hI
    by_cases hall : ∀ k, k < ops.size → Pb k = true → l.getD k false = true
    · exact fin l a w hI hl hall hno _ hf
    · refine ⟨fun hr => ?_, fun i hi => ?_⟩
      · exfalso
        obtain ⟨j, hj, hjp⟩ := hne
        have := all_of_back hb hl hr j hj
        rw [hno j hj hjp] at this; cases this
      · have hiu := (mem_ready.1 hi).1
        have hin : i < ops.size := by
          rcases Nat.lt_or_ge i l.size with h' | h'
          · omega
          · simp [Array.getElem?_eq_none h'] at hiu
        have hip : Ob i = true := by
          cases hp : Ob i
          · exfalso; apply hall
            intro k hk hkp
            exact hd.ready hi (hP i hin hp k hk hkp)
          · rfl
        have hst := still_set hiu
        refine wpOp_mono (fun a' w' h' => ih _ a' w' (by omega) (by simpa using hl) (hd.set hi) (fun k hk hkp => ?_) h') (step l a w i hI hl hin hip hi)
        have : i ≠ k := by rintro rfl; rw [hip] at hkp; cases hkp
        rw [getD_set_ne false this]; exact hno k hk hkp
/-- Two in either order, and one behind them. -/
theorem wpAny_late {L0 : Array Bool} {x y z : Nat} {a : Act} {w : World} {fuel : Nat} (hf : 3 ≤ fuel) (r1 : Region.ready md ops L0 = [x, y]) (r2 : Region.ready md ops (L0.setIfInBounds x true) = [y]) (r3 : Region.ready md ops (L0.setIfInBounds y true) = [x])
    (r4 : Region.ready md ops ((L0.setIfInBounds x true).setIfInBounds y true) = [z]) (r5 : Region.ready md ops ((L0.setIfInBounds y true).setIfInBounds x true) = [z])
    (r6 : Region.ready md ops (((L0.setIfInBounds x true).setIfInBounds y true).setIfInBounds z true) = []) (r7 : Region.ready md ops (((L0.setIfInBounds y true).setIfInBounds x true).setIfInBounds z true) = [])
    (h1 : wpOps P ops Q [x, y, z] a w) (h2 : wpOps P ops Q [y, x, z] a w) : wpAny P md ops Q fuel L0 a w := by
  obtain ⟨f, rfl⟩ : ∃ f, fuel = f + 1 + 1 + 1 := ⟨fuel - 3, by omega⟩
  have hend : ∀ l a w, Region.ready md ops l = [] → Q .normal a w → wpAny P md ops Q f l a w := by
    intro l a w hr hq
    cases f with
    | zero => exact ⟨hr, hq⟩
    | succ f => exact ⟨fun _ => hq, fun i hi => by rw [hr] at hi; cases hi⟩
  simp only [wpOps_cons] at h1 h2
  refine ⟨fun hr => (by rw [r1] at hr; cases hr), fun i hi => ?_⟩
  rw [r1] at hi
  simp only [List.mem_cons, List.not_mem_nil, or_false] at hi
  rcases hi with rfl | rfl
  · refine wpOp_mono (fun a w h => ⟨fun hr => (by rw [r2] at hr; cases hr), fun j hj => ?_⟩) h1
    rw [r2] at hj; simp only [List.mem_cons, List.not_mem_nil, or_false] at hj; subst hj
    refine wpOp_mono (fun a w h => ⟨fun hr => (by rw [r4] at hr; cases hr), fun j hj => ?_⟩) h
    rw [r4] at hj; simp only [List.mem_cons, List.not_mem_nil, or_false] at hj; subst hj
    exact wpOp_mono (fun a w h => hend _ _ _ r6 h) h
  · refine wpOp_mono (fun a w h => ⟨fun hr => (by rw [r3] at hr; cases hr), fun j hj => ?_⟩) h2
    rw [r3] at hj; simp only [List.mem_cons, List.not_mem_nil, or_false] at hj; subst hj
    refine wpOp_mono (fun a w h => ⟨fun hr => (by rw [r5] at hr; cases hr), fun j hj => ?_⟩) h
    rw [r5] at hj; simp only [List.mem_cons, List.not_mem_nil, or_false] at hj; subst hj
    exact wpOp_mono (fun a w h => hend _ _ _ r7 h) h
theorem wpAny_two {L0 : Array Bool} {y z : Nat} {a : Act} {w : World} {fuel : Nat} (hf : 2 ≤ fuel) (r1 : Region.ready md ops L0 = [y]) (r2 : Region.ready md ops (L0.setIfInBounds y true) = [z]) (r3 : Region.ready md ops ((L0.setIfInBounds y true).setIfInBounds z true) = [])
    (h1 : wpOps P ops Q [y, z] a w) : wpAny P md ops Q fuel L0 a w := by
  obtain ⟨f, rfl⟩ : ∃ f, fuel = f + 1 + 1 := ⟨fuel - 2, by omega⟩
  have hend : ∀ l a w, Region.ready md ops l = [] → Q .normal a w → wpAny P md ops Q f l a w := by
    intro l a w hr hq
    cases f with
    | zero => exact ⟨hr, hq⟩
    | succ f => exact ⟨fun _ => hq, fun i hi => by rw [hr] at hi; cases hi⟩
  simp only [wpOps_cons] at h1
  refine ⟨fun hr => (by rw [r1] at hr; cases hr), fun i hi => ?_⟩
  rw [r1] at hi; simp only [List.mem_cons, List.not_mem_nil, or_false] at hi; subst hi
  refine wpOp_mono (fun a w h => ⟨fun hr => (by rw [r2] at hr; cases hr), fun j hj => ?_⟩) h1
  rw [r2] at hj; simp only [List.mem_cons, List.not_mem_nil, or_false] at hj; subst hj
  exact wpOp_mono (fun a w h => hend _ _ _ r3 h) h
/-- Loads, calls and new boxes in whatever order; behind them a store, and the last one; and one (x) that may come ahead of the store or behind it. D: the operands' slots; S: their numbers, but x. -/
theorem wp_operands_late {id : Nat} {a0 : Act} {W : World} (hm : P.follows .mixedOrders = true) (x y z : Nat) (S : List Nat) (D : List Tmp) (R : Nat → Value → World → Prop)
    (hn : ((List.range ops.size).all fun i => S.contains i || i == x || i == y || i == z) = true) (hb : backB .any ops = true) (hx : x < ops.size ∧ y < ops.size ∧ z < ops.size ∧ x ≠ y ∧ x ≠ z ∧ y ≠ z)
    (hS : (S.all fun i => decide (i < ops.size) && decide (i ≠ x) && decide (i ≠ y) && decide (i ≠ z)) = true)
    (ht : ([y, z].all fun i => S.all fun k => waitsT .any ops ops.size i k) = true) (hw : ((x :: S).all fun i => (List.range ops.size).all fun k => !waitsB .any ops i k || S.contains k) = true)
    (hnd : ((x :: S).map (D.getD · 0)).Nodup) (hin : ((x :: S).all fun i => decide (D.getD i 0 < a0.tmps.size)) = true)
    (r1 : Region.ready .any ops ((List.range ops.size).map (S.contains ·)).toArray = [x, y]) (r2 : Region.ready .any ops (((List.range ops.size).map (S.contains ·)).toArray.setIfInBounds x true) = [y]) (r3 : Region.ready .any ops (((List.range ops.size).map (S.contains ·)).toArray.setIfInBounds y true) = [x])
    (r4 : Region.ready .any ops ((((List.range ops.size).map (S.contains ·)).toArray.setIfInBounds x true).setIfInBounds y true) = [z]) (r5 : Region.ready .any ops ((((List.range ops.size).map (S.contains ·)).toArray.setIfInBounds y true).setIfInBounds x true) = [z])
    (r6 : Region.ready .any ops (((((List.range ops.size).map (S.contains ·)).toArray.setIfInBounds x true).setIfInBounds y true).setIfInBounds z true) = []) (r7 : Region.ready .any ops (((((List.range ops.size).map (S.contains ·)).toArray.setIfInBounds y true).setIfInBounds x true).setIfInBounds z true) = [])
    (st : ∀ i u w w', i ∈ x :: S → R i u w → Below w.heap.size w w' → R i u w')
    (step : ∀ i a w K, i ∈ x :: S → Fr6 ((x :: S).map (D.getD · 0)) a0 a → Below W.heap.size W w → (∀ k, waitsB .any ops i k = true → R k (a.tmps.getD (D.getD k 0) undef) w) →
      (∀ u w', R i u w' → Below w.heap.size w w' → K (a.put (some (D.getD i 0)) u) w') → wpOp P ops Q i K a w)
    (fin : ∀ a w, Fr6 ((x :: S).map (D.getD · 0)) a0 a → Below W.heap.size W w → (∀ i, i ∈ S → R i (a.tmps.getD (D.getD i 0) undef) w) → (wpOps P ops Q [x, y, z] a w ∧ wpOps P ops Q [y, x, z] a w) ∧ (R x (a.tmps.getD (D.getD x 0) undef) w → wpOps P ops Q [y, z] a w)) :
    (Code.region id ops true).wp P Q a0 W := by
  have memS : ∀ i, i ∈ S → i < ops.size := fun i hi => by
    rw [List.all_eq_true] at hS
    have := hS i hi
    simp only [Bool.and_eq_true, decide_eq_true_eq] at this
    exact this.1.1.1
  have notS : ∀ i, i ∈ S → i ≠ x ∧ i ≠ y ∧ i ≠ z := fun i hi => by
    rw [List.all_eq_true] at hS
    have := hS i hi
    simp only [Bool.and_eq_true, decide_eq_true_eq] at this
    exact ⟨this.1.1.2, this.1.2, this.2⟩
  have memO : ∀ i, i ∈ x :: S → i < ops.size := fun i hi => by
    rcases List.mem_cons.1 hi with rfl | h
    · exact hx.1
    · exact memS i h
  have hlt : ∀ i, i ∈ x :: S → D.getD i 0 < a0.tmps.size := fun i hi => by
    rw [List.all_eq_true] at hin
    simpa using hin i hi
  have hne : ∀ i j, i ∈ x :: S → j ∈ x :: S → i ≠ j → D.getD i 0 ≠ D.getD j 0 := fun i j hi hj h e => by
    obtain ⟨p, hp, hpe⟩ := List.getElem_of_mem hi
    obtain ⟨q, hq, hqe⟩ := List.getElem_of_mem hj
    have h1 : ((x :: S).map (D.getD · 0))[p]'(by simpa using hp) = ((x :: S).map (D.getD · 0))[q]'(by simpa using hq) := by
      rw [List.getElem_map, List.getElem_map, hpe, hqe]; exact e
    have h2 := (List.getElem_inj hnd).1 h1
    subst h2
    exact h (hpe.symm.trans hqe)
  have hmem : ∀ i, i ∈ x :: S → D.getD i 0 ∈ (x :: S).map (D.getD · 0) := fun i hi => List.mem_map.2 ⟨i, hi, rfl⟩
  have hrest : ∀ i, i < ops.size → (x :: S).contains i = false → i = y ∨ i = z := by
    intro i hi hc
    rw [List.all_eq_true] at hn
    have h1 := hn i (List.mem_range.2 hi)
    have h2 : i ∉ x :: S := fun hm => by rw [List.contains_iff_mem.2 hm] at hc; cases hc
    simp only [List.mem_cons, not_or] at h2
    have h3 : S.contains i = false := by
      cases h4 : S.contains i
      · rfl
      · exact absurd (List.contains_iff_mem.1 h4) h2.2
    rw [h3] at h1
    have h5 : (i == x) = false := by simpa using h2.1
    rw [h5] at h1
    simpa using h1
  have yO : (x :: S).contains y = false := by
    cases hc : (x :: S).contains y
    · rfl
    · rcases List.mem_cons.1 (List.contains_iff_mem.1 hc) with h | h
      · exact absurd h.symm hx.2.2.2.1
      · exact absurd rfl (notS y h).2.1
  have zO : (x :: S).contains z = false := by
    cases hc : (x :: S).contains z
    · rfl
    · rcases List.mem_cons.1 (List.contains_iff_mem.1 hc) with h | h
      · exact absurd h.symm hx.2.2.2.2.1
      · exact absurd rfl (notS z h).2.2
  have zz : ∀ j, (Array.replicate ops.size false).getD j false = false := by intro j; simp [Array.getElem?_replicate]; split <;> rfl
  refine wp_region_any hm (wpAny_phaseP (Pb := fun i => S.contains i) (Ob := fun i => (x :: S).contains i) (fun l a w => Fr6 ((x :: S).map (D.getD · 0)) a0 a ∧ Below W.heap.size W w ∧ (∀ i, i ∈ x :: S → l.getD i false = true → R i (a.tmps.getD (D.getD i 0) undef) w)) hb
    ⟨y, hx.2.1, yO⟩ ?_ ?_ ?_ _ _ _ _ ?_ (by simp) ?_ ?_ ?_)
  · intro i hi hc k hk hkp
    rw [List.all_eq_true] at ht
    have hi3 : i ∈ [y, z] := by rcases hrest i hi hc with rfl | rfl <;> simp
    have := ht i hi3
    rw [List.all_eq_true] at this
    exact this k (List.contains_iff_mem.1 hkp)
  · rintro l a w i ⟨hF, hbw, hR⟩ hl hi hip hir
    have hiS := List.contains_iff_mem.1 hip
    have ps : a.tmps.size = a0.tmps.size := hF.2.1
    refine step i a w _ hiS hF hbw (fun k hk => hR k ?_ (waits_spec hk hir)) (fun u w' hu hbb => ⟨hF.put (hmem i hiS) _, hbw.trans (hbb.mono hbw.size), fun j hj hjl => ?_⟩)
    · rw [List.all_eq_true] at hw
      have h1 := hw i hiS
      rw [List.all_eq_true] at h1
      have hks : k < ops.size := by
        rcases Nat.lt_or_ge k ops.size with h | h
        · exact h
        · exfalso
          have := waits_spec hk hir
          have h2 : l.size ≤ k := by omega
          simp [Array.getElem?_eq_none h2] at this
      have h2 := h1 k (List.mem_range.2 hks)
      rw [hk] at h2
      exact List.mem_cons_of_mem _ (List.contains_iff_mem.1 (by simpa using h2))
    · by_cases hij : i = j
      · subst hij; rw [put_same _ _ _ (by rw [ps]; exact hlt i hiS)]; exact hu
      · rw [getD_set_ne false hij] at hjl
        rw [put_other _ _ _ _ (hne i j hiS hj hij)]
        exact st j _ _ _ hj (hR j hj hjl) hbb
  · rintro l a w ⟨hF, hbw, hR⟩ hl hall hno fuel hfu
    have hf := fin a w hF hbw (fun i hi => hR i (List.mem_cons_of_mem _ hi) (hall i (memS i hi) (List.contains_iff_mem.2 hi)))
    have gt : ∀ (m : Array Bool) (j : Nat), j < m.size → m.getD j false = false → m.getD j true = false := by
      intro m j hj h
      simp [hj] at h ⊢; exact h
    have ly := gt l y (by have := hx.2.1; omega) (hno y hx.2.1 yO)
    have lz := gt l z (by have := hx.2.2.1; omega) (hno z hx.2.2.1 zO)
    have hval : ∀ i, i < ops.size → i ≠ x → l.getD i false = S.contains i := by
      intro i hi hix
      cases hc : S.contains i
      · refine hno i hi ?_
        cases hc2 : (x :: S).contains i
        · rfl
        · rcases List.mem_cons.1 (List.contains_iff_mem.1 hc2) with h | h
          · exact absurd h hix
          · rw [List.contains_iff_mem.2 h] at hc; cases hc
      · exact hall i hi hc
    have xS : S.contains x = false := by
      cases hc : S.contains x
      · rfl
      · exact absurd rfl (notS x (List.contains_iff_mem.1 hc)).1
    have two : 2 ≤ still l := by
      have s1 := still_set ly
      have e2 : (l.setIfInBounds y true).getD z true = false := by rw [getD_set_ne true hx.2.2.2.2.2]; exact lz
      have s2 := still_set e2
      omega
    cases hlx : l.getD x false
    · have hlL : l = ((List.range ops.size).map (S.contains ·)).toArray := by
        apply Array.ext
        · simp [hl]
        · intro i h1 h2
          have : l.getD i false = S.contains i := by
            by_cases hix : i = x
            · rw [hix, hlx, xS]
            · exact hval i (by omega) hix
          simp only [Array.getD_eq_getD_getElem?, Array.getElem?_eq_getElem h1, Option.getD_some] at this
          rw [this]; simp
      have lx := gt l x (by have := hx.1; omega) hlx
      have three : 3 ≤ still l := by
        have s1 := still_set lx
        have e1 : (l.setIfInBounds x true).getD y true = false := by rw [getD_set_ne true hx.2.2.2.1]; exact ly
        have s2 := still_set e1
        have e2 : ((l.setIfInBounds x true).setIfInBounds y true).getD z true = false := by rw [getD_set_ne true hx.2.2.2.2.2, getD_set_ne true hx.2.2.2.2.1]; exact lz
        have s3 := still_set e2
        omega
      rw [hlL]
      exact wpAny_late (by omega) r1 r2 r3 r4 r5 r6 r7 hf.1.1 hf.1.2
    · have hlL : l = (((List.range ops.size).map (S.contains ·)).toArray.setIfInBounds x true) := by
        apply Array.ext
        · simp [hl]
        · intro i h1 h2
          by_cases hix : i = x
          · subst hix
            simp only [Array.getD_eq_getD_getElem?, Array.getElem?_eq_getElem h1, Option.getD_some] at hlx
            rw [hlx]; simp
          · have := hval i (by omega) hix
            simp only [Array.getD_eq_getD_getElem?, Array.getElem?_eq_getElem h1, Option.getD_some] at this
            rw [this, Array.getElem_setIfInBounds]
            rw [if_neg (fun e => hix e.symm)]; simp
            exact (by simp; omega)
      rw [hlL]
      exact wpAny_two (by omega) r2 r4 r6 (hf.2 (hR x (List.mem_cons_self ..) hlx))
  · unfold still; exact Nat.le_trans (List.count_le_length) (by simp)
  · exact fun j hj => absurd hj (by rw [zz]; simp)
  · exact fun k _ _ => zz k
  · exact ⟨⟨rfl, rfl, fun _ _ => rfl⟩, ⟨rfl, rfl, rfl, Nat.le_refl _, fun _ _ => rfl⟩, fun i _ hi => absurd hi (by rw [zz]; simp)⟩
end
end Go.Proofs.YtfhdhldgflbpjaaDoor
end

section
/-
  cheb.end, below0.
-/
namespace Go.Proofs.YtfhdhldgflbpjaaDoor
open Go.RowKit
set_option linter.unusedSimpArgs false
set_option linter.unusedVariables false
set_option maxHeartbeats 4000000 in
set_option maxRecDepth 100000 in
theorem end_n (A : Option Addr) (c : Nat) (m v W t M E K F V : Int) (w : World) (h : Dg w A c (digs m.natAbs)) (hl : (digs m.natAbs).length ≤ 10000) (r1 : Rt m v) (hT : T32 w) (h0 : -30 ≤ W) (h1 : W ≤ 10) (hu : t = 1) (hs : IsD (dv m v + dv t W) M E) (hq : tot M E = (K, F, V)):
    Calls Tryd.prog 23 #[.agg #[.bool (decide (m < 0)), .slice A (digs m.natAbs).length c, .int .i64 v], .int .i64 W] w fun e w' => Yr K F w e w' := by
  have lx := Lib.hid hl
  have HR1 := Lib.hid r1
  have HS := Lib.hid hs
  have HQ := Lib.hid hq
  have RU := Lib.hid (show Rt t W by subst hu; exact ⟨.inr rfl, by omega, by omega⟩)
  have LU := Lib.hid (show (digs t.natAbs).length ≤ 10000 from Nat.le_trans (digs_small (by omega)) (by omega : 2 ≤ 10000))
  have HH := Lib.hid (fun (W1 : World) (hT1 : T32 W1) => half_u W t W1 hT1 (by omega) (by omega) hu)
  have HT := Lib.hid hT
  clear hT
  have L0 := Lib.hid ((live_start w).add h)
  clear h hl r1 hs hq hu h0 h1
  go_enter Tryd.func23, Tryd.ntmps23
  go_wp2_with fail
  obtain ⟨v1, hW, hb, Rx_1, Rr_1⟩ := new2 w (.cells #[.bool (decide (m < 0)), .slice A (digs m.natAbs).length c, .int .i64 v] 26) (.cells #[.bool false, .slice none 0 0, .int .i64 0] 26)
  rw [← hW]
  have L1 := ls L0 hb
  have Gx := gl0 L0.out
  have Gr := gl1 L0.out
  have Nxr : w.heap.size < w.heap.size + 1 := by omega
  clear hW hb
  refine wp_operands_late (W := v1) rfl 6 8 9 [0, 1, 2, 3, 4, 5, 7] [8, 9, 10, 11, 7, 12, 13, 5] (fun i u ww => match i with | 6 => u = .int .i64 V | 0 => u = .agg #[.bool (decide (m < 0)), .slice A (digs m.natAbs).length c, .int .i64 v] | 1 => u = .int .i64 W | 2 => ∃ A c, u = .agg #[.bool (decide (t < 0)), .slice A (digs t.natAbs).length c, .int .i64 W] ∧ Dg ww A c (digs t.natAbs) | 3 => ∃ A c, u = .tuple #[.agg #[.bool (decide (K < 0)), .slice A (digs K.natAbs).length c, .int .i64 F], .int .i64 V] ∧ Dg ww A c (digs K.natAbs) | 4 => ∃ A c, u = .tuple #[.agg #[.bool (decide (K < 0)), .slice A (digs K.natAbs).length c, .int .i64 F], .int .i64 V] ∧ Dg ww A c (digs K.natAbs) | 5 => ∃ A c, u = .agg #[.bool (decide (K < 0)), .slice A (digs K.natAbs).length c, .int .i64 F] ∧ Dg ww A c (digs K.natAbs) | 7 => ∃ g, u = .pointer (some ⟨g, 0, none⟩) ∧ ww.heap[g]? = some (.cells #[.bool false, .slice none 0 0, .int .i64 0] 26 (0, 0)) ∧ v1.heap.size ≤ g | _ => True)
    (by kernel_rfl) (by kernel_rfl) (by decide) (by kernel_rfl) (by kernel_rfl) (by kernel_rfl) (by decide) (by kernel_rfl) (by kernel_rfl) (by kernel_rfl) (by kernel_rfl) (by kernel_rfl) (by kernel_rfl) (by kernel_rfl) (by kernel_rfl) ?_ ?_ ?_
  · intro i u x y hi h hb
    have hi' : i = 6 ∨ i = 0 ∨ i = 1 ∨ i = 2 ∨ i = 3 ∨ i = 4 ∨ i = 5 ∨ i = 7 := by simpa using hi
    rcases hi' with rfl | rfl | rfl | rfl | rfl | rfl | rfl | rfl
    · exact h
    · exact h
    · exact h
    · obtain ⟨A, c, e, hd⟩ := h
      exact ⟨A, c, e, hd.below hb⟩
    · obtain ⟨A, c, e, hd⟩ := h
      exact ⟨A, c, e, hd.below hb⟩
    · obtain ⟨A, c, e, hd⟩ := h
      exact ⟨A, c, e, hd.below hb⟩
    · obtain ⟨A, c, e, hd⟩ := h
      exact ⟨A, c, e, hd.below hb⟩
    · obtain ⟨g, e, hg, hge⟩ := h
      exact ⟨g, e, cells_of hg hb, hge⟩
  · intro i a x KK hi hF hb hw hK
    have hi' : i = 6 ∨ i = 0 ∨ i = 1 ∨ i = 2 ∨ i = 3 ∨ i = 4 ∨ i = 5 ∨ i = 7 := by simpa using hi
    rcases hi' with rfl | rfl | rfl | rfl | rfl | rfl | rfl | rfl
    · simp only [wpOp, List.getElem?_toArray, List.getElem?_cons_succ, List.getElem?_cons_zero, Region.wanted, if_true]
      refine Or.inl ?_
      obtain ⟨A', c', e0, hd⟩ := hw 4 (by kernel_rfl)
      have e0 : a.eval (.tmp 7) = _ := e0
      clear hw hF
      simp only [Oper.wp, execOp]
      rw [e0]
      go_simp
      exact hK _ x (by first | rfl | simp) (Below.refl _ _)
    · simp only [wpOp, List.getElem?_toArray, List.getElem?_cons_zero, Region.wanted, if_true]
      refine Or.inl ?_
      have e0 : a.eval (.tmp 2) = .pointer (some ⟨w.heap.size, 0, none⟩) := hF.2.2 2 (by decide)
      have f0 := row_cell Rx_1.out hb 0
      have f1 := row_cell Rx_1.out hb 1
      have f2 := row_cell Rx_1.out hb 2
      simp only [List.getElem?_toArray, List.getElem?_cons_succ, List.getElem?_cons_zero] at f0 f1 f2
      clear hw hF
      simp only [Oper.wp, execOp]
      rw [e0]
      go_simp
      exact hK _ x (by first | rfl | simp) (Below.refl _ _)
    · simp only [wpOp, List.getElem?_toArray, List.getElem?_cons_succ, List.getElem?_cons_zero, Region.wanted, if_true]
      refine Or.inl ?_
      have e0 : a.eval (.tmp 1) = .int .i64 W := hF.2.2 1 (by decide)
      clear hw hF
      simp only [Oper.wp, execOp]
      rw [e0]
      go_simp
      exact hK _ x (by first | rfl | simp) (Below.refl _ _)
    · simp only [wpOp, List.getElem?_toArray, List.getElem?_cons_succ, List.getElem?_cons_zero, Region.wanted, if_true]
      refine Or.inl ?_
      have e0 : a.tmps.getD 9 undef = .int .i64 W := hw 1 (by kernel_rfl)
      clear hw hF
      simp only [Oper.wp, execOp]
      go_simp
      refine (HH.out _ (t32_live HT.out (L1.out.step hb))).mono ?_
      rintro e y ⟨A2, c2, rfl, hd2, hbb⟩
      exact hK _ y ⟨A2, c2, rfl, hd2⟩ hbb
    · simp only [wpOp, List.getElem?_toArray, List.getElem?_cons_succ, List.getElem?_cons_zero, Region.wanted, if_true]
      refine Or.inl ?_
      have e0 : a.tmps.getD 8 undef = .agg #[.bool (decide (m < 0)), .slice A (digs m.natAbs).length c, .int .i64 v] := hw 0 (by kernel_rfl)
      obtain ⟨A', c', e1, hd⟩ := hw 2 (by kernel_rfl)
      have e1 : a.tmps.getD 10 undef = _ := e1
      clear hw hF
      simp only [Oper.wp, execOp]
      go_simp
      refine (tadd ((L1.out.step hb).get (A := A) (c := c) (xs := digs m.natAbs) (by simp)) hd lx.out LU.out HR1.out RU.out (t32_live HT.out (L1.out.step hb)) HS.out HQ.out).mono ?_
      rintro e y ⟨A2, c2, rfl, hd2, hbb⟩
      exact hK _ y ⟨A2, c2, rfl, hd2⟩ hbb
    · simp only [wpOp, List.getElem?_toArray, List.getElem?_cons_succ, List.getElem?_cons_zero, Region.wanted, if_true]
      refine Or.inl ?_
      obtain ⟨A', c', e0, hd⟩ := hw 3 (by kernel_rfl)
      have e0 : a.eval (.tmp 11) = _ := e0
      clear hw hF
      simp only [Oper.wp, execOp]
      rw [e0]
      go_simp
      exact hK _ x ⟨A', c', rfl, hd⟩ (Below.refl _ _)
    · simp only [wpOp, List.getElem?_toArray, List.getElem?_cons_succ, List.getElem?_cons_zero, Region.wanted, if_true]
      refine Or.inl ?_
      obtain ⟨A', c', e0, hd⟩ := hw 4 (by kernel_rfl)
      have e0 : a.eval (.tmp 7) = _ := e0
      clear hw hF
      simp only [Oper.wp, execOp]
      rw [e0]
      go_simp
      exact hK _ x ⟨A', c', rfl, hd⟩ (Below.refl _ _)
    · simp only [wpOp, List.getElem?_toArray, List.getElem?_cons_succ, List.getElem?_cons_zero, Region.wanted, if_true]
      refine Or.inl ?_
      clear hw hF
      simp only [Oper.wp, execOp]
      go_simp
      exact hK _ _ ⟨_, rfl, heap_alloc_new _ _, hb.size⟩ (below1 _ _)
  · intro a x hF0 hb hR
    have hF : Fr6 [13, 8, 9, 10, 11, 7, 12, 5] _ a := hF0
    have e0 : a.tmps.getD 8 undef = .agg #[.bool (decide (m < 0)), .slice A (digs m.natAbs).length c, .int .i64 v] := hR 0 (by decide)
    have e1 : a.tmps.getD 9 undef = .int .i64 W := hR 1 (by decide)
    obtain ⟨B2, d2, h2, hd2⟩ := hR 2 (by decide)
    have e2 : a.tmps.getD 10 undef = _ := h2
    obtain ⟨B3, d3, h3, hd3⟩ := hR 3 (by decide)
    have e3 : a.tmps.getD 11 undef = _ := h3
    obtain ⟨B4, d4, h4, hd4⟩ := hR 4 (by decide)
    have e4 : a.tmps.getD 7 undef = _ := h4
    obtain ⟨B5, d5, h5, hd5⟩ := hR 5 (by decide)
    have e5 : a.tmps.getD 12 undef = _ := h5
    obtain ⟨g7, h7, hg7, hge7⟩ := hR 7 (by decide)
    have e7 : a.tmps.getD 5 undef = _ := h7
    refine ⟨⟨?_, ?_⟩, fun hx => ?_⟩
    · rw [hF.fold (by kernel_rfl)]
      simp only [List.foldl_cons, List.foldl_nil, e0, e1, e2, e3, e4, e5, e7]
      generalize a.tmps.getD 13 undef = vx at *
      simp only [Act.put, List.setIfInBounds_toArray, List.set_cons_zero, List.set_cons_succ]
      clear e0 e1 e2 e3 e4 e5 e7 hR hF hF0 h2 h3 h4 h5 h7
      obtain ⟨w2, hW⟩ : ∃ W : World, W = x := ⟨_, rfl⟩
      rw [← hW]
      rw [← hW] at hb hd2 hd3 hd4 hd5 hg7
      have L2 := Lib.hid (((((L1.out.step hb).add hd2).add hd3).add hd4).add hd5)
      have Rx_2 := co Rx_1 hb
      have Rr_2 := co Rr_1 hb
      have Rq7_2 := Lib.hid hg7
      have Gq7 : w.heap.size ≤ g7 := Nat.le_trans L1.out.1.size hge7
      have Nxq7 : w.heap.size < g7 := by have := heap_lt Rx_1.out; omega
      have Nrq7 : w.heap.size + 1 < g7 := by have := heap_lt Rr_1.out; omega
      clear hW hb hd2 hd3 hd4 hd5 hg7 hge7
      obtain ⟨fq70, zq70, fq71, zq71, fq72, zq72, xq7⟩ := ly3 Rq7_2.out
      simp only [wpOps_cons]
      simp only [wpOp, List.getElem?_toArray, List.getElem?_cons_succ, List.getElem?_cons_zero, Region.wanted, if_true]
      refine Or.inl ?_
      simp only [Oper.wp, execOp]
      go_simp
      simp only [wpOps_cons]
      simp only [wpOp, List.getElem?_toArray, List.getElem?_cons_succ, List.getElem?_cons_zero, Region.wanted, if_true]
      refine Or.inl ?_
      simp only [Oper.wp, execOp]
      go_simp
      simp only [wpOps_cons]
      simp only [wpOp, List.getElem?_toArray, List.getElem?_cons_succ, List.getElem?_cons_zero, Region.wanted, if_true]
      refine Or.inl ?_
      simp only [Oper.wp, execOp]
      go_simp
      try simp only [wpOps]
      clear fq70 zq70 fq71 zq71 fq72 zq72 xq7
      obtain ⟨w3, hW⟩ : ∃ W : World, W = (((w2.setCell ⟨g7, 0, none⟩ (.bool (decide (K < 0)))).setCell ⟨g7, 1, none⟩ (.slice B5 (digs K.natAbs).length d5)).setCell ⟨g7, 2, none⟩ (.int .i64 F)) := ⟨_, rfl⟩
      rw [← hW]
      have hO : Only (g7) w2 w3 := by rw [hW]; exact ((((Only.refl (g7) w2).setCell 0 _).setCell 1 _).setCell 2 _)
      have L3 := Lib.hid (live_only L2.out hO Rq7_2.out noint_dy Gq7)
      have Rx_3 := Lib.hid ((hO.block _ (by omega)).trans Rx_2.out)
      have Rr_3 := Lib.hid ((hO.block _ (by omega)).trans Rr_2.out)
      have Rq7_3 := Lib.hid (show w3.heap[g7]? = some (.cells #[.bool (decide (K < 0)), .slice B5 (digs K.natAbs).length d5, .int .i64 F] 26 (0, 0)) by rw [hW]; exact (heap_setCell_same _ _ 2 _ _ _ (heap_setCell_same _ _ 1 _ _ _ (heap_setCell_same _ _ 0 _ _ _ Rq7_2.out))))
      clear hW hO
      obtain ⟨fr0, zr0, fr1, zr1, fr2, zr2, xr⟩ := ly3 Rr_3.out
      obtain ⟨fq70, zq70, fq71, zq71, fq72, zq72, xq7⟩ := ly3 Rq7_3.out
      go_wp2
      refine bodyPost_ret (v := .agg #[.bool (decide (K < 0)), .slice B5 (digs K.natAbs).length d5, .int .i64 F]) (by simp [results, Tryd.results23, go_sem, fr0, fr1, fr2, fq70, fq71, fq72]) rfl ?_
      
      refine ⟨B5, d5, rfl, ?_, ?_⟩
      · exact (fin3 L3.out Rr_3.out noint3 Gr).get (A := B5) (c := d5) (xs := digs K.natAbs) (by simp)
      · exact (fin3 L3.out Rr_3.out noint3 Gr).1
    · rw [hF.fold (by kernel_rfl)]
      simp only [List.foldl_cons, List.foldl_nil, e0, e1, e2, e3, e4, e5, e7]
      generalize a.tmps.getD 13 undef = vx at *
      simp only [Act.put, List.setIfInBounds_toArray, List.set_cons_zero, List.set_cons_succ]
      clear e0 e1 e2 e3 e4 e5 e7 hR hF hF0 h2 h3 h4 h5 h7
      obtain ⟨w2, hW⟩ : ∃ W : World, W = x := ⟨_, rfl⟩
      rw [← hW]
      rw [← hW] at hb hd2 hd3 hd4 hd5 hg7
      have L2 := Lib.hid (((((L1.out.step hb).add hd2).add hd3).add hd4).add hd5)
      have Rx_2 := co Rx_1 hb
      have Rr_2 := co Rr_1 hb
      have Rq7_2 := Lib.hid hg7
      have Gq7 : w.heap.size ≤ g7 := Nat.le_trans L1.out.1.size hge7
      have Nxq7 : w.heap.size < g7 := by have := heap_lt Rx_1.out; omega
      have Nrq7 : w.heap.size + 1 < g7 := by have := heap_lt Rr_1.out; omega
      clear hW hb hd2 hd3 hd4 hd5 hg7 hge7
      obtain ⟨fq70, zq70, fq71, zq71, fq72, zq72, xq7⟩ := ly3 Rq7_2.out
      simp only [wpOps_cons]
      simp only [wpOp, List.getElem?_toArray, List.getElem?_cons_succ, List.getElem?_cons_zero, Region.wanted, if_true]
      refine Or.inl ?_
      simp only [Oper.wp, execOp]
      go_simp
      simp only [wpOps_cons]
      simp only [wpOp, List.getElem?_toArray, List.getElem?_cons_succ, List.getElem?_cons_zero, Region.wanted, if_true]
      refine Or.inl ?_
      simp only [Oper.wp, execOp]
      go_simp
      simp only [wpOps_cons]
      simp only [wpOp, List.getElem?_toArray, List.getElem?_cons_succ, List.getElem?_cons_zero, Region.wanted, if_true]
      refine Or.inl ?_
      simp only [Oper.wp, execOp]
      go_simp
      try simp only [wpOps]
      clear fq70 zq70 fq71 zq71 fq72 zq72 xq7
      obtain ⟨w3, hW⟩ : ∃ W : World, W = (((w2.setCell ⟨g7, 0, none⟩ (.bool (decide (K < 0)))).setCell ⟨g7, 1, none⟩ (.slice B5 (digs K.natAbs).length d5)).setCell ⟨g7, 2, none⟩ (.int .i64 F)) := ⟨_, rfl⟩
      rw [← hW]
      have hO : Only (g7) w2 w3 := by rw [hW]; exact ((((Only.refl (g7) w2).setCell 0 _).setCell 1 _).setCell 2 _)
      have L3 := Lib.hid (live_only L2.out hO Rq7_2.out noint_dy Gq7)
      have Rx_3 := Lib.hid ((hO.block _ (by omega)).trans Rx_2.out)
      have Rr_3 := Lib.hid ((hO.block _ (by omega)).trans Rr_2.out)
      have Rq7_3 := Lib.hid (show w3.heap[g7]? = some (.cells #[.bool (decide (K < 0)), .slice B5 (digs K.natAbs).length d5, .int .i64 F] 26 (0, 0)) by rw [hW]; exact (heap_setCell_same _ _ 2 _ _ _ (heap_setCell_same _ _ 1 _ _ _ (heap_setCell_same _ _ 0 _ _ _ Rq7_2.out))))
      clear hW hO
      obtain ⟨fr0, zr0, fr1, zr1, fr2, zr2, xr⟩ := ly3 Rr_3.out
      obtain ⟨fq70, zq70, fq71, zq71, fq72, zq72, xq7⟩ := ly3 Rq7_3.out
      go_wp2
      refine bodyPost_ret (v := .agg #[.bool (decide (K < 0)), .slice B5 (digs K.natAbs).length d5, .int .i64 F]) (by simp [results, Tryd.results23, go_sem, fr0, fr1, fr2, fq70, fq71, fq72]) rfl ?_
      
      refine ⟨B5, d5, rfl, ?_, ?_⟩
      · exact (fin3 L3.out Rr_3.out noint3 Gr).get (A := B5) (c := d5) (xs := digs K.natAbs) (by simp)
      · exact (fin3 L3.out Rr_3.out noint3 Gr).1
    · have e6 : a.tmps.getD 13 undef = .int .i64 V := hx
      rw [hF.fold (by kernel_rfl)]
      simp only [List.foldl_cons, List.foldl_nil, e0, e1, e2, e3, e4, e5, e7, e6]
      simp only [Act.put, List.setIfInBounds_toArray, List.set_cons_zero, List.set_cons_succ]
      clear e0 e1 e2 e3 e4 e5 e7 e6 hR hF hF0 h2 h3 h4 h5 h7 hx
      obtain ⟨w2, hW⟩ : ∃ W : World, W = x := ⟨_, rfl⟩
      rw [← hW]
      rw [← hW] at hb hd2 hd3 hd4 hd5 hg7
      have L2 := Lib.hid (((((L1.out.step hb).add hd2).add hd3).add hd4).add hd5)
      have Rx_2 := co Rx_1 hb
      have Rr_2 := co Rr_1 hb
      have Rq7_2 := Lib.hid hg7
      have Gq7 : w.heap.size ≤ g7 := Nat.le_trans L1.out.1.size hge7
      have Nxq7 : w.heap.size < g7 := by have := heap_lt Rx_1.out; omega
      have Nrq7 : w.heap.size + 1 < g7 := by have := heap_lt Rr_1.out; omega
      clear hW hb hd2 hd3 hd4 hd5 hg7 hge7
      obtain ⟨fq70, zq70, fq71, zq71, fq72, zq72, xq7⟩ := ly3 Rq7_2.out
      simp only [wpOps_cons]
      simp only [wpOp, List.getElem?_toArray, List.getElem?_cons_succ, List.getElem?_cons_zero, Region.wanted, if_true]
      refine Or.inl ?_
      simp only [Oper.wp, execOp]
      go_simp
      simp only [wpOps_cons]
      simp only [wpOp, List.getElem?_toArray, List.getElem?_cons_succ, List.getElem?_cons_zero, Region.wanted, if_true]
      refine Or.inl ?_
      simp only [Oper.wp, execOp]
      go_simp
      try simp only [wpOps]
      clear fq70 zq70 fq71 zq71 fq72 zq72 xq7
      obtain ⟨w3, hW⟩ : ∃ W : World, W = (((w2.setCell ⟨g7, 0, none⟩ (.bool (decide (K < 0)))).setCell ⟨g7, 1, none⟩ (.slice B5 (digs K.natAbs).length d5)).setCell ⟨g7, 2, none⟩ (.int .i64 F)) := ⟨_, rfl⟩
      rw [← hW]
      have hO : Only (g7) w2 w3 := by rw [hW]; exact ((((Only.refl (g7) w2).setCell 0 _).setCell 1 _).setCell 2 _)
      have L3 := Lib.hid (live_only L2.out hO Rq7_2.out noint_dy Gq7)
      have Rx_3 := Lib.hid ((hO.block _ (by omega)).trans Rx_2.out)
      have Rr_3 := Lib.hid ((hO.block _ (by omega)).trans Rr_2.out)
      have Rq7_3 := Lib.hid (show w3.heap[g7]? = some (.cells #[.bool (decide (K < 0)), .slice B5 (digs K.natAbs).length d5, .int .i64 F] 26 (0, 0)) by rw [hW]; exact (heap_setCell_same _ _ 2 _ _ _ (heap_setCell_same _ _ 1 _ _ _ (heap_setCell_same _ _ 0 _ _ _ Rq7_2.out))))
      clear hW hO
      obtain ⟨fr0, zr0, fr1, zr1, fr2, zr2, xr⟩ := ly3 Rr_3.out
      obtain ⟨fq70, zq70, fq71, zq71, fq72, zq72, xq7⟩ := ly3 Rq7_3.out
      go_wp2
      refine bodyPost_ret (v := .agg #[.bool (decide (K < 0)), .slice B5 (digs K.natAbs).length d5, .int .i64 F]) (by simp [results, Tryd.results23, go_sem, fr0, fr1, fr2, fq70, fq71, fq72]) rfl ?_
      
      refine ⟨B5, d5, rfl, ?_, ?_⟩
      · exact (fin3 L3.out Rr_3.out noint3 Gr).get (A := B5) (c := d5) (xs := digs K.natAbs) (by simp)
      · exact (fin3 L3.out Rr_3.out noint3 Gr).1
end Go.Proofs.YtfhdhldgflbpjaaDoor
end

section
/-
  dyad.Div.
-/
namespace Go.Proofs.YtfhdhldgflbpjaaDoor
open Go.RowKit
set_option linter.unusedSimpArgs false
set_option linter.unusedVariables false
theorem blen_mul_lo {q n N a b : Nat} (hn : n < 2 ^ b) (hN : 2 ^ (a + b) ≤ N) (hq : N < (q + 1) * n) : 2 ^ a ≤ q := by
  rcases Nat.lt_or_ge q (2 ^ a) with h | h
  · exfalso
    have h1 : (q + 1) * n ≤ 2 ^ a * 2 ^ b := Nat.mul_le_mul h (Nat.le_of_lt hn)
    rw [← Nat.pow_add] at h1
    omega
  · exact h
theorem div_kept {m n x y : Int} {k p : Nat} {up more : Bool} (m0 : m ≠ 0) (n0 : n ≠ 0) (p1 : 1 ≤ p) (hk : p + blen n.natAbs ≤ blen m.natAbs + k) (hm : more = decide (m.natAbs * 2 ^ k % n.natAbs ≠ 0)) :
    p ≤ blen (m.natAbs * 2 ^ k / n.natAbs) ∧ RdOf (dv m x / dv n y) p up (nm (sg (decide (m < 0) != decide (n < 0)) (kept (m.natAbs * 2 ^ k / n.natAbs) p more (up != (decide (m < 0) != decide (n < 0))))))
      (nx (sg (decide (m < 0) != decide (n < 0)) (kept (m.natAbs * 2 ^ k / n.natAbs) p more (up != (decide (m < 0) != decide (n < 0))))) (x - y - k + (blen (m.natAbs * 2 ^ k / n.natAbs) - p : Nat))) := by
  have hna : 0 < n.natAbs := by omega
  have e1 : m.natAbs * 2 ^ k = m.natAbs * 2 ^ k / n.natAbs * n.natAbs + m.natAbs * 2 ^ k % n.natAbs := by
    have := Nat.div_add_mod (m.natAbs * 2 ^ k) n.natAbs
    rw [Nat.mul_comm] at this; exact this.symm
  have e2 : m.natAbs * 2 ^ k % n.natAbs < n.natAbs := Nat.mod_lt _ hna
  have hN : 2 ^ (p - 1 + blen n.natAbs) ≤ m.natAbs * 2 ^ k := by
    have ⟨a, _, c⟩ := blen_bd m.natAbs (by omega)
    refine Nat.le_trans (Nat.pow_le_pow_right (by omega) (show p - 1 + blen n.natAbs ≤ blen m.natAbs - 1 + k by omega)) ?_
    rw [Nat.pow_add]; exact Nat.mul_le_mul_right _ a
  have hb : 0 < dv (n.natAbs : Int) y := dv_pos.2 (by omega)
  have hbn : dv (n.natAbs : Int) y ≠ 0 := by grind
  have ha : dv (m.natAbs : Int) x = dv ((m.natAbs * 2 ^ k : Nat) : Int) (x - k) := by
    have := dv_pow (m.natAbs : Int) k (x - k)
    rw [show x - (k : Int) + k = x by omega] at this
    rw [← this]; congr 1
  have hrb : dv (m.natAbs : Int) x / dv (n.natAbs : Int) y * dv (n.natAbs : Int) y = dv (m.natAbs : Int) x := Rat.div_mul_cancel hbn
  have hsign : dv m x / dv n y = if (decide (m < 0) != decide (n < 0)) = true then -(dv (m.natAbs : Int) x / dv (n.natAbs : Int) y) else dv (m.natAbs : Int) x / dv (n.natAbs : Int) y := by
    have hd0 : dv n y ≠ 0 := fun h => n0 (dv_eq0.1 h)
    have key : ∀ X : Rat, X * dv n y = dv m x → dv m x / dv n y = X := fun X h => by rw [← h]; exact Rat.mul_div_cancel hd0
    apply key
    rw [dv_sign m x, dv_sign n y]
    generalize dv (m.natAbs : Int) x / dv (n.natAbs : Int) y = r at *
    generalize dv (m.natAbs : Int) x = a at *
    generalize dv (n.natAbs : Int) y = b at *
    rcases decide (m < 0) <;> rcases decide (n < 0) <;> simp <;> grind
  generalize m.natAbs * 2 ^ k / n.natAbs = Q at *
  generalize m.natAbs * 2 ^ k % n.natAbs = R at *
  have hQ : 2 ^ (p - 1) ≤ Q := by
    have ⟨_, b, _⟩ := blen_bd n.natAbs (by omega)
    refine blen_mul_lo b hN ?_
    rw [e1, Nat.add_mul, Nat.one_mul]; omega
  have hpb : p ≤ blen Q := by
    have h1 := blen_uniq (n := 2 ^ (p - 1)) (k := p - 1) (Nat.le_refl _) (Nat.pow_lt_pow_right (by omega) (by omega))
    have := blen_mono hQ
    omega
  refine ⟨hpb, ?_⟩
  rw [hsign]
  have hQb : dv (Q : Int) (x - y - k) * dv (n.natAbs : Int) y = dv ((Q * n.natAbs : Nat) : Int) (x - k) := by
    rw [dv_mul]; congr 1; omega
  have hQb1 : dv (Q + 1 : Int) (x - y - k) * dv (n.natAbs : Int) y = dv (((Q + 1) * n.natAbs : Nat) : Int) (x - k) := by
    rw [dv_mul]; congr 1; omega
  refine rd_kept hpb p1 ?_ ?_ ?_
  · refine Rat.le_of_mul_le_mul_right ?_ hb
    rw [hrb, hQb, ha, dv_le]
    exact_mod_cast (by omega : Q * n.natAbs ≤ m.natAbs * 2 ^ k)
  · refine Rat.lt_of_mul_lt_mul_right ?_ (Rat.le_of_lt hb)
    rw [hrb, hQb1, ha, dv_lt]
    have : m.natAbs * 2 ^ k < (Q + 1) * n.natAbs := by rw [e1, Nat.add_mul, Nat.one_mul]; omega
    exact_mod_cast this
  · rw [hm, decide_eq_decide]
    have h3 : dv (m.natAbs : Int) x / dv (n.natAbs : Int) y = dv (Q : Int) (x - y - k) ↔ R = 0 := by
      constructor
      · intro h
        rw [h, hQb, ha] at hrb
        have := dv_inj hrb
        have h4 : Q * n.natAbs = m.natAbs * 2 ^ k := by exact_mod_cast this
        omega
      · intro h
        have h4 : Q * n.natAbs = m.natAbs * 2 ^ k := by omega
        rw [ha, ← h4, ← hQb]
        exact Rat.mul_div_cancel hbn
    exact (not_congr h3).symm
theorem lift_n {A : Option Addr} {c q N : Nat} {k : Int} {kn : Nat} {w : World} (h : Dg w A c (digs q)) (hl : (digs q).length ≤ 500000) (hk : k = (kn : Int)) (h1 : kn ≤ 1000000) (hN : q * 2 ^ kn = N) :
    Calls Tryd.prog 67 #[.slice A (digs q).length c, .int .i64 k] w fun e w' => ∃ A' c', e = .returned (.slice A' (digs N).length c') ∧ Dg w' A' c' (digs N) ∧ Below w.heap.size w w' := by
  subst hk
  have := lift_any A c (digs q) kn w h hl h1
  rw [val_digs, hN] at this
  exact this
theorem up_len {q k : Nat} (hl : (digs q).length ≤ 10000) (hk : k ≤ 330000) : (digs (q * 2 ^ k)).length ≤ 21000 := by
  have h1 := bl_bd (m := (q : Int)) (k := 10000) (by rw [Int.natAbs_natCast]; exact hl)
  have h2 := len_bl ((q * 2 ^ k : Nat) : Int)
  rw [Int.natAbs_natCast] at h1 h2
  unfold bl at h2
  rw [Int.natAbs_natCast] at h2
  by_cases h0 : q = 0
  · subst h0; rw [Nat.zero_mul] at h2 ⊢; rw [digs_zero]; simp
  · rw [blen_up h0] at h2; omega

end Go.Proofs.YtfhdhldgflbpjaaDoor
end

section
/-
  quo.Gcd.
-/
namespace Go.Proofs.YtfhdhldgflbpjaaDoor
open Go.RowKit
theorem gcd_step (x g : Nat) : Nat.gcd g (x % g) = Nat.gcd x g := by
  rw [Nat.gcd_comm x g, Nat.gcd_rec g x, Nat.gcd_comm g]
section
variable {w0 w w' : World} {L : List (Option Addr × Nat × List Nat)} {A B : Option Addr} {c d n m : Nat} {xs ys : List Nat} {x y : Nat}
end
end Go.Proofs.YtfhdhldgflbpjaaDoor
end

section
/-
  Plain arithmetic of the root.
-/
namespace Go.Proofs.YtfhdhldgflbpjaaDoor
/-- The greatest number whose square is not above n. -/
def rt (n : Nat) : Nat := if h : n = 0 then 0 else if (2 * rt (n / 4) + 1) * (2 * rt (n / 4) + 1) ≤ n then 2 * rt (n / 4) + 1 else 2 * rt (n / 4)
termination_by n
decreasing_by all_goals omega
theorem sq_lt {a b : Nat} (h : a * a < b * b) : a < b := by
  rcases Nat.lt_or_ge a b with h1 | h1
  · exact h1
  · have := Nat.mul_le_mul h1 h1; omega
theorem rt_step (n : Nat) (h : n ≠ 0) : rt n = if (2 * rt (n / 4) + 1) * (2 * rt (n / 4) + 1) ≤ n then 2 * rt (n / 4) + 1 else 2 * rt (n / 4) := by
  rw [rt]; simp [h]
theorem rt_spec (n : Nat) : rt n * rt n ≤ n ∧ n < (rt n + 1) * (rt n + 1) := by
  induction n using Nat.strongRecOn with
  | ind n ih =>
    by_cases h : n = 0
    · subst h; rw [rt]; simp
    · obtain ⟨h1, h2⟩ := ih (n / 4) (by omega)
      rw [rt_step n h]
      generalize rt (n / 4) = r at *
      have e1 : (2 * r) * (2 * r) = 4 * (r * r) := by rw [Nat.mul_mul_mul_comm]
      have e2 : (2 * r + 1 + 1) * (2 * r + 1 + 1) = 4 * ((r + 1) * (r + 1)) := by rw [show 2 * r + 1 + 1 = 2 * (r + 1) by omega, Nat.mul_mul_mul_comm]
      split
      · exact ⟨by assumption, by rw [e2]; omega⟩
      · exact ⟨by rw [e1]; omega, by omega⟩
theorem rt_is {n s : Nat} (h1 : s * s ≤ n) (h2 : n < (s + 1) * (s + 1)) : s = rt n := by
  obtain ⟨h3, h4⟩ := rt_spec n
  have := sq_lt (Nat.lt_of_le_of_lt h1 h4)
  have := sq_lt (Nat.lt_of_le_of_lt h3 h2)
  omega
theorem rt_le {n s : Nat} (h : n < (s + 1) * (s + 1)) : rt n ≤ s := by
  have := sq_lt (Nat.lt_of_le_of_lt (rt_spec n).1 h); omega
theorem four_le (a b : Nat) : 4 * (a * b) ≤ (a + b) * (a + b) := by
  rcases Nat.le_total a b with h | h
  · obtain ⟨c, rfl⟩ := Nat.exists_eq_add_of_le h
    have : (a + (a + c)) * (a + (a + c)) = 4 * (a * (a + c)) + c * c := by
      simp only [Nat.mul_add, Nat.add_mul, Nat.mul_comm c a]; omega
    omega
  · obtain ⟨c, rfl⟩ := Nat.exists_eq_add_of_le h
    have : (b + c + b) * (b + c + b) = 4 * ((b + c) * b) + c * c := by
      simp only [Nat.mul_add, Nat.add_mul, Nat.mul_comm c b]; omega
    omega
/-- Newton's step stays above the root. -/
theorem newton {n s t : Nat} (hs : 0 < s) (ht : t = (s + n / s) / 2) : n < (t + 1) * (t + 1) := by
  have h1 := Nat.div_add_mod n s
  have h2 := Nat.mod_lt n hs
  have h3 := four_le s (n / s + 1)
  have h4 : s * (n / s + 1) = s * (n / s) + s := by rw [Nat.mul_add, Nat.mul_one]
  generalize n / s = q at *
  have h5 : s + (q + 1) ≤ 2 * (t + 1) := by omega
  have h6 := Nat.mul_le_mul h5 h5
  rw [Nat.mul_mul_mul_comm] at h6
  omega
theorem newton_end {n s t : Nat} (hs : 0 < s) (ht : t = (s + n / s) / 2) (h : s ≤ t) : s * s ≤ n := by
  have h1 : s ≤ n / s := by omega
  exact (Nat.le_div_iff_mul_le hs).1 h1
theorem rt_pos {n : Nat} (h : n ≠ 0) : 0 < rt n := by
  rcases Nat.eq_zero_or_pos (rt n) with h0 | h0
  · have := (rt_spec n).2; rw [h0] at this; omega
  · exact h0
end Go.Proofs.YtfhdhldgflbpjaaDoor
end

section
/-
  quo.root, above, Sqrt.
-/
namespace Go.Proofs.YtfhdhldgflbpjaaDoor
open Go.RowKit
/-- What above answers. -/
def Abv (w : World) (x : Nat) (e : Ending) (w' : World) : Prop := ∃ A' c' u, e = .returned (.slice A' (digs u).length c') ∧ Dg w' A' c' (digs u) ∧ Below w.heap.size w w' ∧ x < (u + 1) * (u + 1) ∧ 0 < u ∧ (digs u).length ≤ 600000
theorem two_pow_half (b : Nat) : 2 ^ b ≤ 2 ^ ((b + 1) / 2) * 2 ^ ((b + 1) / 2) := by
  rw [← Nat.pow_add]; exact Nat.pow_le_pow_right (by omega) (by omega)
theorem sq_up {x u : Nat} (h : x < u * u) : x < (u + 1) * (u + 1) := Nat.lt_of_lt_of_le h (Nat.mul_le_mul (by omega) (by omega))
theorem own_row {w : World} {base g : Nat} {ys : List Nat} (h : Row w g ys) (hb : base ≤ g) (hm : ys.length ≤ maxLen) : w.ownsRow base 56 1 (.slice (some ⟨g, 0, none⟩) ys.length ys.length) ys.length (cells ys) :=
  ⟨by simp [cells], .inr ⟨g, ys.length, (cells ys).toArray, rfl, hb, h, Nat.le_refl _, hm, by simp [cells], by rw [Nat.mul_one, List.take_of_length_le (by simp [cells])]⟩⟩
theorem digs_lift (k u : Nat) (hu : u ≠ 0) : digs (4294967296 ^ k * u) = List.replicate k 0 ++ digs u := by
  have e : val (List.replicate k 0 ++ digs u) = 4294967296 ^ k * u := by rw [val_append, val_zeros, List.length_replicate, val_digs]; omega
  rw [← e]
  refine digs_val (fun x hx => ?_) (fun x hx => ?_)
  · rcases List.mem_append.1 hx with hx | hx
    · exact ok_zeros k x hx
    · exact ok_digs u x hx
  · rw [List.getLast?_append] at hx
    rcases hd : (digs u).getLast? with _ | z
    · exfalso; rw [List.getLast?_eq_none_iff] at hd; exact hu (digs_nil.1 (by rw [hd]; rfl))
    · rw [hd] at hx; simp at hx; subst hx; exact last_digs hd
end Go.Proofs.YtfhdhldgflbpjaaDoor
end
