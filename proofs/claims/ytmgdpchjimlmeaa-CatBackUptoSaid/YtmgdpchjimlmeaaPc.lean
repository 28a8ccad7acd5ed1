/-
  strings.Repeat of a nought; page.together; bytes as a string.
-/
import Derived.Test.YtmgdpchjimlmeaaPb
import Derived.Test.YtmgdpchjimlmeaaShelf
import Derived.Laws.IdiomStrings
import Derived.Laws.Rows
import Derived.Deep.QuietTactic
import Derived.BigQuiet
import Derived.StillTailTactics
import Derived.Deep.RegionHeld3
import Derived.Laws.NewBlocks
namespace Go.Proofs.Ytmgdpchjimlmeaa
open Go.RowKit
theorem inter_nil : ∀ zs : List (List UInt8), List.intercalate [] zs = zs.flatten
  | [] => rfl
  | [z] => by simp [List.intercalate]
  | z :: z' :: zs => by
    have := inter_nil (z' :: zs)
    simp only [List.intercalate, List.intersperse_cons_cons, List.flatten_cons, List.nil_append] at this ⊢
    rw [this]
theorem bcellP {W w1 : World} (hb : Below W.heap.size W w1) : (∀ b o, b < W.heap.size → w1.cell? ⟨b, o, none⟩ = W.cell? ⟨b, o, none⟩) :=
  fun b o h => hb.cell (p := ⟨b, o, none⟩) h
theorem bd0P (W : World) : Below W.heap.size W W.drew := ⟨rfl, rfl, rfl, Nat.le_refl _, fun _ _ => rfl⟩
theorem below_drewN {B : Nat} {a w : World} (h : Below B a w) (n : Nat) : Below B a (w.drewN n) := ⟨h.os, h.tape, h.output, h.size, h.block⟩
theorem repeat0 (n : Nat) (w : World) (h : n ≤ 1000) :
    Calls Try.prog 64 #[.string ⟨#[0]⟩, .int .i64 n] w fun e w' => e = .returned (.string ⟨(List.replicate n 0).toArray⟩) ∧ Below w.heap.size w w' := by
  have := Try.strings_Repeat ⟨#[0]⟩ n w (by omega) (by show 1 * n ≤ _; omega)
  rw [show (⟨#[0]⟩ : ByteArray).data.toList = List.replicate 1 0 from rfl, Lib.repeatL_replicate, Nat.mul_one] at this
  exact this
set_option maxRecDepth 100000 in
theorem together_any (zs : List (List UInt8)) (c g : Nat) (w : World) (hg : g < w.heap.size) (hc : ∀ (j : Nat) z, zs[j]? = some z → w.cell? ⟨g, j, none⟩ = some (.string ⟨z.toArray⟩)) (hl : zs.length ≤ c) (h1 : zs.length ≤ 1000) (h2 : zs.flatten.length ≤ 1000000) :
    Calls Try.prog 63 #[.slice (some ⟨g, 0, none⟩) zs.length c] w fun e w' => e = .returned (.string ⟨zs.flatten.toArray⟩) ∧ Below w.heap.size w w' := by
  have ej : Lib.join ((zs.map fun l => (⟨l.toArray⟩ : ByteArray)).map (·.data.toList)) (⟨#[]⟩ : ByteArray).data.toList = zs.flatten := by
    rw [List.map_map]
    have e1 : ((fun x : ByteArray => x.data.toList) ∘ fun l : List UInt8 => (⟨l.toArray⟩ : ByteArray)) = id := by funext l; simp
    rw [e1, List.map_id]
    exact inter_nil zs
  have hj := Try.strings_Join g 0 c (zs.map fun l => (⟨l.toArray⟩ : ByteArray)) ⟨#[]⟩ w (fun j x hx => by
    rw [List.getElem?_map] at hx
    rcases hz : zs[j]? with _ | l
    · rw [hz] at hx; cases hx
    · rw [hz] at hx
      simp only [Option.map_some, Option.some.injEq] at hx
      subst hx
      rw [Nat.zero_add]
      exact hc j l hz) hg (by simp; omega) (by simp; omega) (by rw [ej]; omega)
  rw [ej, List.length_map] at hj
  have HJ := hj
  clear hc ej hj
  go_enter Try.func63, Try.ntmps63
  go_wp2_with ((with_reducible refine HJ.mono ?_); rintro e w' ⟨rfl, hb⟩)
  go_ret
  exact ⟨rfl, hb⟩
theorem conv_of (w : World) (g cap : Nat) (l : List UInt8) (hc : ∀ j (hj : j < l.length), w.cell? ⟨g, j, none⟩ = some (.int .u8 (l[j].toNat : Int))) :
    (convert 68 9 (.slice (some ⟨g, 0, none⟩) l.length cap)).run Try.prog w = .ok (.string ⟨l.toArray⟩) w :=
  run_convert_bytes_back w 68 9 5 ⟨g, 0, none⟩ cap l Try.underlying68 Try.underlying5 Try.underlying9 (fun j hj => by rw [Addr.add_lit, Nat.zero_add]; exact hc j hj)
theorem conv2 (w : World) (g : Nat) (a b : UInt8) (x y : Int) (ha : x = (a.toNat : Int)) (hb : y = (b.toNat : Int)) (h0 : w.cell? ⟨g, 0, none⟩ = some (.int .u8 x)) (h1 : w.cell? ⟨g, 1, none⟩ = some (.int .u8 y)) :
    (convert 68 9 (.slice (some ⟨g, 0, none⟩) 2 2)).run Try.prog w = .ok (.string ⟨[a, b].toArray⟩) w := by
  refine conv_of w g 2 [a, b] (fun j hj => ?_)
  match j, hj with
  | 0, _ => rw [h0, ha]; rfl
  | 1, _ => rw [h1, hb]; rfl
theorem conv4 (w : World) (g : Nat) (x : Nat) (h0 : w.cell? ⟨g, 0, none⟩ = some (.int .u8 ((x : Int) % 256))) (h1 : w.cell? ⟨g, 1, none⟩ = some (.int .u8 ((x : Int) / 256 % 256))) (h2 : w.cell? ⟨g, 2, none⟩ = some (.int .u8 ((x : Int) / 65536 % 256))) (h3 : w.cell? ⟨g, 3, none⟩ = some (.int .u8 ((x : Int) / 16777216 % 256))) :
    (convert 68 9 (.slice (some ⟨g, 0, none⟩) 4 4)).run Try.prog w = .ok (.string ⟨(b4 x).toArray⟩) w := by
  refine conv_of w g 4 (b4 x) (fun j hj => ?_)
  unfold b4 at hj ⊢
  match j, hj with
  | 0, _ => rw [h0]; simp [UInt8.toNat_ofNat']
  | 1, _ => rw [h1]; simp [UInt8.toNat_ofNat']
  | 2, _ => rw [h2]; simp [UInt8.toNat_ofNat']
  | 3, _ => rw [h3]; simp [UInt8.toNat_ofNat']
theorem row_cell (w : World) (cs : List Value) (T : TypeId) (j : Nat) : (w.alloc (.cells cs.toArray T)).cell? ⟨w.heap.size, j, none⟩ = cs[j]? := by
  rw [cell_of_row _ _ _ _ _ _ (heap_alloc_new w _)]
  simp
set_option maxHeartbeats 1000000 in
set_option maxRecDepth 100000 in
theorem sumText_any (l : List UInt8) (w : World) (hl : l.length ≤ 9223372036854775807) :
    Calls Try.prog 65 #[.string ⟨l.toArray⟩] w fun e w' => e = .returned (.string ⟨(sumT l).toArray⟩) ∧ Below w.heap.size w w' := by
  have C4 := Lib.hid (conv4 (w.alloc (.cells #[.int .u8 ((sumL l : Int) % 256), .int .u8 ((sumL l : Int) / 256 % 256), .int .u8 ((sumL l : Int) / 65536 % 256), .int .u8 ((sumL l : Int) / 16777216 % 256)] 5)) w.heap.size (sumL l) (row_cell w [.int .u8 ((sumL l : Int) % 256), .int .u8 ((sumL l : Int) / 256 % 256), .int .u8 ((sumL l : Int) / 65536 % 256), .int .u8 ((sumL l : Int) / 16777216 % 256)] _ 0) (row_cell w [.int .u8 ((sumL l : Int) % 256), .int .u8 ((sumL l : Int) / 256 % 256), .int .u8 ((sumL l : Int) / 65536 % 256), .int .u8 ((sumL l : Int) / 16777216 % 256)] _ 1) (row_cell w [.int .u8 ((sumL l : Int) % 256), .int .u8 ((sumL l : Int) / 256 % 256), .int .u8 ((sumL l : Int) / 65536 % 256), .int .u8 ((sumL l : Int) / 16777216 % 256)] _ 2) (row_cell w [.int .u8 ((sumL l : Int) % 256), .int .u8 ((sumL l : Int) / 256 % 256), .int .u8 ((sumL l : Int) / 65536 % 256), .int .u8 ((sumL l : Int) / 16777216 % 256)] _ 3))
  have S := Lib.hid (sum_any l w hl)
  go_enter Try.func65, Try.ntmps65
  go_wp2_with fail
  refine S.out.mono ?_
  rintro e w' ⟨rfl, rfl⟩
  have hcv := C4.out
  go_wp2
  go_ret
  exact ⟨rfl, (Below.refl _ _).alloc (Nat.le_refl _) _⟩
theorem together_row4 (a b c d : List UInt8) (w : World) (h : (a ++ b ++ c ++ d).length ≤ 1000000) :
    Calls Try.prog 63 #[.slice (some ⟨w.heap.size, 0, none⟩) 4 4] (w.alloc (.cells #[.string ⟨a.toArray⟩, .string ⟨b.toArray⟩, .string ⟨c.toArray⟩, .string ⟨d.toArray⟩] 9)) fun e w' => e = .returned (.string ⟨(a ++ b ++ c ++ d).toArray⟩) ∧ Below w.heap.size w w' := by
  have e : [a, b, c, d].flatten = a ++ b ++ c ++ d := by simp
  have := together_any [a, b, c, d] 4 w.heap.size (w.alloc (.cells #[.string ⟨a.toArray⟩, .string ⟨b.toArray⟩, .string ⟨c.toArray⟩, .string ⟨d.toArray⟩] 9)) (by simp) (fun j z hz => by
    rw [row_cell w [.string ⟨a.toArray⟩, .string ⟨b.toArray⟩, .string ⟨c.toArray⟩, .string ⟨d.toArray⟩]]
    match j, hz with
    | 0, h => simp at h; subst h; rfl
    | 1, h => simp at h; subst h; rfl
    | 2, h => simp at h; subst h; rfl
    | 3, h => simp at h; subst h; rfl) (Nat.le_refl _) (by simp) (by rw [e]; exact h)
  rw [e] at this
  exact this.mono fun _ _ ⟨h1, h2⟩ => ⟨h1, ((Below.refl _ _).alloc (Nat.le_refl _) _).trans (h2.mono (by simp))⟩
theorem together_row2 (a b : List UInt8) (w : World) (h : a.length + b.length ≤ 1000000) :
    Calls Try.prog 63 #[.slice (some ⟨w.heap.size, 0, none⟩) 2 2] (w.alloc (.cells #[.string ⟨a.toArray⟩, .string ⟨b.toArray⟩] 9)) fun e w' => e = .returned (.string ⟨(a ++ b).toArray⟩) ∧ Below w.heap.size w w' := by
  have e : [a, b].flatten = a ++ b := by simp
  have := together_any [a, b] 2 w.heap.size (w.alloc (.cells #[.string ⟨a.toArray⟩, .string ⟨b.toArray⟩] 9)) (by simp) (fun j z hz => by
    rw [row_cell w [.string ⟨a.toArray⟩, .string ⟨b.toArray⟩]]
    match j, hz with
    | 0, h => simp at h; subst h; rfl
    | 1, h => simp at h; subst h; rfl) (Nat.le_refl _) (by simp) (by rw [e, List.length_append]; exact h)
  rw [e] at this
  exact this.mono fun _ _ ⟨h1, h2⟩ => ⟨h1, ((Below.refl _ _).alloc (Nat.le_refl _) _).trans (h2.mono (by simp))⟩
theorem ret_sb {a : List UInt8} {b : ByteArray} {n : Int} (h : b = ⟨a.toArray⟩) : Ending.returned (.tuple #[.string b, .int .i64 n]) = .returned (.tuple #[.string ⟨a.toArray⟩, .int .i64 n]) := by rw [h]
set_option maxHeartbeats 1000000 in
set_option maxRecDepth 100000 in
/-- Refused. -/
theorem seal_no (k : Int) (t : List UInt8) (w : World) (h : sealOk k t.length = false) (hl : t.length ≤ 9223372036854775807) :
    Calls Try.prog 47 #[.int .i64 k, .string ⟨t.toArray⟩] w fun e w' => e = .returned (.tuple #[.string ⟨#[]⟩, .int .i64 1]) ∧ w = w' := by
  have hs := Lib.hid (str_size t)
  by_cases h1 : k < 1
  · have d1 : decide (k < 1) = true := decide_eq_true h1
    go_enter Try.func47, Try.ntmps47
    go_wp2
    go_ret2
    exact ⟨rfl, rfl⟩
  · have d1 : decide (k < 1) = false := decide_eq_false h1
    by_cases h9 : 9 < k
    · have d9 : decide (9 < k) = true := decide_eq_true h9
      go_enter Try.func47, Try.ntmps47
      go_wp2
      go_ret2
      exact ⟨rfl, rfl⟩
    · have d9 : decide (9 < k) = false := decide_eq_false h9
      have hn : 120 < t.length := by
        unfold sealOk at h
        have a1 : decide (1 ≤ k) = true := by simp; omega
        have a2 : decide (k ≤ 9) = true := by simp; omega
        rw [a1, a2] at h
        simpa using h
      have dn : decide (120 < t.length) = true := decide_eq_true hn
      have dn' : decide ((120 : Int) < (t.length : Int)) = true := by simp; omega
      go_enter Try.func47, Try.ntmps47
      go_wp2
      go_ret2
      exact ⟨rfl, rfl⟩
set_option maxHeartbeats 2000000 in
set_option maxRecDepth 100000 in
theorem seal_yes (k : Nat) (t : List UInt8) (w : World) (h1 : 1 ≤ k) (h9 : k ≤ 9) (hl : t.length ≤ 120) :
    Calls Try.prog 47 #[.int .i64 k, .string ⟨t.toArray⟩] w fun e w' => e = .returned (.tuple #[.string ⟨(sealL k t).toArray⟩, .int .i64 0]) ∧ Below w.heap.size w w' := by
  have hs := Lib.hid (str_size t)
  have d1 : decide ((k : Int) < 1) = false := by simp; omega
  have d9 : decide ((9 : Int) < (k : Int)) = false := by simp; omega
  have dn : decide (120 < t.length) = false := by simp; omega
  have dn' : decide ((120 : Int) < (t.length : Int)) = false := by simp; omega
  have m1 : (k : Int) % 256 = (k : Int) := by omega
  have m2 : (t.length : Int) % 256 = (t.length : Int) := by omega
  have hsub := Lib.hid (show IntKind.i64.wrap (120 - (t.length : Int)) = ((120 - t.length : Nat) : Int) by rw [IntWalk.i64_in _ (by omega)]; omega)
  have RP := Lib.hid (fun W => repeat0 (120 - t.length) W (by omega))
  have hb0 : sealL k t = bodyL k t ++ sumT (bodyL k t) := rfl
  rw [hb0]
  have hbl := body_len (k := k) hl
  have hbd : bodyL k t = [65, 83] ++ [UInt8.ofNat k, UInt8.ofNat t.length] ++ t ++ List.replicate (120 - t.length) 0 := rfl
  have hzl : (List.replicate (120 - t.length) (0 : UInt8)).length ≤ 120 := by simp
  generalize List.replicate (120 - t.length) (0 : UInt8) = z at *
  generalize bodyL k t = bd at *
  have HBL := Lib.hid hbl
  have HBD := Lib.hid hbd
  clear hb0 hbl hbd
  have HW := Lib.hid (row_cell w [.int .u8 (k : Int), .int .u8 (t.length : Int)] 5)
  have HC := Lib.hid (fun W h0 h1 => conv2 W w.heap.size (UInt8.ofNat k) (UInt8.ofNat t.length) (k : Int) (t.length : Int) (by simp [UInt8.toNat_ofNat']; omega) (by simp [UInt8.toNat_ofNat']; omega) h0 h1)
  go_enter Try.func47, Try.ntmps47
  go_wp2_with fail
  obtain ⟨W, hW⟩ : ∃ W : World, W = w.alloc (.cells #[.int .u8 (k : Int), .int .u8 (t.length : Int)] 5) := ⟨_, rfl⟩
  rw [← hW]
  have B1 := Lib.hid (show Below w.heap.size w W by rw [hW]; exact (Below.refl _ _).alloc (Nat.le_refl _) _)
  have c0 : W.cell? ⟨w.heap.size, 0, none⟩ = some (.int .u8 (k : Int)) := by rw [hW]; exact HW.out 0
  have c1 : W.cell? ⟨w.heap.size, 1, none⟩ = some (.int .u8 (t.length : Int)) := by rw [hW]; exact HW.out 1
  have hgl : w.heap.size < W.heap.size := by rw [hW]; simp
  have C0 := Lib.hid (And.intro c0 c1)
  clear hW
  have hcv := HC.out
  have hsb := hsub.out
  have KD := Lib.hid (bd0P W)
  have KP := Lib.hid (fun (w' : World) (hb : Below W.heap.size W w') => And.intro ((bcellP hb _ 0 hgl).trans c0) ((bcellP hb _ 1 hgl).trans c1))
  have TG := Lib.hid (fun V => together_row4 [65, 83] [UInt8.ofNat k, UInt8.ofNat t.length] t z V (by simp; omega))
  rw [← HBD.out] at TG
  go_region_held3 (fun w' => w'.cell? ⟨w.heap.size, 0, none⟩ = some (.int .u8 (k : Int)) ∧ w'.cell? ⟨w.heap.size, 1, none⟩ = some (.int .u8 (t.length : Int)))
    (first | with_reducible exact KP.out _ KD.out | with_reducible exact KP.out _ K2.out | with_reducible exact KP.out _ K1.out | with_reducible exact KP.out _ (K1.out.alloc K1.out.size _))
    (first
      | (go_at_call 64; (with_reducible refine (RP.out _).mono ?_); rintro e w1 ⟨rfl, hb⟩; (have K1 := Lib.hid (KD.out.trans (hb.mono KD.out.size))); clear hb)
      | (go_at_call 63; (with_reducible refine (TG.out _).mono ?_); rintro e w2 ⟨rfl, hb⟩; (have K2 := Lib.hid (K1.out.trans (hb.mono K1.out.size))); clear hb))
  rename_i hHeld
  clear hHeld c0 c1 hcv hsb
  have SM := Lib.hid (fun V => sumText_any bd V (by rw [HBL.out]; omega))
  go_wp2_with fail
  refine (SM.out _).mono ?_
  rintro e w3 ⟨rfl, hb⟩
  have K3 := Lib.hid (K2.out.trans (hb.mono K2.out.size))
  clear hb
  have T2 := Lib.hid (fun V => together_row2 bd (sumT bd) V (by rw [HBL.out, sumT_len]; omega))
  go_wp2_with fail
  refine (T2.out _).mono ?_
  rintro e w4 ⟨rfl, hb⟩
  have K4 := Lib.hid (K3.out.trans (hb.mono K3.out.size))
  clear hb
  go_wp2
  go_ret2
  exact ⟨rfl, B1.out.trans (K4.out.mono (by omega))⟩
end Go.Proofs.Ytmgdpchjimlmeaa
