/-
  act over a closure.
-/
import Derived.Test.YtmgdpchjimlmeaaEd
namespace Go.Proofs.Ytmgdpchjimlmeaa
open Go.RowKit
set_option linter.unusedSimpArgs false
set_option linter.unusedVariables false
set_option maxHeartbeats 4000000 in
set_option maxRecDepth 100000 in
theorem act_w {B g gs : Nat} {v : Value} {S : List (List UInt8)} {C : List Wt} (caps : Array Value) (R : World → Prop) (w : World) (h : Dk B w g gs v S C) (hF : Calls Try.prog 67 caps w fun e w' => e = .returned (.tuple #[]) ∧ R w') :
    Calls Try.prog 49 #[.pointer (some ⟨g, 0, none⟩), .func (.func 67) #[] caps] w fun e w' => e = .returned (.int .i64 0) ∧ R w' := by
  have f := row_c (i := 2) h.hg rfl
  have HF := Lib.hid hF
  clear h hF
  go_enter Try.func49, Try.ntmps49
  go_wp2_with fail
  refine HF.out.mono ?_
  rintro e w' ⟨rfl, hR⟩
  have HR := Lib.hid hR
  clear hR f
  go_wp2
  go_ret
  exact ⟨rfl, HR.out⟩

set_option maxHeartbeats 4000000 in
set_option maxRecDepth 100000 in
theorem act_b {B g gs : Nat} {v : Value} {S : List (List UInt8)} {C : List Wt} (caps : Array Value) (R : World → Prop) (w : World) (h : Dk B w g gs v S C) (hF : Calls Try.prog 50 caps w fun e w' => e = .returned (.tuple #[]) ∧ R w') :
    Calls Try.prog 49 #[.pointer (some ⟨g, 0, none⟩), .func (.func 50) #[] caps] w fun e w' => e = .returned (.int .i64 0) ∧ R w' := by
  have f := row_c (i := 2) h.hg rfl
  have HF := Lib.hid hF
  clear h hF
  go_enter Try.func49, Try.ntmps49
  go_wp2_with fail
  refine HF.out.mono ?_
  rintro e w' ⟨rfl, hR⟩
  have HR := Lib.hid hR
  clear hR f
  go_wp2
  go_ret
  exact ⟨rfl, HR.out⟩
end Go.Proofs.Ytmgdpchjimlmeaa
