/-
  NARROWER THAN 'FOR EVERY INPUT', by the rows' own cells (each row's printed sentence says how): ZintReckons: laid · ZintDivides: laid · ZintBytes: laid · ZintLaws: laid · ZintBack: laid · ZintOrder: laid · ZintShifts: laid · ZintTexts: laid · ZintSmalls: laid.
  DERIVED. THE GIVEN ROWS OF THIS SEAT. 9 by the template 'for every input the law returns true; each argument reads behind the call as it read before'; 0 by the template 'total and deterministic' (their statements: YthgkdpfkaobgoaaDoorTotals.lean).
  GIVEN WITH THE SEED: the statements are not yours to turn. If you find one false, say at which input.
  Laid BY PROGRAM, IN A SANDBOX (cutbox-rows.mjs): the forced cells as the released guide's own fill.sh prints them over the translation d6ef27c48d1b4623… (all of the seat's roots in one cut). By AI agents, Wed Nov 11 2026. No macro, syntax, notation, axiom, sorry.
-/
import Derived.Test.YthgkdpfkaobgoaaDoorChecked
import GoSem.Claim
import GoSem.ClaimJoined
import GoSem.ClaimMapViews
import Derived.JoinedTies
import Derived.KernelRfl
namespace Go.Proofs.YthgkdpfkaobgoaaDoor
/- THE CELL 'sum', in the pinned program and in every row, IS THE sha256 OF THE DUMP (.gsa) THAT YthgkdpfkaobgoaaDoorProg.lean LOADS. Nothing in Lean hashes anything: it is a label: what it is worth is what the hold of that sum in a sandbox is worth. -/
noncomputable def Tryd.pinned : Pinned := { name := "ythgkdpfkaobgoaadoor", sum := "d6ef27c48d1b4623eba8679513379985d46f4363f939f3cc62ec5c1759b04867", checked := Tryd.checked }
namespace Rows
def none {H : Type} : Left H := { results := [], args := [] }

/- WHAT THE LISTED PACKAGE-LEVEL VARIABLES READ AS WHEN THE CALL BEGINS. Each datum BY PROGRAM (the guide's laid-datum.mjs) off the statement by which the dump's own 'gosem.cut.vars' lays the variable. In a bare row this is a premise. The card (YthgkdpfkaobgoaaDoorCards.lean) ties it to the program's text. -/
def laid_math_bits_deBruijn32tab {H : Type} : DataW H := .agg [.lit (.int .u8 0), .lit (.int .u8 1), .lit (.int .u8 28), .lit (.int .u8 2), .lit (.int .u8 29), .lit (.int .u8 14), .lit (.int .u8 24), .lit (.int .u8 3), .lit (.int .u8 30), .lit (.int .u8 22), .lit (.int .u8 20), .lit (.int .u8 15), .lit (.int .u8 25), .lit (.int .u8 17), .lit (.int .u8 4), .lit (.int .u8 8), .lit (.int .u8 31), .lit (.int .u8 27), .lit (.int .u8 13), .lit (.int .u8 23), .lit (.int .u8 21), .lit (.int .u8 19), .lit (.int .u8 16), .lit (.int .u8 7), .lit (.int .u8 26), .lit (.int .u8 12), .lit (.int .u8 18), .lit (.int .u8 6), .lit (.int .u8 11), .lit (.int .u8 5), .lit (.int .u8 10), .lit (.int .u8 9)]
def laid_math_bits_deBruijn64tab {H : Type} : DataW H := .agg [.lit (.int .u8 0), .lit (.int .u8 1), .lit (.int .u8 56), .lit (.int .u8 2), .lit (.int .u8 57), .lit (.int .u8 49), .lit (.int .u8 28), .lit (.int .u8 3), .lit (.int .u8 61), .lit (.int .u8 58), .lit (.int .u8 42), .lit (.int .u8 50), .lit (.int .u8 38), .lit (.int .u8 29), .lit (.int .u8 17), .lit (.int .u8 4), .lit (.int .u8 62), .lit (.int .u8 47), .lit (.int .u8 59), .lit (.int .u8 36), .lit (.int .u8 45), .lit (.int .u8 43), .lit (.int .u8 51), .lit (.int .u8 22), .lit (.int .u8 53), .lit (.int .u8 39), .lit (.int .u8 33), .lit (.int .u8 30), .lit (.int .u8 24), .lit (.int .u8 18), .lit (.int .u8 12), .lit (.int .u8 5), .lit (.int .u8 63), .lit (.int .u8 55), .lit (.int .u8 48), .lit (.int .u8 27), .lit (.int .u8 60), .lit (.int .u8 41), .lit (.int .u8 37), .lit (.int .u8 16), .lit (.int .u8 46), .lit (.int .u8 35), .lit (.int .u8 44), .lit (.int .u8 21), .lit (.int .u8 52), .lit (.int .u8 32), .lit (.int .u8 23), .lit (.int .u8 11), .lit (.int .u8 54), .lit (.int .u8 26), .lit (.int .u8 40), .lit (.int .u8 15), .lit (.int .u8 34), .lit (.int .u8 20), .lit (.int .u8 31), .lit (.int .u8 10), .lit (.int .u8 25), .lit (.int .u8 14), .lit (.int .u8 19), .lit (.int .u8 9), .lit (.int .u8 13), .lit (.int .u8 8), .lit (.int .u8 7), .lit (.int .u8 6)]
def laid_internal_strconv_uint64pow10 {H : Type} : DataW H := .agg [.lit (.int .u64 1), .lit (.int .u64 10), .lit (.int .u64 100), .lit (.int .u64 1000), .lit (.int .u64 10000), .lit (.int .u64 100000), .lit (.int .u64 1000000), .lit (.int .u64 10000000), .lit (.int .u64 100000000), .lit (.int .u64 1000000000), .lit (.int .u64 10000000000), .lit (.int .u64 100000000000), .lit (.int .u64 1000000000000), .lit (.int .u64 10000000000000), .lit (.int .u64 100000000000000), .lit (.int .u64 1000000000000000), .lit (.int .u64 10000000000000000), .lit (.int .u64 100000000000000000), .lit (.int .u64 1000000000000000000), .lit (.int .u64 10000000000000000000)]

/-- 'astrolabelaw04.ZintReckons': WHATEVER THE INPUT: true; the input reads as it did. -/
def zintReckonsSpec : ChangeSpec := { name := "zintReckons", fn := fun _ => fun
  | [d1, d2, d3] => { results := [.lit (.bool true)], args := [d1, d2, d3] }
  | _ => none }
def zintReckonsRow : OpenClaim := { program := "ythgkdpfkaobgoaadoor", sum := "d6ef27c48d1b4623eba8679513379985d46f4363f939f3cc62ec5c1759b04867", func := "astrolabe/astrolabelaw04.ZintReckons", spec := "zintReckons", inPlace := ["internal/abi.NoEscape", "internal/bytealg.MakeNoZero"], named := ["math/bits.overflowError", "internal/strconv.uint64pow10", "math/bits.deBruijn32tab", "math/bits.deBruijn64tab"], apart := false, laid := [("math/bits.deBruijn32tab", laid_math_bits_deBruijn32tab), ("math/bits.deBruijn64tab", laid_math_bits_deBruijn64tab), ("internal/strconv.uint64pow10", laid_internal_strconv_uint64pow10)] }
def ZintReckonsSaid : Prop := zintReckonsRow.holds Tryd.pinned (OpenSpec.ofChange zintReckonsSpec)

/-- ITS FALSE NEIGHBOUR: 'it returns false'. Refute it at one input. -/
def zintReckonsWrong : ChangeSpec := { name := "zintReckons", fn := fun _ => fun
  | [d1, d2, d3] => { results := [.lit (.bool false)], args := [d1, d2, d3] }
  | _ => none }
def ZintReckonsWrongFalsely : Prop := zintReckonsRow.holds Tryd.pinned (OpenSpec.ofChange zintReckonsWrong)

/-- 'astrolabelaw04.ZintDivides': WHATEVER THE INPUT: true; the input reads as it did. -/
def zintDividesSpec : ChangeSpec := { name := "zintDivides", fn := fun _ => fun
  | [d1, d2, d3] => { results := [.lit (.bool true)], args := [d1, d2, d3] }
  | _ => none }
def zintDividesRow : OpenClaim := { program := "ythgkdpfkaobgoaadoor", sum := "d6ef27c48d1b4623eba8679513379985d46f4363f939f3cc62ec5c1759b04867", func := "astrolabe/astrolabelaw04.ZintDivides", spec := "zintDivides", inPlace := ["internal/abi.NoEscape", "internal/bytealg.MakeNoZero"], named := ["math/bits.overflowError", "internal/strconv.uint64pow10", "math/bits.deBruijn32tab", "math/bits.deBruijn64tab"], apart := false, laid := [("math/bits.deBruijn32tab", laid_math_bits_deBruijn32tab), ("math/bits.deBruijn64tab", laid_math_bits_deBruijn64tab), ("internal/strconv.uint64pow10", laid_internal_strconv_uint64pow10)] }
def ZintDividesSaid : Prop := zintDividesRow.holds Tryd.pinned (OpenSpec.ofChange zintDividesSpec)

/-- ITS FALSE NEIGHBOUR: 'it returns false'. Refute it at one input. -/
def zintDividesWrong : ChangeSpec := { name := "zintDivides", fn := fun _ => fun
  | [d1, d2, d3] => { results := [.lit (.bool false)], args := [d1, d2, d3] }
  | _ => none }
def ZintDividesWrongFalsely : Prop := zintDividesRow.holds Tryd.pinned (OpenSpec.ofChange zintDividesWrong)

/-- 'astrolabelaw04.ZintBytes': WHATEVER THE INPUT: true; the input reads as it did. -/
def zintBytesSpec : ChangeSpec := { name := "zintBytes", fn := fun _ => fun
  | [d1, d2] => { results := [.lit (.bool true)], args := [d1, d2] }
  | _ => none }
def zintBytesRow : OpenClaim := { program := "ythgkdpfkaobgoaadoor", sum := "d6ef27c48d1b4623eba8679513379985d46f4363f939f3cc62ec5c1759b04867", func := "astrolabe/astrolabelaw04.ZintBytes", spec := "zintBytes", inPlace := ["internal/abi.NoEscape", "internal/bytealg.MakeNoZero"], named := ["math/bits.overflowError", "internal/strconv.uint64pow10", "math/bits.deBruijn32tab", "math/bits.deBruijn64tab"], apart := false, laid := [("math/bits.deBruijn32tab", laid_math_bits_deBruijn32tab), ("math/bits.deBruijn64tab", laid_math_bits_deBruijn64tab), ("internal/strconv.uint64pow10", laid_internal_strconv_uint64pow10)] }
def ZintBytesSaid : Prop := zintBytesRow.holds Tryd.pinned (OpenSpec.ofChange zintBytesSpec)

/-- ITS FALSE NEIGHBOUR: 'it returns false'. Refute it at one input. -/
def zintBytesWrong : ChangeSpec := { name := "zintBytes", fn := fun _ => fun
  | [d1, d2] => { results := [.lit (.bool false)], args := [d1, d2] }
  | _ => none }
def ZintBytesWrongFalsely : Prop := zintBytesRow.holds Tryd.pinned (OpenSpec.ofChange zintBytesWrong)

/-- 'astrolabelaw04.ZintLaws': WHATEVER THE INPUT: true; the input reads as it did. -/
def zintLawsSpec : ChangeSpec := { name := "zintLaws", fn := fun _ => fun
  | [d1, d2, d3] => { results := [.lit (.bool true)], args := [d1, d2, d3] }
  | _ => none }
def zintLawsRow : OpenClaim := { program := "ythgkdpfkaobgoaadoor", sum := "d6ef27c48d1b4623eba8679513379985d46f4363f939f3cc62ec5c1759b04867", func := "astrolabe/astrolabelaw04.ZintLaws", spec := "zintLaws", inPlace := ["internal/abi.NoEscape", "internal/bytealg.MakeNoZero"], named := ["math/bits.overflowError", "internal/strconv.uint64pow10", "math/bits.deBruijn32tab", "math/bits.deBruijn64tab"], apart := false, laid := [("math/bits.deBruijn32tab", laid_math_bits_deBruijn32tab), ("math/bits.deBruijn64tab", laid_math_bits_deBruijn64tab), ("internal/strconv.uint64pow10", laid_internal_strconv_uint64pow10)] }
def ZintLawsSaid : Prop := zintLawsRow.holds Tryd.pinned (OpenSpec.ofChange zintLawsSpec)

/-- ITS FALSE NEIGHBOUR: 'it returns false'. Refute it at one input. -/
def zintLawsWrong : ChangeSpec := { name := "zintLaws", fn := fun _ => fun
  | [d1, d2, d3] => { results := [.lit (.bool false)], args := [d1, d2, d3] }
  | _ => none }
def ZintLawsWrongFalsely : Prop := zintLawsRow.holds Tryd.pinned (OpenSpec.ofChange zintLawsWrong)

/-- 'astrolabelaw04.ZintBack': WHATEVER THE INPUT: true; the input reads as it did. -/
def zintBackSpec : ChangeSpec := { name := "zintBack", fn := fun _ => fun
  | [d1, d2] => { results := [.lit (.bool true)], args := [d1, d2] }
  | _ => none }
def zintBackRow : OpenClaim := { program := "ythgkdpfkaobgoaadoor", sum := "d6ef27c48d1b4623eba8679513379985d46f4363f939f3cc62ec5c1759b04867", func := "astrolabe/astrolabelaw04.ZintBack", spec := "zintBack", inPlace := ["internal/abi.NoEscape", "internal/bytealg.MakeNoZero"], named := ["math/bits.overflowError", "internal/strconv.uint64pow10", "math/bits.deBruijn32tab", "math/bits.deBruijn64tab"], apart := false, laid := [("math/bits.deBruijn32tab", laid_math_bits_deBruijn32tab), ("math/bits.deBruijn64tab", laid_math_bits_deBruijn64tab), ("internal/strconv.uint64pow10", laid_internal_strconv_uint64pow10)] }
def ZintBackSaid : Prop := zintBackRow.holds Tryd.pinned (OpenSpec.ofChange zintBackSpec)

/-- ITS FALSE NEIGHBOUR: 'it returns false'. Refute it at one input. -/
def zintBackWrong : ChangeSpec := { name := "zintBack", fn := fun _ => fun
  | [d1, d2] => { results := [.lit (.bool false)], args := [d1, d2] }
  | _ => none }
def ZintBackWrongFalsely : Prop := zintBackRow.holds Tryd.pinned (OpenSpec.ofChange zintBackWrong)

/-- 'astrolabelaw04.ZintOrder': WHATEVER THE INPUT: true; the input reads as it did. -/
def zintOrderSpec : ChangeSpec := { name := "zintOrder", fn := fun _ => fun
  | [d1, d2, d3] => { results := [.lit (.bool true)], args := [d1, d2, d3] }
  | _ => none }
def zintOrderRow : OpenClaim := { program := "ythgkdpfkaobgoaadoor", sum := "d6ef27c48d1b4623eba8679513379985d46f4363f939f3cc62ec5c1759b04867", func := "astrolabe/astrolabelaw04.ZintOrder", spec := "zintOrder", inPlace := ["internal/abi.NoEscape", "internal/bytealg.MakeNoZero"], named := ["math/bits.overflowError", "internal/strconv.uint64pow10", "math/bits.deBruijn32tab", "math/bits.deBruijn64tab"], apart := false, laid := [("math/bits.deBruijn32tab", laid_math_bits_deBruijn32tab), ("math/bits.deBruijn64tab", laid_math_bits_deBruijn64tab), ("internal/strconv.uint64pow10", laid_internal_strconv_uint64pow10)] }
def ZintOrderSaid : Prop := zintOrderRow.holds Tryd.pinned (OpenSpec.ofChange zintOrderSpec)

/-- ITS FALSE NEIGHBOUR: 'it returns false'. Refute it at one input. -/
def zintOrderWrong : ChangeSpec := { name := "zintOrder", fn := fun _ => fun
  | [d1, d2, d3] => { results := [.lit (.bool false)], args := [d1, d2, d3] }
  | _ => none }
def ZintOrderWrongFalsely : Prop := zintOrderRow.holds Tryd.pinned (OpenSpec.ofChange zintOrderWrong)

/-- 'astrolabelaw04.ZintShifts': WHATEVER THE INPUT: true; the input reads as it did. -/
def zintShiftsSpec : ChangeSpec := { name := "zintShifts", fn := fun _ => fun
  | [d1, d2, d3] => { results := [.lit (.bool true)], args := [d1, d2, d3] }
  | _ => none }
def zintShiftsRow : OpenClaim := { program := "ythgkdpfkaobgoaadoor", sum := "d6ef27c48d1b4623eba8679513379985d46f4363f939f3cc62ec5c1759b04867", func := "astrolabe/astrolabelaw04.ZintShifts", spec := "zintShifts", inPlace := ["internal/abi.NoEscape", "internal/bytealg.MakeNoZero"], named := ["math/bits.overflowError", "internal/strconv.uint64pow10", "math/bits.deBruijn32tab", "math/bits.deBruijn64tab"], apart := false, laid := [("math/bits.deBruijn32tab", laid_math_bits_deBruijn32tab), ("math/bits.deBruijn64tab", laid_math_bits_deBruijn64tab), ("internal/strconv.uint64pow10", laid_internal_strconv_uint64pow10)] }
def ZintShiftsSaid : Prop := zintShiftsRow.holds Tryd.pinned (OpenSpec.ofChange zintShiftsSpec)

/-- ITS FALSE NEIGHBOUR: 'it returns false'. Refute it at one input. -/
def zintShiftsWrong : ChangeSpec := { name := "zintShifts", fn := fun _ => fun
  | [d1, d2, d3] => { results := [.lit (.bool false)], args := [d1, d2, d3] }
  | _ => none }
def ZintShiftsWrongFalsely : Prop := zintShiftsRow.holds Tryd.pinned (OpenSpec.ofChange zintShiftsWrong)

/-- 'astrolabelaw04.ZintTexts': WHATEVER THE INPUT: true; the input reads as it did. -/
def zintTextsSpec : ChangeSpec := { name := "zintTexts", fn := fun _ => fun
  | [d1, d2, d3] => { results := [.lit (.bool true)], args := [d1, d2, d3] }
  | _ => none }
def zintTextsRow : OpenClaim := { program := "ythgkdpfkaobgoaadoor", sum := "d6ef27c48d1b4623eba8679513379985d46f4363f939f3cc62ec5c1759b04867", func := "astrolabe/astrolabelaw04.ZintTexts", spec := "zintTexts", inPlace := ["internal/abi.NoEscape", "internal/bytealg.MakeNoZero"], named := ["math/bits.overflowError", "internal/strconv.uint64pow10", "math/bits.deBruijn32tab", "math/bits.deBruijn64tab"], apart := false, laid := [("math/bits.deBruijn32tab", laid_math_bits_deBruijn32tab), ("math/bits.deBruijn64tab", laid_math_bits_deBruijn64tab), ("internal/strconv.uint64pow10", laid_internal_strconv_uint64pow10)] }
def ZintTextsSaid : Prop := zintTextsRow.holds Tryd.pinned (OpenSpec.ofChange zintTextsSpec)

/-- ITS FALSE NEIGHBOUR: 'it returns false'. Refute it at one input. -/
def zintTextsWrong : ChangeSpec := { name := "zintTexts", fn := fun _ => fun
  | [d1, d2, d3] => { results := [.lit (.bool false)], args := [d1, d2, d3] }
  | _ => none }
def ZintTextsWrongFalsely : Prop := zintTextsRow.holds Tryd.pinned (OpenSpec.ofChange zintTextsWrong)

/-- 'astrolabelaw04.ZintSmalls': WHATEVER THE INPUT: true; the input reads as it did. -/
def zintSmallsSpec : ChangeSpec := { name := "zintSmalls", fn := fun _ => fun
  | [d1, d2, d3] => { results := [.lit (.bool true)], args := [d1, d2, d3] }
  | _ => none }
def zintSmallsRow : OpenClaim := { program := "ythgkdpfkaobgoaadoor", sum := "d6ef27c48d1b4623eba8679513379985d46f4363f939f3cc62ec5c1759b04867", func := "astrolabe/astrolabelaw04.ZintSmalls", spec := "zintSmalls", inPlace := ["internal/abi.NoEscape", "internal/bytealg.MakeNoZero"], named := ["math/bits.overflowError", "internal/strconv.uint64pow10", "math/bits.deBruijn32tab", "math/bits.deBruijn64tab"], apart := false, laid := [("math/bits.deBruijn32tab", laid_math_bits_deBruijn32tab), ("math/bits.deBruijn64tab", laid_math_bits_deBruijn64tab), ("internal/strconv.uint64pow10", laid_internal_strconv_uint64pow10)] }
def ZintSmallsSaid : Prop := zintSmallsRow.holds Tryd.pinned (OpenSpec.ofChange zintSmallsSpec)

/-- ITS FALSE NEIGHBOUR: 'it returns false'. Refute it at one input. -/
def zintSmallsWrong : ChangeSpec := { name := "zintSmalls", fn := fun _ => fun
  | [d1, d2, d3] => { results := [.lit (.bool false)], args := [d1, d2, d3] }
  | _ => none }
def ZintSmallsWrongFalsely : Prop := zintSmallsRow.holds Tryd.pinned (OpenSpec.ofChange zintSmallsWrong)

/- THE SECOND FORM. 'bulk': how many values and letters a reading holds, each counted each time it is reached (what is shared counts as often as it is met; a slice's spare places count too). A statement '..UptoSaid' is the law's where the arguments, and the package variables that the reading takes, are together of bulk at most 1048576: NARROWER than '..Said'. Prove '..Said' where nothing that the law and all that it calls make is longer than what came in: it says more and counts as full. Else prove '..UptoSaid'. A law counts once. -/
mutual
def uptoBulk {H : Type} : DataW H → Nat
  | .lit (.string bytes) => bytes.length + 1
  | .lit _ => 1
  | .nil => 1
  | .ptr d => uptoBulk d + 1
  | .slice elems spare => uptoBulkAll elems + uptoBulkAll spare + 1
  | .agg parts => uptoBulkAll parts + 1
  | .iface _ d => uptoBulk d + 1
  | .map entries => uptoBulkEntries entries + 1
  | .held _ => 1
def uptoBulkAll {H : Type} : List (DataW H) → Nat
  | [] => 0
  | d :: r => uptoBulk d + uptoBulkAll r
def uptoBulkEntries {H : Type} : List (Lit × DataW H) → Nat
  | [] => 0
  | x :: r => uptoBulkEntry x + uptoBulkEntries r
def uptoBulkEntry {H : Type} : Lit × DataW H → Nat
  | (.string bytes, d) => bytes.length + uptoBulk d + 1
  | (_, d) => uptoBulk d + 1
 end
def uptoSmall : (H : Type) → List (DataW H) → Bool := fun _ ds => decide (uptoBulkAll ds ≤ 1048576)
def OpenSpec.upto (s : _root_.Go.ChangeSpec) : _root_.Go.OpenSpec := { _root_.Go.OpenSpec.ofChange s with cond := some uptoSmall }

/-- 'astrolabelaw04.ZintReckons', WHERE WHAT IT READS IS OF BULK AT MOST 1048576: true; the input reads as it did. -/
def zintReckonsUptoRow : OpenClaim := { program := "ythgkdpfkaobgoaadoor", sum := "d6ef27c48d1b4623eba8679513379985d46f4363f939f3cc62ec5c1759b04867", func := "astrolabe/astrolabelaw04.ZintReckons", spec := "zintReckons", inPlace := ["internal/abi.NoEscape", "internal/bytealg.MakeNoZero"], named := ["math/bits.overflowError", "internal/strconv.uint64pow10", "math/bits.deBruijn32tab", "math/bits.deBruijn64tab"], apart := false, laid := [("math/bits.deBruijn32tab", laid_math_bits_deBruijn32tab), ("math/bits.deBruijn64tab", laid_math_bits_deBruijn64tab), ("internal/strconv.uint64pow10", laid_internal_strconv_uint64pow10)], narrowed := true }
def ZintReckonsUptoSaid : Prop := zintReckonsUptoRow.holds Tryd.pinned (OpenSpec.upto zintReckonsSpec)

/-- 'astrolabelaw04.ZintDivides', WHERE WHAT IT READS IS OF BULK AT MOST 1048576: true; the input reads as it did. -/
def zintDividesUptoRow : OpenClaim := { program := "ythgkdpfkaobgoaadoor", sum := "d6ef27c48d1b4623eba8679513379985d46f4363f939f3cc62ec5c1759b04867", func := "astrolabe/astrolabelaw04.ZintDivides", spec := "zintDivides", inPlace := ["internal/abi.NoEscape", "internal/bytealg.MakeNoZero"], named := ["math/bits.overflowError", "internal/strconv.uint64pow10", "math/bits.deBruijn32tab", "math/bits.deBruijn64tab"], apart := false, laid := [("math/bits.deBruijn32tab", laid_math_bits_deBruijn32tab), ("math/bits.deBruijn64tab", laid_math_bits_deBruijn64tab), ("internal/strconv.uint64pow10", laid_internal_strconv_uint64pow10)], narrowed := true }
def ZintDividesUptoSaid : Prop := zintDividesUptoRow.holds Tryd.pinned (OpenSpec.upto zintDividesSpec)

/-- 'astrolabelaw04.ZintBytes', WHERE WHAT IT READS IS OF BULK AT MOST 1048576: true; the input reads as it did. -/
def zintBytesUptoRow : OpenClaim := { program := "ythgkdpfkaobgoaadoor", sum := "d6ef27c48d1b4623eba8679513379985d46f4363f939f3cc62ec5c1759b04867", func := "astrolabe/astrolabelaw04.ZintBytes", spec := "zintBytes", inPlace := ["internal/abi.NoEscape", "internal/bytealg.MakeNoZero"], named := ["math/bits.overflowError", "internal/strconv.uint64pow10", "math/bits.deBruijn32tab", "math/bits.deBruijn64tab"], apart := false, laid := [("math/bits.deBruijn32tab", laid_math_bits_deBruijn32tab), ("math/bits.deBruijn64tab", laid_math_bits_deBruijn64tab), ("internal/strconv.uint64pow10", laid_internal_strconv_uint64pow10)], narrowed := true }
def ZintBytesUptoSaid : Prop := zintBytesUptoRow.holds Tryd.pinned (OpenSpec.upto zintBytesSpec)

/-- 'astrolabelaw04.ZintLaws', WHERE WHAT IT READS IS OF BULK AT MOST 1048576: true; the input reads as it did. -/
def zintLawsUptoRow : OpenClaim := { program := "ythgkdpfkaobgoaadoor", sum := "d6ef27c48d1b4623eba8679513379985d46f4363f939f3cc62ec5c1759b04867", func := "astrolabe/astrolabelaw04.ZintLaws", spec := "zintLaws", inPlace := ["internal/abi.NoEscape", "internal/bytealg.MakeNoZero"], named := ["math/bits.overflowError", "internal/strconv.uint64pow10", "math/bits.deBruijn32tab", "math/bits.deBruijn64tab"], apart := false, laid := [("math/bits.deBruijn32tab", laid_math_bits_deBruijn32tab), ("math/bits.deBruijn64tab", laid_math_bits_deBruijn64tab), ("internal/strconv.uint64pow10", laid_internal_strconv_uint64pow10)], narrowed := true }
def ZintLawsUptoSaid : Prop := zintLawsUptoRow.holds Tryd.pinned (OpenSpec.upto zintLawsSpec)

/-- 'astrolabelaw04.ZintBack', WHERE WHAT IT READS IS OF BULK AT MOST 1048576: true; the input reads as it did. -/
def zintBackUptoRow : OpenClaim := { program := "ythgkdpfkaobgoaadoor", sum := "d6ef27c48d1b4623eba8679513379985d46f4363f939f3cc62ec5c1759b04867", func := "astrolabe/astrolabelaw04.ZintBack", spec := "zintBack", inPlace := ["internal/abi.NoEscape", "internal/bytealg.MakeNoZero"], named := ["math/bits.overflowError", "internal/strconv.uint64pow10", "math/bits.deBruijn32tab", "math/bits.deBruijn64tab"], apart := false, laid := [("math/bits.deBruijn32tab", laid_math_bits_deBruijn32tab), ("math/bits.deBruijn64tab", laid_math_bits_deBruijn64tab), ("internal/strconv.uint64pow10", laid_internal_strconv_uint64pow10)], narrowed := true }
def ZintBackUptoSaid : Prop := zintBackUptoRow.holds Tryd.pinned (OpenSpec.upto zintBackSpec)

/-- 'astrolabelaw04.ZintOrder', WHERE WHAT IT READS IS OF BULK AT MOST 1048576: true; the input reads as it did. -/
def zintOrderUptoRow : OpenClaim := { program := "ythgkdpfkaobgoaadoor", sum := "d6ef27c48d1b4623eba8679513379985d46f4363f939f3cc62ec5c1759b04867", func := "astrolabe/astrolabelaw04.ZintOrder", spec := "zintOrder", inPlace := ["internal/abi.NoEscape", "internal/bytealg.MakeNoZero"], named := ["math/bits.overflowError", "internal/strconv.uint64pow10", "math/bits.deBruijn32tab", "math/bits.deBruijn64tab"], apart := false, laid := [("math/bits.deBruijn32tab", laid_math_bits_deBruijn32tab), ("math/bits.deBruijn64tab", laid_math_bits_deBruijn64tab), ("internal/strconv.uint64pow10", laid_internal_strconv_uint64pow10)], narrowed := true }
def ZintOrderUptoSaid : Prop := zintOrderUptoRow.holds Tryd.pinned (OpenSpec.upto zintOrderSpec)

/-- 'astrolabelaw04.ZintShifts', WHERE WHAT IT READS IS OF BULK AT MOST 1048576: true; the input reads as it did. -/
def zintShiftsUptoRow : OpenClaim := { program := "ythgkdpfkaobgoaadoor", sum := "d6ef27c48d1b4623eba8679513379985d46f4363f939f3cc62ec5c1759b04867", func := "astrolabe/astrolabelaw04.ZintShifts", spec := "zintShifts", inPlace := ["internal/abi.NoEscape", "internal/bytealg.MakeNoZero"], named := ["math/bits.overflowError", "internal/strconv.uint64pow10", "math/bits.deBruijn32tab", "math/bits.deBruijn64tab"], apart := false, laid := [("math/bits.deBruijn32tab", laid_math_bits_deBruijn32tab), ("math/bits.deBruijn64tab", laid_math_bits_deBruijn64tab), ("internal/strconv.uint64pow10", laid_internal_strconv_uint64pow10)], narrowed := true }
def ZintShiftsUptoSaid : Prop := zintShiftsUptoRow.holds Tryd.pinned (OpenSpec.upto zintShiftsSpec)

/-- 'astrolabelaw04.ZintTexts', WHERE WHAT IT READS IS OF BULK AT MOST 1048576: true; the input reads as it did. -/
def zintTextsUptoRow : OpenClaim := { program := "ythgkdpfkaobgoaadoor", sum := "d6ef27c48d1b4623eba8679513379985d46f4363f939f3cc62ec5c1759b04867", func := "astrolabe/astrolabelaw04.ZintTexts", spec := "zintTexts", inPlace := ["internal/abi.NoEscape", "internal/bytealg.MakeNoZero"], named := ["math/bits.overflowError", "internal/strconv.uint64pow10", "math/bits.deBruijn32tab", "math/bits.deBruijn64tab"], apart := false, laid := [("math/bits.deBruijn32tab", laid_math_bits_deBruijn32tab), ("math/bits.deBruijn64tab", laid_math_bits_deBruijn64tab), ("internal/strconv.uint64pow10", laid_internal_strconv_uint64pow10)], narrowed := true }
def ZintTextsUptoSaid : Prop := zintTextsUptoRow.holds Tryd.pinned (OpenSpec.upto zintTextsSpec)

/-- 'astrolabelaw04.ZintSmalls', WHERE WHAT IT READS IS OF BULK AT MOST 1048576: true; the input reads as it did. -/
def zintSmallsUptoRow : OpenClaim := { program := "ythgkdpfkaobgoaadoor", sum := "d6ef27c48d1b4623eba8679513379985d46f4363f939f3cc62ec5c1759b04867", func := "astrolabe/astrolabelaw04.ZintSmalls", spec := "zintSmalls", inPlace := ["internal/abi.NoEscape", "internal/bytealg.MakeNoZero"], named := ["math/bits.overflowError", "internal/strconv.uint64pow10", "math/bits.deBruijn32tab", "math/bits.deBruijn64tab"], apart := false, laid := [("math/bits.deBruijn32tab", laid_math_bits_deBruijn32tab), ("math/bits.deBruijn64tab", laid_math_bits_deBruijn64tab), ("internal/strconv.uint64pow10", laid_internal_strconv_uint64pow10)], narrowed := true }
def ZintSmallsUptoSaid : Prop := zintSmallsUptoRow.holds Tryd.pinned (OpenSpec.upto zintSmallsSpec)

end Rows
end Go.Proofs.YthgkdpfkaobgoaaDoor
