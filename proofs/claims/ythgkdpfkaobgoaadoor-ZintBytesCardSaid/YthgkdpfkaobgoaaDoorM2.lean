import Derived.Shelf.Strings.Builder1
import Derived.Shelf.Strings.Builder2
import Derived.Shelf.Strings.OnBuilder
import Derived.Shelf.Small.Bits
import Derived.Shelf.Strings.BuilderF
import Derived.Shelf.Strings.BuilderK
import Derived.Shelf.Strings.Builder2Cap
import Derived.Shelf.Strconv.Itoa0
import Derived.Shelf.Strconv.Itoa1
import Derived.Shelf.LaysM
import Derived.Shelf.Strconv.Itoa2
import Derived.Shelf.Strings.Prefix
import Derived.Shelf.Bits.Mul64
import Derived.Shelf.Strings.Repeat
import Derived.Shelf.Strings.BuilderCap
import Derived.Ground.Names2Prog
import Derived.Shelf.Slices.ReverseS
import Derived.Shelf.Slices.Cells
import Derived.Test.YthgkdpfkaobgoaaDoorProg
import Derived.Test.YthgkdpfkaobgoaaDoorM0
import Derived.Deep.RegionHeld3
import Derived.BigRegion
import Derived.Test.YthgkdpfkaobgoaaDoorM1
import Derived.Orders
import Derived.Laws.Rows
import Derived.Laws.IdiomStrings
import Derived.Lib.Slices
import Derived.Laws.OwnMore
section
/-
  DERIVED: THE SHELF's CONTRACTS AT THIS DUMP, IN PLAIN WORDS (tools/lay-plain.mjs out of the shelf's text): THE SAME DECLARATIONS UNDER THE SAME NAMES: 'import', 'namespace', 'open', 'def', 'theorem' AND NOTHING ELSE: no command of the shelf's: FOR A HAND-IN. Each laying: the table of numbers ('.._ren') and one theorem, a field a fact of the dump's own or the kernel's comparison; each contract: ONE APPLICATION.
-/
namespace Go.Proofs
open Go.Shelf
def Tryd.lays170_ren : Go.Shelf.Ren := ⟨fun | 170 => 91 | n => n, fun | 70 => 99 | 3 => 3 | 0 => 0 | 72 => 101 | 37 => 81 | 5 => 5 | n => n, fun | n => n⟩
theorem Tryd.lays170 : Go.Proofs.Lays.n170 Tryd.prog Tryd.lays170_ren := {
  mixed := by kernel_rfl
  f170 := Tryd.func91.trans (congrArg some (by kernel_rfl))
  t0 := Tryd.underlying0
  a0 := Tryd.isAgg0
  z0 := Tryd.sizeOf0
  v0 := Tryd.zeroValue0
  t3 := Tryd.underlying3
  a3 := Tryd.isAgg3
  z3 := Tryd.sizeOf3
  v3 := Tryd.zeroValue3
  t37 := Tryd.underlying81
  a37 := Tryd.isAgg81
  z37 := Tryd.sizeOf81
  v37 := Tryd.zeroValue81
  t70 := Tryd.underlying99
  a70 := Tryd.isAgg99
  z70 := Tryd.sizeOf99
  v70 := Tryd.zeroValue99
  t72 := Tryd.underlying101
  a72 := Tryd.isAgg101
  z72 := Tryd.sizeOf101
  v72 := Tryd.zeroValue101 }
open Go.RowKit in
/-- (*strings.Builder).Len: "Len returns the number of accumulated bytes; b.Len() == len(b.String()).": the world is as it was. (LAID: no walk: one application.) -/
theorem Tryd.Builder_Len (B b : Nat) (bs : List Value) (w : World) (h : Lib.IsBuilder 101 5 B b bs w) :
    Calls Tryd.prog 91 #[.pointer (some ⟨b, 0, none⟩)] w fun e w' => e = .returned (.int .i64 bs.length) ∧ w' = w := Any.Builder_Len Tryd.lays170 B b bs w h
def Tryd.lays169_ren : Go.Shelf.Ren := ⟨fun | 169 => 92 | n => n, fun | 70 => 99 | 9 => 9 | 0 => 0 | 72 => 101 | 37 => 81 | 127 => 124 | 3 => 3 | 5 => 5 | n => n, fun | n => n⟩
theorem Tryd.lays169 : Go.Proofs.Lays.n169 Tryd.prog Tryd.lays169_ren := {
  mixed := by kernel_rfl
  f169 := Tryd.func92.trans (congrArg some (by kernel_rfl))
  t0 := Tryd.underlying0
  a0 := Tryd.isAgg0
  z0 := Tryd.sizeOf0
  v0 := Tryd.zeroValue0
  t3 := Tryd.underlying3
  a3 := Tryd.isAgg3
  z3 := Tryd.sizeOf3
  v3 := Tryd.zeroValue3
  t9 := Tryd.underlying9
  a9 := Tryd.isAgg9
  z9 := Tryd.sizeOf9
  v9 := Tryd.zeroValue9
  t37 := Tryd.underlying81
  a37 := Tryd.isAgg81
  z37 := Tryd.sizeOf81
  v37 := Tryd.zeroValue81
  t70 := Tryd.underlying99
  a70 := Tryd.isAgg99
  z70 := Tryd.sizeOf99
  v70 := Tryd.zeroValue99
  t72 := Tryd.underlying101
  a72 := Tryd.isAgg101
  z72 := Tryd.sizeOf101
  v72 := Tryd.zeroValue101
  t127 := Tryd.underlying124
  a127 := Tryd.isAgg124
  z127 := Tryd.sizeOf124
  v127 := Tryd.zeroValue124 }
theorem Tryd.Builder_Extra_169 : Builder.Extra Tryd.prog Tryd.lays169_ren := {
  sizeBuilder := by kernel_rfl
  liesBuilder := by kernel_rfl
  t5 := Tryd.underlying5
  a5 := Tryd.isAgg5
  z5 := Tryd.sizeOf5
  v5 := Tryd.zeroValue5
  infoByte := by kernel_rfl
  cellsByte := by kernel_rfl
  sizeByte := by kernel_rfl
  neB5 := by decide }
open Go.RowKit in
/-- (*strings.Builder).String: "String returns the accumulated string.": OF A BUILDER THAT HOLDS AT LEAST ONE BYTE. ✋ THE MODEL FREEZES THOSE BYTES IN THE BUFFER (unsafe.String): a later write INTO them ends the model's run without an answer; a later append BEHIND them goes on. The statement's order of evaluation is drawn: one draw. (LAID: no walk: one application.) -/
theorem Tryd.Builder_String (B b : Nat) (l : List UInt8) (w : World) (h : Lib.IsBuilder 101 5 B b (Lib.byteCells l) w) (h0 : l ≠ []) :
    Calls Tryd.prog 92 #[.pointer (some ⟨b, 0, none⟩)] w fun e w' => e = .returned (.string ⟨l.toArray⟩) ∧ Below B w w' := Any.Builder_String Tryd.lays169 Tryd.Builder_Extra_169 B b l w h h0
open Go.RowKit in
/-- (*strings.Builder).String OF A BUILDER THAT HOLDS NO BYTE: the empty string. (Its buffer is nil, or a row of which it has taken nothing yet; where that row has NO capacity the model lays one new block for unsafe.SliceData's 'some address'.) One draw. (LAID: no walk: one application.) -/
theorem Tryd.Builder_String_empty (B b : Nat) (w : World) (h : Lib.IsBuilder 101 5 B b [] w) (hBw : B ≤ w.heap.size) :
    Calls Tryd.prog 92 #[.pointer (some ⟨b, 0, none⟩)] w fun e w' => e = .returned (.string ⟨#[]⟩) ∧ Below B w w' := Any.Builder_String_empty Tryd.lays169 Tryd.Builder_Extra_169 B b w h hBw
open Go.RowKit in
/-- (*strings.Builder).String: "String returns the accumulated string.": WHATEVER THE BUILDER HOLDS. (LAID: no walk: one application.) -/
theorem Tryd.Builder_String_any (B b : Nat) (l : List UInt8) (w : World) (h : Lib.IsBuilder 101 5 B b (Lib.byteCells l) w) (hBw : B ≤ w.heap.size) :
    Calls Tryd.prog 92 #[.pointer (some ⟨b, 0, none⟩)] w fun e w' => e = .returned (.string ⟨l.toArray⟩) ∧ Below B w w' := Any.Builder_String_any Tryd.lays169 Tryd.Builder_Extra_169 B b l w h hBw
def Tryd.lays241_ren : Go.Shelf.Ren := ⟨fun | 241 => 110 | 277 => 119 | n => n, fun | 70 => 99 | 3 => 3 | 0 => 0 | 72 => 101 | 37 => 81 | 5 => 5 | n => n, fun | n => n⟩
theorem Tryd.lays241 : Go.Proofs.Lays.n241 Tryd.prog Tryd.lays241_ren := {
  mixed := by kernel_rfl
  f241 := Tryd.func110.trans (congrArg some (by kernel_rfl))
  f277 := Tryd.func119.trans (congrArg some (by kernel_rfl))
  t0 := Tryd.underlying0
  a0 := Tryd.isAgg0
  z0 := Tryd.sizeOf0
  v0 := Tryd.zeroValue0
  t3 := Tryd.underlying3
  a3 := Tryd.isAgg3
  z3 := Tryd.sizeOf3
  v3 := Tryd.zeroValue3
  t37 := Tryd.underlying81
  a37 := Tryd.isAgg81
  z37 := Tryd.sizeOf81
  v37 := Tryd.zeroValue81
  t70 := Tryd.underlying99
  a70 := Tryd.isAgg99
  z70 := Tryd.sizeOf99
  v70 := Tryd.zeroValue99
  t72 := Tryd.underlying101
  a72 := Tryd.isAgg101
  z72 := Tryd.sizeOf101
  v72 := Tryd.zeroValue101 }
theorem Tryd.Builder_Extra_241 : Builder.Extra Tryd.prog Tryd.lays241_ren := {
  sizeBuilder := by kernel_rfl
  liesBuilder := by kernel_rfl
  t5 := Tryd.underlying5
  a5 := Tryd.isAgg5
  z5 := Tryd.sizeOf5
  v5 := Tryd.zeroValue5
  infoByte := by kernel_rfl
  cellsByte := by kernel_rfl
  sizeByte := by kernel_rfl
  neB5 := by decide }
open Go.RowKit in
/-- (*strings.Builder).grow (no doc but "grow copies the buffer to a new, larger buffer so that there are at least n bytes of capacity beyond len(b.buf)."): AT A BUILDER WITHOUT A BUFFER: a new row of whatever bytes for its buffer, none of them its own yet. Three draws. (LAID: no walk: one application.) -/
theorem Tryd.Builder_grow_fresh (B b n : Nat) (w : World) (hB : B ≤ b) (hbk : w.heap[b]? = some (.cells #[.pointer (some ⟨b, 0, none⟩), .slice none 0 0] 101 (0, 0))) (hBw : B ≤ w.heap.size) (hn : n ≤ 281474976710656) :
    Calls Tryd.prog 110 #[.pointer (some ⟨b, 0, none⟩), .int .i64 n] w fun e w' => e = .returned (.tuple #[]) ∧ (Lib.BuilderAt 101 5 B b (.pointer (some ⟨b, 0, none⟩)) [] w' ∧ Below B w w') := Any.Builder_grow_fresh Tryd.lays241 Tryd.Builder_Extra_241 B b n w hB hbk hBw hn
def Tryd.lays165_ren : Go.Shelf.Ren := ⟨fun | 165 => 89 | 240 => 109 | 241 => 110 | 276 => 118 | 277 => 119 | n => n, fun | 70 => 99 | 3 => 3 | 0 => 0 | 4 => 4 | 9 => 9 | 20 => 20 | 72 => 101 | 37 => 81 | 164 => 131 | 5 => 5 | n => n, fun | n => n⟩
theorem Tryd.lays165 : Go.Proofs.Lays.n165 Tryd.prog Tryd.lays165_ren := {
  mixed := by kernel_rfl
  f165 := Tryd.func89.trans (congrArg some (by kernel_rfl))
  f240 := Tryd.func109.trans (congrArg some (by kernel_rfl))
  f241 := Tryd.func110.trans (congrArg some (by kernel_rfl))
  f276 := Tryd.func118.trans (congrArg some (by kernel_rfl))
  f277 := Tryd.func119.trans (congrArg some (by kernel_rfl))
  t0 := Tryd.underlying0
  a0 := Tryd.isAgg0
  z0 := Tryd.sizeOf0
  v0 := Tryd.zeroValue0
  t3 := Tryd.underlying3
  a3 := Tryd.isAgg3
  z3 := Tryd.sizeOf3
  v3 := Tryd.zeroValue3
  t4 := Tryd.underlying4
  a4 := Tryd.isAgg4
  z4 := Tryd.sizeOf4
  v4 := Tryd.zeroValue4
  t9 := Tryd.underlying9
  a9 := Tryd.isAgg9
  z9 := Tryd.sizeOf9
  v9 := Tryd.zeroValue9
  t20 := Tryd.underlying20
  a20 := Tryd.isAgg20
  z20 := Tryd.sizeOf20
  v20 := Tryd.zeroValue20
  t37 := Tryd.underlying81
  a37 := Tryd.isAgg81
  z37 := Tryd.sizeOf81
  v37 := Tryd.zeroValue81
  t70 := Tryd.underlying99
  a70 := Tryd.isAgg99
  z70 := Tryd.sizeOf99
  v70 := Tryd.zeroValue99
  t72 := Tryd.underlying101
  a72 := Tryd.isAgg101
  z72 := Tryd.sizeOf101
  v72 := Tryd.zeroValue101
  t164 := Tryd.underlying131
  a164 := Tryd.isAgg131
  z164 := Tryd.sizeOf131
  v164 := Tryd.zeroValue131 }
theorem Tryd.Builder_Extra_165 : Builder.Extra Tryd.prog Tryd.lays165_ren := {
  sizeBuilder := by kernel_rfl
  liesBuilder := by kernel_rfl
  t5 := Tryd.underlying5
  a5 := Tryd.isAgg5
  z5 := Tryd.sizeOf5
  v5 := Tryd.zeroValue5
  infoByte := by kernel_rfl
  cellsByte := by kernel_rfl
  sizeByte := by kernel_rfl
  neB5 := by decide }
open Go.RowKit in
/-- (*strings.Builder).Grow AT A BUILDER THAT HAS NOT BEEN WRITTEN ('var b strings.Builder; b.Grow(n)'): "Grow grows b's capacity, if necessary, to guarantee space for another n bytes.": it holds no byte behind it as before it. (LAID: no walk: one application.) -/
theorem Tryd.Builder_Grow_fresh (B b n : Nat) (w : World) (hB : B ≤ b) (hbk : w.heap[b]? = some (.cells #[.pointer none, .slice none 0 0] 101 (0, 0))) (hBw : B ≤ w.heap.size) (hn : n ≤ 281474976710656) :
    Calls Tryd.prog 89 #[.pointer (some ⟨b, 0, none⟩), .int .i64 n] w fun e w' => e = .returned (.tuple #[]) ∧ (Lib.BuilderAt 101 5 B b (.pointer (some ⟨b, 0, none⟩)) [] w' ∧ Below B w w') := Any.Builder_Grow_fresh Tryd.lays165 Tryd.Builder_Extra_165 B b n w hB hbk hBw hn
def Tryd.lays156_ren : Go.Shelf.Ren := ⟨fun | 156 => 73 | 165 => 89 | 166 => 90 | 169 => 92 | 240 => 109 | 241 => 110 | 276 => 118 | 277 => 119 | n => n, fun | 31 => 84 | 9 => 9 | 3 => 3 | 4 => 4 | 0 => 0 | 20 => 20 | 72 => 101 | 76 => 105 | 70 => 99 | 37 => 81 | 75 => 104 | 127 => 124 | 164 => 131 | 5 => 5 | 80 => 107 | n => n, fun | n => n⟩
theorem Tryd.lays156 : Go.Proofs.Lays.n156 Tryd.prog Tryd.lays156_ren := {
  mixed := by kernel_rfl
  f156 := Tryd.func73.trans (congrArg some (by kernel_rfl))
  f165 := Tryd.func89.trans (congrArg some (by kernel_rfl))
  f166 := Tryd.func90.trans (congrArg some (by kernel_rfl))
  f169 := Tryd.func92.trans (congrArg some (by kernel_rfl))
  f240 := Tryd.func109.trans (congrArg some (by kernel_rfl))
  f241 := Tryd.func110.trans (congrArg some (by kernel_rfl))
  f276 := Tryd.func118.trans (congrArg some (by kernel_rfl))
  f277 := Tryd.func119.trans (congrArg some (by kernel_rfl))
  t0 := Tryd.underlying0
  a0 := Tryd.isAgg0
  z0 := Tryd.sizeOf0
  v0 := Tryd.zeroValue0
  t3 := Tryd.underlying3
  a3 := Tryd.isAgg3
  z3 := Tryd.sizeOf3
  v3 := Tryd.zeroValue3
  t4 := Tryd.underlying4
  a4 := Tryd.isAgg4
  z4 := Tryd.sizeOf4
  v4 := Tryd.zeroValue4
  t9 := Tryd.underlying9
  a9 := Tryd.isAgg9
  z9 := Tryd.sizeOf9
  v9 := Tryd.zeroValue9
  t20 := Tryd.underlying20
  a20 := Tryd.isAgg20
  z20 := Tryd.sizeOf20
  v20 := Tryd.zeroValue20
  t31 := Tryd.underlying84
  a31 := Tryd.isAgg84
  z31 := Tryd.sizeOf84
  v31 := Tryd.zeroValue84
  t37 := Tryd.underlying81
  a37 := Tryd.isAgg81
  z37 := Tryd.sizeOf81
  v37 := Tryd.zeroValue81
  t70 := Tryd.underlying99
  a70 := Tryd.isAgg99
  z70 := Tryd.sizeOf99
  v70 := Tryd.zeroValue99
  t72 := Tryd.underlying101
  a72 := Tryd.isAgg101
  z72 := Tryd.sizeOf101
  v72 := Tryd.zeroValue101
  t75 := Tryd.underlying104
  a75 := Tryd.isAgg104
  z75 := Tryd.sizeOf104
  v75 := Tryd.zeroValue104
  t76 := Tryd.underlying105
  a76 := Tryd.isAgg105
  z76 := Tryd.sizeOf105
  v76 := Tryd.zeroValue105
  t127 := Tryd.underlying124
  a127 := Tryd.isAgg124
  z127 := Tryd.sizeOf124
  v127 := Tryd.zeroValue124
  t164 := Tryd.underlying131
  a164 := Tryd.isAgg131
  z164 := Tryd.sizeOf131
  v164 := Tryd.zeroValue131 }
theorem Tryd.Builder_Extra_156 : Builder.Extra Tryd.prog Tryd.lays156_ren := {
  sizeBuilder := by kernel_rfl
  liesBuilder := by kernel_rfl
  t5 := Tryd.underlying5
  a5 := Tryd.isAgg5
  z5 := Tryd.sizeOf5
  v5 := Tryd.zeroValue5
  infoByte := by kernel_rfl
  cellsByte := by kernel_rfl
  sizeByte := by kernel_rfl
  neB5 := by decide }
open Go.RowKit in
/-- No element: the empty string; the world is as it was. (Whatever the slice's address and capacity: a nil slice too.) (LAID: no walk: one application.) -/
theorem Tryd.strings_Join_none (a : Option Addr) (c : Nat) (sep : ByteArray) (w : World) :
    Calls Tryd.prog 73 #[.slice a 0 c, .string sep] w fun e w' => e = .returned (.string ⟨#[]⟩) ∧ w' = w := Any.strings_Join_none Tryd.lays156 Tryd.Builder_Extra_156 a c sep w
open Go.RowKit in
/-- strings.Join: "Join concatenates the elements of its first argument to create a single string. The separator string sep is placed between elements in the resulting string.": HOWEVER MANY ELEMENTS. Below the heap's end the world is as it was. (LAID: no walk: one application.) -/
theorem Tryd.strings_Join (bk o c : Nat) (xs : List ByteArray) (sep : ByteArray) (w : World) (hcells : ∀ (j : Nat) x, xs[j]? = some x → w.cell? ⟨bk, o + j, none⟩ = some (.string x)) (hbk : bk < w.heap.size) (hN : xs.length ≤ 140737488355328) (hcap : xs.length ≤ c) (hlen : (Lib.join (xs.map (·.data.toList)) sep.data.toList).length ≤ 140737488355328) :
    Calls Tryd.prog 73 #[.slice (some ⟨bk, o, none⟩) xs.length c, .string sep] w fun e w' => e = .returned (.string ⟨(Lib.join (xs.map (·.data.toList)) sep.data.toList).toArray⟩) ∧ Below w.heap.size w w' := Any.strings_Join Tryd.lays156 Tryd.Builder_Extra_156 bk o c xs sep w hcells hbk hN hcap hlen
def Tryd.lays128_ren : Go.Shelf.Ren := ⟨fun | 128 => 112 | n => n, fun | 51 => 75 | 3 => 3 | 4 => 4 | 46 => 82 | 5 => 5 | 9 => 9 | n => n, fun | n => n⟩
theorem Tryd.lays128 : Go.Proofs.Lays.n128 Tryd.prog Tryd.lays128_ren := {
  mixed := by kernel_rfl
  f128 := Tryd.func112.trans (congrArg some (by kernel_rfl))
  t3 := Tryd.underlying3
  a3 := Tryd.isAgg3
  z3 := Tryd.sizeOf3
  v3 := Tryd.zeroValue3
  t4 := Tryd.underlying4
  a4 := Tryd.isAgg4
  z4 := Tryd.sizeOf4
  v4 := Tryd.zeroValue4
  t5 := Tryd.underlying5
  a5 := Tryd.isAgg5
  z5 := Tryd.sizeOf5
  v5 := Tryd.zeroValue5
  t9 := Tryd.underlying9
  a9 := Tryd.isAgg9
  z9 := Tryd.sizeOf9
  v9 := Tryd.zeroValue9
  t46 := Tryd.underlying82
  a46 := Tryd.isAgg82
  z46 := Tryd.sizeOf82
  v46 := Tryd.zeroValue82
  t51 := Tryd.underlying75
  a51 := Tryd.isAgg75
  z51 := Tryd.sizeOf75
  v51 := Tryd.zeroValue75 }
/-- bits.Len32: "Len32 returns the minimum number of bits required to represent x; the result is 0 for x == 0.": IT RETURNS 'Lib.bitLen x'; the world is as it was. ('h0', 'h1': x is a uint32.) (LAID: no walk: one application.) -/
theorem Tryd.bits_Len32 (x : Int) (w : World) (h0 : 0 ≤ x) (h1 : x ≤ 4294967295) :
    Calls Tryd.prog 112 #[.int .u32 x] w fun e w' => e = .returned (.int .i64 (Lib.bitLen x.toNat)) ∧ w' = w := Any.bits_Len32 Tryd.lays128 x w h0 h1
open Go.RowKit in
/-- (*strings.Builder).Len: "Len returns the number of accumulated bytes; b.Len() == len(b.String()).": the world is as it was. (THE FORM '_f': 'Lib.IsBuilderF'.) (LAID: no walk: one application.) -/
theorem Tryd.Builder_Len_f (B b : Nat) (bs : List Value) (w : World) (h : Lib.IsBuilderF 101 5 B b bs w) :
    Calls Tryd.prog 91 #[.pointer (some ⟨b, 0, none⟩)] w fun e w' => e = .returned (.int .i64 bs.length) ∧ w' = w := Any.Builder_Len_f Tryd.lays170 B b bs w h
open Go.RowKit in
/-- (*strings.Builder).String: "String returns the accumulated string.": OF A BUILDER THAT HOLDS AT LEAST ONE BYTE. ✋ THE MODEL FREEZES THOSE BYTES IN THE BUFFER (unsafe.String): a later write INTO them ends the model's run without an answer; a later append BEHIND them goes on. The statement's order of evaluation is drawn: one draw. THE FORM '_f': IT SAYS BESIDES THAT THE BUILDER IS A BUILDER STILL ('Lib.IsBuilderF', the same bytes): SO IT CAN BE WRITTEN ON: 'b.WriteString(b.String()[:k])'. (LAID: no walk: one application.) -/
theorem Tryd.Builder_String_f (B b : Nat) (l : List UInt8) (w : World) (h : Lib.IsBuilderF 101 5 B b (Lib.byteCells l) w) (h0 : l ≠ []) :
    Calls Tryd.prog 92 #[.pointer (some ⟨b, 0, none⟩)] w fun e w' => e = .returned (.string ⟨l.toArray⟩) ∧ (Lib.IsBuilderF 101 5 B b (Lib.byteCells l) w' ∧ Below B w w') := Any.Builder_String_f Tryd.lays169 Tryd.Builder_Extra_169 B b l w h h0
open Go.RowKit in
/-- (*strings.Builder).String OF A BUILDER THAT HOLDS NO BYTE: the empty string; THE FORM '_f': a builder still. (LAID: no walk: one application.) -/
theorem Tryd.Builder_String_empty_f (B b : Nat) (w : World) (h : Lib.IsBuilderF 101 5 B b [] w) (hBw : B ≤ w.heap.size) :
    Calls Tryd.prog 92 #[.pointer (some ⟨b, 0, none⟩)] w fun e w' => e = .returned (.string ⟨#[]⟩) ∧ (Lib.IsBuilderF 101 5 B b [] w' ∧ Below B w w') := Any.Builder_String_empty_f Tryd.lays169 Tryd.Builder_Extra_169 B b w h hBw
open Go.RowKit in
/-- (*strings.Builder).String: "String returns the accumulated string.": WHATEVER THE BUILDER HOLDS; THE FORM '_f': OF A BUILDER THAT MAY HAVE BEEN READ BEFORE; AND IT IS A BUILDER STILL, holding the same bytes: it can be written on. (LAID: no walk: one application.) -/
theorem Tryd.Builder_String_any_f (B b : Nat) (l : List UInt8) (w : World) (h : Lib.IsBuilderF 101 5 B b (Lib.byteCells l) w) (hBw : B ≤ w.heap.size) :
    Calls Tryd.prog 92 #[.pointer (some ⟨b, 0, none⟩)] w fun e w' => e = .returned (.string ⟨l.toArray⟩) ∧ (Lib.IsBuilderF 101 5 B b (Lib.byteCells l) w' ∧ Below B w w') := Any.Builder_String_any_f Tryd.lays169 Tryd.Builder_Extra_169 B b l w h hBw
open Go.RowKit in
/-- (*strings.Builder).String: "String returns the accumulated string.": OF A BUILDER THAT HOLDS AT LEAST ONE BYTE. ✋ THE MODEL FREEZES THOSE BYTES IN THE BUFFER (unsafe.String): a later write INTO them ends the model's run without an answer; a later append BEHIND them goes on. The statement's order of evaluation is drawn: one draw. THE FORM '_k': OVER 'Lib.IsBuilderF' (a builder that 'String()' may have read), AND WITH THE FRAME THAT REACHES ABOVE THE BUILDER: 'Lib.OthersKept': every block that is not b and is no row of uint8's stands as it stood: the iterator of a range among them. (LAID: no walk: one application.) -/
theorem Tryd.Builder_String_k (B b : Nat) (l : List UInt8) (w : World) (h : Lib.IsBuilderF 101 5 B b (Lib.byteCells l) w) (h0 : l ≠ []) :
    Calls Tryd.prog 92 #[.pointer (some ⟨b, 0, none⟩)] w fun e w' => e = .returned (.string ⟨l.toArray⟩) ∧ (Lib.IsBuilderF 101 5 B b (Lib.byteCells l) w' ∧ Below B w w' ∧ Lib.OthersKept 5 (some b) w w') := Any.Builder_String_k Tryd.lays169 Tryd.Builder_Extra_169 B b l w h h0
open Go.RowKit in
/-- (*strings.Builder).String OF A BUILDER THAT HOLDS NO BYTE: the empty string; THE FORM '_k': OVER 'Lib.IsBuilderF' (a builder that 'String()' may have read), AND WITH THE FRAME THAT REACHES ABOVE THE BUILDER: 'Lib.OthersKept': every block that is not b and is no row of uint8's stands as it stood: the iterator of a range among them. (LAID: no walk: one application.) -/
theorem Tryd.Builder_String_empty_k (B b : Nat) (w : World) (h : Lib.IsBuilderF 101 5 B b [] w) (hBw : B ≤ w.heap.size) :
    Calls Tryd.prog 92 #[.pointer (some ⟨b, 0, none⟩)] w fun e w' => e = .returned (.string ⟨#[]⟩) ∧ (Lib.IsBuilderF 101 5 B b [] w' ∧ Below B w w' ∧ Lib.OthersKept 5 (some b) w w') := Any.Builder_String_empty_k Tryd.lays169 Tryd.Builder_Extra_169 B b w h hBw
open Go.RowKit in
/-- (*strings.Builder).String: "String returns the accumulated string.": WHATEVER THE BUILDER HOLDS; THE FORM '_k': OVER 'Lib.IsBuilderF' (a builder that 'String()' may have read), AND WITH THE FRAME THAT REACHES ABOVE THE BUILDER: 'Lib.OthersKept': every block that is not b and is no row of uint8's stands as it stood: the iterator of a range among them. (LAID: no walk: one application.) -/
theorem Tryd.Builder_String_any_k (B b : Nat) (l : List UInt8) (w : World) (h : Lib.IsBuilderF 101 5 B b (Lib.byteCells l) w) (hBw : B ≤ w.heap.size) :
    Calls Tryd.prog 92 #[.pointer (some ⟨b, 0, none⟩)] w fun e w' => e = .returned (.string ⟨l.toArray⟩) ∧ (Lib.IsBuilderF 101 5 B b (Lib.byteCells l) w' ∧ Below B w w' ∧ Lib.OthersKept 5 (some b) w w') := Any.Builder_String_any_k Tryd.lays169 Tryd.Builder_Extra_169 B b l w h hBw
open Go.RowKit in
/-- (*strings.Builder).grow (no doc but "grow copies the buffer to a new, larger buffer so that there are at least n bytes of capacity beyond len(b.buf)."): AT A BUILDER WITHOUT A BUFFER: a new row of whatever bytes for its buffer, none of them its own yet. Three draws. (LAID: no walk: one application.) -/
theorem Tryd.Builder_grow_fresh_cap (B b n : Nat) (w : World) (hB : B ≤ b) (hbk : w.heap[b]? = some (.cells #[.pointer (some ⟨b, 0, none⟩), .slice none 0 0] 101 (0, 0))) (hBw : B ≤ w.heap.size) (hn : n ≤ 281474976710656) :
    Calls Tryd.prog 110 #[.pointer (some ⟨b, 0, none⟩), .int .i64 n] w fun e w' => e = .returned (.tuple #[]) ∧ (Lib.BuilderAt 101 5 B b (.pointer (some ⟨b, 0, none⟩)) [] w' ∧ Below B w w') ∧ ∃ p cap, w'.cell? ⟨b, 1, none⟩ = some (.slice p 0 cap) ∧ n ≤ cap := Any.Builder_grow_fresh_cap Tryd.lays241 Tryd.Builder_Extra_241 B b n w hB hbk hBw hn
open Go.RowKit in
/-- (*strings.Builder).Grow AT A BUILDER THAT HAS NOT BEEN WRITTEN ('var b strings.Builder; b.Grow(n)'): "Grow grows b's capacity, if necessary, to guarantee space for another n bytes.": it holds no byte behind it as before it. (LAID: no walk: one application.) -/
theorem Tryd.Builder_Grow_fresh_cap (B b n : Nat) (w : World) (hB : B ≤ b) (hbk : w.heap[b]? = some (.cells #[.pointer none, .slice none 0 0] 101 (0, 0))) (hBw : B ≤ w.heap.size) (hn : n ≤ 281474976710656) :
    Calls Tryd.prog 89 #[.pointer (some ⟨b, 0, none⟩), .int .i64 n] w fun e w' => e = .returned (.tuple #[]) ∧ (Lib.BuilderAt 101 5 B b (.pointer (some ⟨b, 0, none⟩)) [] w' ∧ Below B w w') ∧ ∃ p cap, w'.cell? ⟨b, 1, none⟩ = some (.slice p 0 cap) ∧ n ≤ cap := Any.Builder_Grow_fresh_cap Tryd.lays165 Tryd.Builder_Extra_165 B b n w hB hbk hBw hn
def Tryd.lays129_ren : Go.Shelf.Ren := ⟨fun | 129 => 114 | n => n, fun | 53 => 67 | 3 => 3 | 4 => 4 | 46 => 82 | 5 => 5 | 9 => 9 | n => n, fun | n => n⟩
theorem Tryd.lays129 : Go.Proofs.Lays.n129 Tryd.prog Tryd.lays129_ren := {
  mixed := by kernel_rfl
  f129 := Tryd.func114.trans (congrArg some (by kernel_rfl))
  t3 := Tryd.underlying3
  a3 := Tryd.isAgg3
  z3 := Tryd.sizeOf3
  v3 := Tryd.zeroValue3
  t4 := Tryd.underlying4
  a4 := Tryd.isAgg4
  z4 := Tryd.sizeOf4
  v4 := Tryd.zeroValue4
  t5 := Tryd.underlying5
  a5 := Tryd.isAgg5
  z5 := Tryd.sizeOf5
  v5 := Tryd.zeroValue5
  t9 := Tryd.underlying9
  a9 := Tryd.isAgg9
  z9 := Tryd.sizeOf9
  v9 := Tryd.zeroValue9
  t46 := Tryd.underlying82
  a46 := Tryd.isAgg82
  z46 := Tryd.sizeOf82
  v46 := Tryd.zeroValue82
  t53 := Tryd.underlying67
  a53 := Tryd.isAgg67
  z53 := Tryd.sizeOf67
  v53 := Tryd.zeroValue67 }
/-- bits.Len64: "Len64 returns the minimum number of bits required to represent x; the result is 0 for x == 0.": IT RETURNS 'Lib.bitLen x'; the world is as it was. ('h0', 'h1': x is a uint64.) (LAID: no walk: one application.) -/
theorem Tryd.bits_Len64 (x : Int) (w : World) (h0 : 0 ≤ x) (h1 : x ≤ 18446744073709551615) :
    Calls Tryd.prog 114 #[.int .u64 x] w fun e w' => e = .returned (.int .i64 (Lib.bitLen x.toNat)) ∧ w' = w := Any.bits_Len64 Tryd.lays129 x w h0 h1
def Tryd.lays317_ren : Go.Shelf.Ren := ⟨fun | 317 => 113 | n => n, fun | 3 => 3 | 46 => 82 | n => n, fun | n => n⟩
theorem Tryd.lays317 : Go.Proofs.Lays.n317 Tryd.prog Tryd.lays317_ren := {
  mixed := by kernel_rfl
  f317 := Tryd.func113.trans (congrArg some (by kernel_rfl))
  t3 := Tryd.underlying3
  a3 := Tryd.isAgg3
  z3 := Tryd.sizeOf3
  v3 := Tryd.zeroValue3
  t46 := Tryd.underlying82
  a46 := Tryd.isAgg82
  z46 := Tryd.sizeOf82
  v46 := Tryd.zeroValue82 }
open Go.Lib in
/-- internal/strconv.log10Pow2: "log10Pow2(x) returns ⌊log₁₀ 2**x⌋ = ⌊x * log₁₀ 2⌋.": '(x * 78913) >> 18', at an x up to 64 (a length in bits). The world is as it was. (LAID: no walk: one application.) -/
theorem Tryd.internal_strconv_log10Pow2 (x : Nat) (h : x ≤ 64) (w : World) :
    Calls Tryd.prog 113 #[.int .i64 x] w fun e w' => e = .returned (.int .i64 (Lib.l10 x)) ∧ w' = w := Any.internal_strconv_log10Pow2 Tryd.lays317 x h w
def Tryd.lays318_ren : Go.Shelf.Ren := ⟨fun | 318 => 115 | n => n, fun | 3 => 3 | 4 => 4 | n => n, fun | n => n⟩
theorem Tryd.lays318 : Go.Proofs.Lays.n318 Tryd.prog Tryd.lays318_ren := {
  mixed := by kernel_rfl
  f318 := Tryd.func115.trans (congrArg some (by kernel_rfl))
  t3 := Tryd.underlying3
  a3 := Tryd.isAgg3
  z3 := Tryd.sizeOf3
  v3 := Tryd.zeroValue3
  t4 := Tryd.underlying4
  a4 := Tryd.isAgg4
  z4 := Tryd.sizeOf4
  v4 := Tryd.zeroValue4 }
open Go.Lib in
/-- internal/strconv.bool2: "bool2 converts b to an integer: 1 for true, 0 for false." The world is as it was. (LAID: no walk: one application.) -/
theorem Tryd.internal_strconv_bool2_int (b : Bool) (w : World) :
    Calls Tryd.prog 115 #[.bool b] w fun e w' => e = .returned (.int .i64 (if b then 1 else 0)) ∧ w' = w := Any.internal_strconv_bool2_int Tryd.lays318 b w
def Tryd.lays283_ren : Go.Shelf.Ren := ⟨fun | 283 => 102 | n => n, fun | 3 => 3 | 9 => 9 | 4 => 4 | n => n, fun | n => n⟩
theorem Tryd.lays283 : Go.Proofs.Lays.n283 Tryd.prog Tryd.lays283_ren := {
  mixed := by kernel_rfl
  f283 := Tryd.func102.trans (congrArg some (by kernel_rfl))
  t3 := Tryd.underlying3
  a3 := Tryd.isAgg3
  z3 := Tryd.sizeOf3
  v3 := Tryd.zeroValue3
  t4 := Tryd.underlying4
  a4 := Tryd.isAgg4
  z4 := Tryd.sizeOf4
  v4 := Tryd.zeroValue4
  t9 := Tryd.underlying9
  a9 := Tryd.isAgg9
  z9 := Tryd.sizeOf9
  v9 := Tryd.zeroValue9 }
open Go.Lib in
/-- internal/strconv.small: "small returns the string for an i with 0 <= i < nSmalls.": i's decimal numeral. The world is as it was. (LAID: no walk: one application.) -/
theorem Tryd.internal_strconv_small (i : Nat) (h : i < 100) (w : World) :
    Calls Tryd.prog 102 #[.int .i64 i] w fun e w' => e = .returned (.string ⟨(Lib.decDigits i).toArray⟩) ∧ w' = w := Any.internal_strconv_small Tryd.lays283 i h w
def Tryd.laysM284_ren : Go.Shelf.Ren := ⟨fun | 284 => 103 | 129 => 114 | 317 => 113 | 318 => 115 | n => n, fun | 53 => 67 | 3 => 3 | 212 => 127 | 0 => 0 | 4 => 4 | 46 => 82 | 5 => 5 | 9 => 9 | n => n, fun | 17 => 1 | n => n⟩
theorem Tryd.laysM284 : Go.Proofs.LaysM.n284 Tryd.prog Tryd.laysM284_ren := {
  mixed := by kernel_rfl
  f129 := Tryd.func114.trans (congrArg some (by kernel_rfl))
  f284 := Tryd.func103.trans (congrArg some (by kernel_rfl))
  f317 := Tryd.func113.trans (congrArg some (by kernel_rfl))
  f318 := Tryd.func115.trans (congrArg some (by kernel_rfl))
  t0 := Tryd.underlying0
  a0 := Tryd.isAgg0
  z0 := Tryd.sizeOf0
  v0 := Tryd.zeroValue0
  t3 := Tryd.underlying3
  a3 := Tryd.isAgg3
  z3 := Tryd.sizeOf3
  v3 := Tryd.zeroValue3
  t4 := Tryd.underlying4
  a4 := Tryd.isAgg4
  z4 := Tryd.sizeOf4
  v4 := Tryd.zeroValue4
  t5 := Tryd.underlying5
  a5 := Tryd.isAgg5
  z5 := Tryd.sizeOf5
  v5 := Tryd.zeroValue5
  t9 := Tryd.underlying9
  a9 := Tryd.isAgg9
  z9 := Tryd.sizeOf9
  v9 := Tryd.zeroValue9
  t46 := Tryd.underlying82
  a46 := Tryd.isAgg82
  z46 := Tryd.sizeOf82
  v46 := Tryd.zeroValue82
  t53 := Tryd.underlying67
  a53 := Tryd.isAgg67
  z53 := Tryd.sizeOf67
  v53 := Tryd.zeroValue67
  t212 := Tryd.underlying127
  a212 := Tryd.isAgg127
  z212 := Tryd.sizeOf127
  v212 := Tryd.zeroValue127
  g17 := by kernel_rfl
  i0 := by kernel_rfl
  i3 := by kernel_rfl
  i4 := by kernel_rfl
  i5 := by kernel_rfl
  i9 := by kernel_rfl
  i46 := by kernel_rfl
  i53 := by kernel_rfl
  i212 := by kernel_rfl
  m17 := by kernel_rfl }
open Go.Lib in
/-- internal/strconv.numDigits, at a d that is not 0: THE NUMBER OF d's DECIMAL DIGITS. The world is as it was. (LAID: no walk: one application.) -/
theorem Tryd.internal_strconv_numDigits (u : Nat) (h1 : 1 ≤ u) (h2 : u < 18446744073709551616) (w : World) (htab : Lib.TabIs Tryd.prog w "internal/strconv.uint64pow10" .u64 Lib.pow10Tab) :
    Calls Tryd.prog 103 #[.int .u64 u] w fun e w' => e = .returned (.int .i64 (Lib.nDigits u)) ∧ w' = w := Any.internal_strconv_numDigits Tryd.laysM284 u h1 h2 w htab
def Tryd.lays285_ren : Go.Shelf.Ren := ⟨fun | 285 => 104 | n => n, fun | 37 => 81 | 53 => 67 | 3 => 3 | 4 => 4 | 51 => 75 | 9 => 9 | 5 => 5 | 0 => 0 | n => n, fun | n => n⟩
theorem Tryd.lays285 : Go.Proofs.Lays.n285 Tryd.prog Tryd.lays285_ren := {
  mixed := by kernel_rfl
  f285 := Tryd.func104.trans (congrArg some (by kernel_rfl))
  t0 := Tryd.underlying0
  a0 := Tryd.isAgg0
  z0 := Tryd.sizeOf0
  v0 := Tryd.zeroValue0
  t3 := Tryd.underlying3
  a3 := Tryd.isAgg3
  z3 := Tryd.sizeOf3
  v3 := Tryd.zeroValue3
  t4 := Tryd.underlying4
  a4 := Tryd.isAgg4
  z4 := Tryd.sizeOf4
  v4 := Tryd.zeroValue4
  t5 := Tryd.underlying5
  a5 := Tryd.isAgg5
  z5 := Tryd.sizeOf5
  v5 := Tryd.zeroValue5
  t9 := Tryd.underlying9
  a9 := Tryd.isAgg9
  z9 := Tryd.sizeOf9
  v9 := Tryd.zeroValue9
  t37 := Tryd.underlying81
  a37 := Tryd.isAgg81
  z37 := Tryd.sizeOf81
  v37 := Tryd.zeroValue81
  t51 := Tryd.underlying75
  a51 := Tryd.isAgg75
  z51 := Tryd.sizeOf75
  v51 := Tryd.zeroValue75
  t53 := Tryd.underlying67
  a53 := Tryd.isAgg67
  z53 := Tryd.sizeOf67
  v53 := Tryd.zeroValue67 }
open Go.RowKit Go.Sort Go.Lib in
/-- internal/strconv.formatBase10: "formatBase10 formats the decimal representation of u into a. The caller is responsible for ensuring that a is big enough to hold u. If a is too big, leading zeros will be filled in as needed.": THE ROW HOLDS u's DIGITS ('FmtInv .. 0 ..': every place t holds 'dg u (len - 1 - t)'); all else is as it was but for the count of draws. (LAID: no walk: one application.) -/
theorem Tryd.internal_strconv_formatBase10 (blk off cap : Nat) (u : Nat) (d : Array UInt8) (w : World) (hH : Holds (fun (b : UInt8) => Value.int .u8 (b.toNat : Int)) w blk off d) (hu : u < 10 ^ d.size) (hu64 : u < 18446744073709551616) (hsz : d.size < 4611686018427387904) :
    Calls Tryd.prog 104 #[.slice (some ⟨blk, off, none⟩) d.size cap, .int .u64 u] w fun e w' =>
      e = .returned (.tuple #[]) ∧ ∃ (n v' : Nat) (dk : Array UInt8), w' = (putRow (fun (b : UInt8) => Value.int .u8 (b.toNat : Int)) w blk off dk).drewN n ∧ FmtInv d.size u 0 v' dk := Any.internal_strconv_formatBase10 Tryd.lays285 blk off cap u d w hH hu hu64 hsz
def Tryd.lays206_ren : Go.Shelf.Ren := ⟨fun | 206 => 108 | n => n, fun | 9 => 9 | 4 => 4 | 3 => 3 | n => n, fun | n => n⟩
theorem Tryd.lays206 : Go.Proofs.Lays.n206 Tryd.prog Tryd.lays206_ren := {
  mixed := by kernel_rfl
  f206 := Tryd.func108.trans (congrArg some (by kernel_rfl))
  t3 := Tryd.underlying3
  a3 := Tryd.isAgg3
  z3 := Tryd.sizeOf3
  v3 := Tryd.zeroValue3
  t4 := Tryd.underlying4
  a4 := Tryd.isAgg4
  z4 := Tryd.sizeOf4
  v4 := Tryd.zeroValue4
  t9 := Tryd.underlying9
  a9 := Tryd.isAgg9
  z9 := Tryd.sizeOf9
  v9 := Tryd.zeroValue9 }
open Go.RowKit Go.Lib in
/-- internal/stringslite.HasPrefix (what strings.HasPrefix calls). (LAID: no walk: one application.) -/
theorem Tryd.stringslite_HasPrefix (s p : ByteArray) (w : World) :
    Calls Tryd.prog 108 #[.string s, .string p] w fun e w' => e = .returned (.bool (Lib.hasPrefix s.data.toList p.data.toList)) ∧ w' = w := Any.stringslite_HasPrefix Tryd.lays206 s p w
def Tryd.lays99_ren : Go.Shelf.Ren := ⟨fun | 99 => 88 | 206 => 108 | n => n, fun | 9 => 9 | 4 => 4 | 3 => 3 | n => n, fun | n => n⟩
theorem Tryd.lays99 : Go.Proofs.Lays.n99 Tryd.prog Tryd.lays99_ren := {
  mixed := by kernel_rfl
  f99 := Tryd.func88.trans (congrArg some (by kernel_rfl))
  f206 := Tryd.func108.trans (congrArg some (by kernel_rfl))
  t3 := Tryd.underlying3
  a3 := Tryd.isAgg3
  z3 := Tryd.sizeOf3
  v3 := Tryd.zeroValue3
  t4 := Tryd.underlying4
  a4 := Tryd.isAgg4
  z4 := Tryd.sizeOf4
  v4 := Tryd.zeroValue4
  t9 := Tryd.underlying9
  a9 := Tryd.isAgg9
  z9 := Tryd.sizeOf9
  v9 := Tryd.zeroValue9 }
open Go.RowKit Go.Lib in
/-- strings.HasPrefix: "HasPrefix reports whether the string s begins with prefix.": IT RETURNS 'Lib.hasPrefix s prefix'; the world is as it was. (LAID: no walk: one application.) -/
theorem Tryd.strings_HasPrefix (s p : ByteArray) (w : World) :
    Calls Tryd.prog 88 #[.string s, .string p] w fun e w' => e = .returned (.bool (Lib.hasPrefix s.data.toList p.data.toList)) ∧ w' = w := Any.strings_HasPrefix Tryd.lays99 s p w
def Tryd.lays264_ren : Go.Shelf.Ren := ⟨fun | 264 => 107 | n => n, fun | 53 => 67 | 46 => 82 | n => n, fun | n => n⟩
theorem Tryd.lays264 : Go.Proofs.Lays.n264 Tryd.prog Tryd.lays264_ren := {
  mixed := by kernel_rfl
  f264 := Tryd.func107.trans (congrArg some (by kernel_rfl))
  t46 := Tryd.underlying82
  a46 := Tryd.isAgg82
  z46 := Tryd.sizeOf82
  v46 := Tryd.zeroValue82
  t53 := Tryd.underlying67
  a53 := Tryd.isAgg67
  z53 := Tryd.sizeOf67
  v53 := Tryd.zeroValue67 }
open Go.RowKit Go.Lib in
theorem Tryd.bits_Mul64 (x y : Nat) (hx : x < 18446744073709551616) (hy : y < 18446744073709551616) (w : World) :
    Calls Tryd.prog 107 #[.int .u64 x, .int .u64 y] w fun e w' => e = .returned (.tuple #[.int .u64 ((x * y / 18446744073709551616 : Nat) : Int), .int .u64 ((x * y % 18446744073709551616 : Nat) : Int)]) ∧ w' = w := Any.bits_Mul64 Tryd.lays264 x y hx hy w
def Tryd.lays212_ren : Go.Shelf.Ren := ⟨fun | 212 => 87 | 263 => 106 | 264 => 107 | n => n, fun | 46 => 82 | 51 => 75 | 146 => 110 | 53 => 67 | 148 => 122 | n => n, fun | n => n⟩
theorem Tryd.lays212 : Go.Proofs.Lays.n212 Tryd.prog Tryd.lays212_ren := {
  mixed := by kernel_rfl
  f212 := Tryd.func87.trans (congrArg some (by kernel_rfl))
  f263 := Tryd.func106.trans (congrArg some (by kernel_rfl))
  f264 := Tryd.func107.trans (congrArg some (by kernel_rfl))
  t46 := Tryd.underlying82
  a46 := Tryd.isAgg82
  z46 := Tryd.sizeOf82
  v46 := Tryd.zeroValue82
  t51 := Tryd.underlying75
  a51 := Tryd.isAgg75
  z51 := Tryd.sizeOf75
  v51 := Tryd.zeroValue75
  t53 := Tryd.underlying67
  a53 := Tryd.isAgg67
  z53 := Tryd.sizeOf67
  v53 := Tryd.zeroValue67
  t146 := Tryd.underlying110
  a146 := Tryd.isAgg110
  z146 := Tryd.sizeOf110
  v146 := Tryd.zeroValue110
  t148 := Tryd.underlying122
  a148 := Tryd.isAgg122
  z148 := Tryd.sizeOf122
  v148 := Tryd.zeroValue122 }
open Go.RowKit Go.Lib in
/-- math/bits.Mul: "Mul returns the full-width product of x and y": on a machine of 64 bits: Mul64's. (LAID: no walk: one application.) -/
theorem Tryd.bits_Mul (x y : Nat) (hx : x < 18446744073709551616) (hy : y < 18446744073709551616) (w : World) :
    Calls Tryd.prog 87 #[.int .u64 x, .int .u64 y] w fun e w' => e = .returned (.tuple #[.int .u64 ((x * y / 18446744073709551616 : Nat) : Int), .int .u64 ((x * y % 18446744073709551616 : Nat) : Int)]) ∧ w' = w := Any.bits_Mul Tryd.lays212 x y hx hy w
def Tryd.lays105_ren : Go.Shelf.Ren := ⟨fun | 105 => 71 | 212 => 87 | 99 => 88 | 165 => 89 | 166 => 90 | 170 => 91 | 169 => 92 | 263 => 106 | 264 => 107 | 206 => 108 | 240 => 109 | 241 => 110 | 276 => 118 | 277 => 119 | n => n, fun | 9 => 9 | 3 => 3 | 4 => 4 | 20 => 20 | 0 => 0 | 46 => 82 | 109 => 96 | 5 => 5 | 72 => 101 | 76 => 105 | 51 => 75 | 146 => 110 | 53 => 67 | 148 => 122 | 70 => 99 | 37 => 81 | 75 => 104 | 127 => 124 | 164 => 131 | 80 => 107 | n => n, fun | n => n⟩
theorem Tryd.lays105 : Go.Proofs.Lays.n105 Tryd.prog Tryd.lays105_ren := {
  mixed := by kernel_rfl
  f99 := Tryd.func88.trans (congrArg some (by kernel_rfl))
  f105 := Tryd.func71.trans (congrArg some (by kernel_rfl))
  f165 := Tryd.func89.trans (congrArg some (by kernel_rfl))
  f166 := Tryd.func90.trans (congrArg some (by kernel_rfl))
  f169 := Tryd.func92.trans (congrArg some (by kernel_rfl))
  f170 := Tryd.func91.trans (congrArg some (by kernel_rfl))
  f206 := Tryd.func108.trans (congrArg some (by kernel_rfl))
  f212 := Tryd.func87.trans (congrArg some (by kernel_rfl))
  f240 := Tryd.func109.trans (congrArg some (by kernel_rfl))
  f241 := Tryd.func110.trans (congrArg some (by kernel_rfl))
  f263 := Tryd.func106.trans (congrArg some (by kernel_rfl))
  f264 := Tryd.func107.trans (congrArg some (by kernel_rfl))
  f276 := Tryd.func118.trans (congrArg some (by kernel_rfl))
  f277 := Tryd.func119.trans (congrArg some (by kernel_rfl))
  t0 := Tryd.underlying0
  a0 := Tryd.isAgg0
  z0 := Tryd.sizeOf0
  v0 := Tryd.zeroValue0
  t3 := Tryd.underlying3
  a3 := Tryd.isAgg3
  z3 := Tryd.sizeOf3
  v3 := Tryd.zeroValue3
  t4 := Tryd.underlying4
  a4 := Tryd.isAgg4
  z4 := Tryd.sizeOf4
  v4 := Tryd.zeroValue4
  t5 := Tryd.underlying5
  a5 := Tryd.isAgg5
  z5 := Tryd.sizeOf5
  v5 := Tryd.zeroValue5
  t9 := Tryd.underlying9
  a9 := Tryd.isAgg9
  z9 := Tryd.sizeOf9
  v9 := Tryd.zeroValue9
  t20 := Tryd.underlying20
  a20 := Tryd.isAgg20
  z20 := Tryd.sizeOf20
  v20 := Tryd.zeroValue20
  t37 := Tryd.underlying81
  a37 := Tryd.isAgg81
  z37 := Tryd.sizeOf81
  v37 := Tryd.zeroValue81
  t46 := Tryd.underlying82
  a46 := Tryd.isAgg82
  z46 := Tryd.sizeOf82
  v46 := Tryd.zeroValue82
  t51 := Tryd.underlying75
  a51 := Tryd.isAgg75
  z51 := Tryd.sizeOf75
  v51 := Tryd.zeroValue75
  t53 := Tryd.underlying67
  a53 := Tryd.isAgg67
  z53 := Tryd.sizeOf67
  v53 := Tryd.zeroValue67
  t70 := Tryd.underlying99
  a70 := Tryd.isAgg99
  z70 := Tryd.sizeOf99
  v70 := Tryd.zeroValue99
  t72 := Tryd.underlying101
  a72 := Tryd.isAgg101
  z72 := Tryd.sizeOf101
  v72 := Tryd.zeroValue101
  t75 := Tryd.underlying104
  a75 := Tryd.isAgg104
  z75 := Tryd.sizeOf104
  v75 := Tryd.zeroValue104
  t76 := Tryd.underlying105
  a76 := Tryd.isAgg105
  z76 := Tryd.sizeOf105
  v76 := Tryd.zeroValue105
  t109 := Tryd.underlying96
  a109 := Tryd.isAgg96
  z109 := Tryd.sizeOf96
  v109 := Tryd.zeroValue96
  t127 := Tryd.underlying124
  a127 := Tryd.isAgg124
  z127 := Tryd.sizeOf124
  v127 := Tryd.zeroValue124
  t146 := Tryd.underlying110
  a146 := Tryd.isAgg110
  z146 := Tryd.sizeOf110
  v146 := Tryd.zeroValue110
  t148 := Tryd.underlying122
  a148 := Tryd.isAgg122
  z148 := Tryd.sizeOf122
  v148 := Tryd.zeroValue122
  t164 := Tryd.underlying131
  a164 := Tryd.isAgg131
  z164 := Tryd.sizeOf131
  v164 := Tryd.zeroValue131 }
theorem Tryd.Builder_Extra_105 : Builder.Extra Tryd.prog Tryd.lays105_ren := {
  sizeBuilder := by kernel_rfl
  liesBuilder := by kernel_rfl
  t5 := Tryd.underlying5
  a5 := Tryd.isAgg5
  z5 := Tryd.sizeOf5
  v5 := Tryd.zeroValue5
  infoByte := by kernel_rfl
  cellsByte := by kernel_rfl
  sizeByte := by kernel_rfl
  neB5 := by decide }
open Go.RowKit Go.Lib in
/-- THE MAIN CASE: at least two copies of a string that is not empty. (LAID: no walk: one application.) -/
theorem Tryd.strings_Repeat_main (s : ByteArray) (c : Nat) (w : World) (hc2 : 2 ≤ c) (hc : c ≤ 9223372036854775807) (hlen : s.size * c ≤ 140737488355328) (h0 : 0 < s.size) :
    Calls Tryd.prog 71 #[.string s, .int .i64 c] w fun e w' => e = .returned (.string ⟨(Lib.repeatL s.data.toList c).toArray⟩) ∧ Below w.heap.size w w' := Any.strings_Repeat_main Tryd.lays105 Tryd.Builder_Extra_105 s c w hc2 hc hlen h0
open Go.RowKit Go.Lib in
theorem Tryd.strings_Repeat_zero (s : ByteArray) (w : World) :
    Calls Tryd.prog 71 #[.string s, .int .i64 0] w fun e w' => e = .returned (.string ⟨#[]⟩) ∧ w' = w := Any.strings_Repeat_zero Tryd.lays105 s w
open Go.RowKit Go.Lib in
theorem Tryd.strings_Repeat_one (s : ByteArray) (w : World) :
    Calls Tryd.prog 71 #[.string s, .int .i64 1] w fun e w' => e = .returned (.string s) ∧ w' = w := Any.strings_Repeat_one Tryd.lays105 s w
open Go.RowKit Go.Lib in
/-- Copies of the empty string. (LAID: no walk: one application.) -/
theorem Tryd.strings_Repeat_empty (s : ByteArray) (c : Nat) (w : World) (hc2 : 2 ≤ c) (hc : c ≤ 9223372036854775807) (h0 : s.size = 0) :
    Calls Tryd.prog 71 #[.string s, .int .i64 c] w fun e w' => e = .returned (.string ⟨#[]⟩) ∧ w' = w := Any.strings_Repeat_empty Tryd.lays105 s c w hc2 hc h0
open Go.RowKit Go.Lib in
/-- count < 0: "It panics if count is negative". (LAID: no walk: one application.) -/
theorem Tryd.strings_Repeat_negative (s : ByteArray) (c : Int) (w : World) (hc : c < 0) :
    Calls Tryd.prog 71 #[.string s, .int .i64 c] w fun e w' => e = .panicked [{ v := repeatPanic Tryd.lays105_ren "strings: negative Repeat count", recovered := false }] ∧ w' = w := Any.strings_Repeat_negative Tryd.lays105 s c w hc
open Go.RowKit Go.Lib in
/-- len(s) * count is no int: ".. or if the result of (len(s) * count) overflows". (LAID: no walk: one application.) -/
theorem Tryd.strings_Repeat_overflow (s : ByteArray) (c : Nat) (w : World) (hc : c ≤ 9223372036854775807) (hs : s.size ≤ 9223372036854775807) (hbig : 9223372036854775807 < s.size * c) :
    Calls Tryd.prog 71 #[.string s, .int .i64 c] w fun e w' => e = .panicked [{ v := repeatPanic Tryd.lays105_ren "strings: Repeat output length overflow", recovered := false }] ∧ w' = w := Any.strings_Repeat_overflow Tryd.lays105 s c w hc hs hbig
open Go.RowKit Go.Lib in
/-- **strings.Repeat: count ≥ 0, the result within one allocation: count copies of s.** (LAID: no walk: one application.) -/
theorem Tryd.strings_Repeat (s : ByteArray) (c : Nat) (w : World) (hc : c ≤ 9223372036854775807) (hlen : s.size * c ≤ 140737488355328) :
    Calls Tryd.prog 71 #[.string s, .int .i64 c] w fun e w' => e = .returned (.string ⟨(Lib.repeatL s.data.toList c).toArray⟩) ∧ Below w.heap.size w w' := Any.strings_Repeat Tryd.lays105 Tryd.Builder_Extra_105 s c w hc hlen
def Tryd.laysNm217_ren : Go.Shelf.Ren := ⟨fun | 17 => 72 | n => n, fun | 24 => 84 | 9 => 9 | 3 => 3 | 4 => 4 | 0 => 0 | n => n, fun | n => n⟩
theorem Tryd.laysNm217 : Go.Proofs.Lays2.n17 Tryd.prog Tryd.laysNm217_ren := {
  mixed := by kernel_rfl
  f17 := Tryd.func72.trans (congrArg some (by kernel_rfl))
  t0 := Tryd.underlying0
  a0 := Tryd.isAgg0
  z0 := Tryd.sizeOf0
  v0 := Tryd.zeroValue0
  t3 := Tryd.underlying3
  a3 := Tryd.isAgg3
  z3 := Tryd.sizeOf3
  v3 := Tryd.zeroValue3
  t4 := Tryd.underlying4
  a4 := Tryd.isAgg4
  z4 := Tryd.sizeOf4
  v4 := Tryd.zeroValue4
  t9 := Tryd.underlying9
  a9 := Tryd.isAgg9
  z9 := Tryd.sizeOf9
  v9 := Tryd.zeroValue9
  t24 := Tryd.underlying84
  a24 := Tryd.isAgg84
  z24 := Tryd.sizeOf84
  v24 := Tryd.zeroValue84 }
open Go.RowKit Go.Lib Go.Sort in
/-- slices.Reverse at []string, over an array: Go's loop from the two ends inward is walked; it makes 'Sort.reverseLoop 0 (len - 1)', which is 'Array.reverse' (Derived/Lib/SlicesMore.lean). (LAID: no walk: one application.) -/
theorem Tryd.slices_Reverse_string_arr (blk off cap : Nat) (d : Array (List UInt8)) (w : World) (hH : Holds encStr w blk off d) (hsz : d.size ≤ 9223372036854775807) :
    Calls Tryd.prog 72 #[.slice (some ⟨blk, off, none⟩) d.size cap] w fun e w' => e = .returned (.tuple #[]) ∧ ∃ n, w' = putRow encStr (Sort.ahead w n) blk off d.reverse := Any.slices_Reverse_string_arr Tryd.laysNm217 blk off cap d w hH hsz
open Go.RowKit Go.Lib Go.Sort in
/-- slices.Reverse at []string: "Reverse reverses the elements of the slice in place.": THE SLICE's CELLS HOLD 'zs.reverse' BEHIND THE CALL; all else is as it was, but for the count of draws (the exchange 's[i], s[j] = s[j], s[i]' draws its order, once a round). IN THE WORDS OF slices.Sort's CONTRACT: 'Holds': the cells hold zs and none is frozen; 'putRow': the world with those cells holding another array. A slice of length 0 that is not nil is among them ('zs = []'); nil: '.._nil'. (LAID: no walk: one application.) -/
theorem Tryd.slices_Reverse_string (blk off cap : Nat) (zs : List (List UInt8)) (w : World) (hH : Holds encStr w blk off zs.toArray) (hsz : zs.length ≤ 9223372036854775807) :
    Calls Tryd.prog 72 #[.slice (some ⟨blk, off, none⟩) zs.length cap] w fun e w' => e = .returned (.tuple #[]) ∧ ∃ n, w' = putRow encStr (Sort.ahead w n) blk off zs.reverse.toArray := Any.slices_Reverse_string Tryd.laysNm217 blk off cap zs w hH hsz
open Go.RowKit Go.Lib Go.Sort in
/-- The same at a slice of length 0, a nil one too: nothing is read, nothing written, nothing drawn. (LAID: no walk: one application.) -/
theorem Tryd.slices_Reverse_string_empty (a : Option Addr) (cap : Nat) (w : World) :
    Calls Tryd.prog 72 #[.slice a 0 cap] w fun e w' => e = .returned (.tuple #[]) ∧ w' = w := Any.slices_Reverse_string_empty Tryd.laysNm217 a cap w
open Go.RowKit Go.Lib Go.Sort in
/-- slices.Reverse at []string, of an argument. (LAID: no walk: one application.) -/
theorem Tryd.slices_Reverse_string_cells (b off n c : Nat) (Sx : Nat → ByteArray) (w : World) (hbig : n ≤ 9223372036854775807) (hc : ∀ i, i < n → w.cell? ⟨b, off + i, none⟩ = some (.string (Sx i))) (hf : ∀ j, j < n → w.frozen? ⟨b, off + j, none⟩ = false) :
    Calls Tryd.prog 72 #[.slice (some ⟨b, off, none⟩) n c] w fun e w' => e = .returned (.tuple #[]) ∧ ∃ q, w' = (w.drewN q).setCells b off ((Lib.strsOf Sx n).reverse.map encStr) := Any.slices_Reverse_string_cells Tryd.laysNm217 b off n c Sx w hbig hc hf
end Go.Proofs
end

section
/-
  The words for regions that draw their order, among calls that make memory.
-/
namespace Go.Proofs.YthgkdpfkaobgoaaDoor
open Go.RowKit
theorem below_drew {B : Nat} {a w : World} (h : Below B a w) : Below B a w.drew := ⟨h.os, h.tape, h.output, h.size, h.block⟩
end Go.Proofs.YthgkdpfkaobgoaaDoor
end

section
/-
  zint's inner numbers: zero, take.
-/
namespace Go.Proofs.YthgkdpfkaobgoaaDoor
open Go.RowKit
set_option maxRecDepth 100000 in
theorem zero_any (A : Option Addr) (n c : Nat) (w : World) (q : Bool) (hq : ((n : Int) == 0) = q) :
    Calls Tryd.prog 61 #[.agg #[.slice A n c]] w fun e w' => e = .returned (.bool q) ∧ Below w.heap.size w w' := by
  go_enter Tryd.func61, Tryd.ntmps61
  go_wp2
  go_ret
  exact ⟨rfl, (Below.refl _ _).alloc (Nat.le_refl _) _⟩
/-- What take hands back: the first k digits, no spare room. -/
theorem take_fin {w : World} {A : Option Addr} {c : Nat} {xs : List Nat} {k : Nat} (h : Dg w A c xs) (hk : k ≤ xs.length) (hz : ∀ j, k ≤ j → j < xs.length → xs[j]?.getD 0 = 0) (hl : 0 < k → xs[k - 1]?.getD 0 ≠ 0) :
    k = (digs (val xs)).length ∧ Dg w A k (digs (val xs)) ∧ decide (0 < val xs) = decide (0 < k) := by
  have e := digs_take h.2.1 hk hz hl
  have el : (digs (val xs)).length = k := by rw [← e]; simp; omega
  refine ⟨el.symm, ⟨by omega, ok_digs _, fun h0 => ?_⟩, ?_⟩
  · obtain ⟨b, off, e1, hb, hc⟩ := h.2.2 (by omega)
    refine ⟨b, off, e1, hb, fun j hj => ?_⟩
    rw [hc j (by omega), ← e, List.getElem?_take, if_pos (by omega)]
  · rw [decide_eq_decide]
    constructor
    · intro h0
      rcases Nat.eq_zero_or_pos k with h1 | h1
      · rw [h1] at el; have := digs_nil.1 el; omega
      · exact h1
    · intro h0
      rcases Nat.eq_zero_or_pos (val xs) with h1 | h1
      · rw [h1, digs_zero] at el; simp at el; omega
      · exact h1
theorem take_ret {w w' : World} {A : Option Addr} {k n : Nat} {q r s : Bool} (hk : k = n) (hq : q = r) {x : Nat} (hd : Dg w A k (digs x)) (hs : (s && decide (0 < x)) = r) (hb : Below w.heap.size w w') (hn : n = (digs x).length := by rfl) :
    ∃ A' c', Ending.returned (.agg #[.slice A k k, .bool q]) = .returned (.agg #[.slice A' (digs x).length c', .bool (s && decide (0 < x))]) ∧ Dg w' A' c' (digs x) ∧ Below w.heap.size w w' := by
  subst hk hq hn
  exact ⟨A, (digs x).length, by rw [hs], hd.below hb, hb⟩
set_option maxHeartbeats 1000000 in
set_option maxRecDepth 100000 in
theorem take_any (A : Option Addr) (c : Nat) (s : Bool) (xs : List Nat) (w : World) (h : Dg w A c xs) (hl : xs.length ≤ 16777216) :
    Calls Tryd.prog 45 #[.agg #[.bool s, .slice A xs.length c]] w fun e w' => ∃ A' c', e = .returned (.agg #[.slice A' (digs (val xs)).length c', .bool (s && decide (0 < val xs))]) ∧ Dg w' A' c' (digs (val xs)) ∧ Below w.heap.size w w' := by
  go_enter Tryd.func45, Tryd.ntmps45
  go_wp2
  go_loop [3] (fun n => ∃ k : Nat, k ≤ xs.length ∧ n = .int .i64 k ∧ Hid (∀ j, k ≤ j → j < xs.length → xs[j]?.getD 0 = 0)) (fun n => (intOf n).toNat)
  case atStart => exact ⟨xs.length, Nat.le_refl _, rfl, fun j h1 h2 => by omega⟩
  case round =>
    obtain ⟨k, hk, rfl, hz⟩ := hrel
    have hkc : k ≤ c := by have := h.1; omega
    by_cases hk0 : k = 0
    · subst hk0
      have HF := Lib.hid (take_fin h hk hz (fun h => absurd h (by omega)))
      have hd : decide ((0 : Int) < ((0 : Nat) : Int)) = false := rfl
      clear hz h
      cases s
      all_goals
        go_wp2
        go_region
        all_goals go_wp2
        refine bodyPost_ret (v := .agg #[.slice A 0 0, .bool false]) (by simp [results, Tryd.results45, go_sem]) rfl ?_
        exact take_ret HF.out.1 rfl HF.out.2.1 (by rw [HF.out.2.2]; rfl) (below_drew (((Below.refl _ _).alloc (Nat.le_refl _) _).alloc (by simp) _))
    · obtain ⟨b, off, hA, hb, hcell⟩ := h.2.2 (by omega)
      have hc1 := hcell (k - 1) (by omega)
      have hk1 : 0 < k := by omega
      have hkd : decide ((0 : Int) < (k : Int)) = true := by simp; omega
      have hk64 : k ≤ 16777216 := by omega
      by_cases hx : xs[k - 1]?.getD 0 = 0
      · have hx' : ((xs[k - 1]?.getD 0 : Nat) == (0 : Int)) = true := by rw [hx]; rfl
        have HX := Lib.hid hx
        have HA := Lib.hid hA
        clear hcell hx
        subst hA
        go_wp2
        go_round
        case rel =>
          refine ⟨k - 1, by omega, by go_num, fun j h1 h2 => ?_⟩
          by_cases hj : j = k - 1
          · subst hj; exact HX.out
          · exact hz j (by omega) h2
        case measure => simp [intOf]; omega
      · have hx' : ((xs[k - 1]?.getD 0 : Nat) == (0 : Int)) = false := by simp; omega
        have HF := Lib.hid (take_fin h hk hz (fun _ => hx))
        clear hcell hx hz
        subst hA
        cases s
        all_goals go_wp2
        all_goals go_region
        all_goals go_wp2
        rotate_left
        refine bodyPost_ret (v := .agg #[.slice (some ⟨b, off, none⟩) k k, .bool true]) (by simp [results, Tryd.results45, go_sem]) rfl ?_
        exact take_ret HF.out.1 rfl HF.out.2.1 (by rw [HF.out.2.2, decide_eq_true hk1]; rfl) (below_drew (((Below.refl _ _).alloc (Nat.le_refl _) _).alloc (by simp) _))
        refine bodyPost_ret (v := .agg #[.slice (some ⟨b, off, none⟩) k k, .bool false]) (by simp [results, Tryd.results45, go_sem]) rfl ?_
        exact take_ret HF.out.1 rfl HF.out.2.1 rfl (below_drew (((Below.refl _ _).alloc (Nat.le_refl _) _).alloc (by simp) _))
end Go.Proofs.YthgkdpfkaobgoaaDoor
end

section
/-
  zint's sizes: against, with, without, times, more.
-/
namespace Go.Proofs.YthgkdpfkaobgoaaDoor
open Go.RowKit
theorem bcell {W w1 : World} (hb : Below W.heap.size W w1) : (∀ b o, b < W.heap.size → w1.cell? ⟨b, o, none⟩ = W.cell? ⟨b, o, none⟩) ∧ (∀ b o, b < W.heap.size → w1.frozen? ⟨b, o, none⟩ = W.frozen? ⟨b, o, none⟩) :=
  ⟨fun b o h => hb.cell (p := ⟨b, o, none⟩) h, fun b o h => hb.frozen (p := ⟨b, o, none⟩) h⟩
theorem below1 (w : World) (o1 : Obj) : Below w.heap.size w (w.alloc o1) := (Below.refl _ _).alloc (Nat.le_refl _) _
theorem below2 (w : World) (o1 o2 : Obj) : Below w.heap.size w ((w.alloc o1).alloc o2) := (below1 w o1).alloc (by simp) _
theorem below3 (w : World) (o1 o2 o3 : Obj) : Below w.heap.size w (((w.alloc o1).alloc o2).alloc o3) := (below2 w o1 o2).alloc (by simp; omega) _
/-- The digits do not lie in block g. -/
def Off (g : Nat) (A : Option Addr) (xs : List Nat) : Prop := 0 < xs.length → ∀ o, A ≠ some ⟨g, o, none⟩
theorem Dg.set_off {w : World} {A : Option Addr} {c g : Nat} {xs : List Nat} (h : Dg w A c xs) (hA : Off g A xs) (i : Nat) (v : Value) : Dg (w.setCell ⟨g, i, none⟩ v) A c xs :=
  ⟨h.1, h.2.1, fun h0 => by
    obtain ⟨b, off, e, hb, hc⟩ := h.2.2 h0
    have hne : b ≠ g := fun e' => hA h0 off (by rw [e, e'])
    refine ⟨b, off, e, by simpa using hb, fun j hj => ?_⟩
    rw [World.cell?_setCell_other _ _ _ _ (by intro h; simp only [Addr.mk.injEq] at h; omega)]
    exact hc j hj⟩
/-- Digits do not lie where a result of another kind is kept. -/
theorem off_box {W w1 : World} {A : Option Addr} {c g : Nat} {xs : List Nat} {cs : Array Value} {t : TypeId} (hd : Dg w1 A c xs) (hb : Below (W.alloc (.cells cs t)).heap.size (W.alloc (.cells cs t)) w1) (hg : g = W.heap.size) (hcs : ∀ (o : Nat) (n : Int), cs[o]? ≠ some (.int .u32 n)) : Off g A xs := by
  intro h0 o e
  obtain ⟨b, off, e', _, hc⟩ := hd.2.2 h0
  rw [e] at e'
  simp only [Option.some.injEq, Addr.mk.injEq, and_true] at e'
  obtain ⟨rfl, rfl⟩ := e'
  have h1 := hc 0 h0
  rw [hb.cell (p := ⟨g, o + 0, none⟩) (by rw [hg]; simp), hg, cell_of_row _ _ _ _ _ _ (heap_alloc_new W _)] at h1
  exact hcs _ _ h1
theorem noint1 {A : Option Addr} {n c : Nat} : ∀ (o : Nat) (m : Int), (#[Value.slice A n c])[o]? ≠ some (.int .u32 m) := by
  intro o m; rcases o with _ | o <;> simp
theorem noint2 {A : Option Addr} {n c : Nat} {b : Bool} : ∀ (o : Nat) (m : Int), (#[Value.slice A n c, .bool b])[o]? ≠ some (.int .u32 m) := by
  intro o m; rcases o with _ | _ | o <;> simp
theorem noint2' {A : Option Addr} {n c : Nat} {b : Bool} : ∀ (o : Nat) (m : Int), (#[Value.bool b, .slice A n c])[o]? ≠ some (.int .u32 m) := by
  intro o m; rcases o with _ | _ | o <;> simp
set_option maxHeartbeats 1000000 in
set_option maxRecDepth 100000 in
theorem against_any (A B : Option Addr) (c d x y : Nat) (q : Int) (w : World) (h : Dg w A c (digs x)) (h' : Dg w B d (digs y)) (hl : (digs x).length ≤ 1048576) (hl' : (digs y).length ≤ 1048576) (hq : cmpi x y = q) :
    Calls Tryd.prog 58 #[.agg #[.slice A (digs x).length c], .agg #[.slice B (digs y).length d]] w fun e w' => e = .returned (.int .i64 q) ∧ Below w.heap.size w w' := by
  have HC := Lib.hid (cmp_any A B c d (digs x) (digs y))
  rw [val_digs, val_digs, hq] at HC
  go_enter Tryd.func58, Tryd.ntmps58
  go_wp2_with fail
  refine (HC.out _ (h.below (below2 _ _ _)) (h'.below (below2 _ _ _)) (by omega) (by omega)).mono ?_
  rintro e w1 ⟨rfl, k, rfl⟩
  go_wp2
  go_ret
  exact ⟨rfl, below_drewN (below2 _ _ _) _⟩
set_option maxHeartbeats 1000000 in
set_option maxRecDepth 100000 in
theorem with_any (A B : Option Addr) (c d x y : Nat) (w : World) (h : Dg w A c (digs x)) (h' : Dg w B d (digs y)) (hl : (digs x).length ≤ 1048576) (hl' : (digs y).length ≤ 1048576) :
    Calls Tryd.prog 74 #[.agg #[.slice A (digs x).length c], .agg #[.slice B (digs y).length d]] w fun e w' => ∃ A' c', e = .returned (.agg #[.slice A' (digs (x + y)).length c']) ∧ Dg w' A' c' (digs (x + y)) ∧ Below w.heap.size w w' := by
  have HC := Lib.hid (add_any A B c d (digs x) (digs y))
  rw [val_digs, val_digs] at HC
  go_enter Tryd.func74, Tryd.ntmps74
  go_wp2_with fail
  refine (HC.out _ (h.below (below3 _ _ _ _)) (h'.below (below3 _ _ _ _)) hl hl').mono ?_
  rintro e w1 ⟨A1, c1, rfl, hd, hb⟩
  obtain ⟨hc, hf⟩ := bcell hb
  have HO := Lib.hid (off_box (g := w.heap.size + 1 + 1) hd hb (by simp) noint1)
  have HB := Lib.hid ((below3 w _ _ _).trans (hb.mono (by simp; omega)))
  have HD := Lib.hid hd
  clear hb hd
  go_wp2
  refine bodyPost_ret (v := .agg #[.slice A1 (digs (x + y)).length c1]) (by simp [results, Tryd.results74, go_sem, hc]) rfl ⟨A1, c1, rfl, ?_, ?_⟩
  · exact HD.out.set_off HO.out _ _
  · exact HB.out.setCell (by simp; omega) _
set_option maxHeartbeats 1000000 in
set_option maxRecDepth 100000 in
theorem times_any (A B : Option Addr) (c d x y : Nat) (w : World) (h : Dg w A c (digs x)) (h' : Dg w B d (digs y)) (hl : (digs x).length ≤ 1048576) (hl' : (digs y).length ≤ 1048576) :
    Calls Tryd.prog 49 #[.agg #[.slice A (digs x).length c], .agg #[.slice B (digs y).length d]] w fun e w' => ∃ A' c', e = .returned (.agg #[.slice A' (digs (x * y)).length c']) ∧ Dg w' A' c' (digs (x * y)) ∧ Below w.heap.size w w' := by
  have HC := Lib.hid (mul_any A B c d (digs x) (digs y))
  rw [val_digs, val_digs] at HC
  go_enter Tryd.func49, Tryd.ntmps49
  go_wp2_with fail
  refine (HC.out _ (h.below (below3 _ _ _ _)) (h'.below (below3 _ _ _ _)) hl hl').mono ?_
  rintro e w1 ⟨A1, c1, rfl, hd, hb⟩
  obtain ⟨hc, hf⟩ := bcell hb
  have HO := Lib.hid (off_box (g := w.heap.size + 1 + 1) hd hb (by simp) noint1)
  have HB := Lib.hid ((below3 w _ _ _).trans (hb.mono (by simp; omega)))
  have HD := Lib.hid hd
  clear hb hd
  go_wp2
  refine bodyPost_ret (v := .agg #[.slice A1 (digs (x * y)).length c1]) (by simp [results, Tryd.results49, go_sem, hc]) rfl ⟨A1, c1, rfl, ?_, ?_⟩
  · exact HD.out.set_off HO.out _ _
  · exact HB.out.setCell (by simp; omega) _
set_option maxHeartbeats 1000000 in
set_option maxRecDepth 100000 in
theorem without_any (A B : Option Addr) (c d x y : Nat) (w : World) (h : Dg w A c (digs x)) (h' : Dg w B d (digs y)) (hl : (digs x).length ≤ 1048576) (hl' : (digs y).length ≤ 1048576) (hle : y ≤ x) :
    Calls Tryd.prog 63 #[.agg #[.slice A (digs x).length c], .agg #[.slice B (digs y).length d]] w fun e w' => ∃ A' c', e = .returned (.agg #[.slice A' (digs (x - y)).length c']) ∧ Dg w' A' c' (digs (x - y)) ∧ Below w.heap.size w w' := by
  have HC := Lib.hid (sub_yes A B c d (digs x) (digs y))
  rw [val_digs, val_digs] at HC
  go_enter Tryd.func63, Tryd.ntmps63
  go_wp2_with fail
  refine (HC.out _ (h.below (below3 _ _ _ _)) (h'.below (below3 _ _ _ _)) hl hl' hle).mono ?_
  rintro e w1 ⟨A1, c1, rfl, hd, hb⟩
  obtain ⟨hc, hf⟩ := bcell hb
  have HO := Lib.hid (off_box (g := w.heap.size + 1 + 1) hd hb (by simp) noint1)
  have HB := Lib.hid ((below3 w _ _ _).trans (hb.mono (by simp; omega)))
  have HD := Lib.hid hd
  clear hb hd
  go_wp2
  refine bodyPost_ret (v := .agg #[.slice A1 (digs (x - y)).length c1]) (by simp [results, Tryd.results63, go_sem, hc]) rfl ⟨A1, c1, rfl, ?_, ?_⟩
  · exact HD.out.set_off HO.out _ _
  · exact HB.out.setCell (by simp; omega) _
set_option maxHeartbeats 1000000 in
set_option maxRecDepth 100000 in
theorem more_any (A : Option Addr) (c x : Nat) (w : World) (h : Dg w A c (digs x)) (hl : (digs x).length ≤ 1048576) :
    Calls Tryd.prog 62 #[.agg #[.slice A (digs x).length c]] w fun e w' => ∃ A' c', e = .returned (.agg #[.slice A' (digs (x + 1)).length c']) ∧ Dg w' A' c' (digs (x + 1)) ∧ Below w.heap.size w w' := by
  have d1 := digs_one (a := 1) (by omega) (by omega)
  have HC := Lib.hid (fun (B : Option Addr) (d : Nat) (W : World) (h1 : Dg W A c (digs x)) (h2 : Dg W B d [1]) => with_any A B c d x 1 W h1 (by rw [d1]; exact h2) hl (by rw [d1]; simp))
  rw [d1] at HC
  clear d1
  go_enter Tryd.func62, Tryd.ntmps62
  go_wp2_with fail
  have HN := Lib.hid (((live_start _).add (h.below (below2 w (.cells #[.slice A (digs x).length c] 57) (.cells #[.slice none 0 0] 57)))).new1 1 1 rfl (by omega))
  refine (HC.out _ _ _ (HN.out.get (by simp)) (HN.out.get (by simp))).mono ?_
  rintro e w1 ⟨A1, c1, rfl, hd, hb⟩
  obtain ⟨hc, hf⟩ := bcell hb
  have HO := Lib.hid (off_box (g := w.heap.size + 1) hd ((below1 _ _).trans (hb.mono (by simp))) (by simp) noint1)
  have HB := Lib.hid ((below3 w _ _ _).trans (hb.mono (by simp; omega)))
  have HD := Lib.hid hd
  clear hb hd
  go_wp2
  refine bodyPost_ret (v := .agg #[.slice A1 (digs (x + 1)).length c1]) (by simp [results, Tryd.results62, go_sem, hc]) rfl ⟨A1, c1, rfl, ?_, ?_⟩
  · exact HD.out.set_off HO.out _ _
  · exact HB.out.setCell (by simp) _
/-- A whole number as an answer: its sign, its digits. -/
def sg (s : Bool) (m : Nat) : Int := if s then -(m : Int) else (m : Int)
set_option maxHeartbeats 1000000 in
set_option maxRecDepth 100000 in
theorem give_any (A : Option Addr) (c x : Nat) (s : Bool) (w : World) (h : Dg w A c (digs x)) (hl : (digs x).length ≤ 1048576) :
    Calls Tryd.prog 46 #[.agg #[.slice A (digs x).length c, .bool s]] w fun e w' => ∃ A' c', e = .returned (.agg #[.bool (s && decide (x ≠ 0)), .slice A' (digs x).length c']) ∧ Dg w' A' c' (digs x) ∧ Below w.heap.size w w' := by
  by_cases h0 : x = 0
  · subst h0
    have HZ := Lib.hid (zero_any A (digs 0).length c)
    rw [digs_zero] at HZ
    rw [digs_zero]
    go_enter Tryd.func46, Tryd.ntmps46
    go_wp2_with fail
    refine (HZ.out _ true rfl).mono ?_
    rintro e w1 ⟨rfl, hb⟩
    obtain ⟨hc, hf⟩ := bcell hb
    have HB := Lib.hid ((below2 w _ _).trans (hb.mono (by simp; omega)))
    clear hb
    go_wp2
    refine bodyPost_ret (v := .agg #[.bool false, .slice none 0 0]) (by simp [results, Tryd.results46, go_sem, hc]) rfl ⟨none, 0, by simp, Dg.nil_ _ _, ?_⟩
    exact (HB.out.setCell (by simp) _).setCell (by simp) _
  · have hz : (((digs x).length : Int) == 0) = false := beq_eq_false_iff_ne.2 (by have : (digs x).length ≠ 0 := fun e => h0 (digs_nil.1 e); omega)
    have HZ := Lib.hid hz
    have HS := Lib.hid (show (s && decide (x ≠ 0)) = s by rw [decide_eq_true h0, Bool.and_true])
    clear hz h0
    go_enter Tryd.func46, Tryd.ntmps46
    go_wp2_with fail
    refine (zero_any A (digs x).length c _ false HZ.out).mono ?_
    rintro e w1 ⟨rfl, hb⟩
    obtain ⟨hc, hf⟩ := bcell hb
    have HD := Lib.hid (h.below ((below2 w _ _).trans (hb.mono (by simp; omega))))
    have HO := Lib.hid (off_box (g := w.heap.size + 1) HD.out hb (by simp) noint2')
    have HB := Lib.hid ((below2 w _ _).trans (hb.mono (by simp; omega)))
    clear hb h
    go_wp2
    refine bodyPost_ret (v := .agg #[.bool s, .slice A (digs x).length c]) (by simp [results, Tryd.results46, go_sem, hc]) rfl ⟨A, c, by rw [HS.out], ?_, ?_⟩
    · exact (HD.out.set_off HO.out _ _).set_off HO.out _ _
    · exact (HB.out.setCell (by simp) _).setCell (by simp) _
end Go.Proofs.YthgkdpfkaobgoaaDoor
end

section
/-
  A region that draws its order, by what holds behind each of its operations (an invariant): no order is walked.
-/
namespace Go.Proofs.YthgkdpfkaobgoaaDoor
open Go.RowKit
section
variable {P : Program} {ops : Array Oper} {Q : Exit → Act → World → Prop} {md : Region.Mode}
/-- How many have not come up. -/
def still (l : Array Bool) : Nat := l.toList.count false
theorem still_set {l : Array Bool} {i : Nat} (h : l.getD i true = false) : still (l.setIfInBounds i true) + 1 = still l := by
  have hlt : i < l.size := by
    rcases Nat.lt_or_ge i l.size with h' | h'
    · exact h'
    · simp [Array.getElem?_eq_none h'] at h
  obtain ⟨l⟩ := l
  simp only [still, List.setIfInBounds_toArray] at *
  simp at hlt
  simp [hlt] at h
  have : ∀ (l : List Bool) (i : Nat) (h : i < l.length), l[i] = false → (l.set i true).count false + 1 = l.count false := by
    intro l
    induction l with
    | nil => intro i h; simp at h
    | cons x xs ih =>
      intro i hi hx
      cases i with
      | zero => simp at hx; subst hx; simp
      | succ i =>
        simp at hx hi
        have := ih i hi hx
        simp only [List.set_cons_succ, List.count_cons]
        omega
  exact this l i hlt h
/-- What holds at the start, and stands behind each operation that may come up, holds at the end. -/
theorem wpAny_inv (I : Array Bool → Act → World → Prop)
    (step : ∀ l a w i, I l a w → i ∈ Region.ready md ops l → wpOp P ops Q i (fun a' w' => I (l.setIfInBounds i true) a' w') a w)
    (done : ∀ l a w, I l a w → Region.ready md ops l = [] → Q .normal a w) :
    ∀ (fuel : Nat) (l : Array Bool) (a : Act) (w : World), I l a w → still l ≤ fuel → wpAny P md ops Q fuel l a w
  | 0, l, a, w, h, hf => by
    have hr : Region.ready md ops l = [] := by
      rcases hr : Region.ready md ops l with _ | ⟨i, is⟩
      · rfl
      · have := still_set (mem_ready.1 (show i ∈ Region.ready md ops l by rw [hr]; simp)).1
        omega
    exact ⟨hr, done l a w h hr⟩
  | fuel + 1, l, a, w, h, hf => by
    refine ⟨fun hr => done l a w h hr, fun i hi => ?_⟩
    refine wpOp_mono (fun a' w' h' => wpAny_inv I step done fuel _ a' w' h' ?_) (step l a w i h hi)
    have := still_set (mem_ready.1 hi).1
    omega
/-- Every edge leads back. -/
def backB (md : Region.Mode) (ops : Array Oper) : Bool := (List.range ops.size).all fun i => ((ops[i]?).map fun o => o.after.all fun e => !Region.binds md e || decide (e.on < i)).getD true
theorem all_of_back (hb : backB md ops = true) {l : Array Bool} (hs : l.size = ops.size) (hr : Region.ready md ops l = []) : ∀ i, i < ops.size → l.getD i false = true := by
  intro i
  induction i using Nat.strongRecOn with
  | ind i ih =>
    intro hi
    cases hg : l.getD i false with
    | true => rfl
    | false =>
      have hmem : i ∈ Region.ready md ops l := by
        refine mem_ready.2 ⟨?_, ops[i], by simp [hi], fun e he hbi => ?_⟩
        · have : i < l.size := by omega
          simp [this] at hg ⊢
          exact hg
        · simp only [backB, List.all_eq_true, List.mem_range] at hb
          have h1 := hb i hi
          simp only [Array.getElem?_eq_getElem hi, Option.map_some, Option.getD_some, Array.all_eq_true_iff_forall_mem] at h1
          have h2 := h1 e he
          simp only [hbi, Bool.not_true, Bool.false_or, decide_eq_true_eq] at h2
          exact ih e.on h2 (by omega)
      rw [hr] at hmem; cases hmem
/-- Number i waits for number k. -/
def waitsB (md : Region.Mode) (ops : Array Oper) (i k : Nat) : Bool := ((ops[i]?).map fun o => o.after.any fun e => Region.binds md e && e.on == k).getD false
theorem waits_spec {i k : Nat} (h : waitsB md ops i k = true) {l : Array Bool} (hr : i ∈ Region.ready md ops l) : l.getD k false = true := by
  obtain ⟨_, o, ho, hall⟩ := mem_ready.1 hr
  simp only [waitsB, ho, Option.map_some, Option.getD_some, Array.any_eq_true'] at h
  obtain ⟨e, he, h1⟩ := h
  simp only [Bool.and_eq_true, beq_iff_eq] at h1
  have := hall e he h1.1
  rw [h1.2] at this
  exact this
end
theorem wpOp_one {P : Program} {ops : Array Oper} {Q : Exit → Act → World → Prop} {i : Nat} {o : Oper} {K : Act → World → Prop} {a : Act} {w : World} (hi : ops[i]? = some o) (hg : o.guard = none) (h : o.wp P a w K Q) : wpOp P ops Q i K a w := by
  unfold wpOp
  rw [hi]
  simp only [Region.wanted, hg, if_true]
  exact .inl h
/-! ### What stays -/
/-- Every digit stays. -/
def Kept (w w' : World) : Prop := w.heap.size ≤ w'.heap.size ∧ ∀ (b o : Nat) (n : Int), w.cell? ⟨b, o, none⟩ = some (.int .u32 n) → w'.cell? ⟨b, o, none⟩ = some (.int .u32 n)
theorem Kept.refl (w : World) : Kept w w := ⟨Nat.le_refl _, fun _ _ _ h => h⟩
theorem Kept.trans {a b c : World} (h : Kept a b) (k : Kept b c) : Kept a c := ⟨Nat.le_trans h.1 k.1, fun b o n e => k.2 b o n (h.2 b o n e)⟩
theorem cell_lt {w : World} {b o : Nat} {v : Value} (h : w.cell? ⟨b, o, none⟩ = some v) : b < w.heap.size := by
  rcases Nat.lt_or_ge b w.heap.size with h' | h'
  · exact h'
  · simp [World.cell?, Array.getElem?_eq_none h'] at h
theorem Kept.below {w w' : World} (h : Below w.heap.size w w') : Kept w w' := ⟨h.size, fun b o _n e => (h.cell (p := ⟨b, o, none⟩) (cell_lt e)).trans e⟩
theorem Dg.kept {w w' : World} {A : Option Addr} {c : Nat} {xs : List Nat} (h : Dg w A c xs) (hk : Kept w w') : Dg w' A c xs :=
  ⟨h.1, h.2.1, fun h0 => by
    obtain ⟨b, off, e, hb, hc⟩ := h.2.2 h0
    exact ⟨b, off, e, Nat.lt_of_lt_of_le hb hk.1, fun j hj => hk.2 _ _ _ (hc j hj)⟩⟩
/-- Block g alone may be another one. -/
structure Only (g : Nat) (w w' : World) : Prop where
  os : w'.os = w.os
  tape : w'.tape = w.tape
  output : w'.output = w.output
  size : w'.heap.size = w.heap.size
  block : ∀ k, k ≠ g → w'.heap[k]? = w.heap[k]?
theorem Only.setCell {g : Nat} {w w' : World} (h : Only g w w') (i : Nat) (v : Value) : Only g w (w'.setCell ⟨g, i, none⟩ v) :=
  ⟨h.os, h.tape, h.output, by simpa using h.size, fun k hk => (heap_setCell_other _ _ _ _ (by simpa using hk)).trans (h.block k hk)⟩
theorem Only.refl (g : Nat) (w : World) : Only g w w := ⟨rfl, rfl, rfl, rfl, fun _ _ => rfl⟩
theorem Only.below {g N : Nat} {W w w' : World} (h : Only g w w') (hb : Below N W w) (hg : N ≤ g) : Below N W w' :=
  ⟨h.os.trans hb.os, h.tape.trans hb.tape, h.output.trans hb.output, by rw [h.size]; exact hb.size, fun k hk => (h.block k (by omega)).trans (hb.block k hk)⟩
theorem Only.kept {g : Nat} {w w' : World} (h : Only g w w') {zs : Array Value} {T : TypeId} {fr : Nat × Nat} (hg : w.heap[g]? = some (.cells zs T fr)) (hz : ∀ (i : Nat) (n : Int), zs[i]? ≠ some (.int .u32 n)) : Kept w w' := by
  refine ⟨by rw [h.size]; exact Nat.le_refl _, fun b o _n e => ?_⟩
  by_cases hb : b = g
  · subst hb
    rw [cell_of_row _ _ _ _ _ _ hg] at e
    exact absurd e (hz _ _)
  · rw [← e]
    simp only [World.cell?, h.block b hb]
/-! ### Two calls whose results go into two new boxes -/
/-- One half: loaded, called, made, stored. -/
def Half (W : World) (lt ct xt : Tmp) (v : Value) (R : Value → World → Prop) (zs : Array Value) (T : TypeId) (full : Value → Array Value) (bl bc ba bs : Bool) (a : Act) (w : World) (g : Nat) (u : Value) : Prop :=
  (bl = true → a.tmps.getD lt undef = v) ∧ (bc = true → a.tmps.getD ct undef = u ∧ R u w) ∧
  (ba = true → a.tmps.getD xt undef = .pointer (some ⟨g, 0, none⟩) ∧ W.heap.size ≤ g ∧ g < w.heap.size ∧ w.heap[g]? = some (.cells (if bs then full u else zs) T (0, 0)))
section
variable {W : World} {lt ct xt : Tmp} {v : Value} {R : Value → World → Prop} {zs : Array Value} {T : TypeId} {full : Value → Array Value} {bl bc ba bs : Bool} {a a' : Act} {w w' : World} {g : Nat} {u : Value}
theorem Half.step (h : Half W lt ct xt v R zs T full bl bc ba bs a w g u) (hR : ∀ u w w', R u w → Kept w w' → R u w') (hk : Kept w w')
    (h1 : a'.tmps.getD lt undef = a.tmps.getD lt undef) (h2 : a'.tmps.getD ct undef = a.tmps.getD ct undef) (h3 : a'.tmps.getD xt undef = a.tmps.getD xt undef)
    (hg : ba = true → w'.heap[g]? = w.heap[g]?) : Half W lt ct xt v R zs T full bl bc ba bs a' w' g u :=
  ⟨fun e => h1.trans (h.1 e), fun e => ⟨h2.trans (h.2.1 e).1, hR _ _ _ (h.2.1 e).2 hk⟩, fun e => ⟨h3.trans (h.2.2 e).1, (h.2.2 e).2.1, Nat.lt_of_lt_of_le (h.2.2 e).2.2.1 hk.1, (hg e).trans (h.2.2 e).2.2.2⟩⟩
theorem put_same (a : Act) (t : Tmp) (v : Value) (h : t < a.tmps.size) : (a.put (some t) v).tmps.getD t undef = v := by simp [Act.put, h]
theorem put_other (a : Act) (t s : Tmp) (v : Value) (h : t ≠ s) : (a.put (some t) v).tmps.getD s undef = a.tmps.getD s undef := by simp [Act.put, Array.getElem?_setIfInBounds_ne h]
/-- The frame: all slots but six are as they were. -/
def Fr6 (D : List Tmp) (a0 a : Act) : Prop := a.defers = a0.defers ∧ a.tmps.size = a0.tmps.size ∧ ∀ j, j ∉ D → a.tmps.getD j undef = a0.tmps.getD j undef
theorem Fr6.put {D : List Tmp} {a0 a : Act} (h : Fr6 D a0 a) {t : Tmp} (ht : t ∈ D) (v : Value) : Fr6 D a0 (a.put (some t) v) :=
  ⟨h.1, by simp [Act.put, h.2.1], fun j hj => (put_other a t j v (fun e => hj (e ▸ ht))).trans (h.2.2 j hj)⟩
end
theorem act_ext {a b : Act} (hd : a.defers = b.defers) (hs : a.tmps.size = b.tmps.size) (h : ∀ j, a.tmps.getD j undef = b.tmps.getD j undef) : a = b := by
  obtain ⟨S, D⟩ := a
  obtain ⟨T, E⟩ := b
  simp only at hd hs h
  subst hd
  congr 1
  refine Array.ext hs (fun j h1 h2 => ?_)
  have := h j
  simpa [h1, h2] using this
theorem put_size (a : Act) (t : Tmp) (v : Value) : (a.put (some t) v).tmps.size = a.tmps.size := by simp [Act.put]
theorem put_defers (a : Act) (t : Tmp) (v : Value) : (a.put (some t) v).defers = a.defers := rfl
theorem put_at {a b : Act} {t : Tmp} {v : Value} (j : Tmp) (ht : t < b.tmps.size) (he : a.tmps.getD t undef = v) (h : j ≠ t → a.tmps.getD j undef = b.tmps.getD j undef) : a.tmps.getD j undef = (b.put (some t) v).tmps.getD j undef := by
  by_cases hj : t = j
  · subst hj; rw [put_same _ _ _ ht]; exact he
  · rw [put_other _ _ _ _ hj]; exact h (Ne.symm hj)
theorem Fr6.eq {l1 c1 l2 c2 x y : Tmp} {a0 a : Act} (h : Fr6 [l1, c1, l2, c2, x, y] a0 a) {v1 u1 v2 u2 p1 p2 : Value}
    (hin : ([l1, c1, l2, c2, x, y].all fun t => decide (t < a0.tmps.size)) = true)
    (e1 : a.tmps.getD l1 undef = v1) (e2 : a.tmps.getD c1 undef = u1) (e3 : a.tmps.getD l2 undef = v2) (e4 : a.tmps.getD c2 undef = u2) (e5 : a.tmps.getD x undef = p1) (e6 : a.tmps.getD y undef = p2) :
    a = (((((a0.put (some l1) v1).put (some c1) u1).put (some l2) v2).put (some c2) u2).put (some x) p1).put (some y) p2 := by
  simp only [List.all_cons, List.all_nil, Bool.and_true, Bool.and_eq_true, decide_eq_true_eq] at hin
  obtain ⟨i1, i2, i3, i4, i5, i6⟩ := hin
  refine act_ext (by simp only [put_defers]; exact h.1) (by simp only [put_size]; exact h.2.1) (fun j => ?_)
  refine put_at j (by simp only [put_size]; exact i6) e6 (fun n6 => put_at j (by simp only [put_size]; exact i5) e5 (fun n5 => put_at j (by simp only [put_size]; exact i4) e4 (fun n4 => put_at j (by simp only [put_size]; exact i3) e3 (fun n3 => put_at j (by simp only [put_size]; exact i2) e2 (fun n2 => put_at j i1 e1 (fun n1 => h.2.2 j ?_))))))
  simp only [List.mem_cons, List.not_mem_nil, or_false, not_or]
  exact ⟨n1, n2, n3, n4, n5, n6⟩
theorem getD_set (l : Array Bool) (i j : Nat) (hi : i < l.size) : (l.setIfInBounds i true).getD j false = (if i = j then true else l.getD j false) := by
  by_cases h : i = j
  · subst h; simp [hi]
  · rw [if_neg h]; exact getD_set_ne false h
theorem Half.flags {W : World} {lt ct xt : Tmp} {v : Value} {R : Value → World → Prop} {zs : Array Value} {T : TypeId} {full : Value → Array Value} {bl bc ba bs bl' bc' ba' bs' : Bool} {a : Act} {w : World} {g : Nat} {u : Value}
    (h : Half W lt ct xt v R zs T full bl bc ba bs a w g u) (e1 : bl' = bl) (e2 : bc' = bc) (e3 : ba' = ba) (e4 : bs' = bs) : Half W lt ct xt v R zs T full bl' bc' ba' bs' a w g u := by
  subst e1 e2 e3 e4; exact h
/-- x, y := f(p), g(q): two loads, two calls, two boxes, two stores, in whatever order. -/
theorem two_calls {P : Program} {ops : Array Oper} {Q : Exit → Act → World → Prop} {id : Nat} {a0 : Act} {W : World} (hm : P.follows .mixedOrders = true)
    (l1 c1 l2 c2 x y : Tmp) (v1 v2 : Value) (R1 R2 : Value → World → Prop) (zs : Array Value) (T : TypeId) (full : Value → Array Value)
    (hsz : ops.size = 8) (hback : backB .any ops = true)
    (hw : (waitsB .any ops 1 0 && waitsB .any ops 3 2 && waitsB .any ops 6 1 && waitsB .any ops 6 4 && waitsB .any ops 7 3 && waitsB .any ops 7 5) = true)
    (hnd : [l1, c1, l2, c2, x, y].Nodup) (hin : ([l1, c1, l2, c2, x, y].all fun t => decide (t < a0.tmps.size)) = true)
    (hz : ∀ (i : Nat) (n : Int), zs[i]? ≠ some (.int .u32 n))
    (k1 : ∀ u w w', R1 u w → Kept w w' → R1 u w') (k2 : ∀ u w w', R2 u w → Kept w w' → R2 u w')
    (s0 : ∀ a w K, Fr6 [l1, c1, l2, c2, x, y] a0 a → Below W.heap.size W w → K (a.put (some l1) v1) w → wpOp P ops Q 0 K a w)
    (s2 : ∀ a w K, Fr6 [l1, c1, l2, c2, x, y] a0 a → Below W.heap.size W w → K (a.put (some l2) v2) w → wpOp P ops Q 2 K a w)
    (s1 : ∀ a w K, Fr6 [l1, c1, l2, c2, x, y] a0 a → Below W.heap.size W w → a.tmps.getD l1 undef = v1 → (∀ u w', R1 u w' → Below w.heap.size w w' → K (a.put (some c1) u) w') → wpOp P ops Q 1 K a w)
    (s3 : ∀ a w K, Fr6 [l1, c1, l2, c2, x, y] a0 a → Below W.heap.size W w → a.tmps.getD l2 undef = v2 → (∀ u w', R2 u w' → Below w.heap.size w w' → K (a.put (some c2) u) w') → wpOp P ops Q 3 K a w)
    (s4 : ∀ a w K, Fr6 [l1, c1, l2, c2, x, y] a0 a → K (a.put (some x) (.pointer (some ⟨w.heap.size, 0, none⟩))) (w.alloc (.cells zs T)) → wpOp P ops Q 4 K a w)
    (s5 : ∀ a w K, Fr6 [l1, c1, l2, c2, x, y] a0 a → K (a.put (some y) (.pointer (some ⟨w.heap.size, 0, none⟩))) (w.alloc (.cells zs T)) → wpOp P ops Q 5 K a w)
    (s6 : ∀ a w K g u, Fr6 [l1, c1, l2, c2, x, y] a0 a → a.tmps.getD x undef = .pointer (some ⟨g, 0, none⟩) → a.tmps.getD c1 undef = u → R1 u w → w.heap[g]? = some (.cells zs T (0, 0)) → (∀ w', w'.heap[g]? = some (.cells (full u) T (0, 0)) → Only g w w' → K a w') → wpOp P ops Q 6 K a w)
    (s7 : ∀ a w K g u, Fr6 [l1, c1, l2, c2, x, y] a0 a → a.tmps.getD y undef = .pointer (some ⟨g, 0, none⟩) → a.tmps.getD c2 undef = u → R2 u w → w.heap[g]? = some (.cells zs T (0, 0)) → (∀ w', w'.heap[g]? = some (.cells (full u) T (0, 0)) → Only g w w' → K a w') → wpOp P ops Q 7 K a w)
    (hB : Below W.heap.size W { (W : World) with drawn := W.drawn + 1 })
    (fin : ∀ a w g1 g2 u1 u2, Fr6 [l1, c1, l2, c2, x, y] a0 a → Below W.heap.size W w → Half W l1 c1 x v1 R1 zs T full true true true true a w g1 u1 → Half W l2 c2 y v2 R2 zs T full true true true true a w g2 u2 → g1 ≠ g2 → Q .normal a w) :
    (Code.region id ops true).wp P Q a0 W := by
  simp only [Bool.and_eq_true] at hw
  obtain ⟨⟨⟨⟨⟨w10, w32⟩, w61⟩, w64⟩, w73⟩, w75⟩ := hw
  simp only [List.all_cons, List.all_nil, Bool.and_true, Bool.and_eq_true, decide_eq_true_eq] at hin
  obtain ⟨i1, i2, i3, i4, i5, i6⟩ := hin
  simp only [List.nodup_cons, List.mem_cons, List.not_mem_nil, or_false, not_or, not_false_eq_true, List.nodup_nil, and_true] at hnd
  obtain ⟨⟨n12, n13, n14, n15, n16⟩, ⟨n23, n24, n25, n26⟩, ⟨n34, n35, n36⟩, ⟨n45, n46⟩, n56⟩ := hnd
  generalize hD : [l1, c1, l2, c2, x, y] = D at *
  have m1 : l1 ∈ D := by rw [← hD]; simp
  have m2 : c1 ∈ D := by rw [← hD]; simp
  have m3 : l2 ∈ D := by rw [← hD]; simp
  have m4 : c2 ∈ D := by rw [← hD]; simp
  have m5 : x ∈ D := by rw [← hD]; simp
  have m6 : y ∈ D := by rw [← hD]; simp
  refine wp_region_any hm (wpAny_inv (fun l a w => l.size = 8 ∧ Fr6 D a0 a ∧ Below W.heap.size W w ∧ ∃ g1 g2 u1 u2,
    Half W l1 c1 x v1 R1 zs T full (l.getD 0 false) (l.getD 1 false) (l.getD 4 false) (l.getD 6 false) a w g1 u1 ∧
    Half W l2 c2 y v2 R2 zs T full (l.getD 2 false) (l.getD 3 false) (l.getD 5 false) (l.getD 7 false) a w g2 u2 ∧
    (l.getD 4 false = true → l.getD 5 false = true → g1 ≠ g2) ∧ (l.getD 6 false = true → l.getD 4 false = true) ∧ (l.getD 7 false = true → l.getD 5 false = true) ∧
    (l.getD 6 false = true → l.getD 1 false = true) ∧ (l.getD 7 false = true → l.getD 3 false = true)) ?_ ?_ _ _ _ _ ?_ ?_)
  · rintro l a w i ⟨hl, hF, hbw, g1, g2, u1, u2, h1, h2, hne, h64, h75, h61, h73⟩ hi
    have hiu := (mem_ready.1 hi).1
    have hi8 : i < 8 := by
      rcases Nat.lt_or_ge i l.size with h' | h'
      · omega
      · simp [Array.getElem?_eq_none h'] at hiu
    have hif : l.getD i false = false := by
      have : i < l.size := by omega
      simp [this] at hiu ⊢; exact hiu
    have sz : ∀ j, (l.setIfInBounds i true).getD j false = (if i = j then true else l.getD j false) := fun j => getD_set l i j (by omega)
    have hl' : (l.setIfInBounds i true).size = 8 := by simp [hl]
    have ps : a.tmps.size = a0.tmps.size := hF.2.1
    have hi' : i = 0 ∨ i = 1 ∨ i = 2 ∨ i = 3 ∨ i = 4 ∨ i = 5 ∨ i = 6 ∨ i = 7 := by omega
    rcases hi' with rfl | rfl | rfl | rfl | rfl | rfl | rfl | rfl
    · refine s0 a w _ hF hbw ⟨hl', hF.put m1 _, hbw, g1, g2, u1, u2, ?_, ?_, by simpa [sz] using hne, by simpa [sz] using h64, by simpa [sz] using h75, by simpa [sz] using h61, by simpa [sz] using h73⟩
      · exact ⟨fun _ => put_same _ _ _ (by rw [ps]; exact i1), fun e => ⟨(put_other _ _ _ _ n12).trans (h1.2.1 (by simpa [sz] using e)).1, (h1.2.1 (by simpa [sz] using e)).2⟩, fun e => ⟨(put_other _ _ _ _ n15).trans (h1.2.2 (by simpa [sz] using e)).1, (h1.2.2 (by simpa [sz] using e)).2.1, (h1.2.2 (by simpa [sz] using e)).2.2.1, by simpa [sz] using (h1.2.2 (by simpa [sz] using e)).2.2.2⟩⟩
      · exact (h2.step k2 (Kept.refl _) (put_other _ _ _ _ n13) (put_other _ _ _ _ n14) (put_other _ _ _ _ n16) (fun _ => rfl)).flags (by simp [sz]) (by simp [sz]) (by simp [sz]) (by simp [sz])
    · have hnot : l.getD 6 false = false := by cases h6 : l.getD 6 false with | false => rfl | true => exact absurd (h61 h6) (by rw [hif]; simp)
      refine s1 a w _ hF hbw (h1.1 (waits_spec w10 hi)) (fun u w' hu hb => ⟨hl', hF.put m2 _, hbw.trans (hb.mono hbw.size), g1, g2, u, u2, ?_, ?_, by simpa [sz] using hne, by simpa [sz] using h64, by simpa [sz] using h75, by simp [sz], by simpa [sz] using h73⟩)
      · exact ⟨fun e => (put_other _ _ _ _ (Ne.symm n12)).trans (h1.1 (by simpa [sz] using e)), fun _ => ⟨put_same _ _ _ (by rw [ps]; exact i2), hu⟩, fun e => ⟨(put_other _ _ _ _ n25).trans (h1.2.2 (by simpa [sz] using e)).1, (h1.2.2 (by simpa [sz] using e)).2.1, Nat.lt_of_lt_of_le (h1.2.2 (by simpa [sz] using e)).2.2.1 hb.size, by simpa [sz, hnot] using (hb.block _ (h1.2.2 (by simpa [sz] using e)).2.2.1).trans (h1.2.2 (by simpa [sz] using e)).2.2.2⟩⟩
      · exact (h2.step k2 (Kept.below hb) (put_other _ _ _ _ n23) (put_other _ _ _ _ n24) (put_other _ _ _ _ n26) (fun e => hb.block _ (h2.2.2 e).2.2.1)).flags (by simp [sz]) (by simp [sz]) (by simp [sz]) (by simp [sz])
    · refine s2 a w _ hF hbw ⟨hl', hF.put m3 _, hbw, g1, g2, u1, u2, ?_, ?_, by simpa [sz] using hne, by simpa [sz] using h64, by simpa [sz] using h75, by simpa [sz] using h61, by simpa [sz] using h73⟩
      · exact (h1.step k1 (Kept.refl _) (put_other _ _ _ _ (Ne.symm n13)) (put_other _ _ _ _ (Ne.symm n23)) (put_other _ _ _ _ n35) (fun _ => rfl)).flags (by simp [sz]) (by simp [sz]) (by simp [sz]) (by simp [sz])
      · exact ⟨fun _ => put_same _ _ _ (by rw [ps]; exact i3), fun e => ⟨(put_other _ _ _ _ n34).trans (h2.2.1 (by simpa [sz] using e)).1, (h2.2.1 (by simpa [sz] using e)).2⟩, fun e => ⟨(put_other _ _ _ _ n36).trans (h2.2.2 (by simpa [sz] using e)).1, (h2.2.2 (by simpa [sz] using e)).2.1, (h2.2.2 (by simpa [sz] using e)).2.2.1, by simpa [sz] using (h2.2.2 (by simpa [sz] using e)).2.2.2⟩⟩
    · have hnot : l.getD 7 false = false := by cases h6 : l.getD 7 false with | false => rfl | true => exact absurd (h73 h6) (by rw [hif]; simp)
      refine s3 a w _ hF hbw (h2.1 (waits_spec w32 hi)) (fun u w' hu hb => ⟨hl', hF.put m4 _, hbw.trans (hb.mono hbw.size), g1, g2, u1, u, ?_, ?_, by simpa [sz] using hne, by simpa [sz] using h64, by simpa [sz] using h75, by simpa [sz] using h61, by simp [sz]⟩)
      · exact (h1.step k1 (Kept.below hb) (put_other _ _ _ _ (Ne.symm n14)) (put_other _ _ _ _ (Ne.symm n24)) (put_other _ _ _ _ n45) (fun e => hb.block _ (h1.2.2 e).2.2.1)).flags (by simp [sz]) (by simp [sz]) (by simp [sz]) (by simp [sz])
      · exact ⟨fun e => (put_other _ _ _ _ (Ne.symm n34)).trans (h2.1 (by simpa [sz] using e)), fun _ => ⟨put_same _ _ _ (by rw [ps]; exact i4), hu⟩, fun e => ⟨(put_other _ _ _ _ n46).trans (h2.2.2 (by simpa [sz] using e)).1, (h2.2.2 (by simpa [sz] using e)).2.1, Nat.lt_of_lt_of_le (h2.2.2 (by simpa [sz] using e)).2.2.1 hb.size, by simpa [sz, hnot] using (hb.block _ (h2.2.2 (by simpa [sz] using e)).2.2.1).trans (h2.2.2 (by simpa [sz] using e)).2.2.2⟩⟩
    · have hal : Below w.heap.size w (w.alloc (.cells zs T)) := (Below.refl _ _).alloc (Nat.le_refl _) _
      have hnot : l.getD 6 false = false := by cases h6 : l.getD 6 false with | false => rfl | true => exact absurd (h64 h6) (by rw [hif]; simp)
      refine s4 a w _ hF ⟨hl', hF.put m5 _, hbw.alloc hbw.size _, w.heap.size, g2, u1, u2, ?_, ?_, fun _ e => Nat.ne_of_gt (h2.2.2 (by simpa [sz] using e)).2.2.1, by simp [sz], by simpa [sz] using h75, by simpa [sz] using h61, by simpa [sz] using h73⟩
      · exact ⟨fun e => (put_other _ _ _ _ (Ne.symm n15)).trans (h1.1 (by simpa [sz] using e)), fun e => ⟨(put_other _ _ _ _ (Ne.symm n25)).trans (h1.2.1 (by simpa [sz] using e)).1, k1 _ _ _ (h1.2.1 (by simpa [sz] using e)).2 (Kept.below hal)⟩, fun _ => ⟨put_same _ _ _ (by rw [ps]; exact i5), hbw.size, by simp, by simpa [sz, hnot] using heap_alloc_new w _⟩⟩
      · exact (h2.step k2 (Kept.below hal) (put_other _ _ _ _ (Ne.symm n35)) (put_other _ _ _ _ (Ne.symm n45)) (put_other _ _ _ _ n56) (fun e => hal.block _ (h2.2.2 e).2.2.1)).flags (by simp [sz]) (by simp [sz]) (by simp [sz]) (by simp [sz])
    · have hal : Below w.heap.size w (w.alloc (.cells zs T)) := (Below.refl _ _).alloc (Nat.le_refl _) _
      have hnot : l.getD 7 false = false := by cases h6 : l.getD 7 false with | false => rfl | true => exact absurd (h75 h6) (by rw [hif]; simp)
      refine s5 a w _ hF ⟨hl', hF.put m6 _, hbw.alloc hbw.size _, g1, w.heap.size, u1, u2, ?_, ?_, fun e _ => Nat.ne_of_lt (h1.2.2 (by simpa [sz] using e)).2.2.1, by simpa [sz] using h64, by simp [sz], by simpa [sz] using h61, by simpa [sz] using h73⟩
      · exact (h1.step k1 (Kept.below hal) (put_other _ _ _ _ (Ne.symm n16)) (put_other _ _ _ _ (Ne.symm n26)) (put_other _ _ _ _ (Ne.symm n56)) (fun e => hal.block _ (h1.2.2 e).2.2.1)).flags (by simp [sz]) (by simp [sz]) (by simp [sz]) (by simp [sz])
      · exact ⟨fun e => (put_other _ _ _ _ (Ne.symm n36)).trans (h2.1 (by simpa [sz] using e)), fun e => ⟨(put_other _ _ _ _ (Ne.symm n46)).trans (h2.2.1 (by simpa [sz] using e)).1, k2 _ _ _ (h2.2.1 (by simpa [sz] using e)).2 (Kept.below hal)⟩, fun _ => ⟨put_same _ _ _ (by rw [ps]; exact i6), hbw.size, by simp, by simpa [sz, hnot] using heap_alloc_new w _⟩⟩
    · have hc := h1.2.1 (waits_spec w61 hi)
      have ha := h1.2.2 (waits_spec w64 hi)
      have hz0 : w.heap[g1]? = some (.cells zs T (0, 0)) := by simpa [hif] using ha.2.2.2
      refine s6 a w _ g1 u1 hF ha.1 hc.1 hc.2 hz0 (fun w' hg' ho => ?_)
      have hk : Kept w w' := ho.kept hz0 hz
      refine ⟨hl', hF, ho.below hbw ha.2.1, g1, g2, u1, u2, ?_, ?_, by simpa [sz] using hne, fun _ => by simpa [sz] using waits_spec w64 hi, by simpa [sz] using h75, fun _ => by simpa [sz] using waits_spec w61 hi, by simpa [sz] using h73⟩
      · exact ⟨fun e => h1.1 (by simpa [sz] using e), fun e => ⟨hc.1, k1 _ _ _ hc.2 hk⟩, fun _ => ⟨ha.1, ha.2.1, by rw [ho.size]; exact ha.2.2.1, by simpa [sz] using hg'⟩⟩
      · exact (h2.step k2 hk rfl rfl rfl (fun e => ho.block _ (Ne.symm (hne (waits_spec w64 hi) e)))).flags (by simp [sz]) (by simp [sz]) (by simp [sz]) (by simp [sz])
    · have hc := h2.2.1 (waits_spec w73 hi)
      have ha := h2.2.2 (waits_spec w75 hi)
      have hz0 : w.heap[g2]? = some (.cells zs T (0, 0)) := by simpa [hif] using ha.2.2.2
      refine s7 a w _ g2 u2 hF ha.1 hc.1 hc.2 hz0 (fun w' hg' ho => ?_)
      have hk : Kept w w' := ho.kept hz0 hz
      refine ⟨hl', hF, ho.below hbw ha.2.1, g1, g2, u1, u2, ?_, ?_, by simpa [sz] using hne, by simpa [sz] using h64, fun _ => by simpa [sz] using waits_spec w75 hi, by simpa [sz] using h61, fun _ => by simpa [sz] using waits_spec w73 hi⟩
      · exact (h1.step k1 hk rfl rfl rfl (fun e => ho.block _ (hne e (waits_spec w75 hi)))).flags (by simp [sz]) (by simp [sz]) (by simp [sz]) (by simp [sz])
      · exact ⟨fun e => h2.1 (by simpa [sz] using e), fun e => ⟨hc.1, k2 _ _ _ hc.2 hk⟩, fun _ => ⟨ha.1, ha.2.1, by rw [ho.size]; exact ha.2.2.1, by simpa [sz] using hg'⟩⟩
  · rintro l a w ⟨hl, hF, hbw, g1, g2, u1, u2, h1, h2, hne, _⟩ hr
    have hall := all_of_back hback (by omega) hr
    have e := fun i (h : i < 8) => hall i (by omega)
    rw [e 0 (by omega), e 1 (by omega), e 4 (by omega), e 6 (by omega)] at h1
    rw [e 2 (by omega), e 3 (by omega), e 5 (by omega), e 7 (by omega)] at h2
    exact fin a w g1 g2 u1 u2 hF hbw h1 h2 (hne (e 4 (by omega)) (e 5 (by omega)))
  · have z : ∀ j, (Array.replicate ops.size false).getD j false = false := by intro j; simp [Array.getElem?_replicate]; split <;> rfl
    refine ⟨by simp [hsz], ⟨rfl, rfl, fun _ _ => rfl⟩, hB, 0, 0, undef, undef, ?_, ?_, ?_⟩
    · rw [z, z, z, z]; exact ⟨(fun h => by cases h), (fun h => by cases h), (fun h => by cases h)⟩
    · rw [z, z, z, z]; exact ⟨(fun h => by cases h), (fun h => by cases h), (fun h => by cases h)⟩
    · rw [z, z, z, z]; exact ⟨(fun h => by cases h), (fun h => by cases h), (fun h => by cases h), (fun h => by cases h), (fun h => by cases h)⟩
  · simp [still]
end Go.Proofs.YthgkdpfkaobgoaaDoor
end

section
/-
  zint.lay: digits as bytes.
-/
namespace Go.Proofs.YthgkdpfkaobgoaaDoor
open Go.RowKit
theorem elem8_info : (Tryd.prog.info? 5).map (fun i => (i.zero, i.size, i.bytes)) = some (some (.int .u8 0), 1, 1) := by kernel_rfl
/-- A digit's four bytes, the least first. -/
def d4 (x : Nat) : List UInt8 := [UInt8.ofNat x, UInt8.ofNat (x / 256), UInt8.ofNat (x / 65536), UInt8.ofNat (x / 16777216)]
def lay4 (xs : List Nat) : List UInt8 := xs.flatMap d4
theorem lay4_len (xs : List Nat) : (lay4 xs).length = 4 * xs.length := by
  unfold lay4
  induction xs with
  | nil => rfl
  | cons x xs ih => rw [List.flatMap_cons, List.length_append, ih]; simp [d4]; omega
theorem lay4_take {xs : List Nat} {k : Nat} (hk : k < xs.length) : lay4 (xs.take (k + 1)) = lay4 (xs.take k) ++ d4 (xs[k]?.getD 0) := by
  unfold lay4
  rw [take_one hk, List.flatMap_append]
  simp
theorem four_new {w : World} {a b c d : Value} {T : TypeId} {j : Nat} {u : Value} (hj : [a, b, c, d][j]? = some u) : (w.alloc (.cells #[a, b, c, d] T)).cell? ((⟨w.heap.size, 0, none⟩ : Addr).add j) = some u := by
  rw [Addr.add_lit, Nat.zero_add, cell_of_row _ _ _ _ _ _ (heap_alloc_new w _)]
  simpa using hj
theorem d4_cells {x : Nat} {X : Int} (h : (x : Int) = X) (hx : x < 4294967296) : Lib.byteCells (d4 x) = [.int .u8 (X % 256), .int .u8 (X / 256 % 256), .int .u8 (X / 65536 % 256), .int .u8 (X / 16777216)] := by
  subst h
  unfold Lib.byteCells d4
  simp
  omega
theorem byteCells_add (a b : List UInt8) : Lib.byteCells (a ++ b) = Lib.byteCells a ++ Lib.byteCells b := by simp [Lib.byteCells]
set_option maxHeartbeats 1000000 in
set_option maxRecDepth 100000 in
theorem lay_any (base : Nat) (v : Value) (n : Nat) (bs : List UInt8) (D : Option Addr) (d : Nat) (xs : List Nat) (w : World) (hown : w.ownsRow base 5 1 v n (Lib.byteCells bs)) (h : Dg w D d xs)
    (hB : 0 < xs.length → ∀ b o, D = some ⟨b, o, none⟩ → b < base) (hbase : base ≤ w.heap.size) (hl : n + 4 * xs.length ≤ 1000000) :
    Calls Tryd.prog 69 #[v, .slice D xs.length d] w fun e w' => ∃ v', e = .returned v' ∧ w'.ownsRow base 5 1 v' (n + 4 * xs.length) (Lib.byteCells (bs ++ lay4 xs)) ∧ Below base w w' := by
  obtain ⟨i0, hi, hz0, hz1, hz2⟩ := info_parts elem8_info
  have H := Lib.hid h
  have HO := Lib.hid hown
  have HBB := Lib.hid hB
  clear h hown hB
  have hl1 : xs.length ≤ 250000 := by omega
  go_enter Tryd.func69, Tryd.ntmps69
  go_wp2
  go_loopw [0, 9] (fun v i wr => ∃ k : Nat, k ≤ xs.length ∧ i = .int .i64 k ∧ Hid (wr.ownsRow base 5 1 v (n + 4 * k) (Lib.byteCells (bs ++ lay4 (xs.take k)))) ∧ Hid (Below base w wr)) (fun _ i _ => xs.length - (intOf i).toNat)
  case atStart => exact ⟨0, Nat.zero_le _, rfl, Lib.hid (by simpa [lay4] using HO.out), Lib.hid (Below.refl _ _)⟩
  case round =>
    obtain ⟨k, hk, rfl, ho, hb⟩ := hrel
    by_cases hlt : k < xs.length
    · obtain ⟨b, off, hD, hbl, hcell⟩ := H.out.2.2 (by omega)
      have hc := (hb.out.cell (p := ⟨b, off + k, none⟩) (HBB.out (by omega) b off hD)).trans (hcell k hlt)
      have hx := getD_lt H.out.2.1 k
      have hsz := hb.out.size
      have HX := Lib.hid hx
      generalize hxk : xs[k]?.getD 0 = x at *
      have HXK := Lib.hid hxk
      clear hcell hxk hx
      generalize hX : ((x : Nat) : Int) = X at *
      have i0' : 0 ≤ X := by omega
      have i1' : X < 4294967296 := by have := HX.out; omega
      have HXX := Lib.hid hX
      clear hX
      subst hD
      have hkk : n + 4 * k + 4 ≤ 1000000 := by omega
      go_wp2_with (at_builtin; refine wpList_append_own _ rfl _ _ 81 rfl base 5 i0 (.int .u8 0) 1 1 Tryd.underlying81 hi hz0 hz1 hz2 rfl (by decide) _ _ _ rfl (ho.out.alloc _) ⟨wr.heap.size, 0, none⟩ 4 4 [.int .u8 (X % 256), .int .u8 (X / 256 % 256), .int .u8 (X / 65536 % 256), .int .u8 (X / 16777216)] rfl rfl (fun j u hj => four_new hj) (by intro u hu; simp at hu; rcases hu with rfl | rfl | rfl | rfl <;> rfl) (by unfold maxLen; omega) (by omega) (by simp; omega) ?_)
      intro v' w1 hown1 hgrow _
      have HN := Lib.hid hown1
      have HB1 := Lib.hid ((hb.out.alloc (by omega) _).grown hgrow (by simp; omega) (fun k hk => (ho.out.lt k hk).1))
      clear hown1 hgrow
      go_wp2
      go_roundw
      case rel =>
        refine ⟨k + 1, by omega, by go_num, Lib.hid ?_, HB1⟩
        rw [lay4_take hlt, HXK.out, ← List.append_assoc, byteCells_add, d4_cells HXX.out HX.out]
        exact HN.out
      case measure => simp [intOf]; omega
    · have hkl : k = xs.length := by omega
      subst hkl
      have e : xs.take xs.length = xs := List.take_length
      have HH := Lib.hid (And.intro ho.out hb.out)
      rw [e] at HH
      clear ho hb e
      go_wp2
      go_ret
      exact ⟨_, rfl, HH.out.1, HH.out.2⟩
end Go.Proofs.YthgkdpfkaobgoaaDoor
end

section
/-
  zint.sum, Add.
-/
namespace Go.Proofs.YthgkdpfkaobgoaaDoor
open Go.RowKit
theorem bcellN {W w1 : World} {N : Nat} (hb : Below W.heap.size W w1) (hN : N ≤ W.heap.size) : (∀ b o, b < N → w1.cell? ⟨b, o, none⟩ = W.cell? ⟨b, o, none⟩) ∧ (∀ b o, b < N → w1.frozen? ⟨b, o, none⟩ = W.frozen? ⟨b, o, none⟩) :=
  ⟨fun b o h => hb.cell (p := ⟨b, o, none⟩) (by simpa using Nat.lt_of_lt_of_le h hN), fun b o h => hb.frozen (p := ⟨b, o, none⟩) (by simpa using Nat.lt_of_lt_of_le h hN)⟩
theorem bcellB {W w1 : World} {N : Nat} (hb : Below N W w1) : (∀ b o, b < N → w1.cell? ⟨b, o, none⟩ = W.cell? ⟨b, o, none⟩) ∧ (∀ b o, b < N → w1.frozen? ⟨b, o, none⟩ = W.frozen? ⟨b, o, none⟩) :=
  ⟨fun b o h => hb.cell (p := ⟨b, o, none⟩) h, fun b o h => hb.frozen (p := ⟨b, o, none⟩) h⟩
theorem undrew {w w1 : World} (hb : Below w.drew.heap.size w.drew w1) : Below w.heap.size w w1 := ⟨hb.os, hb.tape, hb.output, hb.size, hb.block⟩
theorem N2 (w : World) (o1 o2 o3 : Obj) : w.heap.size + 2 ≤ (((w.alloc o1).alloc o2).alloc o3).heap.size := by simp
theorem size1 (w : World) (o1 : Obj) : w.heap.size + 1 ≤ (w.alloc o1).heap.size := by simp
theorem size2 (w : World) (o1 o2 : Obj) : w.heap.size + 2 ≤ ((w.alloc o1).alloc o2).heap.size := by simp
theorem size3 (w : World) (o1 o2 o3 : Obj) : w.heap.size + 3 ≤ (((w.alloc o1).alloc o2).alloc o3).heap.size := by simp
set_option maxHeartbeats 4000000 in
set_option maxRecDepth 100000 in
theorem sum_same (A B : Option Addr) (c d x y : Nat) (s : Bool) (w : World) (h : Dg w A c (digs x)) (h' : Dg w B d (digs y)) (hl : (digs x).length ≤ 1048576) (hl' : (digs y).length ≤ 1048576) :
    Calls Tryd.prog 44 #[.agg #[.slice A (digs x).length c, .bool s], .agg #[.slice B (digs y).length d, .bool s]] w fun e w' => ∃ A' c', e = .returned (.agg #[.slice A' (digs (x + y)).length c', .bool s]) ∧ Dg w' A' c' (digs (x + y)) ∧ Below w.heap.size w w' := by
  have HW := Lib.hid (with_any A B c d x y)
  have hs : (s == s) = true := by simp
  go_enter Tryd.func44, Tryd.ntmps44
  go_wp2
  go_region_held3 (fun w' => (∀ b o, b < w.heap.size + 2 → w'.cell? ⟨b, o, none⟩ = (((w.alloc (.cells #[.slice A (digs x).length c, .bool s] 59)).alloc (.cells #[.slice B (digs y).length d, .bool s] 59)).alloc (.cells #[.slice none 0 0, .bool false] 59)).cell? ⟨b, o, none⟩) ∧ (∀ b o, b < w.heap.size + 2 → w'.frozen? ⟨b, o, none⟩ = (((w.alloc (.cells #[.slice A (digs x).length c, .bool s] 59)).alloc (.cells #[.slice B (digs y).length d, .bool s] 59)).alloc (.cells #[.slice none 0 0, .bool false] 59)).frozen? ⟨b, o, none⟩))
    (first | exact ⟨fun _ _ _ => rfl, fun _ _ _ => rfl⟩ | exact bcellB HB1.out | exact bcellB ((HB1.out.setCell (by simp) _).setCell (by simp) _))
    (first | (go_at_call 74; refine (HW.out _ (h.below (below_drew (below3 _ _ _ _))) (h'.below (below_drew (below3 _ _ _ _))) hl hl').mono ?_; rintro e w1 ⟨A1, c1, rfl, hd, hb⟩; (have HB1 := Lib.hid ((undrew hb).mono (N2 _ _ _ _))); (obtain ⟨hc1, hf1⟩ := bcell (undrew hb)); (have HO1 := Lib.hid (off_box (g := w.heap.size + 1 + 1) hd (undrew hb) (by simp) noint2)); (have HD1 := Lib.hid hd); clear hb hd))
  go_wp2
  refine bodyPost_ret (v := .agg #[.slice A1 (digs (x + y)).length c1, .bool s]) (by simp [results, Tryd.results44, go_sem, hc1]) rfl ⟨A1, c1, rfl, ?_, ?_⟩
  · exact (HD1.out.set_off HO1.out _ _).set_off HO1.out _ _
  · exact (((below3 w _ _ _).trans (HB1.out.mono (by omega))).setCell (by simp; omega) _).setCell (by simp; omega) _
set_option maxHeartbeats 4000000 in
set_option maxRecDepth 100000 in
theorem sum_less (A B : Option Addr) (c d x y : Nat) (s r : Bool) (w : World) (h : Dg w A c (digs x)) (h' : Dg w B d (digs y)) (hl : (digs x).length ≤ 1048576) (hl' : (digs y).length ≤ 1048576) (hsr : (s == r) = false) (hlt : x < y) :
    Calls Tryd.prog 44 #[.agg #[.slice A (digs x).length c, .bool s], .agg #[.slice B (digs y).length d, .bool r]] w fun e w' => ∃ A' c', e = .returned (.agg #[.slice A' (digs (y - x)).length c', .bool r]) ∧ Dg w' A' c' (digs (y - x)) ∧ Below w.heap.size w w' := by
  have HA := Lib.hid (fun W h1 h2 => against_any A B c d x y (-1) W h1 h2 hl hl' (cmpi_lt hlt))
  have HW := Lib.hid (fun W h1 h2 => without_any B A d c y x W h1 h2 hl' hl (Nat.le_of_lt hlt))
  clear hlt
  go_enter Tryd.func44, Tryd.ntmps44
  go_wp2_with fail
  refine (HA.out _ (h.below (below3 _ _ _ _)) (h'.below (below3 _ _ _ _))).mono ?_
  rintro e w0 ⟨rfl, hb0⟩
  have HB0 := Lib.hid hb0
  have H1 := Lib.hid (h.below ((below3 w _ _ _).trans (hb0.mono (by simp; omega))))
  have H2 := Lib.hid (h'.below ((below3 w _ _ _).trans (hb0.mono (by simp; omega))))
  obtain ⟨hc0, hf0⟩ := bcell hb0
  clear hb0 h h'
  go_wp2
  go_region_held3 (fun w' => (∀ b o, b < w.heap.size + 2 → w'.cell? ⟨b, o, none⟩ = (((w.alloc (.cells #[.slice A (digs x).length c, .bool s] 59)).alloc (.cells #[.slice B (digs y).length d, .bool r] 59)).alloc (.cells #[.slice none 0 0, .bool false] 59)).cell? ⟨b, o, none⟩))
    (first | exact (bcellB (HB0.out.mono (N2 _ _ _ _))).1 | exact (bcellB HB1.out).1 | exact (bcellB ((HB1.out.setCell (by simp) _).setCell (by simp) _)).1)
    (first | (go_at_call 63; refine (HW.out _ (H2.out.below (below_drew (Below.refl _ _))) (H1.out.below (below_drew (Below.refl _ _)))).mono ?_; rintro e w1 ⟨A1, c1, rfl, hd, hb⟩; (have HB2 := Lib.hid (HB0.out.trans ((undrew hb).mono HB0.out.size))); (have HB1 := Lib.hid (HB2.out.mono (N2 _ _ _ _))); (obtain ⟨hc1, hf1⟩ := bcell HB2.out); (have HO1 := Lib.hid (off_box (g := w.heap.size + 1 + 1) hd HB2.out (by simp) noint2)); (have HD1 := Lib.hid hd); clear hb hd))
  go_wp2
  refine bodyPost_ret (v := .agg #[.slice A1 (digs (y - x)).length c1, .bool r]) (by simp [results, Tryd.results44, go_sem, hc1]) rfl ⟨A1, c1, rfl, ?_, ?_⟩
  · exact (HD1.out.set_off HO1.out _ _).set_off HO1.out _ _
  · exact (((below3 w _ _ _).trans (HB1.out.mono (by omega))).setCell (by simp; omega) _).setCell (by simp; omega) _
set_option maxHeartbeats 4000000 in
set_option maxRecDepth 100000 in
theorem sum_more (A B : Option Addr) (c d x y : Nat) (s r : Bool) (w : World) (h : Dg w A c (digs x)) (h' : Dg w B d (digs y)) (hl : (digs x).length ≤ 1048576) (hl' : (digs y).length ≤ 1048576) (hsr : (s == r) = false) (q : Int) (hq0 : decide (q < 0) = false) (hq : cmpi x y = q) (hle : y ≤ x) :
    Calls Tryd.prog 44 #[.agg #[.slice A (digs x).length c, .bool s], .agg #[.slice B (digs y).length d, .bool r]] w fun e w' => ∃ A' c', e = .returned (.agg #[.slice A' (digs (x - y)).length c', .bool s]) ∧ Dg w' A' c' (digs (x - y)) ∧ Below w.heap.size w w' := by
  have HA := Lib.hid (fun W h1 h2 => against_any A B c d x y q W h1 h2 hl hl' hq)
  have HW := Lib.hid (fun W h1 h2 => without_any A B c d x y W h1 h2 hl hl' hle)
  clear hq hle
  go_enter Tryd.func44, Tryd.ntmps44
  go_wp2_with fail
  refine (HA.out _ (h.below (below3 _ _ _ _)) (h'.below (below3 _ _ _ _))).mono ?_
  rintro e w0 ⟨rfl, hb0⟩
  have HB0 := Lib.hid hb0
  have H1 := Lib.hid (h.below ((below3 w _ _ _).trans (hb0.mono (by simp; omega))))
  have H2 := Lib.hid (h'.below ((below3 w _ _ _).trans (hb0.mono (by simp; omega))))
  obtain ⟨hc0, hf0⟩ := bcell hb0
  clear hb0 h h'
  go_wp2
  go_region_held3 (fun w' => (∀ b o, b < w.heap.size + 2 → w'.cell? ⟨b, o, none⟩ = (((w.alloc (.cells #[.slice A (digs x).length c, .bool s] 59)).alloc (.cells #[.slice B (digs y).length d, .bool r] 59)).alloc (.cells #[.slice none 0 0, .bool false] 59)).cell? ⟨b, o, none⟩))
    (first | exact (bcellB (HB0.out.mono (N2 _ _ _ _))).1 | exact (bcellB HB1.out).1 | exact (bcellB ((HB1.out.setCell (by simp) _).setCell (by simp) _)).1)
    (first | (go_at_call 63; refine (HW.out _ (H1.out.below (below_drew (Below.refl _ _))) (H2.out.below (below_drew (Below.refl _ _)))).mono ?_; rintro e w1 ⟨A1, c1, rfl, hd, hb⟩; (have HB2 := Lib.hid (HB0.out.trans ((undrew hb).mono HB0.out.size))); (have HB1 := Lib.hid (HB2.out.mono (N2 _ _ _ _))); (obtain ⟨hc1, hf1⟩ := bcell HB2.out); (have HO1 := Lib.hid (off_box (g := w.heap.size + 1 + 1) hd HB2.out (by simp) noint2)); (have HD1 := Lib.hid hd); clear hb hd))
  go_wp2
  refine bodyPost_ret (v := .agg #[.slice A1 (digs (x - y)).length c1, .bool s]) (by simp [results, Tryd.results44, go_sem, hc1]) rfl ⟨A1, c1, rfl, ?_, ?_⟩
  · exact (HD1.out.set_off HO1.out _ _).set_off HO1.out _ _
  · exact (((below3 w _ _ _).trans (HB1.out.mono (by omega))).setCell (by simp; omega) _).setCell (by simp; omega) _
theorem sg_same (s : Bool) (x y : Nat) : sg s (x + y) = sg s x + sg s y := by unfold sg; cases s <;> simp <;> omega
theorem sg_less {s r : Bool} (h : (s == r) = false) {x y : Nat} (hlt : x < y) : sg r (y - x) = sg s x + sg r y := by unfold sg; cases s <;> cases r <;> simp at h ⊢ <;> omega
theorem sg_more {s r : Bool} (h : (s == r) = false) {x y : Nat} (hlt : y ≤ x) : sg s (x - y) = sg s x + sg r y := by unfold sg; cases s <;> cases r <;> simp at h ⊢ <;> omega
theorem sum_any (A B : Option Addr) (c d x y : Nat) (s r : Bool) (w : World) (h : Dg w A c (digs x)) (h' : Dg w B d (digs y)) (hl : (digs x).length ≤ 1000000) (hl' : (digs y).length ≤ 1000000) :
    Calls Tryd.prog 44 #[.agg #[.slice A (digs x).length c, .bool s], .agg #[.slice B (digs y).length d, .bool r]] w fun e w' => ∃ A' c' m t, e = .returned (.agg #[.slice A' (digs m).length c', .bool t]) ∧ sg t m = sg s x + sg r y ∧ (digs m).length ≤ max (digs x).length (digs y).length + 1 ∧ Dg w' A' c' (digs m) ∧ Below w.heap.size w w' := by
  cases hsr : (s == r)
  · rcases Nat.lt_or_ge x y with hlt | hge
    · exact (sum_less A B c d x y s r w h h' (by omega) (by omega) hsr hlt).mono fun _ _ ⟨A', c', he, hd, hb⟩ => ⟨A', c', y - x, r, he, sg_less hsr hlt, by have := digs_sub_len y x; omega, hd, hb⟩
    · have hq : decide (cmpi x y < 0) = false := by
        rcases Nat.eq_or_lt_of_le hge with e | e
        · rw [cmpi_eq e.symm]; rfl
        · rw [cmpi_gt e]; rfl
      exact (sum_more A B c d x y s r w h h' (by omega) (by omega) hsr _ hq rfl hge).mono fun _ _ ⟨A', c', he, hd, hb⟩ => ⟨A', c', x - y, s, he, sg_more hsr hge, by have := digs_sub_len x y; omega, hd, hb⟩
  · have e : s = r := by simpa using hsr
    subst e
    exact (sum_same A B c d x y s w h h' (by omega) (by omega)).mono fun _ _ ⟨A', c', he, hd, hb⟩ => ⟨A', c', x + y, s, he, sg_same s x y, digs_add_len x y, hd, hb⟩
end Go.Proofs.YthgkdpfkaobgoaaDoor
end

section
/-
  zint.Add, Sub, Neg, Mul, Make.
-/
namespace Go.Proofs.YthgkdpfkaobgoaaDoor
open Go.RowKit
theorem sg_neg (s : Bool) (m : Nat) : (s && decide (m ≠ 0)) = decide (sg s m < 0) := by
  cases s
  · rw [Bool.false_and]; exact (decide_eq_false (by unfold sg; simp)).symm
  · rw [Bool.true_and, decide_eq_decide]; unfold sg; simp; omega
theorem sg_not (s : Bool) (m : Nat) : sg (!s) m = -sg s m := by unfold sg; cases s <;> simp
theorem sg_abs (s : Bool) (m : Nat) : (sg s m).natAbs = m := by unfold sg; cases s <;> simp
theorem sg_take (s : Bool) (m : Nat) : sg (s && decide (0 < m)) m = sg s m := by
  unfold sg; cases s
  · simp
  · rcases Nat.eq_zero_or_pos m with h | h
    · subst h; rfl
    · simp [h]
/-- A whole number as an answer. -/
def Zr (z : Int) (w : World) (e : Ending) (w' : World) : Prop := ∃ A' c', e = .returned (.agg #[.bool (decide (z < 0)), .slice A' (digs z.natAbs).length c']) ∧ Dg w' A' c' (digs z.natAbs) ∧ Below w.heap.size w w'
theorem zr_give {w w' : World} {A : Option Addr} {c m : Nat} {t : Bool} {z : Int} (hz : sg t m = z) (hd : Dg w' A c (digs m)) (hb : Below w.heap.size w w') : Zr z w (.returned (.agg #[.bool (t && decide (m ≠ 0)), .slice A (digs m).length c])) w' := by
  have e1 := sg_neg t m
  have e2 := sg_abs t m
  rw [hz] at e1 e2
  rw [e1]
  subst e2
  exact ⟨A, c, rfl, hd, hb⟩
set_option maxHeartbeats 4000000 in
set_option maxRecDepth 100000 in
theorem zadd_any (A B : Option Addr) (c d : Nat) (s r : Bool) (xs ys : List Nat) (w : World) (h : Dg w A c xs) (h' : Dg w B d ys) (hl : xs.length ≤ 1000000) (hl' : ys.length ≤ 1000000) :
    Calls Tryd.prog 15 #[.agg #[.bool s, .slice A xs.length c], .agg #[.bool r, .slice B ys.length d]] w fun e w' => Zr (sg s (val xs) + sg r (val ys)) w e w' := by
  have l1 := digs_len_le h.2.1
  have l2 := digs_len_le h'.2.1
  go_enter Tryd.func15, Tryd.ntmps15
  go_wp2
  have HB0 := Lib.hid (Below.refl (((w.alloc (.cells #[.bool s, .slice A xs.length c] 24)).alloc (.cells #[.bool r, .slice B ys.length d] 24)).alloc (.cells #[.bool false, .slice none 0 0] 24)).heap.size (((w.alloc (.cells #[.bool s, .slice A xs.length c] 24)).alloc (.cells #[.bool r, .slice B ys.length d] 24)).alloc (.cells #[.bool false, .slice none 0 0] 24)))
  have HD1 := Lib.hid (below_drew HB0.out)
  have H1 := Lib.hid (h.below (below3 _ (.cells #[.bool s, .slice A xs.length c] 24) (.cells #[.bool r, .slice B ys.length d] 24) (.cells #[.bool false, .slice none 0 0] 24)))
  have H2 := Lib.hid (h'.below (below3 _ (.cells #[.bool s, .slice A xs.length c] 24) (.cells #[.bool r, .slice B ys.length d] 24) (.cells #[.bool false, .slice none 0 0] 24)))
  clear h h'
  go_region_held3 (fun w' => (∀ b o, b < w.heap.size + 2 → w'.cell? ⟨b, o, none⟩ = (((w.alloc (.cells #[.bool s, .slice A xs.length c] 24)).alloc (.cells #[.bool r, .slice B ys.length d] 24)).alloc (.cells #[.bool false, .slice none 0 0] 24)).cell? ⟨b, o, none⟩))
    (first | exact fun _ _ _ => rfl | exact (bcellB (K1.out.mono (N2 _ _ _ _))).1 | exact (bcellB (K2.out.mono (N2 _ _ _ _))).1 | exact (bcellB (K3.out.mono (N2 _ _ _ _))).1 | exact (bcellB (K4.out.mono (N2 _ _ _ _))).1 | exact (bcellB (((K4.out.mono (N2 _ _ _ _)).setCell (by simp) _).setCell (by simp) _)).1)
    (first
      | (go_at_call_of 45 A; refine (take_any A c s xs _ (H1.out.below HD1.out) (by omega)).mono ?_; rintro e w1 ⟨A1, c1, rfl, hd, hb⟩; (have K1 := Lib.hid (HD1.out.trans (hb.mono HD1.out.size))); (have G1 := Lib.hid hd); clear hb hd)
      | (go_at_call_of 45 B; refine (take_any B d r ys _ (H2.out.below K1.out) (by omega)).mono ?_; rintro e w2 ⟨A2, c2, rfl, hd, hb⟩; (have K2 := Lib.hid (K1.out.trans (hb.mono K1.out.size))); (have G2 := Lib.hid hd); (have F1 := Lib.hid (G1.out.below hb)); clear hb hd)
      | (go_at_call 44; refine (sum_any A1 A2 c1 c2 (val xs) (val ys) _ _ _ F1.out G2.out (by omega) (by omega)).mono ?_; rintro e w3 ⟨A3, c3, m, t, rfl, hm, hlm, hd, hb⟩; (have K3 := Lib.hid (K2.out.trans (hb.mono K2.out.size))); (have G3 := Lib.hid hd); (have M := Lib.hid hm); clear hb hd hm)
      | (go_at_call 46; refine (give_any A3 c3 m t _ G3.out (by omega)).mono ?_; rintro e w4 ⟨A4, c4, rfl, hd, hb⟩; (have K4 := Lib.hid (K3.out.trans (hb.mono K3.out.size))); (obtain ⟨hc4, hf4⟩ := bcell K4.out); (have HO4 := Lib.hid (off_box (g := w.heap.size + 1 + 1) hd K4.out (by simp) noint2')); (have G4 := Lib.hid hd); clear hb hd))
  go_wp2
  refine bodyPost_ret (v := .agg #[.bool (t && decide (m ≠ 0)), .slice A4 (digs m).length c4]) (by simp [results, Tryd.results15, go_sem, hc4]) rfl ?_
  exact zr_give (by rw [M.out, sg_take, sg_take]) ((G4.out.set_off HO4.out _ _).set_off HO4.out _ _) ((((below3 w _ _ _).trans (K4.out.mono (by simp; omega))).setCell (by simp; omega) _).setCell (by simp; omega) _)
set_option maxHeartbeats 2000000 in
set_option maxRecDepth 100000 in
theorem zneg_any (A : Option Addr) (c : Nat) (s : Bool) (xs : List Nat) (w : World) (h : Dg w A c xs) (hl : xs.length ≤ 1000000) :
    Calls Tryd.prog 21 #[.agg #[.bool s, .slice A xs.length c]] w fun e w' => Zr (-sg s (val xs)) w e w' := by
  have l1 := digs_len_le h.2.1
  have HS := Lib.hid (sg_take s (val xs))
  go_enter Tryd.func21, Tryd.ntmps21
  go_wp2_with fail
  refine (take_any A c s xs _ (h.below (below2 _ _ _)) (by omega)).mono ?_
  rintro e w1 ⟨A1, c1, rfl, hd, hb⟩
  generalize (s && decide (0 < val xs)) = t at *
  have hz : w.heap.size + 1 < w1.heap.size := by have := hb.size; simp at this; omega
  have K1 := Lib.hid hb
  have G1 := Lib.hid hd
  obtain ⟨hc1, hf1⟩ := bcell hb
  clear hb hd h
  go_wp2_with fail
  refine (give_any A1 c1 (val xs) (!t) _ (G1.out.below (below1 _ _)) (by omega)).mono ?_
  rintro e w2 ⟨A2, c2, rfl, hd, hb⟩
  have K2 := Lib.hid (K1.out.trans (((below1 _ _).trans (hb.mono (by simp))).mono K1.out.size))
  have G2 := Lib.hid hd
  have HO2 := Lib.hid (off_box (g := w.heap.size + 1) hd K2.out (by simp) noint2')
  obtain ⟨hc2, hf2⟩ := bcell K2.out
  clear hb hd
  go_wp2
  refine bodyPost_ret (v := .agg #[.bool (!t && decide (val xs ≠ 0)), .slice A2 (digs (val xs)).length c2]) (by simp [results, Tryd.results21, go_sem, hc2]) rfl ?_
  exact zr_give (by rw [sg_not, HS.out]) ((G2.out.set_off HO2.out _ _).set_off HO2.out _ _) ((((below2 w _ _).trans (K2.out.mono (by simp; omega))).setCell (by simp) _).setCell (by simp) _)
set_option maxHeartbeats 2000000 in
set_option maxRecDepth 100000 in
theorem zmake_any (A : Option Addr) (c : Nat) (s : Bool) (xs : List Nat) (w : World) (h : Dg w A c xs) (hl : xs.length ≤ 1000000) :
    Calls Tryd.prog 25 #[.bool s, .slice A xs.length c] w fun e w' => Zr (sg s (val xs)) w e w' := by
  have l1 := digs_len_le h.2.1
  go_enter Tryd.func25, Tryd.ntmps25
  go_wp2_with fail
  refine (trim_any A c xs _ (h.below (below1 _ _)) (by omega)).mono ?_
  rintro e w1 ⟨A1, c1, rfl, hd, hb⟩
  have K1 := Lib.hid hb
  have G1 := Lib.hid hd
  obtain ⟨hc1, hf1⟩ := bcell hb
  clear hb hd h
  go_wp2_with fail
  refine (give_any A1 c1 (val xs) s _ G1.out (by omega)).mono ?_
  rintro e w2 ⟨A2, c2, rfl, hd, hb⟩
  have K2 := Lib.hid (K1.out.trans (hb.mono K1.out.size))
  have G2 := Lib.hid hd
  have HO2 := Lib.hid (off_box (g := w.heap.size) hd K2.out rfl noint2')
  obtain ⟨hc2, hf2⟩ := bcell K2.out
  clear hb hd
  go_wp2
  refine bodyPost_ret (v := .agg #[.bool (s && decide (val xs ≠ 0)), .slice A2 (digs (val xs)).length c2]) (by simp [results, Tryd.results25, go_sem, hc2]) rfl ?_
  exact zr_give rfl ((G2.out.set_off HO2.out _ _).set_off HO2.out _ _) ((((below1 w _).trans (K2.out.mono (by simp))).setCell (by simp) _).setCell (by simp) _)
theorem wrap_u64_eq (x : Int) : IntKind.u64.wrap x = x % 18446744073709551616 := by simp [IntKind.wrap, IntKind.signed, IntKind.bits]
set_option maxHeartbeats 2000000 in
set_option maxRecDepth 100000 in
theorem zfrom_any (n : Int) (w : World) (h0 : -9223372036854775808 ≤ n) (h1 : n ≤ 9223372036854775807) :
    Calls Tryd.prog 23 #[.int .i64 n] w fun e w' => Zr n w e w' := by
  have lf := digs_small (n := n.natAbs) (by omega)
  by_cases hn : n < 0
  · have d0 : decide (n < 0) = true := by simp [hn]
    have HS := Lib.hid (show sg true n.natAbs = n by unfold sg; simp; omega)
    have HW := Lib.hid (show IntKind.u64.wrap (-IntKind.u64.wrap n) = ((n.natAbs : Nat) : Int) by rw [wrap_u64_eq, wrap_u64_eq]; omega)
    go_enter Tryd.func23, Tryd.ntmps23
    go_wp2_with fail
    refine (from_l (i := _) (k := n.natAbs) (live_start _) HW.out (by omega)).mono ?_
    rintro e w1 ⟨A1, c1, rfl, hL⟩
    have K1 := Lib.hid hL.1
    have G1 := Lib.hid (hL.get (A := A1) (c := c1) (xs := digs n.natAbs) (by simp))
    clear hL
    go_wp2_with fail
    refine (give_any A1 c1 n.natAbs true _ G1.out (by omega)).mono ?_
    rintro e w2 ⟨A2, c2, rfl, hd, hb⟩
    have K2 := Lib.hid (K1.out.trans (hb.mono K1.out.size))
    have G2 := Lib.hid hd
    have HO2 := Lib.hid (off_box (g := w.heap.size) hd K2.out rfl noint2')
    obtain ⟨hc2, hf2⟩ := bcell K2.out
    clear hb hd
    go_wp2
    refine bodyPost_ret (v := .agg #[.bool (true && decide (n.natAbs ≠ 0)), .slice A2 (digs n.natAbs).length c2]) (by simp [results, Tryd.results23, go_sem, hc2]) rfl ?_
    exact zr_give HS.out ((G2.out.set_off HO2.out _ _).set_off HO2.out _ _) ((((below1 w _).trans (K2.out.mono (by simp))).setCell (by simp) _).setCell (by simp) _)
  · have d0 : decide (n < 0) = false := by simp; omega
    have HS := Lib.hid (show sg false n.natAbs = n by unfold sg; simp; omega)
    have HW := Lib.hid (show n = ((n.natAbs : Nat) : Int) by omega)
    go_enter Tryd.func23, Tryd.ntmps23
    go_wp2_with fail
    refine (from_l (i := _) (k := n.natAbs) (live_start _) HW.out (by omega)).mono ?_
    rintro e w1 ⟨A1, c1, rfl, hL⟩
    have K1 := Lib.hid hL.1
    have G1 := Lib.hid (hL.get (A := A1) (c := c1) (xs := digs n.natAbs) (by simp))
    clear hL
    go_wp2_with fail
    refine (give_any A1 c1 n.natAbs false _ G1.out (by omega)).mono ?_
    rintro e w2 ⟨A2, c2, rfl, hd, hb⟩
    have K2 := Lib.hid (K1.out.trans (hb.mono K1.out.size))
    have G2 := Lib.hid hd
    have HO2 := Lib.hid (off_box (g := w.heap.size) hd K2.out rfl noint2')
    obtain ⟨hc2, hf2⟩ := bcell K2.out
    clear hb hd
    go_wp2
    refine bodyPost_ret (v := .agg #[.bool (false && decide (n.natAbs ≠ 0)), .slice A2 (digs n.natAbs).length c2]) (by simp [results, Tryd.results23, go_sem, hc2]) rfl ?_
    exact zr_give HS.out ((G2.out.set_off HO2.out _ _).set_off HO2.out _ _) ((((below1 w _).trans (K2.out.mono (by simp))).setCell (by simp) _).setCell (by simp) _)
end Go.Proofs.YthgkdpfkaobgoaaDoor
end
