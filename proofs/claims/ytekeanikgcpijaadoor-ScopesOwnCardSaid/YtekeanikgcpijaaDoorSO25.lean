/- Part 25 of what the last text of this claim is proved by: walks over the program, and the math behind them. Conditions: as each theorem says. -/
import Derived.Test.YtekeanikgcpijaaDoorSO24
import Derived.Shelf.Strings.Builder1
import Derived.Shelf.Small.Utf8
import Derived.Shelf.Small.Strs
import Derived.Shelf.LaysM
import Derived.Shelf.Strconv.Clone
import Derived.Shelf.Strings.Search1
import Derived.Shelf.Strings.Search2
import Derived.Shelf.Strings.Search3
import Derived.Shelf.Strings.Shaped
import Derived.Shelf.Strings.Prefix
import Derived.Shelf.Strings.Runes
import Derived.Shelf.Strings.IndexAny
import Derived.Shelf.Strings.AsciiSet
import Derived.Shelf.Strings.IndexAnyAll
import Derived.Test.YtekeanikgcpijaaDoorProg
import Derived.Shelf.Abstract
import Derived.Lib.IndexBytes
import Derived.Deep.QuietTactic
import Derived.BigQuiet
import Derived.Lib.IndexAny
namespace Go.Proofs
open Go.Shelf
def Tryd.lays119_ren : Go.Shelf.Ren := ⟨fun | 119 => 84 | n => n, fun | 21 => 21 | 4 => 4 | n => n, fun | n => n⟩
theorem Tryd.lays119 : Go.Proofs.Lays.n119 Tryd.prog Tryd.lays119_ren := {
  mixed := by kernel_rfl
  f119 := Tryd.func84.trans (congrArg some (by kernel_rfl))
  t4 := Tryd.underlying4
  a4 := Tryd.isAgg4
  z4 := Tryd.sizeOf4
  v4 := Tryd.zeroValue4
  t21 := Tryd.underlying21
  a21 := Tryd.isAgg21
  z21 := Tryd.sizeOf21
  v21 := Tryd.zeroValue21 }
theorem Tryd.utf8_ValidRune (r : Int) (w : World) :
    Calls Tryd.prog 84 #[.int .i32 r] w fun e w' => e = .returned (.bool (Lib.validRune r)) ∧ w' = w := Any.utf8_ValidRune Tryd.lays119 r w
def Tryd.lays137_ren : Go.Shelf.Ren := ⟨fun | 137 => 46 | 217 => 59 | 266 => 70 | n => n, fun | 9 => 9 | 5 => 5 | 3 => 3 | n => n, fun | n => n⟩
theorem Tryd.lays137 : Go.Proofs.Lays.n137 Tryd.prog Tryd.lays137_ren := {
  mixed := by kernel_rfl
  f137 := Tryd.func46.trans (congrArg some (by kernel_rfl))
  f217 := Tryd.func59.trans (congrArg some (by kernel_rfl))
  f266 := Tryd.func70.trans (congrArg some (by kernel_rfl))
  t3 := Tryd.underlying3
  a3 := Tryd.isAgg3
  z3 := Tryd.sizeOf3
  v3 := Tryd.zeroValue3
  t5 := Tryd.underlying5
  a5 := Tryd.isAgg5
  z5 := Tryd.sizeOf5
  v5 := Tryd.zeroValue5
  t9 := Tryd.underlying9
  a9 := Tryd.isAgg9
  z9 := Tryd.sizeOf9
  v9 := Tryd.zeroValue9 }
open Go.RowKit in
theorem Tryd.strings_IndexByte (s : ByteArray) (c : Int) (w : World) :
    Calls Tryd.prog 46 #[.string s, .int .u8 c] w fun e w' => e = .returned (.int .i64 (Lib.indexByte s.data.toList c.toNat.toUInt8)) ∧ w' = w := Any.strings_IndexByte Tryd.lays137 s c w
def Tryd.laysM316_ren : Go.Shelf.Ren := ⟨fun | 316 => 18 | n => n, fun | 9 => 9 | 3 => 3 | 4 => 4 | 37 => 80 | 0 => 0 | 127 => 81 | 5 => 5 | n => n, fun | n => n⟩
theorem Tryd.laysM316 : Go.Proofs.LaysM.n316 Tryd.prog Tryd.laysM316_ren := {
  mixed := by kernel_rfl
  f316 := Tryd.func18.trans (congrArg some (by kernel_rfl))
  t0 := Tryd.underlying0
  a0 := Tryd.isAgg0
  z0 := Tryd.sizeOf0
  v0 := Tryd.zeroValue0
  t3 := Tryd.underlying3
  a3 := Tryd.isAgg3
  z3 := Tryd.sizeOf3
  v3 := Tryd.zeroValue3
  t4 := Tryd.underlying4
  a4 := Tryd.isAgg4
  z4 := Tryd.sizeOf4
  v4 := Tryd.zeroValue4
  t9 := Tryd.underlying9
  a9 := Tryd.isAgg9
  z9 := Tryd.sizeOf9
  v9 := Tryd.zeroValue9
  t37 := Tryd.underlying80
  a37 := Tryd.isAgg80
  z37 := Tryd.sizeOf80
  v37 := Tryd.zeroValue80
  t127 := Tryd.underlying81
  a127 := Tryd.isAgg81
  z127 := Tryd.sizeOf81
  v127 := Tryd.zeroValue81
  t5 := Tryd.underlying5
  a5 := Tryd.isAgg5
  z5 := Tryd.sizeOf5
  v5 := Tryd.zeroValue5
  i0 := by kernel_rfl
  i3 := by kernel_rfl
  i4 := by kernel_rfl
  i5 := by kernel_rfl
  i9 := by kernel_rfl
  i37 := by kernel_rfl
  i127 := by kernel_rfl }
open Go.RowKit in
theorem Tryd.stringslite_Clone (s : ByteArray) (w : World) (hlim : s.size ≤ 281474976710656) :
    Calls Tryd.prog 18 #[.string s] w fun e w' => e = .returned (.string s) ∧ Below w.heap.size w w' := Any.stringslite_Clone Tryd.laysM316 s w hlim
def Tryd.lays143_ren : Go.Shelf.Ren := ⟨fun | 143 => 58 | 219 => 69 | 217 => 59 | 225 => 81 | 224 => 82 | 267 => 83 | 266 => 70 | 314 => 93 | n => n, fun | 9 => 9 | 3 => 3 | 4 => 4 | 5 => 5 | 46 => 116 | 146 => 97 | 51 => 96 | n => n, fun | 1 => 2 | n => n⟩
theorem Tryd.lays143 : Go.Proofs.Lays.n143 Tryd.prog Tryd.lays143_ren := {
  mixed := by kernel_rfl
  f143 := Tryd.func58.trans (congrArg some (by kernel_rfl))
  f217 := Tryd.func59.trans (congrArg some (by kernel_rfl))
  f219 := Tryd.func69.trans (congrArg some (by kernel_rfl))
  f224 := Tryd.func82.trans (congrArg some (by kernel_rfl))
  f225 := Tryd.func81.trans (congrArg some (by kernel_rfl))
  f266 := Tryd.func70.trans (congrArg some (by kernel_rfl))
  f267 := Tryd.func83.trans (congrArg some (by kernel_rfl))
  f314 := Tryd.func93.trans (congrArg some (by kernel_rfl))
  t3 := Tryd.underlying3
  a3 := Tryd.isAgg3
  z3 := Tryd.sizeOf3
  v3 := Tryd.zeroValue3
  t4 := Tryd.underlying4
  a4 := Tryd.isAgg4
  z4 := Tryd.sizeOf4
  v4 := Tryd.zeroValue4
  t5 := Tryd.underlying5
  a5 := Tryd.isAgg5
  z5 := Tryd.sizeOf5
  v5 := Tryd.zeroValue5
  t9 := Tryd.underlying9
  a9 := Tryd.isAgg9
  z9 := Tryd.sizeOf9
  v9 := Tryd.zeroValue9
  t46 := Tryd.underlying116
  a46 := Tryd.isAgg116
  z46 := Tryd.sizeOf116
  v46 := Tryd.zeroValue116
  t51 := Tryd.underlying96
  a51 := Tryd.isAgg96
  z51 := Tryd.sizeOf96
  v51 := Tryd.zeroValue96
  t146 := Tryd.underlying97
  a146 := Tryd.isAgg97
  z146 := Tryd.sizeOf97
  v146 := Tryd.zeroValue97
  g1 := by kernel_rfl }
open Go.RowKit Go.Lib in
theorem Tryd.strings_Index (s sub : ByteArray) (m : Int) (w : World) (hs : s.size < 4294967281) (hm : w.cell? ⟨2, 0, none⟩ = some (.int .i64 m)) :
    Calls Tryd.prog 58 #[.string s, .string sub] w fun e w' => e = .returned (.int .i64 (Lib.index s.data.toList sub.data.toList)) ∧ w' = w := Any.strings_Index Tryd.lays143 s sub m w hs hm
def Tryd.laysM219_ren : Go.Shelf.Ren := ⟨fun | 219 => 69 | 217 => 59 | 225 => 81 | 224 => 82 | 267 => 83 | 266 => 70 | 314 => 93 | n => n, fun | 9 => 9 | 3 => 3 | 4 => 4 | 5 => 5 | 46 => 116 | 146 => 97 | 51 => 96 | n => n, fun | 1 => 2 | n => n⟩
theorem Tryd.laysM219 : Go.Proofs.LaysM.n219 Tryd.prog Tryd.laysM219_ren := {
  mixed := by kernel_rfl
  f217 := Tryd.func59.trans (congrArg some (by kernel_rfl))
  f219 := Tryd.func69.trans (congrArg some (by kernel_rfl))
  f224 := Tryd.func82.trans (congrArg some (by kernel_rfl))
  f225 := Tryd.func81.trans (congrArg some (by kernel_rfl))
  f266 := Tryd.func70.trans (congrArg some (by kernel_rfl))
  f267 := Tryd.func83.trans (congrArg some (by kernel_rfl))
  f314 := Tryd.func93.trans (congrArg some (by kernel_rfl))
  t3 := Tryd.underlying3
  a3 := Tryd.isAgg3
  z3 := Tryd.sizeOf3
  v3 := Tryd.zeroValue3
  t4 := Tryd.underlying4
  a4 := Tryd.isAgg4
  z4 := Tryd.sizeOf4
  v4 := Tryd.zeroValue4
  t5 := Tryd.underlying5
  a5 := Tryd.isAgg5
  z5 := Tryd.sizeOf5
  v5 := Tryd.zeroValue5
  t9 := Tryd.underlying9
  a9 := Tryd.isAgg9
  z9 := Tryd.sizeOf9
  v9 := Tryd.zeroValue9
  t46 := Tryd.underlying116
  a46 := Tryd.isAgg116
  z46 := Tryd.sizeOf116
  v46 := Tryd.zeroValue116
  t51 := Tryd.underlying96
  a51 := Tryd.isAgg96
  z51 := Tryd.sizeOf96
  v51 := Tryd.zeroValue96
  t146 := Tryd.underlying97
  a146 := Tryd.isAgg97
  z146 := Tryd.sizeOf97
  v146 := Tryd.zeroValue97
  g1 := by kernel_rfl
  i3 := by kernel_rfl
  i4 := by kernel_rfl
  i5 := by kernel_rfl
  i9 := by kernel_rfl
  i46 := by kernel_rfl
  i51 := by kernel_rfl
  i146 := by kernel_rfl
  m1 := by kernel_rfl
  s1_3 := fun w h => Go.Proofs.cell_of_shapedOpen_int (zero := #[.int .i64 0]) (t := 3) h (of_decide_eq_true (by kernel_rfl)) (by kernel_rfl) rfl (by kernel_rfl) (by kernel_rfl) Tryd.underlying3 }
def Tryd.lays99_ren : Go.Shelf.Ren := ⟨fun | 99 => 39 | 206 => 35 | n => n, fun | 9 => 9 | 4 => 4 | 3 => 3 | n => n, fun | n => n⟩
theorem Tryd.lays99 : Go.Proofs.Lays.n99 Tryd.prog Tryd.lays99_ren := {
  mixed := by kernel_rfl
  f99 := Tryd.func39.trans (congrArg some (by kernel_rfl))
  f206 := Tryd.func35.trans (congrArg some (by kernel_rfl))
  t3 := Tryd.underlying3
  a3 := Tryd.isAgg3
  z3 := Tryd.sizeOf3
  v3 := Tryd.zeroValue3
  t4 := Tryd.underlying4
  a4 := Tryd.isAgg4
  z4 := Tryd.sizeOf4
  v4 := Tryd.zeroValue4
  t9 := Tryd.underlying9
  a9 := Tryd.isAgg9
  z9 := Tryd.sizeOf9
  v9 := Tryd.zeroValue9 }
open Go.RowKit Go.Lib in
theorem Tryd.strings_HasPrefix (s p : ByteArray) (w : World) :
    Calls Tryd.prog 39 #[.string s, .string p] w fun e w' => e = .returned (.bool (Lib.hasPrefix s.data.toList p.data.toList)) ∧ w' = w := Any.strings_HasPrefix Tryd.lays99 s p w
def Tryd.lays152_ren : Go.Shelf.Ren := ⟨fun | 152 => 72 | 137 => 46 | 119 => 84 | 224 => 82 | 225 => 81 | 217 => 59 | 266 => 70 | n => n, fun | 9 => 9 | 21 => 21 | 3 => 3 | 4 => 4 | 5 => 5 | 0 => 0 | 46 => 116 | n => n, fun | n => n⟩
theorem Tryd.lays152 : Go.Proofs.Lays.n152 Tryd.prog Tryd.lays152_ren := {
  mixed := by kernel_rfl
  f119 := Tryd.func84.trans (congrArg some (by kernel_rfl))
  f137 := Tryd.func46.trans (congrArg some (by kernel_rfl))
  f152 := Tryd.func72.trans (congrArg some (by kernel_rfl))
  f217 := Tryd.func59.trans (congrArg some (by kernel_rfl))
  f224 := Tryd.func82.trans (congrArg some (by kernel_rfl))
  f225 := Tryd.func81.trans (congrArg some (by kernel_rfl))
  f266 := Tryd.func70.trans (congrArg some (by kernel_rfl))
  t0 := Tryd.underlying0
  a0 := Tryd.isAgg0
  z0 := Tryd.sizeOf0
  v0 := Tryd.zeroValue0
  t3 := Tryd.underlying3
  a3 := Tryd.isAgg3
  z3 := Tryd.sizeOf3
  v3 := Tryd.zeroValue3
  t4 := Tryd.underlying4
  a4 := Tryd.isAgg4
  z4 := Tryd.sizeOf4
  v4 := Tryd.zeroValue4
  t5 := Tryd.underlying5
  a5 := Tryd.isAgg5
  z5 := Tryd.sizeOf5
  v5 := Tryd.zeroValue5
  t9 := Tryd.underlying9
  a9 := Tryd.isAgg9
  z9 := Tryd.sizeOf9
  v9 := Tryd.zeroValue9
  t21 := Tryd.underlying21
  a21 := Tryd.isAgg21
  z21 := Tryd.sizeOf21
  v21 := Tryd.zeroValue21
  t46 := Tryd.underlying116
  a46 := Tryd.isAgg116
  z46 := Tryd.sizeOf116
  v46 := Tryd.zeroValue116 }
open Go.RowKit Go.Lib in
theorem Tryd.strings_IndexRune_ascii (s : ByteArray) (r : Int) (w : World) (h0 : 0 ≤ r) (h1 : r < 128) :
    Calls Tryd.prog 72 #[.string s, .int .i32 r] w fun e w' => e = .returned (.int .i64 (Lib.indexByte s.data.toList r.toNat.toUInt8)) ∧ w' = w := Any.strings_IndexRune_ascii Tryd.lays152 s r w h0 h1
def Tryd.lays226_ren : Go.Shelf.Ren := ⟨fun | 226 => 73 | n => n, fun | 3 => 3 | 4 => 4 | n => n, fun | n => n⟩
theorem Tryd.lays226 : Go.Proofs.Lays.n226 Tryd.prog Tryd.lays226_ren := {
  mixed := by kernel_rfl
  f226 := Tryd.func73.trans (congrArg some (by kernel_rfl))
  t3 := Tryd.underlying3
  a3 := Tryd.isAgg3
  z3 := Tryd.sizeOf3
  v3 := Tryd.zeroValue3
  t4 := Tryd.underlying4
  a4 := Tryd.isAgg4
  z4 := Tryd.sizeOf4
  v4 := Tryd.zeroValue4 }
open Go.RowKit Go.Lib in
theorem Tryd.strings_shouldUseASCIISet (n : Int) (w : World) :
    Calls Tryd.prog 73 #[.int .i64 n] w fun e w' => e = .returned (.bool (decide (8 < n))) ∧ w' = w := Any.strings_shouldUseASCIISet Tryd.lays226 n w
def Tryd.lays153_ren : Go.Shelf.Ren := ⟨fun | 153 => 62 | 152 => 72 | 226 => 73 | 227 => 74 | 228 => 75 | 137 => 46 | 119 => 84 | 224 => 82 | 225 => 81 | 217 => 59 | 266 => 70 | n => n, fun | 9 => 9 | 3 => 3 | 4 => 4 | 5 => 5 | 21 => 21 | 117 => 128 | 116 => 127 | 0 => 0 | 46 => 116 | 124 => 140 | n => n, fun | n => n⟩
theorem Tryd.lays153 : Go.Proofs.Lays.n153 Tryd.prog Tryd.lays153_ren := {
  mixed := by kernel_rfl
  f119 := Tryd.func84.trans (congrArg some (by kernel_rfl))
  f137 := Tryd.func46.trans (congrArg some (by kernel_rfl))
  f152 := Tryd.func72.trans (congrArg some (by kernel_rfl))
  f153 := Tryd.func62.trans (congrArg some (by kernel_rfl))
  f217 := Tryd.func59.trans (congrArg some (by kernel_rfl))
  f224 := Tryd.func82.trans (congrArg some (by kernel_rfl))
  f225 := Tryd.func81.trans (congrArg some (by kernel_rfl))
  f226 := Tryd.func73.trans (congrArg some (by kernel_rfl))
  f227 := Tryd.func74.trans (congrArg some (by kernel_rfl))
  f228 := Tryd.func75.trans (congrArg some (by kernel_rfl))
  f266 := Tryd.func70.trans (congrArg some (by kernel_rfl))
  t0 := Tryd.underlying0
  a0 := Tryd.isAgg0
  z0 := Tryd.sizeOf0
  v0 := Tryd.zeroValue0
  t3 := Tryd.underlying3
  a3 := Tryd.isAgg3
  z3 := Tryd.sizeOf3
  v3 := Tryd.zeroValue3
  t4 := Tryd.underlying4
  a4 := Tryd.isAgg4
  z4 := Tryd.sizeOf4
  v4 := Tryd.zeroValue4
  t5 := Tryd.underlying5
  a5 := Tryd.isAgg5
  z5 := Tryd.sizeOf5
  v5 := Tryd.zeroValue5
  t9 := Tryd.underlying9
  a9 := Tryd.isAgg9
  z9 := Tryd.sizeOf9
  v9 := Tryd.zeroValue9
  t21 := Tryd.underlying21
  a21 := Tryd.isAgg21
  z21 := Tryd.sizeOf21
  v21 := Tryd.zeroValue21
  t46 := Tryd.underlying116
  a46 := Tryd.isAgg116
  z46 := Tryd.sizeOf116
  v46 := Tryd.zeroValue116
  t116 := Tryd.underlying127
  a116 := Tryd.isAgg127
  z116 := Tryd.sizeOf127
  t117 := Tryd.underlying128
  a117 := Tryd.isAgg128
  z117 := Tryd.sizeOf128
  v117 := Tryd.zeroValue128
  t124 := Tryd.underlying140
  a124 := Tryd.isAgg140
  z124 := Tryd.sizeOf140
  v124 := Tryd.zeroValue140 }
open Go.RowKit Go.Lib in
theorem Tryd.strings_IndexAny_long (hv116 : ∀ w, (zeroValue 127).run Tryd.prog w = .ok (.agg (Array.replicate 256 (.bool false))) w) (s chars : ByteArray) (w : World) (h2 : 2 ≤ chars.size) (h8 : 8 < s.size) (hs : s.size < 4294967281) (hcs : chars.size < 4294967281) (hascii : ∀ (j : Nat) b, chars.data.toList[j]? = some b → b.toNat < 128) :
    Calls Tryd.prog 62 #[.string s, .string chars] w fun e w' => e = .returned (.int .i64 (Lib.indexAny s.data.toList chars.data.toList)) ∧ w' = ((w.alloc (.cells (Lib.setCells chars.data.toList) 127)).alloc (.cells (Lib.setCells chars.data.toList) 127)) := Any.strings_IndexAny_long Tryd.lays153 hv116 (by kernel_rfl) s chars w h2 h8 hs hcs hascii
end Go.Proofs
namespace Go.Proofs.YtekeanikgcpijaaDoor
open Go.RowKit
structure Lx (w : World) (A : Nat → Addr) (m : Int) : Prop where
  range : w.cell? ⟨4, 0, none⟩ = some (errV A 0)
  long : w.cell? ⟨0, 0, none⟩ = some (errV A 2)
  form : w.cell? ⟨3, 0, none⟩ = some (errV A 8)
  max : w.cell? ⟨2, 0, none⟩ = some (.int .i64 m)
theorem Lx.below {w w' : World} {A : Nat → Addr} {m : Int} (h : Lx w A m) (hb : Below w.heap.size w w') : Lx w' A m := by
  have k : ∀ {g : Nat} {v : Value}, w.cell? ⟨g, 0, none⟩ = some v → w'.cell? ⟨g, 0, none⟩ = some v := fun {g v} hc => (hb.cell (p := ⟨g, 0, none⟩) (World.block_lt_of_cell? w ⟨g, 0, none⟩ hc)).trans hc
  exact ⟨k h.range, k h.long, k h.form, k h.max⟩
theorem Lx.drewN {w : World} {A : Nat → Addr} {m : Int} (h : Lx w A m) (n : Nat) : Lx (w.drewN n) A m := ⟨h.range, h.long, h.form, h.max⟩
theorem enters_isGap (args : Array Value) (u : World) : (callFunc 37 args).run Tryd.prog u = .ok (.enter 37 args) u := Go.Proofs.enters_of Tryd.func37 (by kernel_rfl) rfl args u
theorem enters_inWord (args : Array Value) (u : World) : (callFunc 43 args).run Tryd.prog u = .ok (.enter 43 args) u := Go.Proofs.enters_of Tryd.func43 (by kernel_rfl) rfl args u
theorem enters_other (args : Array Value) (u : World) : (callFunc 57 args).run Tryd.prog u = .ok (.enter 57 args) u := Go.Proofs.enters_of Tryd.func57 (by kernel_rfl) rfl args u
theorem enters_figure (args : Array Value) (u : World) : (callFunc 71 args).run Tryd.prog u = .ok (.enter 71 args) u := Go.Proofs.enters_of Tryd.func71 (by kernel_rfl) rfl args u
theorem run_makeFunc (fn : Fn) (first cap : Array Value) (w : World) : (Instr.makeFunc fn first cap).run Tryd.prog w = .ok (.func fn first cap) w := rfl
set_option maxRecDepth 100000 in
theorem other_any (u : World) (b c : UInt8) (a : Addr) (hc : u.cell? a = some (.int .u8 (c.toNat : Int))) :
    Calls Tryd.prog 57 #[.int .u8 (b.toNat : Int), .pointer (some a)] u (Ans (.bool (b != c)) u) := by
  have e : (b != c) = ((b.toNat : Int) != (c.toNat : Int)) := by
    rw [bne, byte_eq, bne]; rfl
  rw [e]
  generalize (b.toNat : Int) = B at *
  generalize (c.toNat : Int) = C at *
  go_enter Tryd.func57, Tryd.ntmps57
  go_wp2
  all_goals (go_ret; exact ⟨rfl, rfl⟩)
set_option maxRecDepth 100000 in
theorem otherThan_any (w : World) (c : UInt8) : Calls Tryd.prog 40 #[.int .u8 (c.toNat : Int)] w fun e w' =>
    e = .returned (.func (.func 57) #[] #[.pointer (some ⟨w.heap.size, 0, none⟩)]) ∧ w' = w.alloc (.cells #[.int .u8 (c.toNat : Int)] 5) := by
  have hmf := run_makeFunc
  go_enter Tryd.func40, Tryd.ntmps40
  go_wp2
  go_ret
  exact ⟨rfl, rfl⟩
set_option maxRecDepth 100000 in
theorem figure_any (u : World) (b : UInt8) (n : Int) (a : Addr) (hc : u.cell? a = some (.int .i64 n)) :
    Calls Tryd.prog 71 #[.int .u8 (b.toNat : Int), .pointer (some a)] u (Qui (.bool (decide ((ldig b : Int) < n))) u) := by
  have HD := Lib.hid (fun u => digit_any u b)
  generalize (ldig b : Int) = d at *
  go_enter Tryd.func71, Tryd.ntmps71
  go_wp2_with fail
  go_quiet (refine Calls.quiet_of_same (HD.out _))
  go_wp2
  all_goals (go_ret; exact ⟨rfl, _, rfl⟩)
set_option maxRecDepth 100000 in
theorem figureOf_any (w : World) (n : Int) : Calls Tryd.prog 60 #[.int .i64 n] w fun e w' =>
    e = .returned (.func (.func 71) #[] #[.pointer (some ⟨w.heap.size, 0, none⟩)]) ∧ w' = w.alloc (.cells #[.int .i64 n] 3) := by
  have hmf := run_makeFunc
  go_enter Tryd.func60, Tryd.ntmps60
  go_wp2
  go_ret
  exact ⟨rfl, rfl⟩
theorem span_gap (w : World) (l : List UInt8) (hl : l.length ≤ 140737488351232) : Calls Tryd.prog 38 #[.string (str l), .func (.func 37) #[] #[]] w (Qui (.int .i64 (lspan lxGap l : Int)) w) :=
  span_fn w l lxGap _ hl enters_isGap fun b m => (isGap_any _ b).mono fun _ _ ⟨h1, h2⟩ => ⟨h1, m, h2⟩
theorem span_in (w : World) (l : List UInt8) (hl : l.length ≤ 140737488351232) : Calls Tryd.prog 38 #[.string (str l), .func (.func 43) #[] #[]] w (Qui (.int .i64 (lspan lxIn l : Int)) w) :=
  span_fn w l lxIn _ hl enters_inWord fun b m => (inWord_any _ b).mono fun _ _ ⟨h1, h2⟩ => ⟨h1, m, h2⟩
theorem span_other (w : World) (l : List UInt8) (a : Addr) (hl : l.length ≤ 140737488351232) (hc : w.cell? a = some (.int .u8 10)) : Calls Tryd.prog 38 #[.string (str l), .func (.func 57) #[] #[.pointer (some a)]] w (Qui (.int .i64 (lspan noLF l : Int)) w) :=
  span_cap w l noLF _ _ hl enters_other fun b m => (other_any (w.drewN m) b 10 a hc).mono fun _ _ ⟨h1, h2⟩ => ⟨h1, m, h2⟩
theorem span_figure (w : World) (l : List UInt8) (a : Addr) (n : Nat) (hl : l.length ≤ 140737488351232) (hc : w.cell? a = some (.int .i64 (n : Int))) : Calls Tryd.prog 38 #[.string (str l), .func (.func 71) #[] #[.pointer (some a)]] w (Qui (.int .i64 (lspan (fun b => decide (ldig b < n)) l : Int)) w) :=
  span_cap w l _ _ _ hl enters_figure fun b m => (figure_any (w.drewN m) b n a hc).mono fun _ _ ⟨h1, k, h2⟩ => ⟨by rw [h1]; congr 3; exact propext Int.ofNat_lt, m + k, by rw [h2, World.drewN_drewN]⟩
set_option maxRecDepth 100000 in
theorem closed_any (w : World) (A : Nat → Addr) (m : Int) (hL : Lx w A m) (l g e : List UInt8) (hl : l.length < 1000000000) (hg : g.length ≤ l.length) (he : e.length ≤ 1000) :
    Calls Tryd.prog 41 #[.string (str l), .string (str g), .string (str e)] w fun en w' => en = .returned (.tuple #[.int .i64 ((lclosed g.length e l).1 : Int), errOf A (lclosed g.length e l).2]) ∧ ∃ n, w' = w.drewN n := by
  have hgz : (str g).size = g.length := strSize g
  have hez : (str e).size = e.length := strSize e
  have hfrom := str_from l g.length hg
  have HI := Lib.hid (Tryd.strings_Index (str (l.drop g.length)) (str e) m w (by rw [strSize, List.length_drop]; omega) hL.max)
  have hd : (str (l.drop g.length)).data.toList = l.drop g.length := by simp [str]
  have hd' : (str e).data.toList = e := by simp [str]
  rw [hd, hd'] at HI
  have hle := Lib.index_le (l.drop g.length) e
  rw [List.length_drop] at hle
  have hform := hL.form
  unfold lclosed
  generalize Lib.index (l.drop g.length) e = I at *
  clear hd hd'
  by_cases hneg : I < 0
  · rw [if_pos hneg, show errOf A 9 = errV A 8 from rfl]
    go_enter Tryd.func41, Tryd.ntmps41
    go_wp2_with fail
    refine HI.out.mono ?_
    rintro e w' ⟨rfl, rfl⟩
    go_wp2_with fail
    go_quiet (fail)
    go_wp2_with fail
    go_ret2
    exact ⟨rfl, _, rfl⟩
  · rw [if_neg hneg, show errOf A 0 = Value.nilIface from rfl]
    obtain ⟨i, rfl⟩ : ∃ i : Nat, I = (i : Int) := ⟨I.toNat, by omega⟩
    go_enter Tryd.func41, Tryd.ntmps41
    go_wp2_with fail
    refine HI.out.mono ?_
    rintro e w' ⟨rfl, rfl⟩
    go_wp2_with fail
    go_ret2
    exact ⟨by rw [Int.toNat_natCast]; rfl, 0, rfl⟩
end Go.Proofs.YtekeanikgcpijaaDoor
namespace Go.Proofs.YtekeanikgcpijaaDoor
open Go.RowKit
theorem str_data (l : List UInt8) : (str l).data.toList = l := by simp [str]
theorem hasPrefix_two (l : List UInt8) (x y : UInt8) : Lib.hasPrefix l [x, y] = decide (l.take 2 = [x, y]) := by
  unfold Lib.hasPrefix
  rw [Bool.eq_iff_iff, List.isPrefixOf_iff_prefix, decide_eq_true_eq, List.prefix_iff_eq_take]
  exact eq_comm
theorem prefix_any (w : World) (l : List UInt8) (x y : UInt8) : Calls Tryd.prog 39 #[.string (str l), .string ⟨#[x, y]⟩] w (Ans (.bool (decide (l.take 2 = [x, y]))) w) := by
  have h := Tryd.strings_HasPrefix (str l) ⟨#[x, y]⟩ w
  rw [str_data, show (ByteArray.mk #[x, y]).data.toList = [x, y] from rfl, hasPrefix_two] at h
  exact h
theorem sign_any (w : World) (b : UInt8) : Calls Tryd.prog 46 #[.string ⟨#[123, 125, 91, 93, 60, 62, 40, 41, 59, 61, 44, 46, 45]⟩, .int .u8 (b.toNat : Int)] w fun e w' => (∃ i : Int, e = .returned (.int .i64 i) ∧ decide (0 ≤ i) = lxSign b) ∧ w' = w := by
  refine (Tryd.strings_IndexByte ⟨#[123, 125, 91, 93, 60, 62, 40, 41, 59, 61, 44, 46, 45]⟩ (b.toNat : Int) w).mono fun e w' ⟨h1, h2⟩ => ⟨⟨_, h1, ?_⟩, h2⟩
  rw [show (ByteArray.mk #[123, 125, 91, 93, 60, 62, 40, 41, 59, 61, 44, 46, 45]).data.toList = signs from rfl, Lib.byte_back', ← Lib.contains_iff_indexByte]
  rfl
def CutR (w : World) (A : Nat → Addr) (r : Nat × Nat × Nat) (e : Ending) (w' : World) : Prop :=
  e = .returned (.tuple #[.int .i64 (r.1 : Int), .int .i64 (r.2.1 : Int), errOf A r.2.2]) ∧ Below w.heap.size w w'
set_option maxRecDepth 100000 in
theorem cut_gap (w : World) (A : Nat → Addr) (m : Int) (hL : Lx w A m) (b : UInt8) (r : List UInt8) (hl : (b :: r).length < 1000000000) (hgap : lxGap b = true) :
    Calls Tryd.prog 26 #[.string (str (b :: r))] w (CutR w A (0, lspan lxGap (b :: r), 0)) := by
  have hix : ∀ u, (Instr.index 9 (.string (str (b :: r))) (.int .i64 0)).run Tryd.prog u = .ok (.int .u8 (b.toNat : Int)) u := str_index (b :: r) 0 (by simp)
  have Hgap := Lib.hid (isGap_any w b)
  rw [hgap] at Hgap
  clear hgap
  go_enter Tryd.func26, Tryd.ntmps26
  go_wp2_with fail
  refine Hgap.out.mono ?_
  rintro e w ⟨rfl, rfl⟩
  go_wp2_with fail
  refine (span_gap w (b :: r) (by omega)).mono ?_
  rintro e w' ⟨rfl, n, rfl⟩
  go_wp2_with fail
  go_ret3
  exact ⟨rfl, below_drewN (Below.refl _ _) _⟩
set_option maxRecDepth 100000 in
theorem cut_sl (w : World) (A : Nat → Addr) (m : Int) (hL : Lx w A m) (b : UInt8) (r : List UInt8) (hl : (b :: r).length < 1000000000) (hgap : lxGap b = false) (hsl : decide ((b :: r).take 2 = [47, 47]) = true) :
    Calls Tryd.prog 26 #[.string (str (b :: r))] w (CutR w A (0, lspan noLF (b :: r), 0)) := by
  have hix : ∀ u, (Instr.index 9 (.string (str (b :: r))) (.int .i64 0)).run Tryd.prog u = .ok (.int .u8 (b.toNat : Int)) u := str_index (b :: r) 0 (by simp)
  have Hgap := Lib.hid (isGap_any w b)
  rw [hgap] at Hgap
  have Hsl := Lib.hid (prefix_any w (b :: r) 47 47)
  rw [hsl] at Hsl
  have hmf := run_makeFunc
  clear hgap
  clear hsl
  go_enter Tryd.func26, Tryd.ntmps26
  go_wp2_with fail
  refine Hgap.out.mono ?_
  rintro e w ⟨rfl, rfl⟩
  go_wp2_with fail
  refine Hsl.out.mono ?_
  rintro e w ⟨rfl, rfl⟩
  go_wp2_with fail
  refine (otherThan_any w 10).mono ?_
  rintro e w' ⟨rfl, hw⟩
  have hb1 : Below w.heap.size w w' := hw ▸ (Below.refl _ _).alloc (Nat.le_refl _) _
  have hc : w'.cell? ⟨w.heap.size, 0, none⟩ = some (.int .u8 10) := by rw [hw]; exact (Blk.new w 5 [.int .u8 10]).cell 0
  clear hw
  go_wp2_with fail
  refine (span_other w' (b :: r) _ (by omega) hc).mono ?_
  rintro e w2 ⟨rfl, n, rfl⟩
  go_wp2_with fail
  go_ret3
  exact ⟨rfl, below_drewN hb1 _⟩
set_option maxRecDepth 100000 in
theorem cut_st (w : World) (A : Nat → Addr) (m : Int) (hL : Lx w A m) (b : UInt8) (r : List UInt8) (hl : (b :: r).length < 1000000000) (hgap : lxGap b = false) (hsl : decide ((b :: r).take 2 = [47, 47]) = false) (hst : decide ((b :: r).take 2 = [47, 42]) = true) :
    Calls Tryd.prog 26 #[.string (str (b :: r))] w (CutR w A (0, lclosed 2 [42, 47] (b :: r))) := by
  have hix : ∀ u, (Instr.index 9 (.string (str (b :: r))) (.int .i64 0)).run Tryd.prog u = .ok (.int .u8 (b.toNat : Int)) u := str_index (b :: r) 0 (by simp)
  have Hgap := Lib.hid (isGap_any w b)
  rw [hgap] at Hgap
  have Hsl := Lib.hid (prefix_any w (b :: r) 47 47)
  rw [hsl] at Hsl
  have Hst := Lib.hid (prefix_any w (b :: r) 47 42)
  rw [hst] at Hst
  have htwo : 2 ≤ (b :: r).length := by
    have h := congrArg List.length (of_decide_eq_true hst)
    rw [List.length_take] at h
    simp only [List.length_cons, List.length_nil] at h ⊢
    omega
  have HC := Lib.hid (closed_any w A m hL (b :: r) [47, 42] [42, 47] hl htwo (by simp))
  rw [show ([47, 42] : List UInt8).length = 2 from rfl] at HC
  clear htwo
  clear hgap
  clear hsl
  clear hst
  go_enter Tryd.func26, Tryd.ntmps26
  go_wp2_with fail
  refine Hgap.out.mono ?_
  rintro e w ⟨rfl, rfl⟩
  go_wp2_with fail
  refine Hsl.out.mono ?_
  rintro e w ⟨rfl, rfl⟩
  go_wp2_with fail
  refine Hst.out.mono ?_
  rintro e w ⟨rfl, rfl⟩
  go_wp2_with fail
  refine HC.out.mono ?_
  rintro e w' ⟨rfl, n, rfl⟩
  go_wp2_with fail
  go_ret3
  exact ⟨rfl, below_drewN (Below.refl _ _) _⟩
set_option maxRecDepth 100000 in
theorem cut_wd (w : World) (A : Nat → Addr) (m : Int) (hL : Lx w A m) (b : UInt8) (r : List UInt8) (hl : (b :: r).length < 1000000000) (hgap : lxGap b = false) (hsl : decide ((b :: r).take 2 = [47, 47]) = false) (hst : decide ((b :: r).take 2 = [47, 42]) = false) (hwd : lxLet b = true) :
    Calls Tryd.prog 26 #[.string (str (b :: r))] w (CutR w A (1, lspan lxIn (b :: r), 0)) := by
  have hix : ∀ u, (Instr.index 9 (.string (str (b :: r))) (.int .i64 0)).run Tryd.prog u = .ok (.int .u8 (b.toNat : Int)) u := str_index (b :: r) 0 (by simp)
  have Hgap := Lib.hid (isGap_any w b)
  rw [hgap] at Hgap
  have Hsl := Lib.hid (prefix_any w (b :: r) 47 47)
  rw [hsl] at Hsl
  have Hst := Lib.hid (prefix_any w (b :: r) 47 42)
  rw [hst] at Hst
  have Hwd := Lib.hid (beginsWord_any w b)
  rw [hwd] at Hwd
  clear hgap
  clear hsl
  clear hst
  clear hwd
  go_enter Tryd.func26, Tryd.ntmps26
  go_wp2_with fail
  refine Hgap.out.mono ?_
  rintro e w ⟨rfl, rfl⟩
  go_wp2_with fail
  refine Hsl.out.mono ?_
  rintro e w ⟨rfl, rfl⟩
  go_wp2_with fail
  refine Hst.out.mono ?_
  rintro e w ⟨rfl, rfl⟩
  go_wp2_with fail
  refine Hwd.out.mono ?_
  rintro e w ⟨rfl, rfl⟩
  go_wp2_with fail
  refine (span_in w (b :: r) (by omega)).mono ?_
  rintro e w' ⟨rfl, n, rfl⟩
  go_wp2_with fail
  go_ret3
  exact ⟨rfl, below_drewN (Below.refl _ _) _⟩
set_option maxRecDepth 100000 in
theorem cut_fg (w : World) (A : Nat → Addr) (m : Int) (hL : Lx w A m) (b : UInt8) (r : List UInt8) (hl : (b :: r).length < 1000000000) (hgap : lxGap b = false) (hsl : decide ((b :: r).take 2 = [47, 47]) = false) (hst : decide ((b :: r).take 2 = [47, 42]) = false) (hwd : lxLet b = false) (hfg : lxFig b = true) :
    Calls Tryd.prog 26 #[.string (str (b :: r))] w (CutR w A (2, lspan lxIn (b :: r), 0)) := by
  have hix : ∀ u, (Instr.index 9 (.string (str (b :: r))) (.int .i64 0)).run Tryd.prog u = .ok (.int .u8 (b.toNat : Int)) u := str_index (b :: r) 0 (by simp)
  have Hgap := Lib.hid (isGap_any w b)
  rw [hgap] at Hgap
  have Hsl := Lib.hid (prefix_any w (b :: r) 47 47)
  rw [hsl] at Hsl
  have Hst := Lib.hid (prefix_any w (b :: r) 47 42)
  rw [hst] at Hst
  have Hwd := Lib.hid (beginsWord_any w b)
  rw [hwd] at Hwd
  have Hfg := Lib.hid (isFigure_any w b)
  rw [hfg] at Hfg
  clear hgap
  clear hsl
  clear hst
  clear hwd
  clear hfg
  go_enter Tryd.func26, Tryd.ntmps26
  go_wp2_with fail
  refine Hgap.out.mono ?_
  rintro e w ⟨rfl, rfl⟩
  go_wp2_with fail
  refine Hsl.out.mono ?_
  rintro e w ⟨rfl, rfl⟩
  go_wp2_with fail
  refine Hst.out.mono ?_
  rintro e w ⟨rfl, rfl⟩
  go_wp2_with fail
  refine Hwd.out.mono ?_
  rintro e w ⟨rfl, rfl⟩
  go_wp2_with fail
  refine Hfg.out.mono ?_
  rintro e w ⟨rfl, rfl⟩
  go_wp2_with fail
  refine (span_in w (b :: r) (by omega)).mono ?_
  rintro e w' ⟨rfl, n, rfl⟩
  go_wp2_with fail
  go_ret3
  exact ⟨rfl, below_drewN (Below.refl _ _) _⟩
set_option maxRecDepth 100000 in
theorem cut_qt (w : World) (A : Nat → Addr) (m : Int) (hL : Lx w A m) (b : UInt8) (r : List UInt8) (hl : (b :: r).length < 1000000000) (hgap : lxGap b = false) (hsl : decide ((b :: r).take 2 = [47, 47]) = false) (hst : decide ((b :: r).take 2 = [47, 42]) = false) (hwd : lxLet b = false) (hfg : lxFig b = false) (hqt : lxQuote b = true) :
    Calls Tryd.prog 26 #[.string (str (b :: r))] w (CutR w A (3, lclosed 1 [b] (b :: r))) := by
  have hix : ∀ u, (Instr.index 9 (.string (str (b :: r))) (.int .i64 0)).run Tryd.prog u = .ok (.int .u8 (b.toNat : Int)) u := str_index (b :: r) 0 (by simp)
  have Hgap := Lib.hid (isGap_any w b)
  rw [hgap] at Hgap
  have Hsl := Lib.hid (prefix_any w (b :: r) 47 47)
  rw [hsl] at Hsl
  have Hst := Lib.hid (prefix_any w (b :: r) 47 42)
  rw [hst] at Hst
  have Hwd := Lib.hid (beginsWord_any w b)
  rw [hwd] at Hwd
  have Hfg := Lib.hid (isFigure_any w b)
  rw [hfg] at Hfg
  have Hqt := Lib.hid (isQuote_any w b)
  rw [hqt] at Hqt
  have hup : ∀ u, (Instr.slice 9 (.string (str (b :: r))) none (some (.int .i64 1)) none).run Tryd.prog u = .ok (.string (str [b])) u := str_upto (b :: r) 1 (by simp)
  have HC := Lib.hid (fun n => by have h := closed_any (w.drewN n) A m (hL.drewN n) (b :: r) [b] [b] hl (by simp) (by simp); rw [show ([b] : List UInt8).length = 1 from rfl] at h; exact h)
  clear hgap
  clear hsl
  clear hst
  clear hwd
  clear hfg
  clear hqt
  go_enter Tryd.func26, Tryd.ntmps26
  go_wp2_with fail
  refine Hgap.out.mono ?_
  rintro e w ⟨rfl, rfl⟩
  go_wp2_with fail
  refine Hsl.out.mono ?_
  rintro e w ⟨rfl, rfl⟩
  go_wp2_with fail
  refine Hst.out.mono ?_
  rintro e w ⟨rfl, rfl⟩
  go_wp2_with fail
  refine Hwd.out.mono ?_
  rintro e w ⟨rfl, rfl⟩
  go_wp2_with fail
  refine Hfg.out.mono ?_
  rintro e w ⟨rfl, rfl⟩
  go_wp2_with fail
  refine Hqt.out.mono ?_
  rintro e w ⟨rfl, rfl⟩
  go_wp2_with fail
  go_quiet (refine Calls.quiet_of (HC.out _))
  go_wp2_with fail
  go_ret3
  exact ⟨rfl, below_drewN (Below.refl _ _) _⟩
set_option maxRecDepth 100000 in
theorem cut_sg (w : World) (A : Nat → Addr) (m : Int) (hL : Lx w A m) (b : UInt8) (r : List UInt8) (_hl : (b :: r).length < 1000000000) (hgap : lxGap b = false) (hsl : decide ((b :: r).take 2 = [47, 47]) = false) (hst : decide ((b :: r).take 2 = [47, 42]) = false) (hwd : lxLet b = false) (hfg : lxFig b = false) (hqt : lxQuote b = false) (hsg : lxSign b = true) :
    Calls Tryd.prog 26 #[.string (str (b :: r))] w (CutR w A (4, 1, 0)) := by
  have hix : ∀ u, (Instr.index 9 (.string (str (b :: r))) (.int .i64 0)).run Tryd.prog u = .ok (.int .u8 (b.toNat : Int)) u := str_index (b :: r) 0 (by simp)
  have Hgap := Lib.hid (isGap_any w b)
  rw [hgap] at Hgap
  have Hsl := Lib.hid (prefix_any w (b :: r) 47 47)
  rw [hsl] at Hsl
  have Hst := Lib.hid (prefix_any w (b :: r) 47 42)
  rw [hst] at Hst
  have Hwd := Lib.hid (beginsWord_any w b)
  rw [hwd] at Hwd
  have Hfg := Lib.hid (isFigure_any w b)
  rw [hfg] at Hfg
  have Hqt := Lib.hid (isQuote_any w b)
  rw [hqt] at Hqt
  have Hsg := Lib.hid (sign_any w b)
  rw [hsg] at Hsg
  clear hgap
  clear hsl
  clear hst
  clear hwd
  clear hfg
  clear hqt
  clear hsg
  go_enter Tryd.func26, Tryd.ntmps26
  go_wp2_with fail
  refine Hgap.out.mono ?_
  rintro e w ⟨rfl, rfl⟩
  go_wp2_with fail
  refine Hsl.out.mono ?_
  rintro e w ⟨rfl, rfl⟩
  go_wp2_with fail
  refine Hst.out.mono ?_
  rintro e w ⟨rfl, rfl⟩
  go_wp2_with fail
  refine Hwd.out.mono ?_
  rintro e w ⟨rfl, rfl⟩
  go_wp2_with fail
  refine Hfg.out.mono ?_
  rintro e w ⟨rfl, rfl⟩
  go_wp2_with fail
  refine Hqt.out.mono ?_
  rintro e w ⟨rfl, rfl⟩
  go_wp2_with fail
  refine Hsg.out.mono ?_
  rintro e w ⟨⟨i, rfl, hi⟩, rfl⟩
  replace hi : 0 ≤ i := of_decide_eq_true hi
  go_wp2_with fail
  go_ret3
  exact ⟨rfl, Below.refl _ _⟩
set_option maxRecDepth 100000 in
theorem cut_bad (w : World) (A : Nat → Addr) (m : Int) (hL : Lx w A m) (b : UInt8) (r : List UInt8) (_hl : (b :: r).length < 1000000000) (hgap : lxGap b = false) (hsl : decide ((b :: r).take 2 = [47, 47]) = false) (hst : decide ((b :: r).take 2 = [47, 42]) = false) (hwd : lxLet b = false) (hfg : lxFig b = false) (hqt : lxQuote b = false) (hsg : lxSign b = false) :
    Calls Tryd.prog 26 #[.string (str (b :: r))] w (CutR w A (0, 0, 9)) := by
  have hix : ∀ u, (Instr.index 9 (.string (str (b :: r))) (.int .i64 0)).run Tryd.prog u = .ok (.int .u8 (b.toNat : Int)) u := str_index (b :: r) 0 (by simp)
  have Hgap := Lib.hid (isGap_any w b)
  rw [hgap] at Hgap
  have Hsl := Lib.hid (prefix_any w (b :: r) 47 47)
  rw [hsl] at Hsl
  have Hst := Lib.hid (prefix_any w (b :: r) 47 42)
  rw [hst] at Hst
  have Hwd := Lib.hid (beginsWord_any w b)
  rw [hwd] at Hwd
  have Hfg := Lib.hid (isFigure_any w b)
  rw [hfg] at Hfg
  have Hqt := Lib.hid (isQuote_any w b)
  rw [hqt] at Hqt
  have Hsg := Lib.hid (sign_any w b)
  rw [hsg] at Hsg
  have hform := hL.form
  clear hgap
  clear hsl
  clear hst
  clear hwd
  clear hfg
  clear hqt
  clear hsg
  go_enter Tryd.func26, Tryd.ntmps26
  go_wp2_with fail
  refine Hgap.out.mono ?_
  rintro e w ⟨rfl, rfl⟩
  go_wp2_with fail
  refine Hsl.out.mono ?_
  rintro e w ⟨rfl, rfl⟩
  go_wp2_with fail
  refine Hst.out.mono ?_
  rintro e w ⟨rfl, rfl⟩
  go_wp2_with fail
  refine Hwd.out.mono ?_
  rintro e w ⟨rfl, rfl⟩
  go_wp2_with fail
  refine Hfg.out.mono ?_
  rintro e w ⟨rfl, rfl⟩
  go_wp2_with fail
  refine Hqt.out.mono ?_
  rintro e w ⟨rfl, rfl⟩
  go_wp2_with fail
  refine Hsg.out.mono ?_
  rintro e w ⟨⟨i, rfl, hi⟩, rfl⟩
  replace hi : ¬ 0 ≤ i := of_decide_eq_false hi
  go_wp2_with fail
  go_quiet (fail)
  go_wp2_with fail
  go_ret3
  exact ⟨rfl, below_drewN (Below.refl _ _) _⟩
theorem cut_any (w : World) (A : Nat → Addr) (m : Int) (hL : Lx w A m) (l : List UInt8) (h0 : 0 < l.length) (hl : l.length < 1000000000) :
    Calls Tryd.prog 26 #[.string (str l)] w (CutR w A (lcut l)) := by
  obtain ⟨b, r, rfl⟩ : ∃ b r, l = b :: r := by
    cases l with
    | nil => simp at h0
    | cons b r => exact ⟨b, r, rfl⟩
  unfold lcut
  rw [List.headD_cons]
  by_cases pgap : lxGap b = true
  · rw [if_pos pgap]
    exact cut_gap w A m hL b r hl  pgap
  rw [if_neg pgap]
  have hgap : lxGap b = false := by simpa using pgap
  by_cases psl : (b :: r).take 2 = [47, 47]
  · rw [if_pos psl]
    exact cut_sl w A m hL b r hl hgap (decide_eq_true psl)
  rw [if_neg psl]
  have hsl := decide_eq_false psl
  by_cases pst : (b :: r).take 2 = [47, 42]
  · rw [if_pos pst]
    exact cut_st w A m hL b r hl hgap hsl (decide_eq_true pst)
  rw [if_neg pst]
  have hst := decide_eq_false pst
  by_cases pwd : lxLet b = true
  · rw [if_pos pwd]
    exact cut_wd w A m hL b r hl hgap hsl hst pwd
  rw [if_neg pwd]
  have hwd : lxLet b = false := by simpa using pwd
  by_cases pfg : lxFig b = true
  · rw [if_pos pfg]
    exact cut_fg w A m hL b r hl hgap hsl hst hwd pfg
  rw [if_neg pfg]
  have hfg : lxFig b = false := by simpa using pfg
  by_cases pqt : lxQuote b = true
  · rw [if_pos pqt]
    exact cut_qt w A m hL b r hl hgap hsl hst hwd hfg pqt
  rw [if_neg pqt]
  have hqt : lxQuote b = false := by simpa using pqt
  by_cases psg : lxSign b = true
  · rw [if_pos psg]
    exact cut_sg w A m hL b r hl hgap hsl hst hwd hfg hqt psg
  rw [if_neg psg]
  have hsg : lxSign b = false := by simpa using psg
  exact cut_bad w A m hL b r hl hgap hsl hst hwd hfg hqt hsg
end Go.Proofs.YtekeanikgcpijaaDoor
