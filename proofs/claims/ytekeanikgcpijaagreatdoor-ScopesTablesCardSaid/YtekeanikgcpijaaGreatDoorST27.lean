/- Part 27 of what the last text of this claim is proved by: walks over the program, and the math behind them. Conditions: as each theorem says. -/
import Derived.Test.YtekeanikgcpijaaGreatDoorST26
import Derived.Shelf.Strings.Builder1
import Derived.Shelf.Small.Utf8
import Derived.Shelf.Small.Strs
import Derived.Shelf.LaysM
import Derived.Shelf.Strconv.Clone
import Derived.Shelf.Strings.Search1
import Derived.Shelf.Strings.Search2
import Derived.Shelf.Strings.Search3
import Derived.Shelf.Strings.Shaped
import Derived.Shelf.Strings.Prefix
import Derived.Shelf.Strings.Runes
import Derived.Shelf.Strings.IndexAny
import Derived.Shelf.Strings.AsciiSet
import Derived.Shelf.Strings.IndexAnyAll
import Derived.Test.YtekeanikgcpijaaGreatDoorProg
import Derived.Shelf.Abstract
import Derived.Lib.IndexBytes
import Derived.Deep.QuietTactic
import Derived.BigQuiet
import Derived.Lib.IndexAny
namespace Go.Proofs
open Go.Shelf
def Tryz.lays119_ren : Go.Shelf.Ren := ⟨fun | 119 => 111 | n => n, fun | 21 => 21 | 4 => 4 | n => n, fun | n => n⟩
theorem Tryz.lays119 : Go.Proofs.Lays.n119 Tryz.prog Tryz.lays119_ren := {
  mixed := by kernel_rfl
  f119 := Tryz.func111.trans (congrArg some (by kernel_rfl))
  t4 := Tryz.underlying4
  a4 := Tryz.isAgg4
  z4 := Tryz.sizeOf4
  v4 := Tryz.zeroValue4
  t21 := Tryz.underlying21
  a21 := Tryz.isAgg21
  z21 := Tryz.sizeOf21
  v21 := Tryz.zeroValue21 }
theorem Tryz.utf8_ValidRune (r : Int) (w : World) :
    Calls Tryz.prog 111 #[.int .i32 r] w fun e w' => e = .returned (.bool (Lib.validRune r)) ∧ w' = w := Any.utf8_ValidRune Tryz.lays119 r w
def Tryz.lays137_ren : Go.Shelf.Ren := ⟨fun | 137 => 69 | 217 => 86 | 266 => 97 | n => n, fun | 9 => 9 | 5 => 5 | 3 => 3 | n => n, fun | n => n⟩
theorem Tryz.lays137 : Go.Proofs.Lays.n137 Tryz.prog Tryz.lays137_ren := {
  mixed := by kernel_rfl
  f137 := Tryz.func69.trans (congrArg some (by kernel_rfl))
  f217 := Tryz.func86.trans (congrArg some (by kernel_rfl))
  f266 := Tryz.func97.trans (congrArg some (by kernel_rfl))
  t3 := Tryz.underlying3
  a3 := Tryz.isAgg3
  z3 := Tryz.sizeOf3
  v3 := Tryz.zeroValue3
  t5 := Tryz.underlying5
  a5 := Tryz.isAgg5
  z5 := Tryz.sizeOf5
  v5 := Tryz.zeroValue5
  t9 := Tryz.underlying9
  a9 := Tryz.isAgg9
  z9 := Tryz.sizeOf9
  v9 := Tryz.zeroValue9 }
open Go.RowKit in
theorem Tryz.strings_IndexByte (s : ByteArray) (c : Int) (w : World) :
    Calls Tryz.prog 69 #[.string s, .int .u8 c] w fun e w' => e = .returned (.int .i64 (Lib.indexByte s.data.toList c.toNat.toUInt8)) ∧ w' = w := Any.strings_IndexByte Tryz.lays137 s c w
def Tryz.laysM316_ren : Go.Shelf.Ren := ⟨fun | 316 => 80 | n => n, fun | 9 => 9 | 3 => 3 | 4 => 4 | 37 => 164 | 0 => 0 | 127 => 190 | 5 => 5 | n => n, fun | n => n⟩
theorem Tryz.laysM316 : Go.Proofs.LaysM.n316 Tryz.prog Tryz.laysM316_ren := {
  mixed := by kernel_rfl
  f316 := Tryz.func80.trans (congrArg some (by kernel_rfl))
  t0 := Tryz.underlying0
  a0 := Tryz.isAgg0
  z0 := Tryz.sizeOf0
  v0 := Tryz.zeroValue0
  t3 := Tryz.underlying3
  a3 := Tryz.isAgg3
  z3 := Tryz.sizeOf3
  v3 := Tryz.zeroValue3
  t4 := Tryz.underlying4
  a4 := Tryz.isAgg4
  z4 := Tryz.sizeOf4
  v4 := Tryz.zeroValue4
  t9 := Tryz.underlying9
  a9 := Tryz.isAgg9
  z9 := Tryz.sizeOf9
  v9 := Tryz.zeroValue9
  t37 := Tryz.underlying164
  a37 := Tryz.isAgg164
  z37 := Tryz.sizeOf164
  v37 := Tryz.zeroValue164
  t127 := Tryz.underlying190
  a127 := Tryz.isAgg190
  z127 := Tryz.sizeOf190
  v127 := Tryz.zeroValue190
  t5 := Tryz.underlying5
  a5 := Tryz.isAgg5
  z5 := Tryz.sizeOf5
  v5 := Tryz.zeroValue5
  i0 := by kernel_rfl
  i3 := by kernel_rfl
  i4 := by kernel_rfl
  i5 := by kernel_rfl
  i9 := by kernel_rfl
  i37 := by kernel_rfl
  i127 := by kernel_rfl }
open Go.RowKit in
theorem Tryz.stringslite_Clone (s : ByteArray) (w : World) (hlim : s.size ≤ 281474976710656) :
    Calls Tryz.prog 80 #[.string s] w fun e w' => e = .returned (.string s) ∧ Below w.heap.size w w' := Any.stringslite_Clone Tryz.laysM316 s w hlim
def Tryz.lays143_ren : Go.Shelf.Ren := ⟨fun | 143 => 85 | 219 => 96 | 217 => 86 | 225 => 108 | 224 => 109 | 267 => 110 | 266 => 97 | 314 => 120 | n => n, fun | 9 => 9 | 3 => 3 | 4 => 4 | 5 => 5 | 46 => 196 | 146 => 186 | 51 => 185 | n => n, fun | 1 => 20 | n => n⟩
theorem Tryz.lays143 : Go.Proofs.Lays.n143 Tryz.prog Tryz.lays143_ren := {
  mixed := by kernel_rfl
  f143 := Tryz.func85.trans (congrArg some (by kernel_rfl))
  f217 := Tryz.func86.trans (congrArg some (by kernel_rfl))
  f219 := Tryz.func96.trans (congrArg some (by kernel_rfl))
  f224 := Tryz.func109.trans (congrArg some (by kernel_rfl))
  f225 := Tryz.func108.trans (congrArg some (by kernel_rfl))
  f266 := Tryz.func97.trans (congrArg some (by kernel_rfl))
  f267 := Tryz.func110.trans (congrArg some (by kernel_rfl))
  f314 := Tryz.func120.trans (congrArg some (by kernel_rfl))
  t3 := Tryz.underlying3
  a3 := Tryz.isAgg3
  z3 := Tryz.sizeOf3
  v3 := Tryz.zeroValue3
  t4 := Tryz.underlying4
  a4 := Tryz.isAgg4
  z4 := Tryz.sizeOf4
  v4 := Tryz.zeroValue4
  t5 := Tryz.underlying5
  a5 := Tryz.isAgg5
  z5 := Tryz.sizeOf5
  v5 := Tryz.zeroValue5
  t9 := Tryz.underlying9
  a9 := Tryz.isAgg9
  z9 := Tryz.sizeOf9
  v9 := Tryz.zeroValue9
  t46 := Tryz.underlying196
  a46 := Tryz.isAgg196
  z46 := Tryz.sizeOf196
  v46 := Tryz.zeroValue196
  t51 := Tryz.underlying185
  a51 := Tryz.isAgg185
  z51 := Tryz.sizeOf185
  v51 := Tryz.zeroValue185
  t146 := Tryz.underlying186
  a146 := Tryz.isAgg186
  z146 := Tryz.sizeOf186
  v146 := Tryz.zeroValue186
  g1 := by kernel_rfl }
open Go.RowKit Go.Lib in
theorem Tryz.strings_Index (s sub : ByteArray) (m : Int) (w : World) (hs : s.size < 4294967281) (hm : w.cell? ⟨20, 0, none⟩ = some (.int .i64 m)) :
    Calls Tryz.prog 85 #[.string s, .string sub] w fun e w' => e = .returned (.int .i64 (Lib.index s.data.toList sub.data.toList)) ∧ w' = w := Any.strings_Index Tryz.lays143 s sub m w hs hm
def Tryz.laysM219_ren : Go.Shelf.Ren := ⟨fun | 219 => 96 | 217 => 86 | 225 => 108 | 224 => 109 | 267 => 110 | 266 => 97 | 314 => 120 | n => n, fun | 9 => 9 | 3 => 3 | 4 => 4 | 5 => 5 | 46 => 196 | 146 => 186 | 51 => 185 | n => n, fun | 1 => 20 | n => n⟩
theorem Tryz.laysM219 : Go.Proofs.LaysM.n219 Tryz.prog Tryz.laysM219_ren := {
  mixed := by kernel_rfl
  f217 := Tryz.func86.trans (congrArg some (by kernel_rfl))
  f219 := Tryz.func96.trans (congrArg some (by kernel_rfl))
  f224 := Tryz.func109.trans (congrArg some (by kernel_rfl))
  f225 := Tryz.func108.trans (congrArg some (by kernel_rfl))
  f266 := Tryz.func97.trans (congrArg some (by kernel_rfl))
  f267 := Tryz.func110.trans (congrArg some (by kernel_rfl))
  f314 := Tryz.func120.trans (congrArg some (by kernel_rfl))
  t3 := Tryz.underlying3
  a3 := Tryz.isAgg3
  z3 := Tryz.sizeOf3
  v3 := Tryz.zeroValue3
  t4 := Tryz.underlying4
  a4 := Tryz.isAgg4
  z4 := Tryz.sizeOf4
  v4 := Tryz.zeroValue4
  t5 := Tryz.underlying5
  a5 := Tryz.isAgg5
  z5 := Tryz.sizeOf5
  v5 := Tryz.zeroValue5
  t9 := Tryz.underlying9
  a9 := Tryz.isAgg9
  z9 := Tryz.sizeOf9
  v9 := Tryz.zeroValue9
  t46 := Tryz.underlying196
  a46 := Tryz.isAgg196
  z46 := Tryz.sizeOf196
  v46 := Tryz.zeroValue196
  t51 := Tryz.underlying185
  a51 := Tryz.isAgg185
  z51 := Tryz.sizeOf185
  v51 := Tryz.zeroValue185
  t146 := Tryz.underlying186
  a146 := Tryz.isAgg186
  z146 := Tryz.sizeOf186
  v146 := Tryz.zeroValue186
  g1 := by kernel_rfl
  i3 := by kernel_rfl
  i4 := by kernel_rfl
  i5 := by kernel_rfl
  i9 := by kernel_rfl
  i46 := by kernel_rfl
  i51 := by kernel_rfl
  i146 := by kernel_rfl
  m1 := by kernel_rfl
  s1_3 := fun w h => Go.Proofs.cell_of_shapedOpen_int (zero := #[.int .i64 0]) (t := 3) h (of_decide_eq_true (by kernel_rfl)) (by kernel_rfl) rfl (by kernel_rfl) (by kernel_rfl) Tryz.underlying3 }
def Tryz.lays99_ren : Go.Shelf.Ren := ⟨fun | 99 => 62 | 206 => 57 | n => n, fun | 9 => 9 | 4 => 4 | 3 => 3 | n => n, fun | n => n⟩
theorem Tryz.lays99 : Go.Proofs.Lays.n99 Tryz.prog Tryz.lays99_ren := {
  mixed := by kernel_rfl
  f99 := Tryz.func62.trans (congrArg some (by kernel_rfl))
  f206 := Tryz.func57.trans (congrArg some (by kernel_rfl))
  t3 := Tryz.underlying3
  a3 := Tryz.isAgg3
  z3 := Tryz.sizeOf3
  v3 := Tryz.zeroValue3
  t4 := Tryz.underlying4
  a4 := Tryz.isAgg4
  z4 := Tryz.sizeOf4
  v4 := Tryz.zeroValue4
  t9 := Tryz.underlying9
  a9 := Tryz.isAgg9
  z9 := Tryz.sizeOf9
  v9 := Tryz.zeroValue9 }
open Go.RowKit Go.Lib in
theorem Tryz.strings_HasPrefix (s p : ByteArray) (w : World) :
    Calls Tryz.prog 62 #[.string s, .string p] w fun e w' => e = .returned (.bool (Lib.hasPrefix s.data.toList p.data.toList)) ∧ w' = w := Any.strings_HasPrefix Tryz.lays99 s p w
def Tryz.lays152_ren : Go.Shelf.Ren := ⟨fun | 152 => 99 | 137 => 69 | 119 => 111 | 224 => 109 | 225 => 108 | 217 => 86 | 266 => 97 | n => n, fun | 9 => 9 | 21 => 21 | 3 => 3 | 4 => 4 | 5 => 5 | 0 => 0 | 46 => 196 | n => n, fun | n => n⟩
theorem Tryz.lays152 : Go.Proofs.Lays.n152 Tryz.prog Tryz.lays152_ren := {
  mixed := by kernel_rfl
  f119 := Tryz.func111.trans (congrArg some (by kernel_rfl))
  f137 := Tryz.func69.trans (congrArg some (by kernel_rfl))
  f152 := Tryz.func99.trans (congrArg some (by kernel_rfl))
  f217 := Tryz.func86.trans (congrArg some (by kernel_rfl))
  f224 := Tryz.func109.trans (congrArg some (by kernel_rfl))
  f225 := Tryz.func108.trans (congrArg some (by kernel_rfl))
  f266 := Tryz.func97.trans (congrArg some (by kernel_rfl))
  t0 := Tryz.underlying0
  a0 := Tryz.isAgg0
  z0 := Tryz.sizeOf0
  v0 := Tryz.zeroValue0
  t3 := Tryz.underlying3
  a3 := Tryz.isAgg3
  z3 := Tryz.sizeOf3
  v3 := Tryz.zeroValue3
  t4 := Tryz.underlying4
  a4 := Tryz.isAgg4
  z4 := Tryz.sizeOf4
  v4 := Tryz.zeroValue4
  t5 := Tryz.underlying5
  a5 := Tryz.isAgg5
  z5 := Tryz.sizeOf5
  v5 := Tryz.zeroValue5
  t9 := Tryz.underlying9
  a9 := Tryz.isAgg9
  z9 := Tryz.sizeOf9
  v9 := Tryz.zeroValue9
  t21 := Tryz.underlying21
  a21 := Tryz.isAgg21
  z21 := Tryz.sizeOf21
  v21 := Tryz.zeroValue21
  t46 := Tryz.underlying196
  a46 := Tryz.isAgg196
  z46 := Tryz.sizeOf196
  v46 := Tryz.zeroValue196 }
open Go.RowKit Go.Lib in
theorem Tryz.strings_IndexRune_ascii (s : ByteArray) (r : Int) (w : World) (h0 : 0 ≤ r) (h1 : r < 128) :
    Calls Tryz.prog 99 #[.string s, .int .i32 r] w fun e w' => e = .returned (.int .i64 (Lib.indexByte s.data.toList r.toNat.toUInt8)) ∧ w' = w := Any.strings_IndexRune_ascii Tryz.lays152 s r w h0 h1
def Tryz.lays226_ren : Go.Shelf.Ren := ⟨fun | 226 => 100 | n => n, fun | 3 => 3 | 4 => 4 | n => n, fun | n => n⟩
theorem Tryz.lays226 : Go.Proofs.Lays.n226 Tryz.prog Tryz.lays226_ren := {
  mixed := by kernel_rfl
  f226 := Tryz.func100.trans (congrArg some (by kernel_rfl))
  t3 := Tryz.underlying3
  a3 := Tryz.isAgg3
  z3 := Tryz.sizeOf3
  v3 := Tryz.zeroValue3
  t4 := Tryz.underlying4
  a4 := Tryz.isAgg4
  z4 := Tryz.sizeOf4
  v4 := Tryz.zeroValue4 }
open Go.RowKit Go.Lib in
theorem Tryz.strings_shouldUseASCIISet (n : Int) (w : World) :
    Calls Tryz.prog 100 #[.int .i64 n] w fun e w' => e = .returned (.bool (decide (8 < n))) ∧ w' = w := Any.strings_shouldUseASCIISet Tryz.lays226 n w
def Tryz.lays153_ren : Go.Shelf.Ren := ⟨fun | 153 => 89 | 152 => 99 | 226 => 100 | 227 => 101 | 228 => 102 | 137 => 69 | 119 => 111 | 224 => 109 | 225 => 108 | 217 => 86 | 266 => 97 | n => n, fun | 9 => 9 | 3 => 3 | 4 => 4 | 5 => 5 | 21 => 21 | 117 => 201 | 116 => 200 | 0 => 0 | 46 => 196 | 124 => 208 | n => n, fun | n => n⟩
theorem Tryz.lays153 : Go.Proofs.Lays.n153 Tryz.prog Tryz.lays153_ren := {
  mixed := by kernel_rfl
  f119 := Tryz.func111.trans (congrArg some (by kernel_rfl))
  f137 := Tryz.func69.trans (congrArg some (by kernel_rfl))
  f152 := Tryz.func99.trans (congrArg some (by kernel_rfl))
  f153 := Tryz.func89.trans (congrArg some (by kernel_rfl))
  f217 := Tryz.func86.trans (congrArg some (by kernel_rfl))
  f224 := Tryz.func109.trans (congrArg some (by kernel_rfl))
  f225 := Tryz.func108.trans (congrArg some (by kernel_rfl))
  f226 := Tryz.func100.trans (congrArg some (by kernel_rfl))
  f227 := Tryz.func101.trans (congrArg some (by kernel_rfl))
  f228 := Tryz.func102.trans (congrArg some (by kernel_rfl))
  f266 := Tryz.func97.trans (congrArg some (by kernel_rfl))
  t0 := Tryz.underlying0
  a0 := Tryz.isAgg0
  z0 := Tryz.sizeOf0
  v0 := Tryz.zeroValue0
  t3 := Tryz.underlying3
  a3 := Tryz.isAgg3
  z3 := Tryz.sizeOf3
  v3 := Tryz.zeroValue3
  t4 := Tryz.underlying4
  a4 := Tryz.isAgg4
  z4 := Tryz.sizeOf4
  v4 := Tryz.zeroValue4
  t5 := Tryz.underlying5
  a5 := Tryz.isAgg5
  z5 := Tryz.sizeOf5
  v5 := Tryz.zeroValue5
  t9 := Tryz.underlying9
  a9 := Tryz.isAgg9
  z9 := Tryz.sizeOf9
  v9 := Tryz.zeroValue9
  t21 := Tryz.underlying21
  a21 := Tryz.isAgg21
  z21 := Tryz.sizeOf21
  v21 := Tryz.zeroValue21
  t46 := Tryz.underlying196
  a46 := Tryz.isAgg196
  z46 := Tryz.sizeOf196
  v46 := Tryz.zeroValue196
  t116 := Tryz.underlying200
  a116 := Tryz.isAgg200
  z116 := Tryz.sizeOf200
  t117 := Tryz.underlying201
  a117 := Tryz.isAgg201
  z117 := Tryz.sizeOf201
  v117 := Tryz.zeroValue201
  t124 := Tryz.underlying208
  a124 := Tryz.isAgg208
  z124 := Tryz.sizeOf208
  v124 := Tryz.zeroValue208 }
open Go.RowKit Go.Lib in
theorem Tryz.strings_IndexAny_long (hv116 : ∀ w, (zeroValue 200).run Tryz.prog w = .ok (.agg (Array.replicate 256 (.bool false))) w) (s chars : ByteArray) (w : World) (h2 : 2 ≤ chars.size) (h8 : 8 < s.size) (hs : s.size < 4294967281) (hcs : chars.size < 4294967281) (hascii : ∀ (j : Nat) b, chars.data.toList[j]? = some b → b.toNat < 128) :
    Calls Tryz.prog 89 #[.string s, .string chars] w fun e w' => e = .returned (.int .i64 (Lib.indexAny s.data.toList chars.data.toList)) ∧ w' = ((w.alloc (.cells (Lib.setCells chars.data.toList) 200)).alloc (.cells (Lib.setCells chars.data.toList) 200)) := Any.strings_IndexAny_long Tryz.lays153 hv116 (by kernel_rfl) s chars w h2 h8 hs hcs hascii
end Go.Proofs
namespace Go.Proofs.YtekeanikgcpijaaGreatDoor
open Go.RowKit
structure Lx (w : World) (A : Nat → Addr) (m : Int) : Prop where
  range : w.cell? ⟨3, 0, none⟩ = some (errV A 0)
  long : w.cell? ⟨0, 0, none⟩ = some (errV A 2)
  form : w.cell? ⟨10, 0, none⟩ = some (errV A 8)
  max : w.cell? ⟨20, 0, none⟩ = some (.int .i64 m)
theorem Lx.below {w w' : World} {A : Nat → Addr} {m : Int} (h : Lx w A m) (hb : Below w.heap.size w w') : Lx w' A m := by
  have k : ∀ {g : Nat} {v : Value}, w.cell? ⟨g, 0, none⟩ = some v → w'.cell? ⟨g, 0, none⟩ = some v := fun {g v} hc => (hb.cell (p := ⟨g, 0, none⟩) (World.block_lt_of_cell? w ⟨g, 0, none⟩ hc)).trans hc
  exact ⟨k h.range, k h.long, k h.form, k h.max⟩
theorem Lx.drewN {w : World} {A : Nat → Addr} {m : Int} (h : Lx w A m) (n : Nat) : Lx (w.drewN n) A m := ⟨h.range, h.long, h.form, h.max⟩
theorem enters_isGap (args : Array Value) (u : World) : (callFunc 60 args).run Tryz.prog u = .ok (.enter 60 args) u := Go.Proofs.enters_of Tryz.func60 (by kernel_rfl) rfl args u
theorem enters_inWord (args : Array Value) (u : World) : (callFunc 66 args).run Tryz.prog u = .ok (.enter 66 args) u := Go.Proofs.enters_of Tryz.func66 (by kernel_rfl) rfl args u
theorem enters_other (args : Array Value) (u : World) : (callFunc 84 args).run Tryz.prog u = .ok (.enter 84 args) u := Go.Proofs.enters_of Tryz.func84 (by kernel_rfl) rfl args u
theorem enters_figure (args : Array Value) (u : World) : (callFunc 98 args).run Tryz.prog u = .ok (.enter 98 args) u := Go.Proofs.enters_of Tryz.func98 (by kernel_rfl) rfl args u
theorem run_makeFunc (fn : Fn) (first cap : Array Value) (w : World) : (Instr.makeFunc fn first cap).run Tryz.prog w = .ok (.func fn first cap) w := rfl
set_option maxRecDepth 100000 in
theorem other_any (u : World) (b c : UInt8) (a : Addr) (hc : u.cell? a = some (.int .u8 (c.toNat : Int))) :
    Calls Tryz.prog 84 #[.int .u8 (b.toNat : Int), .pointer (some a)] u (Ans (.bool (b != c)) u) := by
  have e : (b != c) = ((b.toNat : Int) != (c.toNat : Int)) := by
    rw [bne, byte_eq, bne]; rfl
  rw [e]
  generalize (b.toNat : Int) = B at *
  generalize (c.toNat : Int) = C at *
  go_enter Tryz.func84, Tryz.ntmps84
  go_wp2
  all_goals (go_ret; exact ⟨rfl, rfl⟩)
set_option maxRecDepth 100000 in
theorem otherThan_any (w : World) (c : UInt8) : Calls Tryz.prog 63 #[.int .u8 (c.toNat : Int)] w fun e w' =>
    e = .returned (.func (.func 84) #[] #[.pointer (some ⟨w.heap.size, 0, none⟩)]) ∧ w' = w.alloc (.cells #[.int .u8 (c.toNat : Int)] 5) := by
  have hmf := run_makeFunc
  go_enter Tryz.func63, Tryz.ntmps63
  go_wp2
  go_ret
  exact ⟨rfl, rfl⟩
set_option maxRecDepth 100000 in
theorem figure_any (u : World) (b : UInt8) (n : Int) (a : Addr) (hc : u.cell? a = some (.int .i64 n)) :
    Calls Tryz.prog 98 #[.int .u8 (b.toNat : Int), .pointer (some a)] u (Qui (.bool (decide ((ldig b : Int) < n))) u) := by
  have HD := Lib.hid (fun u => digit_any u b)
  generalize (ldig b : Int) = d at *
  go_enter Tryz.func98, Tryz.ntmps98
  go_wp2_with fail
  go_quiet (refine Calls.quiet_of_same (HD.out _))
  go_wp2
  all_goals (go_ret; exact ⟨rfl, _, rfl⟩)
set_option maxRecDepth 100000 in
theorem figureOf_any (w : World) (n : Int) : Calls Tryz.prog 87 #[.int .i64 n] w fun e w' =>
    e = .returned (.func (.func 98) #[] #[.pointer (some ⟨w.heap.size, 0, none⟩)]) ∧ w' = w.alloc (.cells #[.int .i64 n] 3) := by
  have hmf := run_makeFunc
  go_enter Tryz.func87, Tryz.ntmps87
  go_wp2
  go_ret
  exact ⟨rfl, rfl⟩
theorem span_gap (w : World) (l : List UInt8) (hl : l.length ≤ 140737488351232) : Calls Tryz.prog 61 #[.string (str l), .func (.func 60) #[] #[]] w (Qui (.int .i64 (lspan lxGap l : Int)) w) :=
  span_fn w l lxGap _ hl enters_isGap fun b m => (isGap_any _ b).mono fun _ _ ⟨h1, h2⟩ => ⟨h1, m, h2⟩
theorem span_in (w : World) (l : List UInt8) (hl : l.length ≤ 140737488351232) : Calls Tryz.prog 61 #[.string (str l), .func (.func 66) #[] #[]] w (Qui (.int .i64 (lspan lxIn l : Int)) w) :=
  span_fn w l lxIn _ hl enters_inWord fun b m => (inWord_any _ b).mono fun _ _ ⟨h1, h2⟩ => ⟨h1, m, h2⟩
theorem span_other (w : World) (l : List UInt8) (a : Addr) (hl : l.length ≤ 140737488351232) (hc : w.cell? a = some (.int .u8 10)) : Calls Tryz.prog 61 #[.string (str l), .func (.func 84) #[] #[.pointer (some a)]] w (Qui (.int .i64 (lspan noLF l : Int)) w) :=
  span_cap w l noLF _ _ hl enters_other fun b m => (other_any (w.drewN m) b 10 a hc).mono fun _ _ ⟨h1, h2⟩ => ⟨h1, m, h2⟩
theorem span_figure (w : World) (l : List UInt8) (a : Addr) (n : Nat) (hl : l.length ≤ 140737488351232) (hc : w.cell? a = some (.int .i64 (n : Int))) : Calls Tryz.prog 61 #[.string (str l), .func (.func 98) #[] #[.pointer (some a)]] w (Qui (.int .i64 (lspan (fun b => decide (ldig b < n)) l : Int)) w) :=
  span_cap w l _ _ _ hl enters_figure fun b m => (figure_any (w.drewN m) b n a hc).mono fun _ _ ⟨h1, k, h2⟩ => ⟨by rw [h1]; congr 3; exact propext Int.ofNat_lt, m + k, by rw [h2, World.drewN_drewN]⟩
set_option maxRecDepth 100000 in
theorem closed_any (w : World) (A : Nat → Addr) (m : Int) (hL : Lx w A m) (l g e : List UInt8) (hl : l.length < 1000000000) (hg : g.length ≤ l.length) (he : e.length ≤ 1000) :
    Calls Tryz.prog 64 #[.string (str l), .string (str g), .string (str e)] w fun en w' => en = .returned (.tuple #[.int .i64 ((lclosed g.length e l).1 : Int), errOf A (lclosed g.length e l).2]) ∧ ∃ n, w' = w.drewN n := by
  have hgz : (str g).size = g.length := strSize g
  have hez : (str e).size = e.length := strSize e
  have hfrom := str_from l g.length hg
  have HI := Lib.hid (Tryz.strings_Index (str (l.drop g.length)) (str e) m w (by rw [strSize, List.length_drop]; omega) hL.max)
  have hd : (str (l.drop g.length)).data.toList = l.drop g.length := by simp [str]
  have hd' : (str e).data.toList = e := by simp [str]
  rw [hd, hd'] at HI
  have hle := Lib.index_le (l.drop g.length) e
  rw [List.length_drop] at hle
  have hform := hL.form
  unfold lclosed
  generalize Lib.index (l.drop g.length) e = I at *
  clear hd hd'
  by_cases hneg : I < 0
  · rw [if_pos hneg, show errOf A 9 = errV A 8 from rfl]
    go_enter Tryz.func64, Tryz.ntmps64
    go_wp2_with fail
    refine HI.out.mono ?_
    rintro e w' ⟨rfl, rfl⟩
    go_wp2_with fail
    go_quiet (fail)
    go_wp2_with fail
    go_ret2
    exact ⟨rfl, _, rfl⟩
  · rw [if_neg hneg, show errOf A 0 = Value.nilIface from rfl]
    obtain ⟨i, rfl⟩ : ∃ i : Nat, I = (i : Int) := ⟨I.toNat, by omega⟩
    go_enter Tryz.func64, Tryz.ntmps64
    go_wp2_with fail
    refine HI.out.mono ?_
    rintro e w' ⟨rfl, rfl⟩
    go_wp2_with fail
    go_ret2
    exact ⟨by rw [Int.toNat_natCast]; rfl, 0, rfl⟩
end Go.Proofs.YtekeanikgcpijaaGreatDoor
namespace Go.Proofs.YtekeanikgcpijaaGreatDoor
open Go.RowKit
theorem str_data (l : List UInt8) : (str l).data.toList = l := by simp [str]
theorem hasPrefix_two (l : List UInt8) (x y : UInt8) : Lib.hasPrefix l [x, y] = decide (l.take 2 = [x, y]) := by
  unfold Lib.hasPrefix
  rw [Bool.eq_iff_iff, List.isPrefixOf_iff_prefix, decide_eq_true_eq, List.prefix_iff_eq_take]
  exact eq_comm
theorem prefix_any (w : World) (l : List UInt8) (x y : UInt8) : Calls Tryz.prog 62 #[.string (str l), .string ⟨#[x, y]⟩] w (Ans (.bool (decide (l.take 2 = [x, y]))) w) := by
  have h := Tryz.strings_HasPrefix (str l) ⟨#[x, y]⟩ w
  rw [str_data, show (ByteArray.mk #[x, y]).data.toList = [x, y] from rfl, hasPrefix_two] at h
  exact h
theorem sign_any (w : World) (b : UInt8) : Calls Tryz.prog 69 #[.string ⟨#[123, 125, 91, 93, 60, 62, 40, 41, 59, 61, 44, 46, 45]⟩, .int .u8 (b.toNat : Int)] w fun e w' => (∃ i : Int, e = .returned (.int .i64 i) ∧ decide (0 ≤ i) = lxSign b) ∧ w' = w := by
  refine (Tryz.strings_IndexByte ⟨#[123, 125, 91, 93, 60, 62, 40, 41, 59, 61, 44, 46, 45]⟩ (b.toNat : Int) w).mono fun e w' ⟨h1, h2⟩ => ⟨⟨_, h1, ?_⟩, h2⟩
  rw [show (ByteArray.mk #[123, 125, 91, 93, 60, 62, 40, 41, 59, 61, 44, 46, 45]).data.toList = signs from rfl, Lib.byte_back', ← Lib.contains_iff_indexByte]
  rfl
def CutR (w : World) (A : Nat → Addr) (r : Nat × Nat × Nat) (e : Ending) (w' : World) : Prop :=
  e = .returned (.tuple #[.int .i64 (r.1 : Int), .int .i64 (r.2.1 : Int), errOf A r.2.2]) ∧ Below w.heap.size w w'
set_option maxRecDepth 100000 in
theorem cut_gap (w : World) (A : Nat → Addr) (m : Int) (hL : Lx w A m) (b : UInt8) (r : List UInt8) (hl : (b :: r).length < 1000000000) (hgap : lxGap b = true) :
    Calls Tryz.prog 42 #[.string (str (b :: r))] w (CutR w A (0, lspan lxGap (b :: r), 0)) := by
  have hix : ∀ u, (Instr.index 9 (.string (str (b :: r))) (.int .i64 0)).run Tryz.prog u = .ok (.int .u8 (b.toNat : Int)) u := str_index (b :: r) 0 (by simp)
  have Hgap := Lib.hid (isGap_any w b)
  rw [hgap] at Hgap
  clear hgap
  go_enter Tryz.func42, Tryz.ntmps42
  go_wp2_with fail
  refine Hgap.out.mono ?_
  rintro e w ⟨rfl, rfl⟩
  go_wp2_with fail
  refine (span_gap w (b :: r) (by omega)).mono ?_
  rintro e w' ⟨rfl, n, rfl⟩
  go_wp2_with fail
  go_ret3
  exact ⟨rfl, below_drewN (Below.refl _ _) _⟩
set_option maxRecDepth 100000 in
theorem cut_sl (w : World) (A : Nat → Addr) (m : Int) (hL : Lx w A m) (b : UInt8) (r : List UInt8) (hl : (b :: r).length < 1000000000) (hgap : lxGap b = false) (hsl : decide ((b :: r).take 2 = [47, 47]) = true) :
    Calls Tryz.prog 42 #[.string (str (b :: r))] w (CutR w A (0, lspan noLF (b :: r), 0)) := by
  have hix : ∀ u, (Instr.index 9 (.string (str (b :: r))) (.int .i64 0)).run Tryz.prog u = .ok (.int .u8 (b.toNat : Int)) u := str_index (b :: r) 0 (by simp)
  have Hgap := Lib.hid (isGap_any w b)
  rw [hgap] at Hgap
  have Hsl := Lib.hid (prefix_any w (b :: r) 47 47)
  rw [hsl] at Hsl
  have hmf := run_makeFunc
  clear hgap
  clear hsl
  go_enter Tryz.func42, Tryz.ntmps42
  go_wp2_with fail
  refine Hgap.out.mono ?_
  rintro e w ⟨rfl, rfl⟩
  go_wp2_with fail
  refine Hsl.out.mono ?_
  rintro e w ⟨rfl, rfl⟩
  go_wp2_with fail
  refine (otherThan_any w 10).mono ?_
  rintro e w' ⟨rfl, hw⟩
  have hb1 : Below w.heap.size w w' := hw ▸ (Below.refl _ _).alloc (Nat.le_refl _) _
  have hc : w'.cell? ⟨w.heap.size, 0, none⟩ = some (.int .u8 10) := by rw [hw]; exact (Blk.new w 5 [.int .u8 10]).cell 0
  clear hw
  go_wp2_with fail
  refine (span_other w' (b :: r) _ (by omega) hc).mono ?_
  rintro e w2 ⟨rfl, n, rfl⟩
  go_wp2_with fail
  go_ret3
  exact ⟨rfl, below_drewN hb1 _⟩
set_option maxRecDepth 100000 in
theorem cut_st (w : World) (A : Nat → Addr) (m : Int) (hL : Lx w A m) (b : UInt8) (r : List UInt8) (hl : (b :: r).length < 1000000000) (hgap : lxGap b = false) (hsl : decide ((b :: r).take 2 = [47, 47]) = false) (hst : decide ((b :: r).take 2 = [47, 42]) = true) :
    Calls Tryz.prog 42 #[.string (str (b :: r))] w (CutR w A (0, lclosed 2 [42, 47] (b :: r))) := by
  have hix : ∀ u, (Instr.index 9 (.string (str (b :: r))) (.int .i64 0)).run Tryz.prog u = .ok (.int .u8 (b.toNat : Int)) u := str_index (b :: r) 0 (by simp)
  have Hgap := Lib.hid (isGap_any w b)
  rw [hgap] at Hgap
  have Hsl := Lib.hid (prefix_any w (b :: r) 47 47)
  rw [hsl] at Hsl
  have Hst := Lib.hid (prefix_any w (b :: r) 47 42)
  rw [hst] at Hst
  have htwo : 2 ≤ (b :: r).length := by
    have h := congrArg List.length (of_decide_eq_true hst)
    rw [List.length_take] at h
    simp only [List.length_cons, List.length_nil] at h ⊢
    omega
  have HC := Lib.hid (closed_any w A m hL (b :: r) [47, 42] [42, 47] hl htwo (by simp))
  rw [show ([47, 42] : List UInt8).length = 2 from rfl] at HC
  clear htwo
  clear hgap
  clear hsl
  clear hst
  go_enter Tryz.func42, Tryz.ntmps42
  go_wp2_with fail
  refine Hgap.out.mono ?_
  rintro e w ⟨rfl, rfl⟩
  go_wp2_with fail
  refine Hsl.out.mono ?_
  rintro e w ⟨rfl, rfl⟩
  go_wp2_with fail
  refine Hst.out.mono ?_
  rintro e w ⟨rfl, rfl⟩
  go_wp2_with fail
  refine HC.out.mono ?_
  rintro e w' ⟨rfl, n, rfl⟩
  go_wp2_with fail
  go_ret3
  exact ⟨rfl, below_drewN (Below.refl _ _) _⟩
set_option maxRecDepth 100000 in
theorem cut_wd (w : World) (A : Nat → Addr) (m : Int) (hL : Lx w A m) (b : UInt8) (r : List UInt8) (hl : (b :: r).length < 1000000000) (hgap : lxGap b = false) (hsl : decide ((b :: r).take 2 = [47, 47]) = false) (hst : decide ((b :: r).take 2 = [47, 42]) = false) (hwd : lxLet b = true) :
    Calls Tryz.prog 42 #[.string (str (b :: r))] w (CutR w A (1, lspan lxIn (b :: r), 0)) := by
  have hix : ∀ u, (Instr.index 9 (.string (str (b :: r))) (.int .i64 0)).run Tryz.prog u = .ok (.int .u8 (b.toNat : Int)) u := str_index (b :: r) 0 (by simp)
  have Hgap := Lib.hid (isGap_any w b)
  rw [hgap] at Hgap
  have Hsl := Lib.hid (prefix_any w (b :: r) 47 47)
  rw [hsl] at Hsl
  have Hst := Lib.hid (prefix_any w (b :: r) 47 42)
  rw [hst] at Hst
  have Hwd := Lib.hid (beginsWord_any w b)
  rw [hwd] at Hwd
  clear hgap
  clear hsl
  clear hst
  clear hwd
  go_enter Tryz.func42, Tryz.ntmps42
  go_wp2_with fail
  refine Hgap.out.mono ?_
  rintro e w ⟨rfl, rfl⟩
  go_wp2_with fail
  refine Hsl.out.mono ?_
  rintro e w ⟨rfl, rfl⟩
  go_wp2_with fail
  refine Hst.out.mono ?_
  rintro e w ⟨rfl, rfl⟩
  go_wp2_with fail
  refine Hwd.out.mono ?_
  rintro e w ⟨rfl, rfl⟩
  go_wp2_with fail
  refine (span_in w (b :: r) (by omega)).mono ?_
  rintro e w' ⟨rfl, n, rfl⟩
  go_wp2_with fail
  go_ret3
  exact ⟨rfl, below_drewN (Below.refl _ _) _⟩
set_option maxRecDepth 100000 in
theorem cut_fg (w : World) (A : Nat → Addr) (m : Int) (hL : Lx w A m) (b : UInt8) (r : List UInt8) (hl : (b :: r).length < 1000000000) (hgap : lxGap b = false) (hsl : decide ((b :: r).take 2 = [47, 47]) = false) (hst : decide ((b :: r).take 2 = [47, 42]) = false) (hwd : lxLet b = false) (hfg : lxFig b = true) :
    Calls Tryz.prog 42 #[.string (str (b :: r))] w (CutR w A (2, lspan lxIn (b :: r), 0)) := by
  have hix : ∀ u, (Instr.index 9 (.string (str (b :: r))) (.int .i64 0)).run Tryz.prog u = .ok (.int .u8 (b.toNat : Int)) u := str_index (b :: r) 0 (by simp)
  have Hgap := Lib.hid (isGap_any w b)
  rw [hgap] at Hgap
  have Hsl := Lib.hid (prefix_any w (b :: r) 47 47)
  rw [hsl] at Hsl
  have Hst := Lib.hid (prefix_any w (b :: r) 47 42)
  rw [hst] at Hst
  have Hwd := Lib.hid (beginsWord_any w b)
  rw [hwd] at Hwd
  have Hfg := Lib.hid (isFigure_any w b)
  rw [hfg] at Hfg
  clear hgap
  clear hsl
  clear hst
  clear hwd
  clear hfg
  go_enter Tryz.func42, Tryz.ntmps42
  go_wp2_with fail
  refine Hgap.out.mono ?_
  rintro e w ⟨rfl, rfl⟩
  go_wp2_with fail
  refine Hsl.out.mono ?_
  rintro e w ⟨rfl, rfl⟩
  go_wp2_with fail
  refine Hst.out.mono ?_
  rintro e w ⟨rfl, rfl⟩
  go_wp2_with fail
  refine Hwd.out.mono ?_
  rintro e w ⟨rfl, rfl⟩
  go_wp2_with fail
  refine Hfg.out.mono ?_
  rintro e w ⟨rfl, rfl⟩
  go_wp2_with fail
  refine (span_in w (b :: r) (by omega)).mono ?_
  rintro e w' ⟨rfl, n, rfl⟩
  go_wp2_with fail
  go_ret3
  exact ⟨rfl, below_drewN (Below.refl _ _) _⟩
set_option maxRecDepth 100000 in
theorem cut_qt (w : World) (A : Nat → Addr) (m : Int) (hL : Lx w A m) (b : UInt8) (r : List UInt8) (hl : (b :: r).length < 1000000000) (hgap : lxGap b = false) (hsl : decide ((b :: r).take 2 = [47, 47]) = false) (hst : decide ((b :: r).take 2 = [47, 42]) = false) (hwd : lxLet b = false) (hfg : lxFig b = false) (hqt : lxQuote b = true) :
    Calls Tryz.prog 42 #[.string (str (b :: r))] w (CutR w A (3, lclosed 1 [b] (b :: r))) := by
  have hix : ∀ u, (Instr.index 9 (.string (str (b :: r))) (.int .i64 0)).run Tryz.prog u = .ok (.int .u8 (b.toNat : Int)) u := str_index (b :: r) 0 (by simp)
  have Hgap := Lib.hid (isGap_any w b)
  rw [hgap] at Hgap
  have Hsl := Lib.hid (prefix_any w (b :: r) 47 47)
  rw [hsl] at Hsl
  have Hst := Lib.hid (prefix_any w (b :: r) 47 42)
  rw [hst] at Hst
  have Hwd := Lib.hid (beginsWord_any w b)
  rw [hwd] at Hwd
  have Hfg := Lib.hid (isFigure_any w b)
  rw [hfg] at Hfg
  have Hqt := Lib.hid (isQuote_any w b)
  rw [hqt] at Hqt
  have hup : ∀ u, (Instr.slice 9 (.string (str (b :: r))) none (some (.int .i64 1)) none).run Tryz.prog u = .ok (.string (str [b])) u := str_upto (b :: r) 1 (by simp)
  have HC := Lib.hid (fun n => by have h := closed_any (w.drewN n) A m (hL.drewN n) (b :: r) [b] [b] hl (by simp) (by simp); rw [show ([b] : List UInt8).length = 1 from rfl] at h; exact h)
  clear hgap
  clear hsl
  clear hst
  clear hwd
  clear hfg
  clear hqt
  go_enter Tryz.func42, Tryz.ntmps42
  go_wp2_with fail
  refine Hgap.out.mono ?_
  rintro e w ⟨rfl, rfl⟩
  go_wp2_with fail
  refine Hsl.out.mono ?_
  rintro e w ⟨rfl, rfl⟩
  go_wp2_with fail
  refine Hst.out.mono ?_
  rintro e w ⟨rfl, rfl⟩
  go_wp2_with fail
  refine Hwd.out.mono ?_
  rintro e w ⟨rfl, rfl⟩
  go_wp2_with fail
  refine Hfg.out.mono ?_
  rintro e w ⟨rfl, rfl⟩
  go_wp2_with fail
  refine Hqt.out.mono ?_
  rintro e w ⟨rfl, rfl⟩
  go_wp2_with fail
  go_quiet (refine Calls.quiet_of (HC.out _))
  go_wp2_with fail
  go_ret3
  exact ⟨rfl, below_drewN (Below.refl _ _) _⟩
set_option maxRecDepth 100000 in
theorem cut_sg (w : World) (A : Nat → Addr) (m : Int) (hL : Lx w A m) (b : UInt8) (r : List UInt8) (_hl : (b :: r).length < 1000000000) (hgap : lxGap b = false) (hsl : decide ((b :: r).take 2 = [47, 47]) = false) (hst : decide ((b :: r).take 2 = [47, 42]) = false) (hwd : lxLet b = false) (hfg : lxFig b = false) (hqt : lxQuote b = false) (hsg : lxSign b = true) :
    Calls Tryz.prog 42 #[.string (str (b :: r))] w (CutR w A (4, 1, 0)) := by
  have hix : ∀ u, (Instr.index 9 (.string (str (b :: r))) (.int .i64 0)).run Tryz.prog u = .ok (.int .u8 (b.toNat : Int)) u := str_index (b :: r) 0 (by simp)
  have Hgap := Lib.hid (isGap_any w b)
  rw [hgap] at Hgap
  have Hsl := Lib.hid (prefix_any w (b :: r) 47 47)
  rw [hsl] at Hsl
  have Hst := Lib.hid (prefix_any w (b :: r) 47 42)
  rw [hst] at Hst
  have Hwd := Lib.hid (beginsWord_any w b)
  rw [hwd] at Hwd
  have Hfg := Lib.hid (isFigure_any w b)
  rw [hfg] at Hfg
  have Hqt := Lib.hid (isQuote_any w b)
  rw [hqt] at Hqt
  have Hsg := Lib.hid (sign_any w b)
  rw [hsg] at Hsg
  clear hgap
  clear hsl
  clear hst
  clear hwd
  clear hfg
  clear hqt
  clear hsg
  go_enter Tryz.func42, Tryz.ntmps42
  go_wp2_with fail
  refine Hgap.out.mono ?_
  rintro e w ⟨rfl, rfl⟩
  go_wp2_with fail
  refine Hsl.out.mono ?_
  rintro e w ⟨rfl, rfl⟩
  go_wp2_with fail
  refine Hst.out.mono ?_
  rintro e w ⟨rfl, rfl⟩
  go_wp2_with fail
  refine Hwd.out.mono ?_
  rintro e w ⟨rfl, rfl⟩
  go_wp2_with fail
  refine Hfg.out.mono ?_
  rintro e w ⟨rfl, rfl⟩
  go_wp2_with fail
  refine Hqt.out.mono ?_
  rintro e w ⟨rfl, rfl⟩
  go_wp2_with fail
  refine Hsg.out.mono ?_
  rintro e w ⟨⟨i, rfl, hi⟩, rfl⟩
  replace hi : 0 ≤ i := of_decide_eq_true hi
  go_wp2_with fail
  go_ret3
  exact ⟨rfl, Below.refl _ _⟩
set_option maxRecDepth 100000 in
theorem cut_bad (w : World) (A : Nat → Addr) (m : Int) (hL : Lx w A m) (b : UInt8) (r : List UInt8) (_hl : (b :: r).length < 1000000000) (hgap : lxGap b = false) (hsl : decide ((b :: r).take 2 = [47, 47]) = false) (hst : decide ((b :: r).take 2 = [47, 42]) = false) (hwd : lxLet b = false) (hfg : lxFig b = false) (hqt : lxQuote b = false) (hsg : lxSign b = false) :
    Calls Tryz.prog 42 #[.string (str (b :: r))] w (CutR w A (0, 0, 9)) := by
  have hix : ∀ u, (Instr.index 9 (.string (str (b :: r))) (.int .i64 0)).run Tryz.prog u = .ok (.int .u8 (b.toNat : Int)) u := str_index (b :: r) 0 (by simp)
  have Hgap := Lib.hid (isGap_any w b)
  rw [hgap] at Hgap
  have Hsl := Lib.hid (prefix_any w (b :: r) 47 47)
  rw [hsl] at Hsl
  have Hst := Lib.hid (prefix_any w (b :: r) 47 42)
  rw [hst] at Hst
  have Hwd := Lib.hid (beginsWord_any w b)
  rw [hwd] at Hwd
  have Hfg := Lib.hid (isFigure_any w b)
  rw [hfg] at Hfg
  have Hqt := Lib.hid (isQuote_any w b)
  rw [hqt] at Hqt
  have Hsg := Lib.hid (sign_any w b)
  rw [hsg] at Hsg
  have hform := hL.form
  clear hgap
  clear hsl
  clear hst
  clear hwd
  clear hfg
  clear hqt
  clear hsg
  go_enter Tryz.func42, Tryz.ntmps42
  go_wp2_with fail
  refine Hgap.out.mono ?_
  rintro e w ⟨rfl, rfl⟩
  go_wp2_with fail
  refine Hsl.out.mono ?_
  rintro e w ⟨rfl, rfl⟩
  go_wp2_with fail
  refine Hst.out.mono ?_
  rintro e w ⟨rfl, rfl⟩
  go_wp2_with fail
  refine Hwd.out.mono ?_
  rintro e w ⟨rfl, rfl⟩
  go_wp2_with fail
  refine Hfg.out.mono ?_
  rintro e w ⟨rfl, rfl⟩
  go_wp2_with fail
  refine Hqt.out.mono ?_
  rintro e w ⟨rfl, rfl⟩
  go_wp2_with fail
  refine Hsg.out.mono ?_
  rintro e w ⟨⟨i, rfl, hi⟩, rfl⟩
  replace hi : ¬ 0 ≤ i := of_decide_eq_false hi
  go_wp2_with fail
  go_quiet (fail)
  go_wp2_with fail
  go_ret3
  exact ⟨rfl, below_drewN (Below.refl _ _) _⟩
theorem cut_any (w : World) (A : Nat → Addr) (m : Int) (hL : Lx w A m) (l : List UInt8) (h0 : 0 < l.length) (hl : l.length < 1000000000) :
    Calls Tryz.prog 42 #[.string (str l)] w (CutR w A (lcut l)) := by
  obtain ⟨b, r, rfl⟩ : ∃ b r, l = b :: r := by
    cases l with
    | nil => simp at h0
    | cons b r => exact ⟨b, r, rfl⟩
  unfold lcut
  rw [List.headD_cons]
  by_cases pgap : lxGap b = true
  · rw [if_pos pgap]
    exact cut_gap w A m hL b r hl  pgap
  rw [if_neg pgap]
  have hgap : lxGap b = false := by simpa using pgap
  by_cases psl : (b :: r).take 2 = [47, 47]
  · rw [if_pos psl]
    exact cut_sl w A m hL b r hl hgap (decide_eq_true psl)
  rw [if_neg psl]
  have hsl := decide_eq_false psl
  by_cases pst : (b :: r).take 2 = [47, 42]
  · rw [if_pos pst]
    exact cut_st w A m hL b r hl hgap hsl (decide_eq_true pst)
  rw [if_neg pst]
  have hst := decide_eq_false pst
  by_cases pwd : lxLet b = true
  · rw [if_pos pwd]
    exact cut_wd w A m hL b r hl hgap hsl hst pwd
  rw [if_neg pwd]
  have hwd : lxLet b = false := by simpa using pwd
  by_cases pfg : lxFig b = true
  · rw [if_pos pfg]
    exact cut_fg w A m hL b r hl hgap hsl hst hwd pfg
  rw [if_neg pfg]
  have hfg : lxFig b = false := by simpa using pfg
  by_cases pqt : lxQuote b = true
  · rw [if_pos pqt]
    exact cut_qt w A m hL b r hl hgap hsl hst hwd hfg pqt
  rw [if_neg pqt]
  have hqt : lxQuote b = false := by simpa using pqt
  by_cases psg : lxSign b = true
  · rw [if_pos psg]
    exact cut_sg w A m hL b r hl hgap hsl hst hwd hfg hqt psg
  rw [if_neg psg]
  have hsg : lxSign b = false := by simpa using psg
  exact cut_bad w A m hL b r hl hgap hsl hst hwd hfg hqt hsg
end Go.Proofs.YtekeanikgcpijaaGreatDoor
