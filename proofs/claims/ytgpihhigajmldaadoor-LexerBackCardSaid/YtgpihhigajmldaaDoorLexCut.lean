/- The contracts of the lexer's closures, of closed and of cut: what a text begins with, and how many bytes it has. Conditions: fewer than 2^32 - 16 bytes; the errors' variables hold what the program's text lays. -/
import Derived.Test.YtgpihhigajmldaaDoorProg
import Derived.Test.YtgpihhigajmldaaDoorMem
import Derived.Test.YtgpihhigajmldaaDoorErrOf
import Derived.Test.YtgpihhigajmldaaDoorLexSpan
import Derived.Test.YtgpihhigajmldaaDoorShelf
import Derived.Shelf.Abstract
import Derived.Lib.IndexBytes
import Derived.Deep.QuietTactic
import Derived.BigQuiet
namespace Go.Proofs.YtgpihhigajmldaaDoor
open Go.RowKit

/-- The variables that the lexer reads: three errors, and the library's MaxLen. -/
structure Lx (w : World) (A : Nat → Addr) (m : Int) : Prop where
  range : w.cell? ⟨1, 0, none⟩ = some (errV A 0)
  long : w.cell? ⟨0, 0, none⟩ = some (errV A 2)
  form : w.cell? ⟨8, 0, none⟩ = some (errV A 8)
  max : w.cell? ⟨21, 0, none⟩ = some (.int .i64 m)
theorem Lx.below {w w' : World} {A : Nat → Addr} {m : Int} (h : Lx w A m) (hb : Below w.heap.size w w') : Lx w' A m := by
  have k : ∀ {g : Nat} {v : Value}, w.cell? ⟨g, 0, none⟩ = some v → w'.cell? ⟨g, 0, none⟩ = some v := fun {g v} hc => (hb.cell (p := ⟨g, 0, none⟩) (World.block_lt_of_cell? w ⟨g, 0, none⟩ hc)).trans hc
  exact ⟨k h.range, k h.long, k h.form, k h.max⟩

theorem Lx.drewN {w : World} {A : Nat → Addr} {m : Int} (h : Lx w A m) (n : Nat) : Lx (w.drewN n) A m := ⟨h.range, h.long, h.form, h.max⟩

theorem enters_isGap (args : Array Value) (u : World) : (callFunc 45 args).run Tryd.prog u = .ok (.enter 45 args) u := Go.Proofs.enters_of Tryd.func45 (by kernel_rfl) rfl args u
theorem enters_inWord (args : Array Value) (u : World) : (callFunc 28 args).run Tryd.prog u = .ok (.enter 28 args) u := Go.Proofs.enters_of Tryd.func28 (by kernel_rfl) rfl args u
theorem enters_other (args : Array Value) (u : World) : (callFunc 58 args).run Tryd.prog u = .ok (.enter 58 args) u := Go.Proofs.enters_of Tryd.func58 (by kernel_rfl) rfl args u
theorem enters_figure (args : Array Value) (u : World) : (callFunc 71 args).run Tryd.prog u = .ok (.enter 71 args) u := Go.Proofs.enters_of Tryd.func71 (by kernel_rfl) rfl args u
theorem run_makeFunc (fn : Fn) (first cap : Array Value) (w : World) : (Instr.makeFunc fn first cap).run Tryd.prog w = .ok (.func fn first cap) w := rfl

set_option maxRecDepth 100000 in
theorem other_any (u : World) (b c : UInt8) (a : Addr) (hc : u.cell? a = some (.int .u8 (c.toNat : Int))) :
    Calls Tryd.prog 58 #[.int .u8 (b.toNat : Int), .pointer (some a)] u (Ans (.bool (b != c)) u) := by
  have e : (b != c) = ((b.toNat : Int) != (c.toNat : Int)) := by
    rw [bne, byte_eq, bne]; rfl
  rw [e]
  generalize (b.toNat : Int) = B at *
  generalize (c.toNat : Int) = C at *
  go_enter Tryd.func58, Tryd.ntmps58
  go_wp2
  all_goals (go_ret; exact ⟨rfl, rfl⟩)

set_option maxRecDepth 100000 in
theorem otherThan_any (w : World) (c : UInt8) : Calls Tryd.prog 47 #[.int .u8 (c.toNat : Int)] w fun e w' =>
    e = .returned (.func (.func 58) #[] #[.pointer (some ⟨w.heap.size, 0, none⟩)]) ∧ w' = w.alloc (.cells #[.int .u8 (c.toNat : Int)] 5) := by
  have hmf := run_makeFunc
  go_enter Tryd.func47, Tryd.ntmps47
  go_wp2
  go_ret
  exact ⟨rfl, rfl⟩

set_option maxRecDepth 100000 in
theorem figure_any (u : World) (b : UInt8) (n : Int) (a : Addr) (hc : u.cell? a = some (.int .i64 n)) :
    Calls Tryd.prog 71 #[.int .u8 (b.toNat : Int), .pointer (some a)] u (Qui (.bool (decide ((ldig b : Int) < n))) u) := by
  have HD := Lib.hid (fun u => digit_any u b)
  generalize (ldig b : Int) = d at *
  go_enter Tryd.func71, Tryd.ntmps71
  go_wp2_with fail
  go_quiet (refine Calls.quiet_of_same (HD.out _))
  go_wp2
  all_goals (go_ret; exact ⟨rfl, _, rfl⟩)

set_option maxRecDepth 100000 in
theorem figureOf_any (w : World) (n : Int) : Calls Tryd.prog 61 #[.int .i64 n] w fun e w' =>
    e = .returned (.func (.func 71) #[] #[.pointer (some ⟨w.heap.size, 0, none⟩)]) ∧ w' = w.alloc (.cells #[.int .i64 n] 3) := by
  have hmf := run_makeFunc
  go_enter Tryd.func61, Tryd.ntmps61
  go_wp2
  go_ret
  exact ⟨rfl, rfl⟩

/-! ### span at the lexer's functions -/
theorem span_gap (w : World) (l : List UInt8) (hl : l.length ≤ 140737488351232) : Calls Tryd.prog 27 #[.string (str l), .func (.func 45) #[] #[]] w (Qui (.int .i64 (lspan lxGap l : Int)) w) :=
  span_fn w l lxGap _ hl enters_isGap fun b m => (isGap_any _ b).mono fun _ _ ⟨h1, h2⟩ => ⟨h1, m, h2⟩
theorem span_in (w : World) (l : List UInt8) (hl : l.length ≤ 140737488351232) : Calls Tryd.prog 27 #[.string (str l), .func (.func 28) #[] #[]] w (Qui (.int .i64 (lspan lxIn l : Int)) w) :=
  span_fn w l lxIn _ hl enters_inWord fun b m => (inWord_any _ b).mono fun _ _ ⟨h1, h2⟩ => ⟨h1, m, h2⟩
theorem span_other (w : World) (l : List UInt8) (a : Addr) (hl : l.length ≤ 140737488351232) (hc : w.cell? a = some (.int .u8 10)) : Calls Tryd.prog 27 #[.string (str l), .func (.func 58) #[] #[.pointer (some a)]] w (Qui (.int .i64 (lspan noLF l : Int)) w) :=
  span_cap w l noLF _ _ hl enters_other fun b m => (other_any (w.drewN m) b 10 a hc).mono fun _ _ ⟨h1, h2⟩ => ⟨h1, m, h2⟩
theorem span_figure (w : World) (l : List UInt8) (a : Addr) (n : Nat) (hl : l.length ≤ 140737488351232) (hc : w.cell? a = some (.int .i64 (n : Int))) : Calls Tryd.prog 27 #[.string (str l), .func (.func 71) #[] #[.pointer (some a)]] w (Qui (.int .i64 (lspan (fun b => decide (ldig b < n)) l : Int)) w) :=
  span_cap w l _ _ _ hl enters_figure fun b m => (figure_any (w.drewN m) b n a hc).mono fun _ _ ⟨h1, k, h2⟩ => ⟨by rw [h1]; congr 3; exact propext Int.ofNat_lt, m + k, by rw [h2, World.drewN_drewN]⟩

/-! ### closed -/
set_option maxRecDepth 100000 in
theorem closed_any (w : World) (A : Nat → Addr) (m : Int) (hL : Lx w A m) (l g e : List UInt8) (hl : l.length < 1000000000) (hg : g.length ≤ l.length) (he : e.length ≤ 1000) :
    Calls Tryd.prog 48 #[.string (str l), .string (str g), .string (str e)] w fun en w' => en = .returned (.tuple #[.int .i64 ((lclosed g.length e l).1 : Int), errOf A (lclosed g.length e l).2]) ∧ ∃ n, w' = w.drewN n := by
  have hgz : (str g).size = g.length := strSize g
  have hez : (str e).size = e.length := strSize e
  have hfrom := str_from l g.length hg
  have HI := Lib.hid (Tryd.strings_Index (str (l.drop g.length)) (str e) m w (by rw [strSize, List.length_drop]; omega) hL.max)
  have hd : (str (l.drop g.length)).data.toList = l.drop g.length := by simp [str]
  have hd' : (str e).data.toList = e := by simp [str]
  rw [hd, hd'] at HI
  have hle := Lib.index_le (l.drop g.length) e
  rw [List.length_drop] at hle
  have hform := hL.form
  unfold lclosed
  generalize Lib.index (l.drop g.length) e = I at *
  clear hd hd'
  by_cases hneg : I < 0
  · rw [if_pos hneg, show errOf A 9 = errV A 8 from rfl]
    go_enter Tryd.func48, Tryd.ntmps48
    go_wp2_with fail
    refine HI.out.mono ?_
    rintro e w' ⟨rfl, rfl⟩
    go_wp2_with fail
    go_quiet (fail)
    go_wp2_with fail
    go_ret2
    exact ⟨rfl, _, rfl⟩
  · rw [if_neg hneg, show errOf A 0 = Value.nilIface from rfl]
    obtain ⟨i, rfl⟩ : ∃ i : Nat, I = (i : Int) := ⟨I.toNat, by omega⟩
    go_enter Tryd.func48, Tryd.ntmps48
    go_wp2_with fail
    refine HI.out.mono ?_
    rintro e w' ⟨rfl, rfl⟩
    go_wp2_with fail
    go_ret2
    exact ⟨by rw [Int.toNat_natCast]; rfl, 0, rfl⟩
end Go.Proofs.YtgpihhigajmldaaDoor
