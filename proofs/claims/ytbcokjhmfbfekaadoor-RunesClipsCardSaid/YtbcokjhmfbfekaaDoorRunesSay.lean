/- What package runes' calls answer, over lists of bytes. No condition. -/
import Derived.Test.YtbcokjhmfbfekaaDoorProg
import Derived.Test.YtbcokjhmfbfekaaDoorMem
import Derived.Test.YtbcokjhmfbfekaaDoorStrs
import Derived.Test.YtbcokjhmfbfekaaDoorRunesMath
namespace Go.Proofs.YtbcokjhmfbfekaaDoor
open Go.RowKit

/-- Is it right? -/
def rrightB (l : List UInt8) : Bool := decide (rend l = l.length)
theorem rrightB_iff (l : List UInt8) : rrightB l = true ↔ rright l := by unfold rrightB rright; exact decide_eq_true_iff
/-- Where it isn't. -/
def rfault (l : List UInt8) : Int := if rend l = l.length then -1 else (rend l : Int)
/-- A beginning of it. -/
def rclipL (l : List UInt8) (most : Int) : List UInt8 := l.take (rclip l most)
theorem rclipL_length (l : List UInt8) (most : Int) : (rclipL l most).length = rclip l most := by unfold rclipL; rw [List.length_take, Nat.min_eq_left (rclip_le l most)]
/-- What a call of one text answers. -/
abbrev Says (f : FuncId) (w : World) (args : Array Value) (v : Value) : Prop := Calls Tryd.prog f args w fun e w' => e = .returned v ∧ Below w.heap.size w w'
end Go.Proofs.YtbcokjhmfbfekaaDoor
