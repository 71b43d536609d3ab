/- The contract of crc.Open. Conditions: fewer than 2^46 bytes; the errors' variables hold what the program's text lays. -/
import Derived.Test.YtgedbeghegncoaaDoorProg
import Derived.Test.YtgedbeghegncoaaDoorMem
import Derived.Test.YtgedbeghegncoaaDoorNum
import Derived.Test.YtgedbeghegncoaaDoorCrcMath
import Derived.Test.YtgedbeghegncoaaDoorCrc
import Derived.Test.YtgedbeghegncoaaDoorSeal
import Derived.Deep.QuietTactic
import Derived.BigQuiet
namespace Go.Proofs.YtgedbeghegncoaaDoor
open Go.RowKit

set_option maxRecDepth 100000 in
theorem open_short (w : World) (A : Nat → Addr) (p : Option Addr) (l : List UInt8) (c : Nat) (hE : Errs w A) (h4 : l.length < 4) :
    Calls Tryd.prog 8 #[.slice p l.length c] w fun e w' => e = .returned (.tuple #[.slice none 0 0, errV A 1]) ∧ Below w.heap.size w w' := by
  have he : w.cell? ⟨0, 0, none⟩ = some (errV A 1) := hE.holds 1 _ rfl
  go_enter Tryd.func8, Tryd.ntmps8
  go_wp2_with fail
  go_quiet (fail)
  go_wp2_with fail
  go_ret2
  exact ⟨rfl, below_drewN (Below.refl _ _) _⟩
set_option maxRecDepth 100000 in
theorem open_bad (w : World) (A : Nat → Addr) (p : Option Addr) (l : List UInt8) (c : Nat) (hE : Errs w A) (h4 : 4 ≤ l.length) (hc : l.length ≤ c) (hm : c ≤ maxLen) (hl : l.length ≤ 70368744177664) (hs : Sl w w.heap.size p l) (hno : ¬ crcOk l) :
    Calls Tryd.prog 8 #[.slice p l.length c] w fun e w' => e = .returned (.tuple #[.slice none 0 0, errV A 17]) ∧ Below w.heap.size w w' := by
  have HR := Lib.hid (right_any w p l c w.heap.size false (Nat.le_refl _) h4 hc hm (by omega) hs ⟨fun h => (by cases h), fun h => absurd h hno⟩)
  have h4' : ¬ l.length < 4 := by omega
  clear hno
  go_enter Tryd.func8, Tryd.ntmps8
  go_wp2_with fail
  refine HR.out.mono ?_
  rintro e w1 ⟨rfl, hb1⟩
  have he : w1.cell? ⟨1, 0, none⟩ = some (errV A 17) := (hE.below hb1).holds 17 _ rfl
  go_wp2_with fail
  go_quiet (fail)
  go_wp2_with fail
  go_ret2
  exact ⟨rfl, below_drewN hb1 _⟩
/-- What Open hands back of sealed bytes. -/
def Opened (w : World) (l : List UInt8) (e : Ending) (w' : World) : Prop :=
  ∃ v, e = .returned (.tuple #[v, .nilIface]) ∧ w'.ownsRow w.heap.size 5 1 v l.length (l.map bv) ∧ Below w.heap.size w w'
set_option maxRecDepth 100000 in
set_option maxHeartbeats 1000000 in
theorem open_ok (w : World) (p : Option Addr) (l : List UInt8) (c : Nat) (h4 : 4 ≤ l.length) (hc : l.length ≤ c) (hm : c ≤ maxLen) (hl : l.length ≤ 70368744177664) (hs : Sl w w.heap.size p l) (hok : crcOk l) :
    Calls Tryd.prog 8 #[.slice p l.length c] w (Opened w (l.take (l.length - 4))) := by
  have HR := Lib.hid (right_any w p l c w.heap.size true (Nat.le_refl _) h4 hc hm (by omega) hs ⟨fun _ => hok, fun _ => rfl⟩)
  have h4' : ¬ l.length < 4 := by omega
  have hst := hs.head_ (l.length - 4)
  have htl : (l.take (l.length - 4)).length ≤ 70368744177664 := by rw [List.length_take]; omega
  clear hok
  go_enter Tryd.func8, Tryd.ntmps8
  go_wp2_with fail
  refine HR.out.mono ?_
  rintro e w1 ⟨rfl, hb1⟩
  go_wp2_with fail
  refine (split_any w1 p l c w.heap.size h4 hc hm (hs.below hb1)).mono ?_
  rintro e w2 ⟨c1, q, c2, n, rfl, _, rfl⟩
  have hst1 := hst.below (below_drewN hb1 n)
  have hb2 := below_drewN hb1 n
  generalize l.take (l.length - 4) = T at *
  generalize w1.drewN n = w2 at *
  have HP := Lib.hid (one_part c1 22 hst1 hb2.size)
  clear hb1 HR
  go_wp2_with fail
  refine (join_any _ _ [⟨p, T, c1⟩] 1 (w2.heap.size + 1) (by simp) HP.out (by simp) (by rw [flat_one]; omega)).mono ?_
  rintro e w3 ⟨v3, rfl, hown3, hb3⟩
  rw [flat_one] at hown3
  have hb23 : Below w2.heap.size w2 w3 := ((Below.refl _ _).alloc (Nat.le_refl _) _).trans (hb3.mono (by simp))
  go_wp2_with fail
  go_ret2
  exact ⟨_, rfl, own_base hown3 (by simp; exact Nat.le_trans hb2.size (Nat.le_succ _)), hb2.trans (hb23.mono hb2.size)⟩
end Go.Proofs.YtgedbeghegncoaaDoor
