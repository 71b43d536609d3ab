/- The contracts of bytes.Equal and octets.Equal. No condition. -/
import Derived.Test.YtgedbeghegncoaaDoorProg
import Derived.Test.YtgedbeghegncoaaDoorMem
import Derived.Test.YtgedbeghegncoaaDoorText
namespace Go.Proofs.YtgedbeghegncoaaDoor
open Go.RowKit

set_option maxRecDepth 100000 in
theorem bytesEqual_any (w : World) (p q : Option Addr) (l m : List UInt8) (c d B : Nat) (h1 : Sl w B p l) (h2 : Sl w B q m) :
    Calls Tryd.prog 26 #[.slice p l.length c, .slice q m.length d] w fun e w' => e = .returned (.bool (l == m)) ∧ w = w' := by
  have e1 := h1.string c
  have e2 := h2.string d
  go_enter Tryd.func26, Tryd.ntmps26
  go_wp2
  go_ret
  exact ⟨by rw [show (l == m) = ((str l).toList == (str m).toList) by rw [str_toList, str_toList]]; rfl, rfl⟩

set_option maxRecDepth 100000 in
theorem equal_any (w : World) (p q : Option Addr) (l m : List UInt8) (c d B : Nat) (h1 : Sl w B p l) (h2 : Sl w B q m) :
    Calls Tryd.prog 19 #[.slice p l.length c, .slice q m.length d] w fun e w' => e = .returned (.bool (l == m)) ∧ w = w' := by
  go_enter Tryd.func19, Tryd.ntmps19
  go_wp2_with fail
  refine (bytesEqual_any w p q l m c d B h1 h2).mono ?_
  rintro e w' ⟨rfl, rfl⟩
  go_wp2_with fail
  go_ret
  exact ⟨rfl, rfl⟩
end Go.Proofs.YtgedbeghegncoaaDoor
