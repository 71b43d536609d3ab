/- A slice of known bytes as a value in a region that grows. No condition. -/
import Derived.Test.YtkgmchfieagjmaaDoorProg
import Derived.Test.YtkgmchfieagjmaaDoorMem
import Derived.Test.YtkgmchfieagjmaaDoorJoin
import Derived.Test.YtkgmchfieagjmaaDoorGrow
namespace Go.Proofs.YtkgmchfieagjmaaDoor
open Go.RowKit

/-- A slice of the bytes l. -/
def Holds (l : List UInt8) (v : Value) (w : World) : Prop := ∃ q c, v = .slice q l.length c ∧ Sl w w.heap.size q l

theorem stay_holds (X : List UInt8) : ∀ v, Stays (fun u u' : World => Below u.heap.size u u') ((Kind.of (Holds X)).pred v) := fun _ _ _ h ⟨q, c, hv, hs⟩ => ⟨q, c, hv, (hs.below h).more h.size⟩
theorem holds_of {w w' : World} {X l : List UInt8} {e : Ending} (hX : X = l) (h : Owned w l e w') : ∃ v, e = .returned v ∧ Below w.heap.size w w' ∧ Holds X v w' := by
  subst hX
  obtain ⟨v, he, hown, hb⟩ := h
  obtain ⟨q, c, hv, hs, _⟩ := own_sl hown
  exact ⟨v, he, hb, q, c, hv, hs⟩
end Go.Proofs.YtkgmchfieagjmaaDoor
