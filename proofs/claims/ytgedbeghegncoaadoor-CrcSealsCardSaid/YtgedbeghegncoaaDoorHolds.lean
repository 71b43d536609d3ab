/- A slice of known bytes as a value in a region that grows. No condition. -/
import Derived.Test.YtgedbeghegncoaaDoorProg
import Derived.Test.YtgedbeghegncoaaDoorMem
import Derived.Test.YtgedbeghegncoaaDoorJoin
import Derived.Test.YtgedbeghegncoaaDoorGrow
namespace Go.Proofs.YtgedbeghegncoaaDoor
open Go.RowKit

/-- A slice of the bytes l. -/
def Holds (l : List UInt8) (v : Value) (w : World) : Prop := ∃ q c, v = .slice q l.length c ∧ Sl w w.heap.size q l

theorem stay_holds (X : List UInt8) : ∀ v, Stays (fun u u' : World => Below u.heap.size u u') ((Kind.of (Holds X)).pred v) := fun _ _ _ h ⟨q, c, hv, hs⟩ => ⟨q, c, hv, (hs.below h).more h.size⟩
theorem holds_of {w w' : World} {X l : List UInt8} {e : Ending} (hX : X = l) (h : Owned w l e w') : ∃ v, e = .returned v ∧ Below w.heap.size w w' ∧ Holds X v w' := by
  subst hX
  obtain ⟨v, he, hown, hb⟩ := h
  obtain ⟨q, c, hv, hs, _⟩ := own_sl hown
  exact ⟨v, he, hb, q, c, hv, hs⟩

/-- A row of the call's own, of known bytes. -/
def OwnsL (base : Nat) (l : List UInt8) (v : Value) (w : World) : Prop := w.ownsRow base 5 1 v l.length (l.map bv)
theorem stay_ownsL (base : Nat) (X : List UInt8) : ∀ v, Stays (fun u u' : World => Below u.heap.size u u') ((Kind.of (OwnsL base X)).pred v) := fun _ _ _ h hv => by
  obtain ⟨h1, h2⟩ := hv
  refine ⟨h1, ?_⟩
  rcases h2 with h2 | ⟨g, cap, cur, hv, hg, hh, hr⟩
  · exact .inl h2
  · exact .inr ⟨g, cap, cur, hv, hg, (h.block g (Array.getElem?_eq_some_iff.1 hh).1).trans hh, hr⟩

/-- A slice of two slices, of known bytes. -/
def HoldsTwo (l m : List UInt8) (v : Value) (w : World) : Prop := ∃ pp q c r d, v = .slice pp 2 2 ∧ Parts w w.heap.size pp [⟨q, l, c⟩, ⟨r, m, d⟩]
theorem stay_holdsTwo (X Y : List UInt8) : ∀ v, Stays (fun u u' : World => Below u.heap.size u u') ((Kind.of (HoldsTwo X Y)).pred v) := fun _ _ _ h ⟨pp, q, c, r, d, hv, hp⟩ => ⟨pp, q, c, r, d, hv, (hp.below h).more h.size⟩
theorem holdsTwo_of {w : World} {l m : List UInt8} {u v : Value} {t : TypeId} (h1 : Holds l u w) (h2 : Holds m v w) : HoldsTwo l m (.slice (some ⟨w.heap.size, 0, none⟩) 2 2) (w.alloc (.cells #[u, v] t)) := by
  obtain ⟨q, c, rfl, hs1⟩ := h1
  obtain ⟨r, d, rfl, hs2⟩ := h2
  exact ⟨_, q, c, r, d, rfl, (Parts.made (u := w) (t := t) (xs := [⟨q, l, c⟩, ⟨r, m, d⟩]) rfl (fun x hx => by
    simp only [List.mem_cons, List.not_mem_nil, or_false] at hx
    rcases hx with rfl | rfl
    · exact hs1
    · exact hs2) (Nat.le_refl _)).more (by simp)⟩
end Go.Proofs.YtgedbeghegncoaaDoor
