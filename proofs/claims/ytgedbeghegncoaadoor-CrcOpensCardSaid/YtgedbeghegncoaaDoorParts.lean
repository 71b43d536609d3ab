/- A slice of slices of known bytes, as a value in a region that grows; Sum of it. No condition. -/
import Derived.Test.YtgedbeghegncoaaDoorProg
import Derived.Test.YtgedbeghegncoaaDoorMem
import Derived.Test.YtgedbeghegncoaaDoorJoin
import Derived.Test.YtgedbeghegncoaaDoorGrow
import Derived.Test.YtgedbeghegncoaaDoorCrcMath
import Derived.Test.YtgedbeghegncoaaDoorCrc
namespace Go.Proofs.YtgedbeghegncoaaDoor
open Go.RowKit

/-- A slice of these parts. -/
def PartsV (xs : List Part) (v : Value) (w : World) : Prop := ∃ pp, v = .slice pp xs.length xs.length ∧ Parts w w.heap.size pp xs
theorem stay_parts (xs : List Part) : ∀ v, Stays (fun u u' : World => Below u.heap.size u u') ((Kind.of (PartsV xs)).pred v) := fun _ _ _ h ⟨pp, hv, hp⟩ => ⟨pp, hv, (hp.below h).more h.size⟩
theorem partsV_one {w : World} {t : TypeId} (p : Option Addr) (l : List UInt8) (n c : Nat) (hn : l.length = n) (h : Sl w w.heap.size p l) : PartsV [⟨p, l, c⟩] (.slice (some ⟨w.heap.size, 0, none⟩) 1 1) (w.alloc (.cells #[.slice p n c] t)) := by
  subst hn
  exact ⟨_, rfl, (Parts.made (u := w) (t := t) (xs := [⟨p, l, c⟩]) rfl (fun x hx => by
    rw [List.mem_singleton] at hx
    subst hx
    exact h) (Nat.le_refl _)).more (by simp)⟩
theorem partsV_two {w : World} {t : TypeId} (p q : Option Addr) (l m : List UInt8) (n r c d : Nat) (hn : l.length = n) (hr : m.length = r) (h : Sl w w.heap.size p l) (h2 : Sl w w.heap.size q m) : PartsV [⟨p, l, c⟩, ⟨q, m, d⟩] (.slice (some ⟨w.heap.size, 0, none⟩) 2 2) (w.alloc (.cells #[.slice p n c, .slice q r d] t)) := by
  subst hn hr
  exact ⟨_, rfl, (Parts.made (u := w) (t := t) (xs := [⟨p, l, c⟩, ⟨q, m, d⟩]) rfl (fun x hx => by
    simp only [List.mem_cons, List.not_mem_nil, or_false] at hx
    rcases hx with rfl | rfl
    · exact h
    · exact h2) (Nat.le_refl _)).more (by simp)⟩
theorem sum_parts {w : World} {xs : List Part} {v : Value} {S : Nat} (h : PartsV xs v w) (hx : ∀ x ∈ xs, x.l.length ≤ 140737488351232) (hx2 : xs.length ≤ 1000000) (hS : crcSum (flat xs) = S) :
    Calls Tryd.prog 16 #[v] w fun e w' => e = .returned (.int .u32 (S : Int)) ∧ Below w.heap.size w w' := by
  obtain ⟨pp, rfl, hp⟩ := h
  subst hS
  exact sum_any w pp xs xs.length w.heap.size (Nat.le_refl _) hp hx hx2
theorem sum_none (w : World) : Calls Tryd.prog 16 #[.slice none 0 0] w fun e w' => e = .returned (.int .u32 0) ∧ Below w.heap.size w w' := by
  have h := sum_any w none [] 0 0 (Nat.zero_le _) ⟨fun h => absurd h (by simp), fun x hx => by cases hx⟩ (fun x hx => by cases hx) (by simp)
  refine h.mono fun e w' ⟨he, hb⟩ => ⟨?_, hb⟩
  rw [show flat [] = [] from rfl, crcSum_nil] at he
  exact he
end Go.Proofs.YtgedbeghegncoaaDoor
