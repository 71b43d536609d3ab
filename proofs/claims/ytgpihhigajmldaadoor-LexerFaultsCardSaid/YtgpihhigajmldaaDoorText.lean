/- Bytes that lie in memory, as a string. No condition. -/
import Derived.Test.YtgpihhigajmldaaDoorProg
import Derived.Test.YtgpihhigajmldaaDoorMem
import Derived.Test.YtgpihhigajmldaaDoorStrs
import Derived.Laws.BytesArg
import Derived.WalkSpells
import Derived.WalkLawsBesides
namespace Go.Proofs.YtgpihhigajmldaaDoor
open Go.RowKit

theorem strOf (l : List UInt8) : strOfNums (l.map fun b => (b.toNat : Int)) = str l := by
  unfold strOfNums str
  congr 1
  rw [List.map_map]
  congr 1
  conv => rhs; rw [← List.map_id l]
  apply List.map_congr_left
  intro b _
  simp
theorem Sl.string {w : World} {B : Nat} {p : Option Addr} {l : List UInt8} (h : Sl w B p l) (c : Nat) :
    (convert 58 9 (.slice p l.length c)).run Tryd.prog w = .ok (.string (str l)) w := by
  rcases Nat.eq_zero_or_pos l.length with h0 | h0
  · obtain rfl := List.eq_nil_of_length_eq_zero h0
    show (convert 58 9 (.slice p 0 c)).run Tryd.prog w = .ok (.string (str [])) w
    rw [run_convert_bytes_string w 58 9 5 _ 0 c Tryd.underlying58 Tryd.underlying5 Tryd.underlying9]
    cases p <;> simp [Conv.bytesToString, loadCells]
    all_goals rfl
  · obtain ⟨b, o, rfl, _, hc⟩ := h h0
    rw [run_convert_bytes_arg (P := Tryd.prog) w 58 5 Tryd.underlying58 Tryd.underlying5 b o l.length c (l.map fun b => (b.toNat : Int)) (by simp) (fun i hi => by
      rw [hc i _ (List.getElem?_eq_getElem hi)]
      simp [bv, List.getD, hi]) 9 Tryd.underlying9, strOf]
end Go.Proofs.YtgpihhigajmldaaDoor
