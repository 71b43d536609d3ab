/- Bytes that lie in memory, as a string. No condition. -/
import Derived.Test.YtgedbeghegncoaaDoorProg
import Derived.Test.YtgedbeghegncoaaDoorMem
import Derived.Laws.BytesArg
import Derived.WalkSpells
import Derived.WalkLawsBesides
namespace Go.Proofs.YtgedbeghegncoaaDoor
open Go.RowKit

def str (l : List UInt8) : ByteArray := ⟨l.toArray⟩
theorem str_toList (l : List UInt8) : (str l).toList = l := ByteArray.toList_mk l
theorem str_append (l m : List UInt8) : str l ++ str m = str (l ++ m) := by
  apply ByteArray.ext
  simp [str]
theorem strSize (l : List UInt8) : (str l).size = l.length := by simp [str, ByteArray.size]
theorem strOf (l : List UInt8) : strOfNums (l.map fun b => (b.toNat : Int)) = str l := by
  unfold strOfNums str
  congr 1
  rw [List.map_map]
  congr 1
  conv => rhs; rw [← List.map_id l]
  apply List.map_congr_left
  intro b _
  simp
theorem Sl.string {w : World} {B : Nat} {p : Option Addr} {l : List UInt8} (h : Sl w B p l) (c : Nat) :
    (convert 22 9 (.slice p l.length c)).run Tryd.prog w = .ok (.string (str l)) w := by
  rcases Nat.eq_zero_or_pos l.length with h0 | h0
  · obtain rfl := List.eq_nil_of_length_eq_zero h0
    show (convert 22 9 (.slice p 0 c)).run Tryd.prog w = .ok (.string (str [])) w
    rw [run_convert_bytes_string w 22 9 5 _ 0 c Tryd.underlying22 Tryd.underlying5 Tryd.underlying9]
    cases p <;> simp [Conv.bytesToString, loadCells]
    all_goals rfl
  · obtain ⟨b, o, rfl, _, hc⟩ := h h0
    rw [run_convert_bytes_arg (P := Tryd.prog) w 22 5 Tryd.underlying22 Tryd.underlying5 b o l.length c (l.map fun b => (b.toNat : Int)) (by simp) (fun i hi => by
      rw [hc i _ (List.getElem?_eq_getElem hi)]
      simp [bv, List.getD, hi]) 9 Tryd.underlying9, strOf]
end Go.Proofs.YtgedbeghegncoaaDoor
