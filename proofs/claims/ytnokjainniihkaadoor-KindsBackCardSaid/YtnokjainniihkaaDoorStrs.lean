/- Bytes as a string: its size, a byte, and parts of it, over any list of bytes. No condition. -/
import Derived.Test.YtnokjainniihkaaDoorProg
import Derived.Test.YtnokjainniihkaaDoorMem
import Derived.Laws.BytesArg
import Derived.WalkSpells
import Derived.WalkLawsBesides
import Derived.Laws.Strings3
namespace Go.Proofs.YtnokjainniihkaaDoor
open Go.RowKit

def str (l : List UInt8) : ByteArray := ⟨l.toArray⟩
theorem str_toList (l : List UInt8) : (str l).toList = l := ByteArray.toList_mk l
theorem str_append (l m : List UInt8) : str l ++ str m = str (l ++ m) := by
  apply ByteArray.ext
  simp [str]
theorem strSize (l : List UInt8) : (str l).size = l.length := by simp [str, ByteArray.size]
theorem str_extract (l : List UInt8) (a b : Nat) : (str l).extract a b = str ((l.drop a).take (b - a)) := ByteArray.extract_mk l a b
theorem str_get (l : List UInt8) (i : Nat) (h : i < (str l).size) : (str l)[i] = l[i]'(by rw [strSize] at h; exact h) := rfl
/-- s[i] -/
theorem str_index (l : List UInt8) (i : Nat) (h : i < l.length) (u : World) : (Instr.index 9 (.string (str l)) (.int .i64 (i : Int))).run Tryd.prog u = .ok (.int .u8 (l[i].toNat : Int)) u := by
  rw [run_index_string (P := Tryd.prog) u 9 (str l) .i64 i Tryd.underlying9, dif_pos ⟨by omega, by rw [strSize]; omega⟩]
  rfl
/-- s[k:] -/
theorem str_from (l : List UInt8) (k : Nat) (h : k ≤ l.length) (u : World) : (Instr.slice 9 (.string (str l)) (some (.int .i64 (k : Int))) none none).run Tryd.prog u = .ok (.string (str (l.drop k))) u := by
  rw [run_slice_string_from_if (P := Tryd.prog) u 9 (str l) .i64 k Tryd.underlying9, if_pos ⟨by omega, by rw [strSize]; omega⟩, str_extract, strSize, Int.toNat_natCast, List.take_of_length_le (by rw [List.length_drop]; omega)]
/-- s[:k] -/
theorem str_upto (l : List UInt8) (k : Nat) (h : k ≤ l.length) (u : World) : (Instr.slice 9 (.string (str l)) none (some (.int .i64 (k : Int))) none).run Tryd.prog u = .ok (.string (str (l.take k))) u := by
  rw [run_slice_string_to_if (P := Tryd.prog) u 9 (str l) .i64 k Tryd.underlying9, if_pos ⟨by omega, by rw [strSize]; omega⟩, str_extract, Int.toNat_natCast, List.drop_zero, Nat.sub_zero]
/-- s[j:k] -/
theorem str_mid (l : List UInt8) (j k : Nat) (hj : j ≤ k) (h : k ≤ l.length) (u : World) : (Instr.slice 9 (.string (str l)) (some (.int .i64 (j : Int))) (some (.int .i64 (k : Int))) none).run Tryd.prog u = .ok (.string (str ((l.drop j).take (k - j)))) u := by
  rw [run_slice_string (P := Tryd.prog) u 9 (str l) .i64 .i64 j k Tryd.underlying9 (by omega) (by omega) (by rw [strSize]; omega), str_extract, Int.toNat_natCast, Int.toNat_natCast]
end Go.Proofs.YtnokjainniihkaaDoor
