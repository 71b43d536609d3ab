/- strings.Clone: the same bytes in memory of the call's own. Condition: at most 2^47 bytes. -/
import Derived.Test.YtbcokjhmfbfekaaDoorProg
import Derived.Test.YtbcokjhmfbfekaaDoorMem
import Derived.Test.YtbcokjhmfbfekaaDoorStrs
import Derived.Lib.BufferWrite
import Derived.Lib.UnsafeStr
import Derived.Laws.MakeOwn
import Derived.OwnWalk
namespace Go.Proofs.YtbcokjhmfbfekaaDoor
open Go.RowKit

theorem infoByteC : (Tryd.prog.info? 5).map (fun i => (i.zero, i.size, i.bytes)) = some (some (.int .u8 0), 1, 1) := by kernel_rfl
theorem cellByteC : Tryd.prog.cellsOf 5 = 1 := by kernel_rfl

set_option maxRecDepth 100000 in
set_option maxHeartbeats 2000000 in
theorem cloneIn_any (w : World) (l : List UInt8) (hl : l.length ≤ 140737488351232) :
    Calls Tryd.prog 18 #[.string (str l)] w fun e w' => e = .returned (.string (str l)) ∧ Below w.heap.size w w' := by
  by_cases h0 : l = []
  · subst h0
    have hz : (str []).size = 0 := rfl
    go_enter Tryd.func18, Tryd.ntmps18
    go_wp2
    go_ret
    exact ⟨rfl, Below.refl _ _⟩
  · obtain ⟨i, hi, hz0, hz1, hz2⟩ := info_parts infoByteC
    have hpos : 0 < l.length := List.length_pos_iff.2 h0
    have hz : (str l).size = l.length := strSize l
    obtain ⟨M, hM⟩ : ∃ M, M = madeCells (Value.int .u8 0).cells (((l.length : Nat) : Int).toNat * i.size) := ⟨_, rfl⟩
    have hMs : M.size = l.length := by rw [hM, size_madeCells, hz1]; simp
    have hmk : ∀ W : World, (Instr.makeSlice 40 (.int .i64 (l.length : Int)) (.int .i64 (l.length : Int))).run Tryd.prog W = .ok (.slice (some ⟨W.heap.size, 0, none⟩) l.length l.length) (W.alloc (.cells M 5)) := fun W => by
      have h := run_make (P := Tryd.prog) W 40 5 i (.int .u8 0) Tryd.underlying40 hi hz0 .i64 .i64 (l.length : Int) (l.length : Int) (by omega) (by omega) (by rw [hz2]; omega) (by omega)
      rw [← hM] at h
      simpa using h
    clear hM
    have hcp := Lib.run_copy_row_string (P := Tryd.prog) (w.alloc (.cells M 5)) 40 9 3 5 w.heap.size 0 l.length l.length (str l) M 5 Tryd.underlying40 (by rw [hi]; simp [hz1]) (heap_alloc_new w _) (by rw [hz]; exact Nat.le_refl _) (by rw [hz]; omega)
    rw [hz] at hcp
    obtain ⟨Y, hY⟩ : ∃ Y, Y = (M.toList.take 0 ++ Lib.byteCells (str l).data.toList ++ M.toList.drop (0 + l.length)).toArray := ⟨_, rfl⟩
    rw [← hY] at hcp
    have hYl : Y = (l.map bv).toArray := by
      rw [hY, List.take_zero, List.nil_append, List.drop_of_length_le (by rw [Array.length_toList]; omega), List.append_nil]
      rfl
    clear hY
    obtain ⟨V, hV⟩ : ∃ V, V = (w.alloc (.cells M 5)).setRow w.heap.size Y := ⟨_, rfl⟩
    rw [← hV] at hcp
    have hk : Blk V w.heap.size 5 (l.map bv) := by
      unfold Blk
      rw [hV, ← hYl]
      exact setRow_heap _ _ M _ 5 (0, 0) (heap_alloc_new w _)
    have hus : (Builtin.unsafeString_ #[41, 3] 9 #[.pointer (some ⟨w.heap.size, 0, none⟩), .int .i64 (l.length : Int)]).run Tryd.prog V = .ok (.string (str l)) (V.freeze ⟨w.heap.size, 0, none⟩ l.length) :=
      Lib.run_unsafeString_row V _ _ _ 5 Tryd.underlying41 cellByteC w.heap.size (l.map bv).length (by unfold World.shape?; rw [hk]; simp) l h0 (by simp) (by omega) fun j x hx => by
        rw [Addr.add_lit, Nat.zero_add, hk.cell, List.getElem?_map, hx]
        rfl
    have hb : Below w.heap.size w V := by
      rw [hV]
      exact ((Below.refl _ w).alloc (Nat.le_refl _) _).trans ⟨rfl, rfl, rfl, by simp, fun k hk => setRow_other _ _ _ _ (by omega)⟩
    have HB := Lib.hid (Lib.below_freeze hb (p := ⟨w.heap.size, 0, none⟩) (Nat.le_refl _) l.length)
    clear hb hk hV hYl hi hz0 hz1 hz2 hMs h0
    have hne : ¬ (l.length : Int) = 0 := by omega
    have hne2 : ((l.length : Int) == 0) = false := by simpa using hne
    go_enter Tryd.func18, Tryd.ntmps18
    go_wp2
    go_ret
    exact ⟨rfl, HB.out⟩
set_option maxRecDepth 100000 in
theorem clone_any (w : World) (l : List UInt8) (hl : l.length ≤ 140737488351232) :
    Calls Tryd.prog 16 #[.string (str l)] w fun e w' => e = .returned (.string (str l)) ∧ Below w.heap.size w w' := by
  go_enter Tryd.func16, Tryd.ntmps16
  go_wp2_with fail
  refine (cloneIn_any w l hl).mono ?_
  rintro e w1 ⟨rfl, hb⟩
  go_wp2_with fail
  go_ret
  exact ⟨rfl, hb⟩
end Go.Proofs.YtbcokjhmfbfekaaDoor
