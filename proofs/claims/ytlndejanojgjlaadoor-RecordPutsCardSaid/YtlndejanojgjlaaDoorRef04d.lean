/- The contract of redlineref04.Put, of right records. Condition: texts of fewer than 2^46 bytes. -/
import Derived.Test.YtlndejanojgjlaaDoorProg
import Derived.Test.YtlndejanojgjlaaDoorMem
import Derived.Test.YtlndejanojgjlaaDoorRet
import Derived.Test.YtlndejanojgjlaaDoorTag
import Derived.Test.YtlndejanojgjlaaDoorRefPut
import Derived.Test.YtlndejanojgjlaaDoorHolds
import Derived.Test.YtlndejanojgjlaaDoorRcheck
import Derived.Test.YtlndejanojgjlaaDoorRput
import Derived.Lib.AppendStr
namespace Go.Proofs.YtlndejanojgjlaaDoor
open Go.RowKit

theorem strCells_str (l : List UInt8) : Lib.strCells (str l) = l.map bv := by
  unfold Lib.strCells str bv
  simp

set_option maxRecDepth 100000 in
set_option maxHeartbeats 1000000 in
theorem refPut04_1 (w : World) (n : Int) (bits : Nat) (text raw V : List UInt8) (hV : V.length ≤ 10) (hb : bits < 18446744073709551616) (HT : ∀ ws, Calls Tryd.prog 32 #[.int .i64 n, .int .i64 1] ws (Owned ws V)) :
    Calls Tryd.prog 18 #[recV n 1 bits text raw] w (Owned w (V ++ le bits 8)) := by
  obtain ⟨w1, hw1⟩ : ∃ w1, w1 = w.alloc (.cells #[.int .i64 n, .int .i64 1, .int .u64 (bits : Int), .string (str text), .string (str raw)] 35) := ⟨_, rfl⟩
  have hb1 : Below w.heap.size w w1 := hw1 ▸ (Below.refl _ _).alloc (Nat.le_refl _) _
  have hk1 : Blk w1 w.heap.size 35 (recCells n 1 bits text raw) := hw1 ▸ Blk.new w _ _
  unfold recV
  go_enter Tryd.func18, Tryd.ntmps18
  go_wp2_with fail
  rw [← hw1]
  refine (HT _).mono ?_
  rintro e w2 ⟨v2, rfl, hown2, hb2⟩
  obtain ⟨q2, c2, rfl, hs2, hc2, _⟩ := own_sl hown2
  clear hw1 HT hown2
  have hk2 := hk1.kept hb2
  have h02 := hb1.trans (hb2.mono hb1.size)
  have d1 := hk2.cell 1
  have d2 := hk2.cell 2
  simp only [recCells, List.getElem?_cons_zero, List.getElem?_cons_succ] at d1 d2
  have HP := refPut8_any w2 q2 V c2 bits w2.heap.size (Nat.le_refl _) (by omega) hb hs2
  clear hb hV
  go_wp2_with fail
  refine HP.mono ?_
  rintro e w3 h
  obtain ⟨v3, rfl, hown3, hb3⟩ := h.above h02
  go_wp2_with fail
  go_ret
  exact ⟨v3, rfl, hown3, hb3⟩

set_option maxRecDepth 100000 in
set_option maxHeartbeats 1000000 in
theorem refPut04_5 (w : World) (n : Int) (bits : Nat) (text raw V : List UInt8) (hV : V.length ≤ 10) (hb : bits < 18446744073709551616) (HT : ∀ ws, Calls Tryd.prog 32 #[.int .i64 n, .int .i64 5] ws (Owned ws V)) :
    Calls Tryd.prog 18 #[recV n 5 bits text raw] w (Owned w (V ++ le bits 4)) := by
  obtain ⟨w1, hw1⟩ : ∃ w1, w1 = w.alloc (.cells #[.int .i64 n, .int .i64 5, .int .u64 (bits : Int), .string (str text), .string (str raw)] 35) := ⟨_, rfl⟩
  have hb1 : Below w.heap.size w w1 := hw1 ▸ (Below.refl _ _).alloc (Nat.le_refl _) _
  have hk1 : Blk w1 w.heap.size 35 (recCells n 5 bits text raw) := hw1 ▸ Blk.new w _ _
  unfold recV
  go_enter Tryd.func18, Tryd.ntmps18
  go_wp2_with fail
  rw [← hw1]
  refine (HT _).mono ?_
  rintro e w2 ⟨v2, rfl, hown2, hb2⟩
  obtain ⟨q2, c2, rfl, hs2, hc2, _⟩ := own_sl hown2
  clear hw1 HT hown2
  have hk2 := hk1.kept hb2
  have h02 := hb1.trans (hb2.mono hb1.size)
  have d1 := hk2.cell 1
  have d2 := hk2.cell 2
  simp only [recCells, List.getElem?_cons_zero, List.getElem?_cons_succ] at d1 d2
  have HP := refPut4_any w2 q2 V c2 bits w2.heap.size (Nat.le_refl _) (by omega) hb hs2
  clear hb hV
  go_wp2_with fail
  refine HP.mono ?_
  rintro e w3 h
  obtain ⟨v3, rfl, hown3, hb3⟩ := h.above h02
  go_wp2_with fail
  go_ret
  exact ⟨v3, rfl, hown3, hb3⟩

set_option maxRecDepth 100000 in
set_option maxHeartbeats 1000000 in
theorem refPut04_0 (w : World) (n : Int) (bits : Nat) (text raw V : List UInt8) (hV : V.length ≤ 10) (hb : bits < 18446744073709551616) (HT : ∀ ws, Calls Tryd.prog 32 #[.int .i64 n, .int .i64 0] ws (Owned ws V)) :
    Calls Tryd.prog 18 #[recV n 0 bits text raw] w (Owned w (V ++ vput bits)) := by
  obtain ⟨i0, hi, hz0, hz1, hz2⟩ := info_parts infoB
  obtain ⟨w1, hw1⟩ : ∃ w1, w1 = w.alloc (.cells #[.int .i64 n, .int .i64 0, .int .u64 (bits : Int), .string (str text), .string (str raw)] 35) := ⟨_, rfl⟩
  have hb1 : Below w.heap.size w w1 := hw1 ▸ (Below.refl _ _).alloc (Nat.le_refl _) _
  have hk1 : Blk w1 w.heap.size 35 (recCells n 0 bits text raw) := hw1 ▸ Blk.new w _ _
  unfold recV
  go_enter Tryd.func18, Tryd.ntmps18
  go_wp2_with fail
  rw [← hw1]
  refine (HT _).mono ?_
  rintro e w2 ⟨v2, rfl, hown2, hb2⟩
  clear hw1 HT
  have hk2 := hk1.kept hb2
  have h02 := hb1.trans (hb2.mono hb1.size)
  have d1 := hk2.cell 1
  have d2 := hk2.cell 2
  simp only [recCells, List.getElem?_cons_zero, List.getElem?_cons_succ] at d1 d2
  have HP := vRefPut_any bits w2 hb
  have hx := vput_ten bits hb
  clear hb
  go_wp2_with fail
  refine HP.mono ?_
  rintro e w3 ⟨v3, rfl, hown3, hb3⟩
  obtain ⟨q3, c3, rfl, hs3, hc3, _⟩ := own_sl hown3
  have hown2' : w3.ownsRow w1.heap.size 5 1 v2 V.length (V.map bv) := stay_ownsL w1.heap.size V v2 w2 w3 hb3 hown2
  have h13 : w1.heap.size ≤ w3.heap.size := Nat.le_trans hb2.size hb3.size
  clear hown3 hown2 d1 d2
  go_wp2_with (at_builtin; refine wpList_append_sl _ rfl (.tmp 37) (.tmp 40) 22 rfl w1.heap.size 5 i0 (.int .u8 0) Tryd.underlying22 hi hz0 hz1 hz2 rfl _ _ _ rfl hown2' w3.heap.size q3 c3 (vput bits) rfl hs3 (by omega) h13 ?_; intro v4 w4 hown4 hg4)
  have h03 := h02.trans (hb3.mono h02.size)
  have h04 := h03.grown hg4 h03.size (fun g h => Nat.le_trans hb1.size (hown2'.lt g h).1)
  rw [← List.map_append, ← List.length_append] at hown4
  have hown5 : w4.ownsRow w.heap.size 5 1 v4 (V ++ vput bits).length ((V ++ vput bits).map bv) := World.ownsRow.mono hown4 hb1.size
  clear hown4 hg4
  go_wp2_with fail
  go_ret
  exact ⟨v4, rfl, hown5, h04⟩

set_option maxRecDepth 100000 in
set_option maxHeartbeats 1000000 in
theorem refPut04_2 (w : World) (n : Int) (bits : Nat) (text raw V : List UInt8) (hV : V.length ≤ 10) (ht : text.length ≤ 70368744177664) (HT : ∀ ws, Calls Tryd.prog 32 #[.int .i64 n, .int .i64 2] ws (Owned ws V)) :
    Calls Tryd.prog 18 #[recV n 2 bits text raw] w (Owned w (V ++ (vput text.length ++ text))) := by
  obtain ⟨i0, hi, hz0, hz1, hz2⟩ := info_parts infoB
  obtain ⟨w1, hw1⟩ : ∃ w1, w1 = w.alloc (.cells #[.int .i64 n, .int .i64 2, .int .u64 (bits : Int), .string (str text), .string (str raw)] 35) := ⟨_, rfl⟩
  have hb1 : Below w.heap.size w w1 := hw1 ▸ (Below.refl _ _).alloc (Nat.le_refl _) _
  have hk1 : Blk w1 w.heap.size 35 (recCells n 2 bits text raw) := hw1 ▸ Blk.new w _ _
  unfold recV
  go_enter Tryd.func18, Tryd.ntmps18
  go_wp2_with fail
  rw [← hw1]
  refine (HT _).mono ?_
  rintro e w2 ⟨v2, rfl, hown2, hb2⟩
  clear hw1 HT
  have hk2 := hk1.kept hb2
  have h02 := hb1.trans (hb2.mono hb1.size)
  have d1 := hk2.cell 1
  have d3 := hk2.cell 3
  simp only [recCells, List.getElem?_cons_zero, List.getElem?_cons_succ] at d1 d3
  have HP := vRefPut_any text.length w2 (by omega)
  have hx := vput_ten text.length (by omega)
  have hwr : IntKind.u64.wrap ((str text).size : Int) = (text.length : Int) := by rw [strSize]; exact IntWalk.u64_in _ ⟨by omega, by omega⟩
  go_wp2_with fail
  refine HP.mono ?_
  rintro e w3 ⟨v3, rfl, hown3, hb3⟩
  obtain ⟨q3, c3, rfl, hs3, hc3, _⟩ := own_sl hown3
  have hown2' : w3.ownsRow w1.heap.size 5 1 v2 V.length (V.map bv) := stay_ownsL w1.heap.size V v2 w2 w3 hb3 hown2
  have h13 : w1.heap.size ≤ w3.heap.size := Nat.le_trans hb2.size hb3.size
  have hk3 := hk2.kept hb3
  have HG : some w.heap.size ≠ v2.ownBlock := fun h => by have := (hown2'.lt _ h.symm).1; have := hk1.lt; omega
  clear hown3 hown2 d1 d3
  have hss := strSize text
  have HS := Lib.hid hss
  clear hss
  go_wp2_with (at_builtin; first
    | (refine wpList_append_sl _ rfl (.tmp 26) (.tmp 31) 22 rfl w1.heap.size 5 i0 (.int .u8 0) Tryd.underlying22 hi hz0 hz1 hz2 rfl _ _ _ rfl hown2' w3.heap.size q3 c3 (vput text.length) rfl hs3 (by omega) h13 ?_; intro v4 w4 hown4 hg4; have hk4 := hk3.grown hg4 HG; have d3 : w4.cell? ⟨w.heap.size, 3, none⟩ = some (.string (str text)) := hk4.cell 3)
    | (refine Lib.wpList_append_own_string _ rfl (.tmp 33) (.tmp 35) 22 9 rfl w1.heap.size 5 i0 Tryd.underlying22 Tryd.underlying9 hi hz0 hz1 hz2 _ _ _ rfl hown4 (str text) rfl (by rw [HS.out]; unfold maxLen; omega) (by rw [HS.out]; omega) (by have := hg4.size; omega) ?_; intro v5 w5 hown5 hg5 hn5))
  have h03 := h02.trans (hb3.mono h02.size)
  have h04 := h03.grown hg4 h03.size (fun g h => Nat.le_trans hb1.size (hown2'.lt g h).1)
  have h05 := h04.grown hg5 h04.size (fun g h => Nat.le_trans hb1.size (hown4.lt g h).1)
  rw [strCells_str, HS.out, ← List.map_append, ← List.map_append, ← List.length_append, ← List.length_append, List.append_assoc] at hown5
  have hown6 : w5.ownsRow w.heap.size 5 1 v5 (V ++ (vput text.length ++ text)).length ((V ++ (vput text.length ++ text)).map bv) := World.ownsRow.mono hown5 hb1.size
  clear hown5 hg5 hn5
  go_wp2_with fail
  go_ret
  exact ⟨v5, rfl, hown6, h05⟩

theorem refPut04_any (w : World) (n k : Int) (bits : Nat) (text raw : List UInt8) (hb : bits < 18446744073709551616) (ht : text.length ≤ 70368744177664) (h : rcheck n k bits text = 0) :
    Calls Tryd.prog 18 #[recV n k bits text raw] w (Owned w (rput n k bits text)) := by
  have htc : tcheck n k = 0 := by
    unfold rcheck at h
    split at h
    · rename_i h1; exact absurd h h1
    · omega
  have HT := fun ws => refTagPut_any ws n k htc
  have hv10 := vput_ten (tword n k) (by have := tword_lt htc; omega)
  have hW := rcheck_way bits text htc
  rw [h] at hW
  unfold rput
  cases hW with
  | ok2 hk hb0 => subst hk; exact refPut04_2 w n bits text raw _ hv10 ht HT
  | ok0 hk ht0 => subst hk; exact refPut04_0 w n bits text raw _ hv10 hb HT
  | ok1 hk ht0 => subst hk; exact refPut04_1 w n bits text raw _ hv10 hb HT
  | ok5 hk ht0 hb5 => subst hk; exact refPut04_5 w n bits text raw _ hv10 hb HT
end Go.Proofs.YtlndejanojgjlaaDoor
