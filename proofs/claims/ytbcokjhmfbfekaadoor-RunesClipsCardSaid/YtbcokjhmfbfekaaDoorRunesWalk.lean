/- The contract of redlineref06.Walk: where each rune ends. Condition: texts of at most a million bytes. -/
import Derived.Test.YtbcokjhmfbfekaaDoorProg
import Derived.Test.YtbcokjhmfbfekaaDoorMem
import Derived.Test.YtbcokjhmfbfekaaDoorRow
import Derived.Test.YtbcokjhmfbfekaaDoorStrs
import Derived.Test.YtbcokjhmfbfekaaDoorRunesMath
import Derived.Test.YtbcokjhmfbfekaaDoorRunesRef
namespace Go.Proofs.YtbcokjhmfbfekaaDoor
open Go.RowKit

/-- An int as a value. -/
def nv (n : Nat) : Value := .int .i64 (n : Int)
theorem infoInt : (Tryd.prog.info? 3).map (fun i => (i.zero, i.size, i.bytes)) = some (some (.int .i64 0), 1, 8) := by kernel_rfl
/-- A result that owns the numbers xs, in memory of the call's own. -/
def OwnedN (w : World) (xs : List Nat) (e : Ending) (w' : World) : Prop :=
  ∃ v, e = .returned v ∧ w'.ownsRow w.heap.size 3 1 v xs.length (xs.map nv) ∧ Below w.heap.size w w'
theorem rwalk_head (a : Nat) (l : List UInt8) : rwalk a l = a :: (rwalk a l).tail := by
  by_cases h : rsize l = 0
  · rw [rwalk_stop h]; rfl
  · rw [rwalk_step h]; rfl
theorem own_keep {w w' : World} {base size n : Nat} {e : TypeId} {v : Value} {xs : List Value} (h : w.ownsRow base e size v n xs) (hb : Below w.heap.size w w') : w'.ownsRow base e size v n xs := by
  obtain ⟨h1, h2⟩ := h
  refine ⟨h1, ?_⟩
  rcases h2 with h2 | ⟨g, cap, cur, hv, hg, hh, hr⟩
  · exact .inl h2
  · exact .inr ⟨g, cap, cur, hv, hg, (hb.block g (Array.getElem?_eq_some_iff.1 hh).1).trans hh, hr⟩
theorem rwalk_more {l : List UInt8} {R xs : List Nat} {k : Nat} (hx : R = xs ++ (rwalk k (l.drop k)).tail) (h : rsize (l.drop k) ≠ 0) :
    R = (xs ++ [k + rsize (l.drop k)]) ++ (rwalk (k + rsize (l.drop k)) (l.drop (k + rsize (l.drop k)))).tail := by
  rw [hx, rwalk_step h, List.tail_cons, List.drop_drop, List.append_assoc, List.singleton_append, ← rwalk_head]

set_option maxRecDepth 100000 in
set_option maxHeartbeats 1000000 in
theorem refWalk_any (w : World) (l : List UInt8) (hl : l.length ≤ 1000000) :
    Calls Tryd.prog 7 #[.string (str l)] w (OwnedN w (rwalk 0 l)) := by
  obtain ⟨i0, hi, hz0, hz1, hz2⟩ := info_parts infoInt
  have hz : (str l).size = l.length := strSize l
  obtain ⟨R, hR⟩ : ∃ R, R = rwalk 0 l := ⟨_, rfl⟩
  have H0 := Lib.hid (show R = [0] ++ (rwalk 0 (l.drop 0)).tail by rw [hR, List.drop_zero]; exact rwalk_head 0 l)
  have HR := Lib.hid hR
  rw [← hR]
  clear hR
  have hown0 : (w.alloc (.cells #[.int .i64 0] 3)).ownsRow w.heap.size 3 1 (.slice (some ⟨w.heap.size, 0, none⟩) 1 1) 1 [.int .i64 0] := by
    have h := blk_own (rest := []) (n := 1) (cap := 1) (base := w.heap.size) (show Blk (w.alloc (.cells #[.int .i64 0] 3)) w.heap.size 3 ([.int .i64 0] ++ []) from Blk.new w 3 [.int .i64 0]) rfl (Nat.le_refl _) rfl (by decide)
    exact h
  have hb0 : Below w.heap.size w (w.alloc (.cells #[.int .i64 0] 3)) := (Below.refl _ _).alloc (Nat.le_refl _) _
  go_enter Tryd.func7, Tryd.ntmps7
  go_wp2_with fail
  go_loopw [4, 3] (fun i v wr => ∃ (k : Nat) (xs : List Nat), k ≤ l.length ∧ i = .int .i64 (k : Int) ∧ xs.length ≤ k + 1 ∧ Hid (R = xs ++ (rwalk k (l.drop k)).tail) ∧ wr.ownsRow w.heap.size 3 1 v xs.length (xs.map nv) ∧ Below w.heap.size w wr) (fun i _ _ => l.length - (intOf i).toNat)
  case atStart => exact ⟨0, [0], by omega, rfl, by simp, H0, hown0, hb0⟩
  case round =>
    obtain ⟨k, xs, hk, rfl, hxl, HX, hownr, hbr⟩ := hrel
    clear H0 hown0 hb0
    have hsz := hbr.size
    have hfrom := str_from l k hk
    have hdl : (l.drop k).length ≤ 140737488351232 := by rw [List.length_drop]; omega
    have hle := rsize_le (l.drop k)
    rw [List.length_drop] at hle
    have HS := Lib.hid (fun u => refSize_any u (l.drop k) hdl)
    have HM := Lib.hid (fun h => rwalk_more HX.out h)
    have HE := Lib.hid (fun (h : rsize (l.drop k) = 0) => (show R = xs from by rw [HX.out, rwalk_stop h]; simp))
    generalize rsize (l.drop k) = n at *
    by_cases hn : n = 0
    · subst hn
      have HE2 := Lib.hid (HE.out rfl)
      clear HE HM
      go_wp2_with fail
      refine (HS.out wr).mono ?_
      rintro e w1 ⟨rfl, hb1⟩
      go_wp2_with fail
      go_ret
      rw [HE2.out]
      have hb2 := hbr.trans (hb1.mono hsz)
      exact ⟨_, rfl, own_keep hownr hb1, hb2⟩
    · have HM2 := Lib.hid (HM.out hn)
      have hpos : (0 : Int) < (n : Int) := by omega
      clear HE HM
      go_wp2_with fail
      refine (HS.out wr).mono ?_
      rintro e w1 ⟨rfl, hb1⟩
      go_wp2_with fail
      refine (HS.out w1).mono ?_
      rintro e w2 ⟨rfl, hb2⟩
      have hown2 := own_keep (own_keep hownr hb1) hb2
      have hb02 := (hbr.trans (hb1.mono hsz)).trans (hb2.mono (Nat.le_trans hsz hb1.size))
      have hsz2 := hb02.size
      clear hownr hbr HS hb1 hb2
      go_wp2_with (at_builtin; go_must (refine wpList_append_own_at _ rfl (.tmp 17) (.tmp 19) 23 rfl w.heap.size 3 i0 (.int .i64 0) 1 8 Tryd.underlying23 hi hz0 hz1 hz2 rfl (by decide) _ _ _ rfl (World.ownsRow.alloc hown2 _) ⟨w2.heap.size, 0, none⟩ 1 1 [nv (k + n)] rfl rfl (cell_one_new _ _ _) (by simp [nv, Value.oneCell']) (by unfold maxLen; omega) (by omega) (by simp; omega) ?_); intro v3 w3 hown3 hg3 hn3 ha3)
      have hb3 := (hb02.alloc (by exact hsz2) _).grown hg3 (by simp; omega) (fun g h => (hown2.lt g h).1)
      have hown4 : w3.ownsRow w.heap.size 3 1 v3 (xs ++ [k + n]).length ((xs ++ [k + n]).map nv) := by
        rw [List.length_append, List.map_append]; exact hown3
      clear hown3 hg3 hn3 ha3
      go_roundw
      case rel => exact ⟨k + n, xs ++ [k + n], by omega, by go_num, by simp; omega, HM2, hown4, hb3⟩
      case measure => simp [intOf]; omega
end Go.Proofs.YtbcokjhmfbfekaaDoor
