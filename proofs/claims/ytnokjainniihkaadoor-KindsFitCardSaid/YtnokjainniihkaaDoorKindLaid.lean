/- What the rows' list of the table of the kinds gives: its cells (TabK). Condition: the list is met. -/
import Derived.Test.YtnokjainniihkaaDoorProg
import Derived.Test.YtnokjainniihkaaDoorRows
import Derived.Test.YtnokjainniihkaaDoorKindProg
import Derived.ProofKit
import Derived.LaidMore
import Derived.LaidLaws
import Derived.OpenShut
import Derived.Lib.SmallJoins
import Derived.Stop.LaidErr
import Derived.MakeChecks
namespace Go.Proofs.YtnokjainniihkaaDoor
open Go.RowKit Go.ChangeShapes

/-- A listed variable, opened. -/
theorem reads_of {P : Program} {W : World} : ∀ {l : List (String × DataW Unit)}, laidMet P l W → ∀ (n : String) (d : DataW Unit), (n, d) ∈ l →
    ∃ g t cs fuel p, P.globalNamed n = some g ∧ (P.globals[g]?).map (·.type) = some t ∧ W.var? P n = some cs ∧ DataW.trod (fun _ => ()) P W 0 (fun _ => true) false fuel t cs.toList = some (d, p)
  | [], _, _, _, hm => by cases hm
  | x :: r, h, n, d, hm => by
    rcases List.mem_cons.1 hm with e | e
    · subst e
      obtain ⟨ps, ⟨g, t, cs, f, p, q, hg1, ht1, hv, hd, _, he⟩, _, hrows⟩ := h
      exact ⟨g, t, cs, f, p, hg1, ht1, hv, hd⟩
    · exact reads_of (l := r) h.tail n d e

theorem cellStr : Tryd.prog.cellsOf 9 = 1 := by kernel_rfl
theorem cellInt : Tryd.prog.cellsOf 3 = 1 := by kernel_rfl
theorem cellBool : Tryd.prog.cellsOf 4 = 1 := by kernel_rfl
theorem cellKind : Tryd.prog.cellsOf 33 = 4 := by kernel_rfl

/-- One kind's row. -/
theorem row_cells {H : Type} {enc : TypeId × Value → H} {W : World} {base : Nat} {sp : Nat → Bool} {held : Bool} {fuel : Nat} {cs : List Value} {a : List UInt8} {b : Int} {c d : Bool} {p : List MemPlace}
    (h : DataW.trod enc Tryd.prog W base sp held fuel 33 cs = some (.agg [.lit (.string a), .lit (.int .i64 b), .lit (.bool c), .lit (.bool d)], p)) :
    cs[0]? = some (.string (str a)) ∧ cs[1]? = some (.int .i64 b) ∧ cs[2]? = some (.bool c) ∧ cs[3]? = some (.bool d) := by
  obtain ⟨xs, n, rfl, hx, hl, hxl, hall⟩ := DataW.trod_struct Tryd.underlying33 h
  have hx1 : xs.map (·.1) = [.lit (.string a), .lit (.int .i64 b), .lit (.bool c), .lit (.bool d)] := by
    have := congrArg Prod.fst hx
    simpa using this.symm
  obtain ⟨x, y, z, u, rfl⟩ : ∃ x y z u, xs = [x, y, z, u] := by
    match xs, hx1 with
    | [x, y, z, u], _ => exact ⟨x, y, z, u, rfl⟩
  simp only [List.map_cons, List.map_nil, List.cons.injEq, and_true] at hx1
  obtain ⟨e0, e1, e2, e3⟩ := hx1
  have f0 := hall 0 _ rfl
  have f1 := hall 1 _ rfl
  have f2 := hall 2 _ rfl
  have f3 := hall 3 _ rfl
  change DataW.trod _ _ _ _ _ _ _ 9 ((cs.drop 0).take (Tryd.prog.cellsOf 9)) = some x at f0
  change DataW.trod _ _ _ _ _ _ _ 3 ((cs.drop 1).take (Tryd.prog.cellsOf 3)) = some y at f1
  change DataW.trod _ _ _ _ _ _ _ 4 ((cs.drop 2).take (Tryd.prog.cellsOf 4)) = some z at f2
  change DataW.trod _ _ _ _ _ _ _ 4 ((cs.drop 3).take (Tryd.prog.cellsOf 4)) = some u at f3
  rw [cellStr] at f0
  rw [cellInt] at f1
  rw [cellBool] at f2 f3
  obtain ⟨s0, hz0, rfl, _⟩ := DataW.trod_string Tryd.underlying9 f0
  obtain ⟨z1, hz1, rfl, _⟩ := DataW.trod_int Tryd.underlying3 f1
  obtain ⟨z2, hz2, rfl⟩ := DataW.trod_bool Tryd.underlying4 f2
  obtain ⟨z3, hz3, rfl⟩ := DataW.trod_bool Tryd.underlying4 f3
  cases e1
  cases e2
  cases e3
  have hs : s0 = str a := by
    injection e0 with e0
    injection e0 with e0
    rw [← e0]
    rfl
  subst hs
  have g0 := congrArg (·[0]?) hz0
  have g1 := congrArg (·[0]?) hz1
  have g2 := congrArg (·[0]?) hz2
  have g3 := congrArg (·[0]?) hz3
  refine ⟨?_, ?_, ?_, ?_⟩
  · simpa [List.getElem?_take, List.getElem?_drop] using g0
  · simpa [List.getElem?_take, List.getElem?_drop] using g1
  · simpa [List.getElem?_take, List.getElem?_drop] using g2
  · simpa [List.getElem?_take, List.getElem?_drop] using g3

def kdatum (i : Nat) : DataW Unit := .agg [.lit (.string (kname i)), .lit (.int .i64 (kwire i)), .lit (.bool (knumB i)), .lit (.bool (kkeyB i))]
theorem kdata : (Rows.laid_redline_kinds_rows (H := Unit)) = .agg ((List.range 18).map kdatum) := by kernel_rfl

theorem tabk_of {W : World} (h : laidMetH Tryd.prog [("redline/kinds.rows", Rows.laid_redline_kinds_rows)] W) : TabK W := by
  rw [MakeChecks.laidMetH_plain _ _ _ (by kernel_rfl), kdata] at h
  have hA : ∀ i, i < 18 → W.cell? ⟨0, i * 4, none⟩ = some (.string (str (kname i))) ∧ W.cell? ⟨0, i * 4 + 1, none⟩ = some (.int .i64 (kwire i)) ∧ W.cell? ⟨0, i * 4 + 2, none⟩ = some (.bool (knumB i)) ∧ W.cell? ⟨0, i * 4 + 3, none⟩ = some (.bool (kkeyB i)) := by
    obtain ⟨g, t, cs, fuel, p, hg, ht, hv, hd⟩ := reads_of h _ _ (.head _)
    obtain rfl : 0 = g := Option.some.inj ((show Tryd.prog.globalNamed "redline/kinds.rows" = some 0 by kernel_rfl).symm.trans hg)
    obtain rfl : 34 = t := Option.some.inj ((show (Tryd.prog.globals[0]?).map (·.type) = some 34 by kernel_rfl).symm.trans ht)
    obtain ⟨xs, m, rfl, hx, hl, hxl, hall⟩ := DataW.trod_array Tryd.underlying34 hd
    have hx1 : xs.map (·.1) = (List.range 18).map kdatum := by
      have := congrArg Prod.fst hx
      simpa using this.symm
    intro i hi
    have hel := hall i (by omega)
    rw [cellKind] at hel
    obtain ⟨x, hxi⟩ : ∃ x, xs[i]? = some x := ⟨xs[i]'(by omega), List.getElem?_eq_getElem (by omega)⟩
    rw [hxi] at hel
    have hpi : ((List.range 18).map kdatum)[i]? = some (kdatum i) := by rw [List.getElem?_map, List.getElem?_range hi]; rfl
    rw [← hx1, List.getElem?_map, hxi] at hpi
    obtain ⟨y, q⟩ := x
    simp only [Option.map_some, Option.some.injEq] at hpi
    subst hpi
    obtain ⟨c0, c1, c2, c3⟩ := row_cells hel
    refine ⟨?_, ?_, ?_, ?_⟩
    · rw [World.var?_cell hg hv (i * 4), ← Array.getElem?_toList]
      simpa [List.getElem?_take, List.getElem?_drop] using c0
    · rw [World.var?_cell hg hv (i * 4 + 1), ← Array.getElem?_toList]
      simpa [List.getElem?_take, List.getElem?_drop] using c1
    · rw [World.var?_cell hg hv (i * 4 + 2), ← Array.getElem?_toList]
      simpa [List.getElem?_take, List.getElem?_drop] using c2
    · rw [World.var?_cell hg hv (i * 4 + 3), ← Array.getElem?_toList]
      simpa [List.getElem?_take, List.getElem?_drop] using c3
  exact ⟨fun i hi => (hA i hi).1, fun i hi => (hA i hi).2.1, fun i hi => (hA i hi).2.2.1, fun i hi => (hA i hi).2.2.2⟩
end Go.Proofs.YtnokjainniihkaaDoor
