/- What the row's list of unicode/utf8's two tables gives: their cells (Tab). Condition: the list is met. -/
import Derived.Test.YtbcokjhmfbfekaaDoorProg
import Derived.Test.YtbcokjhmfbfekaaDoorUtf
import GoSem.PinnedTables
import Derived.ProofKit
import Derived.LaidMore
import Derived.LaidLaws
import Derived.OpenShut
import Derived.Lib.LaidTab
import Derived.Stop.LaidErr
import Derived.MakeChecks
namespace Go.Proofs.YtbcokjhmfbfekaaDoor
open Go.RowKit Go.ChangeShapes

/-- A listed variable, opened. -/
theorem reads_of {P : Program} {W : World} : ∀ {l : List (String × DataW Unit)}, laidMet P l W → ∀ (n : String) (d : DataW Unit), (n, d) ∈ l →
    ∃ g t cs fuel p, P.globalNamed n = some g ∧ (P.globals[g]?).map (·.type) = some t ∧ W.var? P n = some cs ∧ DataW.trod (fun _ => ()) P W 0 (fun _ => true) false fuel t cs.toList = some (d, p)
  | [], _, _, _, hm => by cases hm
  | x :: r, h, n, d, hm => by
    rcases List.mem_cons.1 hm with e | e
    · subst e
      obtain ⟨ps, ⟨g, t, cs, f, p, q, hg1, ht1, hv, hd, _, he⟩, _, hrows⟩ := h
      exact ⟨g, t, cs, f, p, hg1, ht1, hv, hd⟩
    · exact reads_of (l := r) h.tail n d e

def firstInts : List Int := (List.range 256).map fun c => (rfirst c : Int)
theorem first_data : Pinned.utf8First = Lib.tabData (H := Unit) .u8 firstInts := by kernel_rfl
theorem cellU8 : Tryd.prog.cellsOf 5 = 1 := by kernel_rfl
theorem cellFirst : Tryd.prog.cellsOf 35 = 256 := by kernel_rfl
theorem cellPair : Tryd.prog.cellsOf 38 = 2 := by kernel_rfl

/-- One pair of bytes. -/
theorem pair_cells {H : Type} {enc : TypeId × Value → H} {W : World} {base : Nat} {sp : Nat → Bool} {held : Bool} {fuel : Nat} {cs : List Value} {a b : Int} {p : List MemPlace}
    (h : DataW.trod enc Tryd.prog W base sp held fuel 38 cs = some (.agg [.lit (.int .u8 a), .lit (.int .u8 b)], p)) : cs[0]? = some (.int .u8 a) ∧ cs[1]? = some (.int .u8 b) := by
  obtain ⟨xs, n, rfl, hx, hl, hxl, hall⟩ := DataW.trod_struct Tryd.underlying38 h
  have hx1 : xs.map (·.1) = [.lit (.int .u8 a), .lit (.int .u8 b)] := by
    have := congrArg Prod.fst hx
    simpa using this.symm
  obtain ⟨x, y, rfl⟩ : ∃ x y, xs = [x, y] := by
    match xs, hx1 with
    | [x, y], _ => exact ⟨x, y, rfl⟩
  simp only [List.map_cons, List.map_nil, List.cons.injEq, and_true] at hx1
  obtain ⟨e0, e1⟩ := hx1
  have f0 := hall 0 _ rfl
  have f1 := hall 1 _ rfl
  change DataW.trod _ _ _ _ _ _ _ 5 ((cs.drop 0).take (Tryd.prog.cellsOf 5)) = some x at f0
  change DataW.trod _ _ _ _ _ _ _ 5 ((cs.drop 1).take (Tryd.prog.cellsOf 5)) = some y at f1
  rw [cellU8] at f0 f1
  obtain ⟨z0, hz0, rfl, _⟩ := DataW.trod_int Tryd.underlying5 f0
  obtain ⟨z1, hz1, rfl, _⟩ := DataW.trod_int Tryd.underlying5 f1
  cases e0
  cases e1
  have g0 := congrArg (·[0]?) hz0
  have g1 := congrArg (·[0]?) hz1
  constructor
  · simpa [List.getElem?_take, List.getElem?_drop] using g0
  · simpa [List.getElem?_take, List.getElem?_drop] using g1

theorem tab_of {W : World} {l : List (String × DataW Unit)} {ps : List (DataW Unit)} (h : laidMetH Tryd.prog l W) (hp : (l.all fun x => x.2.handleName?.isNone) = true)
    (h1 : ("unicode/utf8.first", Pinned.utf8First) ∈ l) (h2 : ("unicode/utf8.acceptRanges", .agg ps) ∈ l) (hps : ∀ i, i < 5 → ps[i]? = some (.agg [.lit (.int .u8 ((raccept i).1 : Int)), .lit (.int .u8 ((raccept i).2 : Int))])) : Tab W := by
  rw [MakeChecks.laidMetH_plain _ _ _ hp] at h
  have hA : ∀ i, i < 5 → W.cell? ⟨1, 2 * i, none⟩ = some (.int .u8 ((raccept i).1 : Int)) ∧ W.cell? ⟨1, 2 * i + 1, none⟩ = some (.int .u8 ((raccept i).2 : Int)) := by
    obtain ⟨g, t, cs, fuel, p, hg, ht, hv, hd⟩ := reads_of h _ _ h2
    obtain rfl : 1 = g := Option.some.inj ((show Tryd.prog.globalNamed "unicode/utf8.acceptRanges" = some 1 by kernel_rfl).symm.trans hg)
    obtain rfl : 39 = t := Option.some.inj ((show (Tryd.prog.globals[1]?).map (·.type) = some 39 by kernel_rfl).symm.trans ht)
    obtain ⟨xs, m, rfl, hx, hl, hxl, hall⟩ := DataW.trod_array Tryd.underlying39 hd
    have hx1 : xs.map (·.1) = ps := by
      have := congrArg Prod.fst hx
      simpa using this.symm
    intro i hi
    have hel := hall i (by omega)
    rw [cellPair] at hel
    obtain ⟨x, hxi⟩ : ∃ x, xs[i]? = some x := ⟨xs[i]'(by omega), List.getElem?_eq_getElem (by omega)⟩
    rw [hxi] at hel
    have hpi := hps i hi
    rw [← hx1, List.getElem?_map, hxi] at hpi
    obtain ⟨y, q⟩ := x
    simp only [Option.map_some, Option.some.injEq] at hpi
    subst hpi
    obtain ⟨c0, c1⟩ := pair_cells hel
    constructor
    · rw [World.var?_cell hg hv (2 * i), ← Array.getElem?_toList]
      simpa [List.getElem?_take, List.getElem?_drop, Nat.mul_comm] using c0
    · rw [World.var?_cell hg hv (2 * i + 1), ← Array.getElem?_toList]
      simpa [List.getElem?_take, List.getElem?_drop, Nat.mul_comm] using c1
  refine ⟨fun b hb => ?_, fun i hi => (hA i hi).1, fun i hi => (hA i hi).2⟩
  obtain ⟨g, t, cs, fuel, p, hg, ht, hv, hd⟩ := reads_of h _ _ h1
  obtain rfl : 0 = g := Option.some.inj ((show Tryd.prog.globalNamed "unicode/utf8.first" = some 0 by kernel_rfl).symm.trans hg)
  obtain rfl : 35 = t := Option.some.inj ((show (Tryd.prog.globals[0]?).map (·.type) = some 35 by kernel_rfl).symm.trans ht)
  rw [first_data] at hd
  have hcs := Lib.cells_of_tab Tryd.underlying35 Tryd.underlying5 cellU8 cellFirst hd
  rw [World.var?_cell hg hv b, ← Array.getElem?_toList, hcs]
  simp [firstInts, hb]
end Go.Proofs.YtbcokjhmfbfekaaDoor
