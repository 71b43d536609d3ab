/- What a call hands back where some of its results are structs that lie in cells. No condition. -/
import Derived.Test.YtnokjainniihkaaDoorProg
import Derived.Test.YtnokjainniihkaaDoorMem
import Derived.Laws.Rows
namespace Go.Proofs.YtnokjainniihkaaDoor
open Go.RowKit

def rvRun (tmps : Array Value) : ResultVar → Sem Value
  | .tmp t => pure (tmps.getD t undef)
  | .cell a t => do loadVar t (← asAddr (tmps.getD a undef))
/-- One result's variable is read as a value. -/
def RV (tmps : Array Value) (w : World) (rv : ResultVar) (v : Value) : Prop := (rvRun tmps rv).run Tryd.prog w = .ok v w
theorem rv_tmp (tmps : Array Value) (w : World) (t : Tmp) : RV tmps w (.tmp t) (tmps.getD t undef) := rfl
theorem rv_cell {tmps : Array Value} {w : World} {p : Tmp} {ty : TypeId} (g : Nat) (cs : List Value) (t : TypeId) (fs : Array Field) (hp : tmps.getD p undef = .pointer (some ⟨g, 0, none⟩)) (hg : Blk w g t cs)
    (hu : Tryd.prog.underlying ty = some (.struct fs)) (hi : (Tryd.prog.info? ty).map (·.size) = some cs.toArray.size) : RV tmps w (.cell p ty) (.agg cs.toArray) := by
  have hp' : tmps[p]?.getD undef = .pointer (some ⟨g, 0, none⟩) := by simpa using hp
  unfold RV rvRun
  simp [hp', asAddr, run_loadVar_row w g t ty cs.toArray (0, 0) (.struct fs) hg hu rfl hi]
theorem results_eq (fn : Func) (tmps : Array Value) : results fn tmps = (do let vs ← fn.results.mapM (rvRun tmps); pure (if h : vs.size = 1 then vs[0] else .tuple vs)) := by
  unfold results
  congr 1
section
variable {fn : Func} {a b c d : ResultVar} {tmps : Array Value} {w : World} {x y z u : Value}
theorem results_1 (h : fn.results = #[a]) (ha : RV tmps w a x) : (results fn tmps).run Tryd.prog w = .ok x w := by
  unfold RV at ha
  rw [results_eq, h]
  simp [ha]
theorem results_2 (h : fn.results = #[a, b]) (ha : RV tmps w a x) (hb : RV tmps w b y) : (results fn tmps).run Tryd.prog w = .ok (.tuple #[x, y]) w := by
  unfold RV at ha hb
  rw [results_eq, h]
  simp [ha, hb]
theorem results_3 (h : fn.results = #[a, b, c]) (ha : RV tmps w a x) (hb : RV tmps w b y) (hc : RV tmps w c z) : (results fn tmps).run Tryd.prog w = .ok (.tuple #[x, y, z]) w := by
  unfold RV at ha hb hc
  rw [results_eq, h]
  simp [ha, hb, hc]
theorem results_4 (h : fn.results = #[a, b, c, d]) (ha : RV tmps w a x) (hb : RV tmps w b y) (hc : RV tmps w c z) (hd : RV tmps w d u) : (results fn tmps).run Tryd.prog w = .ok (.tuple #[x, y, z, u]) w := by
  unfold RV at ha hb hc hd
  rw [results_eq, h]
  simp [ha, hb, hc, hd]
end
end Go.Proofs.YtnokjainniihkaaDoor
