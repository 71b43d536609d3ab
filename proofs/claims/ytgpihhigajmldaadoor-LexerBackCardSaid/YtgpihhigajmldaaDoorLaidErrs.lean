/- What the row's list of package api's errors gives: the variables hold pointers to different errors. Condition: the list is met. -/
import Derived.Test.YtgpihhigajmldaaDoorProg
import Derived.Test.YtgpihhigajmldaaDoorNum
import Derived.ProofKit
import Derived.LaidMore
import Derived.LaidLaws
import Derived.Stop.LaidErr
import Derived.MakeChecks
namespace Go.Proofs.YtgpihhigajmldaaDoor
open Go.RowKit Go.ChangeShapes

/-- A listed error: its variable's name and number, its text. -/
structure Ent where
  n : String
  g : Nat
  text : List UInt8
def Ent.laid (e : Ent) : String × DataW Unit := (e.n, .iface "*errors.errorString" (.ptr (.agg [.lit (.string e.text)])))
def ents : List Ent := [
  ⟨"redline/api.ErrRange", 1, [97, 32, 110, 117, 109, 98, 101, 114, 32, 105, 115, 32, 111, 117, 116, 32, 111, 102, 32, 105, 116, 115, 32, 114, 97, 110, 103, 101]⟩,
  ⟨"redline/api.ErrShort", 2, [115, 111, 109, 101, 116, 104, 105, 110, 103, 32, 105, 115, 32, 109, 105, 115, 115, 105, 110, 103, 32, 97, 116, 32, 116, 104, 101, 32, 101, 110, 100]⟩,
  ⟨"redline/api.ErrLong", 0, [116, 104, 101, 114, 101, 32, 105, 115, 32, 109, 111, 114, 101, 32, 116, 104, 97, 110, 32, 109, 97, 121, 32, 98, 101]⟩,
  ⟨"redline/api.ErrVarint", 3, [105, 116, 32, 105, 115, 32, 110, 111, 32, 118, 97, 114, 105, 110, 116]⟩,
  ⟨"redline/api.ErrTag", 4, [105, 116, 32, 105, 115, 32, 110, 111, 32, 116, 97, 103]⟩,
  ⟨"redline/api.ErrGroup", 5, [116, 104, 101, 114, 101, 32, 97, 114, 101, 32, 110, 111, 32, 103, 114, 111, 117, 112, 115]⟩,
  ⟨"redline/api.ErrRune", 6, [105, 116, 32, 105, 115, 32, 110, 111, 32, 85, 84, 70, 45, 56]⟩,
  ⟨"redline/api.ErrDepth", 7, [105, 116, 32, 103, 111, 101, 115, 32, 116, 111, 111, 32, 100, 101, 101, 112]⟩,
  ⟨"redline/api.ErrForm", 8, [105, 116, 32, 105, 115, 32, 110, 111, 116, 32, 111, 102, 32, 105, 116, 115, 32, 102, 111, 114, 109]⟩,
  ⟨"redline/api.ErrName", 9, [116, 104, 101, 114, 101, 32, 105, 115, 32, 110, 111, 32, 115, 117, 99, 104, 32, 110, 97, 109, 101]⟩,
  ⟨"redline/api.ErrDup", 10, [105, 116, 32, 105, 115, 32, 116, 104, 101, 114, 101, 32, 97, 108, 114, 101, 97, 100, 121]⟩,
  ⟨"redline/api.ErrKind", 11, [105, 116, 32, 105, 115, 32, 111, 102, 32, 97, 110, 111, 116, 104, 101, 114, 32, 107, 105, 110, 100]⟩,
  ⟨"redline/api.ErrClash", 12, [105, 116, 32, 105, 115, 32, 110, 111, 116, 32, 119, 104, 97, 116, 32, 105, 116, 32, 119, 97, 115]⟩,
  ⟨"redline/api.ErrNone", 13, [116, 104, 101, 114, 101, 32, 105, 115, 32, 110, 111, 110, 101]⟩,
  ⟨"redline/api.ErrFull", 14, [116, 104, 101, 114, 101, 32, 105, 115, 32, 110, 111, 32, 109, 111, 114, 101, 32, 114, 111, 111, 109]⟩,
  ⟨"redline/api.ErrState", 15, [105, 116, 32, 99, 97, 110, 32, 110, 111, 116, 32, 98, 101, 32, 100, 111, 110, 101, 32, 105, 110, 32, 116, 104, 105, 115, 32, 115, 116, 97, 116, 101]⟩,
  ⟨"redline/api.ErrPower", 16, [116, 104, 101, 32, 112, 111, 119, 101, 114, 32, 105, 115, 32, 103, 111, 110, 101]⟩,
  ⟨"redline/api.ErrSum", 17, [116, 104, 101, 32, 115, 117, 109, 32, 105, 115, 32, 110, 111, 116, 32, 114, 105, 103, 104, 116]⟩,
  ⟨"redline/api.ErrConflict", 18, [98, 111, 116, 104, 32, 115, 105, 100, 101, 115, 32, 99, 104, 97, 110, 103, 101, 100, 32, 105, 116]⟩]

/-- What is known of one of them. -/
def Sent (W : World) (e : Ent) (a : Addr) : Prop :=
  W.cell? ⟨e.g, 0, none⟩ = some (.iface tE (.pointer (some a))) ∧ (∃ s : ByteArray, W.cell? a = some (.string s) ∧ s.data.toList = e.text) ∧ ∃ c t, W.heap[a.block]? = some (.cells c t (0, 0))

theorem star : "*" ++ "errors.errorString" = "*errors.errorString" := by decide
theorem rowE (u : TypeId) (h : Tryd.prog.typeName? 3 u = some "*errors.errorString") : u = tE :=
  typeName_ptr_named (nm := "errors.errorString") (by rw [star]; kernel_rfl) (by kernel_rfl) (by decide) u (by rw [star]; exact h)
theorem cellsES : Tryd.prog.cellsOf 152 = 1 := by kernel_rfl
theorem cellsStr : Tryd.prog.cellsOf 9 = 1 := by kernel_rfl

set_option maxRecDepth 100000 in
theorem sent_head {W : World} {e : Ent} {r : List (String × DataW Unit)} (h : laidMet Tryd.prog (e.laid :: r) W) (hg : Tryd.prog.globalNamed e.n = some e.g) (ht : (Tryd.prog.globals[e.g]?).map (·.type) = some 25) : ∃ a, Sent W e a := by
  obtain ⟨ps, ⟨g, t, ⟨cl⟩, f, p, q, hg1, ht1, hv, hd, _, he⟩, _, hrows⟩ := h
  cases Option.some.inj (hg.symm.trans hg1)
  cases Option.some.inj (ht.symm.trans ht1)
  have hok : ∀ u v, cl = [.iface u v] → Value.okWide Tryd.prog W .any 0 u v := fun u v hc => by
    subst hc
    exact (hrows e.g 0 (by rw [he]; simp [MemPlace.row])).2 u v (by simpa using World.var?_cell hg1 hv 0)
  obtain ⟨a, s, rfl, hca, hs, _, rfl⟩ := errorString_of_trod Tryd.underlying25 rowE Tryd.underlying133 Tryd.underlying152 rfl rfl Tryd.underlying9 cellsES cellsStr hd hok
  exact ⟨a, by simpa using World.var?_cell hg1 hv 0, ⟨s, hca, hs⟩, (hrows a.block a.off (by rw [he]; simp [MemPlace.row])).1⟩

theorem sents {W : World} : ∀ (es : List Ent), (∀ e ∈ es, Tryd.prog.globalNamed e.n = some e.g ∧ (Tryd.prog.globals[e.g]?).map (·.type) = some 25) → laidMet Tryd.prog (es.map Ent.laid) W →
    ∃ A : Nat → Addr, ∀ (i : Nat) e, es[i]? = some e → Sent W e (A i)
  | [], _, _ => ⟨fun _ => ⟨0, 0, none⟩, fun i e h => by simp at h⟩
  | e :: es, hes, h => by
    obtain ⟨a, ha⟩ := sent_head (r := es.map Ent.laid) h (hes e List.mem_cons_self).1 (hes e List.mem_cons_self).2
    obtain ⟨A, hA⟩ := sents es (fun x hx => hes x (List.mem_cons_of_mem _ hx)) h.tail
    refine ⟨fun i => match i with | 0 => a | i + 1 => A i, fun i x hx => ?_⟩
    match i, hx with
    | 0, hx => simp at hx; subst hx; exact ha
    | i + 1, hx => exact hA i x (by simpa using hx)

theorem ents_ok : ∀ e ∈ ents, Tryd.prog.globalNamed e.n = some e.g ∧ (Tryd.prog.globals[e.g]?).map (·.type) = some 25 := by
  have h : (ents.all fun e => decide (Tryd.prog.globalNamed e.n = some e.g ∧ (Tryd.prog.globals[e.g]?).map (·.type) = some 25)) = true := by kernel_rfl
  exact fun e he => of_decide_eq_true (List.all_eq_true.1 h e he)
theorem ents_apart : ((List.range 19).all fun i => (List.range 19).all fun j => i == j || (ents[i]?.map (·.text)) != (ents[j]?.map (·.text))) = true := by kernel_rfl
theorem ents_gs : ents.map (·.g) = errGs := rfl
theorem ents_len : ents.length = 19 := rfl

/-- The list of the errors gives the errors. -/
theorem errs_met {W : World} (h : laidMet Tryd.prog (ents.map Ent.laid) W) : ∃ A, Errs W A := by
  obtain ⟨A, hA⟩ := sents ents ents_ok h
  have hget : ∀ i, i < 19 → ∃ e, ents[i]? = some e := fun i hi => ⟨ents[i]'(by rw [ents_len]; exact hi), List.getElem?_eq_getElem _⟩
  refine ⟨A, ⟨fun i g hg => ?_, fun i hi => ?_, fun i j hi hj hne he => ?_⟩⟩
  · rw [← ents_gs, List.getElem?_map] at hg
    obtain ⟨e, he, rfl⟩ := Option.map_eq_some_iff.1 hg
    exact (hA i e he).1
  · obtain ⟨e, he⟩ := hget i hi
    exact (hA i e he).2.2
  · obtain ⟨x, hx⟩ := hget i hi
    obtain ⟨y, hy⟩ := hget j hj
    obtain ⟨_, ⟨s, hs, hsx⟩, _⟩ := hA i x hx
    obtain ⟨_, ⟨s', hs', hsy⟩, _⟩ := hA j y hy
    rw [he, hs'] at hs
    cases hs
    have h1 := List.all_eq_true.1 (List.all_eq_true.1 ents_apart i (List.mem_range.2 hi)) j (List.mem_range.2 hj)
    rw [hx, hy] at h1
    simp only [Option.map_some, Bool.or_eq_true, beq_iff_eq, hne, false_or, bne_iff_ne, ne_eq, Option.some.injEq] at h1
    exact h1 (hsx.symm.trans hsy)
/-- The condition gives the errors. -/
theorem errs_of {W : World} {l : List (String × DataW Unit)} (hl : l = ents.map Ent.laid) (h : laidMetH Tryd.prog l W) : ∃ A, Errs W A := by
  subst hl
  rw [MakeChecks.laidMetH_plain _ _ _ (by kernel_rfl)] at h
  exact errs_met h
end Go.Proofs.YtgpihhigajmldaaDoor
