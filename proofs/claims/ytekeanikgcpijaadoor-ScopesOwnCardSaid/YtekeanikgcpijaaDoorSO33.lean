/- Part 33 of what the last text of this claim is proved by: walks over the program, and the math behind them. Conditions: as each theorem says. -/
import Derived.Test.YtekeanikgcpijaaDoorSO32
import Derived.Test.YtekeanikgcpijaaDoorProg
import Derived.ProofKit
import Derived.LaidMore
import Derived.LaidLaws
import Derived.Stop.LaidErr
import Derived.MakeChecks
import Derived.Test.YtekeanikgcpijaaDoorRows
import Derived.LaidHandle
import Derived.HandedShaped
import Derived.OpenShut
import Derived.Carry
import Derived.ChangeSame
namespace Go.Proofs.YtekeanikgcpijaaDoor
open Go.RowKit Go.ChangeShapes
structure Ent where
  n : String
  g : Nat
  text : List UInt8
def Ent.laid (e : Ent) : String × DataW Unit := (e.n, .iface "*errors.errorString" (.ptr (.agg [.lit (.string e.text)])))
def Sent (W : World) (e : Ent) (a : Addr) : Prop :=
  W.cell? ⟨e.g, 0, none⟩ = some (.iface tE (.pointer (some a))) ∧ (∃ s : ByteArray, W.cell? a = some (.string s) ∧ s.data.toList = e.text) ∧ ∃ c t, W.heap[a.block]? = some (.cells c t (0, 0))
theorem star : "*" ++ "errors.errorString" = "*errors.errorString" := by decide
theorem rowE (u : TypeId) (h : Tryd.prog.typeName? 3 u = some "*errors.errorString") : u = tE :=
  typeName_ptr_named (nm := "errors.errorString") (by rw [star]; kernel_rfl) (by kernel_rfl) (by decide) u (by rw [star]; exact h)
theorem cellsES : Tryd.prog.cellsOf 163 = 1 := by kernel_rfl
theorem cellsStr : Tryd.prog.cellsOf 9 = 1 := by kernel_rfl
set_option maxRecDepth 100000 in
theorem sent_head {W : World} {e : Ent} {r : List (String × DataW Unit)} (h : laidMet Tryd.prog (e.laid :: r) W) (hg : Tryd.prog.globalNamed e.n = some e.g) (ht : (Tryd.prog.globals[e.g]?).map (·.type) = some 30) : ∃ a, Sent W e a := by
  obtain ⟨ps, ⟨g, t, ⟨cl⟩, f, p, q, hg1, ht1, hv, hd, _, he⟩, _, hrows⟩ := h
  cases Option.some.inj (hg.symm.trans hg1)
  cases Option.some.inj (ht.symm.trans ht1)
  have hok : ∀ u v, cl = [.iface u v] → Value.okWide Tryd.prog W .any 0 u v := fun u v hc => by
    subst hc
    exact (hrows e.g 0 (by rw [he]; simp [MemPlace.row])).2 u v (by simpa using World.var?_cell hg1 hv 0)
  obtain ⟨a, s, rfl, hca, hs, _, rfl⟩ := errorString_of_trod Tryd.underlying30 rowE Tryd.underlying147 Tryd.underlying163 rfl rfl Tryd.underlying9 cellsES cellsStr hd hok
  exact ⟨a, by simpa using World.var?_cell hg1 hv 0, ⟨s, hca, hs⟩, (hrows a.block a.off (by rw [he]; simp [MemPlace.row])).1⟩
theorem sents {W : World} : ∀ (es : List Ent), (∀ e ∈ es, Tryd.prog.globalNamed e.n = some e.g ∧ (Tryd.prog.globals[e.g]?).map (·.type) = some 30) → laidMet Tryd.prog (es.map Ent.laid) W →
    ∃ A : Nat → Addr, ∀ (i : Nat) e, es[i]? = some e → Sent W e (A i)
  | [], _, _ => ⟨fun _ => ⟨0, 0, none⟩, fun i e h => by simp at h⟩
  | e :: es, hes, h => by
    obtain ⟨a, ha⟩ := sent_head (r := es.map Ent.laid) h (hes e List.mem_cons_self).1 (hes e List.mem_cons_self).2
    obtain ⟨A, hA⟩ := sents es (fun x hx => hes x (List.mem_cons_of_mem _ hx)) h.tail
    refine ⟨fun i => match i with | 0 => a | i + 1 => A i, fun i x hx => ?_⟩
    match i, hx with
    | 0, hx => simp at hx; subst hx; exact ha
    | i + 1, hx => exact hA i x (by simpa using hx)
end Go.Proofs.YtekeanikgcpijaaDoor
namespace Go.Proofs.YtekeanikgcpijaaDoor
open Go.RowKit Go.ChangeShapes
theorem wrap_laid_shaped {H : Type} {enc : TypeId × Value → H} {a : Assume} {C : Checked} {os : Os} {f : FuncId} {fn : Func} {s : ChangeSpec} {conds : List PathCond} {apart fresh handsOn again : Bool} {X : World → Array Value → Prop}
    (hX : ∀ (w w' : World) (args : Array Value), w.heap = w'.heap → X w args → X w' args)
    (own : ownKnob C.prog.godebug = none) (started : os.Started) (noInit : C.prog.inits.idxOf? f = none) (hfn : C.prog.funcs[f]? = some fn)
    (witness : ∃ (w : World) (tape : Tape) (i : Input), w.os = os ∧ (w.forCall tape i).Shaped C.prog ∧ i.vars = [] ∧ Input.okWide C.prog (w.forCall tape i) .any w.heap.size f i ∧
      ((s.pre enc C.prog fn conds apart (w.forCall tape i).memory i.args ∧ X (w.forCall tape i).memory i.args) ∧ sizedMet enc C.prog fn (OpenSpec.ofChange s) apart (w.forCall tape i).memory i.args) ∧ a.holds C.prog (lone (Frame.enter C.prog f i.args .normal) [] (w.forCall tape i)))
    (contract : ∀ (W : World) (base : Nat) (args : Array Value) (ds gs : List (DataW H)) (before : List MemPlace),
      (∀ (j : Nat) t v, fn.params[j]? = some t → args[j]? = some v → Value.okWide C.prog W .any base t v) →
      DataW.Whole enc C.prog fn.params.toList s.vars apart W args.toList ds gs before → X W args → W.ShapedOpen C.prog →
      Calls C.prog f args W fun e W' => ∃ v, e = .returned v ∧ s.post enc C.prog fn apart fresh handsOn again W args v W') :
    ReturnsInHanded a C os f .any (fun w args => (s.pre enc C.prog fn conds apart w args ∧ X w args) ∧ sizedMet enc C.prog fn (OpenSpec.ofChange s) apart w args) (s.post enc C.prog fn apart fresh handsOn again) := by
  refine returnsInHanded_of_calls own started noInit witness ?_
  intro w tape i _ hsh _ hok hpre _
  obtain ⟨_, _, _, fn', hfn', _, _, _, _, hval⟩ := hok
  obtain rfl : fn' = fn := Option.some.inj (hfn'.symm.trans hfn)
  obtain ⟨⟨⟨ds, gs, before, hw, _⟩, hx⟩, _⟩ := hpre
  refine (contract (w.forCall tape i) w.heap.size i.args ds gs before hval (DataW.Whole.of_heap (w' := w.forCall tape i) (by rfl) hw) (hX _ _ _ (by rfl) hx) hsh).mono fun e W' ⟨v, he, hp⟩ => ?_
  subst he
  exact ChangeSpec.post_blind hp
end Go.Proofs.YtekeanikgcpijaaDoor
namespace Go.Proofs.YtekeanikgcpijaaDoor
open Go.RowKit Go.ChangeShapes
def ents5 : List Ent := [
  ⟨"redline/api.ErrRange", 4, [97, 32, 110, 117, 109, 98, 101, 114, 32, 105, 115, 32, 111, 117, 116, 32, 111, 102, 32, 105, 116, 115, 32, 114, 97, 110, 103, 101]⟩,
  ⟨"redline/api.ErrLong", 0, [116, 104, 101, 114, 101, 32, 105, 115, 32, 109, 111, 114, 101, 32, 116, 104, 97, 110, 32, 109, 97, 121, 32, 98, 101]⟩,
  ⟨"redline/api.ErrDepth", 5, [105, 116, 32, 103, 111, 101, 115, 32, 116, 111, 111, 32, 100, 101, 101, 112]⟩,
  ⟨"redline/api.ErrForm", 3, [105, 116, 32, 105, 115, 32, 110, 111, 116, 32, 111, 102, 32, 105, 116, 115, 32, 102, 111, 114, 109]⟩,
  ⟨"redline/api.ErrDup", 1, [105, 116, 32, 105, 115, 32, 116, 104, 101, 114, 101, 32, 97, 108, 114, 101, 97, 100, 121]⟩]
theorem ents5_ok : ∀ e ∈ ents5, Tryd.prog.globalNamed e.n = some e.g ∧ (Tryd.prog.globals[e.g]?).map (·.type) = some 30 := by
  have h : (ents5.all fun e => decide (Tryd.prog.globalNamed e.n = some e.g ∧ (Tryd.prog.globals[e.g]?).map (·.type) = some 30)) = true := by kernel_rfl
  exact fun e he => of_decide_eq_true (List.all_eq_true.1 h e he)
theorem own_laid {W : World} (h : laidMetH Tryd.prog Rows.scopesOwnRow.laid W) (hsh : W.ShapedOpen Tryd.prog) : ∃ A m, Lx W A m ∧ W.cell? ⟨5, 0, none⟩ = some (errV A 7) ∧ W.cell? ⟨1, 0, none⟩ = some (errV A 10) := by
  rw [MakeChecks.laidMetH_plain _ _ _ (by kernel_rfl)] at h
  have h' : laidMet Tryd.prog (ents5.map Ent.laid) W := h
  obtain ⟨A, hA⟩ := sents ents5 ents5_ok h'
  obtain ⟨m, hm⟩ := Tryd.laysM219.s1_3 W hsh
  exact ⟨fun i => if i = 0 then A 0 else if i = 2 then A 1 else if i = 7 then A 2 else if i = 8 then A 3 else A 4, m, ⟨(hA 0 _ rfl).1, (hA 1 _ rfl).1, (hA 3 _ rfl).1, hm⟩, (hA 2 _ rfl).1, (hA 4 _ rfl).1⟩
end Go.Proofs.YtekeanikgcpijaaDoor
namespace Go.Proofs.YtekeanikgcpijaaDoor
open Go.ChangeShapes Go.WideShapes Go.ChangeAt Go.RowKit
section
variable {H : Type} {enc : TypeId × Value → H} {P : Program}
theorem trodAll_stay (hl : laidOutB P = true) {W W' : World} (hb : Below W.heap.size W W') {sp : Nat → Bool} : ∀ {ts : List TypeId} {vs : List Value} {ds : List (DataW H)} {ps : List MemPlace},
    (ts.all fun t => P.readableRec t && decide (t < P.types.size)) = true → DataW.TrodAll enc P W 0 (fun _ => true) true ts vs ds ps → (∀ p ∈ ps, p.block < W.heap.size) → (∀ p ∈ ps, sp p.block = true) →
    DataW.TrodAll enc P W' 0 sp true ts vs ds ps
  | [], _, _, _, _, h, _, _ => by
    obtain ⟨rfl, rfl, rfl⟩ := trodAll_nil h
    exact trodAll_mk0
  | t :: ts, _, _, _, ht, h, hlt, hsp => by
    simp only [List.all_cons, Bool.and_eq_true, decide_eq_true_eq] at ht
    obtain ⟨v, vs, d, ds, p, q, rfl, rfl, rfl, h0, hr⟩ := trodAll_cons h
    exact trodAll_cons_mk (WideElems.Trod_stays hl ht.1.1 ht.1.2 h0 (fun x hx => hb.same (hlt x (List.mem_append_left _ hx))) (fun x hx => hsp x (List.mem_append_left _ hx)))
      (trodAll_stay hl hb ht.2 hr (fun x hx => hlt x (List.mem_append_right _ hx)) (fun x hx => hsp x (List.mem_append_right _ hx)))
theorem law_post {f : Func} {s : ChangeSpec} {W W' : World} {args : Array Value} {ds : List (DataW H)} {before : List MemPlace}
    (hl : laidOutB P = true) (ht : (f.params.toList.all fun t => P.readableRec t && decide (t < P.types.size)) = true)
    (hvars : s.vars = []) (hs : s.fn H (ds ++ []) = { results := [.lit (.bool true)], args := ds }) {tb : TypeId} (hres : f.resultTypes = #[tb]) (hbool : P.underlying tb = some .bool)
    (hW : DataW.Whole enc P f.params.toList s.vars false W args.toList ds [] before)
    (hA : DataW.TrodAll enc P W 0 (fun _ => true) true f.params.toList args.toList ds before) (hb : Below W.heap.size W W') :
    s.post enc P f false true false false W args (.bool true) W' := by
  have hlt : ∀ p ∈ before, p.block < W.heap.size := fun p hp => hW.lt p hp
  have e1 : (Value.bool true).resultList f.resultTypes.size = [Value.bool true] := by rw [hres]; rfl
  refine ⟨ds, [], before, [], before, [], hW, ?_, ?_, ?_, World.keptBut_mono (fun p hp => ⟨hp, by simpa using hp⟩) (hb.frame (· ∈ before)), fun h => by cases h⟩
  · rw [hs, e1, hres]
    exact trodAll_mk1 (shut_bool hbool _)
  · rw [hs]
    exact trodAll_stay hl hb ht hA hlt (fun p hp => by simpa using hlt p hp)
  · rw [hs, hvars]
    rfl
end
end Go.Proofs.YtekeanikgcpijaaDoor
