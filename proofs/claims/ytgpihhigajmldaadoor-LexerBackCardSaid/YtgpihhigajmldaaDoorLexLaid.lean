/- What the rows' lists of the lexer's laws give: the errors, the library's tables and its variable errors.errorType; and the library's MaxLen out of the world's shape. Conditions: the list is met; the world has its shape. -/
import Derived.Test.YtgpihhigajmldaaDoorProg
import Derived.Test.YtgpihhigajmldaaDoorRows
import Derived.Test.YtgpihhigajmldaaDoorLaidErrs
import Derived.Test.YtgpihhigajmldaaDoorLexCut
import Derived.Test.YtgpihhigajmldaaDoorLexWhere
import Derived.Lib.LaidTab
import Derived.LaidHandle
import Derived.HandedShaped
namespace Go.Proofs.YtgpihhigajmldaaDoor
open Go.RowKit Go.ChangeShapes

theorem laid_parts {l r : List (String × DataW Unit)} {x : String × DataW Unit} {W : World} (h : laidMetH Tryd.prog l W) (hx : (l.filter fun x => x.2.handleName?.isSome) = [x]) (hr : (l.filter fun x => x.2.handleName?.isNone) = r) : laidMet Tryd.prog r W ∧ handlesMet Tryd.prog [x] W := by
  unfold laidMetH at h
  rw [hx, hr] at h
  exact h

theorem etG : Tryd.prog.globalNamed "errors.errorType" = some 19 := by kernel_rfl
theorem etR : (Tryd.prog.cutTypes.find? (·.1 == "internal/reflectlite.rtype")).map (·.2) = some 92 := by kernel_rfl
theorem etOne : ((List.range 164).filter fun t => Tryd.prog.rowNamed t [101, 114, 114, 111, 114]) = [25] := by kernel_rfl
theorem etSize : Tryd.prog.types.size = 164 := by kernel_rfl
theorem errT_of {W : World} (h : handlesMet Tryd.prog [("errors.errorType", Rows.laid_errors_errorType)] W) : ErrT W := by
  obtain ⟨name, u, ty, e1, e2, e3, e4, e5⟩ := h _ (List.mem_singleton.2 rfl)
  have en : name = [101, 114, 114, 111, 114] := (Option.some.inj e1).symm
  subst en
  obtain rfl := Option.some.inj (etR.symm.trans e2)
  have hm : ty ∈ (List.range 164).filter fun t => Tryd.prog.rowNamed t [101, 114, 114, 111, 114] := List.mem_filter.2 ⟨List.mem_range.2 (by rw [← etSize]; exact e3), e4⟩
  rw [etOne] at hm
  obtain rfl := List.mem_singleton.1 hm
  have hh : typeHandle Tryd.prog 25 = .pointer (some ⟨24, 25, none⟩) := by kernel_rfl
  rw [hh] at e5
  unfold ErrT
  simpa using World.var?_cell etG e5 0

theorem cellsU64' : Tryd.prog.cellsOf 108 = 1 := by kernel_rfl
theorem pow_data : Rows.laid_internal_strconv_uint64pow10 = Lib.tabData (H := Unit) .u64 Lib.pow10Tab := by kernel_rfl
theorem pow_of {W : World} {r : List (String × DataW Unit)} (h : laidMet Tryd.prog (("internal/strconv.uint64pow10", Rows.laid_internal_strconv_uint64pow10) :: r) W) : Lib.TabIs Tryd.prog W "internal/strconv.uint64pow10" .u64 Lib.pow10Tab := by
  rw [pow_data] at h
  exact Lib.tabIs_of_head (g := 20) (t := 122) (e := 108) (n := 20) (by kernel_rfl) (by kernel_rfl) Tryd.underlying122 Tryd.underlying108 cellsU64' (by kernel_rfl) h

theorem lx_of {W : World} {A : Nat → Addr} (hE : Errs W A) (hsh : W.ShapedOpen Tryd.prog) : ∃ m, Lx W A m := by
  obtain ⟨m, hm⟩ := Tryd.laysM219.s1_3 W hsh
  exact ⟨m, hE.holds 0 _ rfl, hE.holds 2 _ rfl, hE.holds 8 _ rfl, hm⟩

theorem splits_laid {W : World} (h : laidMetH Tryd.prog Rows.lexerSplitsRow.laid W) (hsh : W.ShapedOpen Tryd.prog) : ∃ A m, Errs W A ∧ Lx W A m ∧ ErrT W := by
  obtain ⟨h1, h2⟩ := laid_parts (r := ents.map Ent.laid) (x := ("errors.errorType", Rows.laid_errors_errorType)) h (by kernel_rfl) (by kernel_rfl)
  obtain ⟨A, hE⟩ := errs_met h1
  obtain ⟨m, hL⟩ := lx_of hE hsh
  exact ⟨A, m, hE, hL, errT_of h2⟩
theorem faults_laid {W : World} (h : laidMetH Tryd.prog Rows.lexerFaultsRow.laid W) (hsh : W.ShapedOpen Tryd.prog) : ∃ A m, Errs W A ∧ Lx W A m ∧ ErrT W ∧ Lib.TabIs Tryd.prog W "internal/strconv.uint64pow10" .u64 Lib.pow10Tab := by
  obtain ⟨h1, h2⟩ := laid_parts (r := ("math/bits.deBruijn32tab", Rows.laid_math_bits_deBruijn32tab) :: ("math/bits.deBruijn64tab", Rows.laid_math_bits_deBruijn64tab) :: ("internal/strconv.uint64pow10", Rows.laid_internal_strconv_uint64pow10) :: ents.map Ent.laid) (x := ("errors.errorType", Rows.laid_errors_errorType)) h (by kernel_rfl) (by kernel_rfl)
  obtain ⟨A, hE⟩ := errs_met h1.tail.tail.tail
  obtain ⟨m, hL⟩ := lx_of hE hsh
  exact ⟨A, m, hE, hL, errT_of h2, pow_of h1.tail.tail⟩
theorem back_laid {W : World} (h : laidMetH Tryd.prog Rows.lexerBackRow.laid W) (hsh : W.ShapedOpen Tryd.prog) : ∃ A m, Lx W A m := by
  rw [MakeChecks.laidMetH_plain _ _ _ (by kernel_rfl)] at h
  have h' : laidMet Tryd.prog (([0, 2, 8].filterMap fun i => ents[i]?).map Ent.laid) W := h
  obtain ⟨A, hA⟩ := sents ([0, 2, 8].filterMap fun i => ents[i]?) (fun e he => ents_ok e (by
    obtain ⟨i, _, hi⟩ := List.mem_filterMap.1 he
    exact List.mem_of_getElem? hi)) h'
  obtain ⟨m, hm⟩ := Tryd.laysM219.s1_3 W hsh
  exact ⟨fun i => if i = 0 then A 0 else if i = 2 then A 1 else A 2, m, (hA 0 _ rfl).1, (hA 1 _ rfl).1, (hA 2 _ rfl).1, hm⟩

/-- The wrap of a row that lists variables and takes what it needs of the world's shape. -/
theorem wrap_laid_shaped {H : Type} {enc : TypeId × Value → H} {a : Assume} {C : Checked} {os : Os} {f : FuncId} {fn : Func} {s : ChangeSpec} {conds : List PathCond} {apart fresh handsOn again : Bool} {X : World → Array Value → Prop}
    (hX : ∀ (w w' : World) (args : Array Value), w.heap = w'.heap → X w args → X w' args)
    (own : ownKnob C.prog.godebug = none) (started : os.Started) (noInit : C.prog.inits.idxOf? f = none) (hfn : C.prog.funcs[f]? = some fn)
    (witness : ∃ (w : World) (tape : Tape) (i : Input), w.os = os ∧ (w.forCall tape i).Shaped C.prog ∧ i.vars = [] ∧ Input.okWide C.prog (w.forCall tape i) .any w.heap.size f i ∧
      ((s.pre enc C.prog fn conds apart (w.forCall tape i).memory i.args ∧ X (w.forCall tape i).memory i.args) ∧ sizedMet enc C.prog fn (OpenSpec.ofChange s) apart (w.forCall tape i).memory i.args) ∧ a.holds C.prog (lone (Frame.enter C.prog f i.args .normal) [] (w.forCall tape i)))
    (contract : ∀ (W : World) (base : Nat) (args : Array Value) (ds gs : List (DataW H)) (before : List MemPlace),
      (∀ (j : Nat) t v, fn.params[j]? = some t → args[j]? = some v → Value.okWide C.prog W .any base t v) →
      DataW.Whole enc C.prog fn.params.toList s.vars apart W args.toList ds gs before → X W args → W.ShapedOpen C.prog →
      Calls C.prog f args W fun e W' => ∃ v, e = .returned v ∧ s.post enc C.prog fn apart fresh handsOn again W args v W') :
    ReturnsInHanded a C os f .any (fun w args => (s.pre enc C.prog fn conds apart w args ∧ X w args) ∧ sizedMet enc C.prog fn (OpenSpec.ofChange s) apart w args) (s.post enc C.prog fn apart fresh handsOn again) := by
  refine returnsInHanded_of_calls own started noInit witness ?_
  intro w tape i _ hsh _ hok hpre _
  obtain ⟨_, _, _, fn', hfn', _, _, _, _, hval⟩ := hok
  obtain rfl : fn' = fn := Option.some.inj (hfn'.symm.trans hfn)
  obtain ⟨⟨⟨ds, gs, before, hw, _⟩, hx⟩, _⟩ := hpre
  refine (contract (w.forCall tape i) w.heap.size i.args ds gs before hval (DataW.Whole.of_heap (w' := w.forCall tape i) (by rfl) hw) (hX _ _ _ (by rfl) hx) hsh).mono fun e W' ⟨v, he, hp⟩ => ?_
  subst he
  exact ChangeSpec.post_blind hp
end Go.Proofs.YtgpihhigajmldaaDoor
