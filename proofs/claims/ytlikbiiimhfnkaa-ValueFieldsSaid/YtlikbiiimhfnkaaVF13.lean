/- Part 13 of what the last text of this claim is proved by: walks over the program, and the math behind them. Conditions: as each theorem says. -/
import Derived.Test.YtlikbiiimhfnkaaVF12
import Derived.Test.YtlikbiiimhfnkaaProg
namespace Go.Proofs.Ytlikbiiimhfnkaa
open Go.RowKit
section
variable {P : Program} {cx : Cx} {T : TL} {B : BL} {R : RL} {ops : Array Oper} {Q : Exit → Act → World → Prop} {deps : List (List Nat)}
def depsOf (ops : Array Oper) : List (List Nat) := ops.toList.map fun o => (o.after.toList.filter fun e => Region.binds .any e).map (·.on)
def readyC (L : List Bool) : Nat → List (List Nat) → List Nat
  | _, [] => []
  | i, d :: ds => bif !(L.getD i true) && d.all (fun j => L.getD j false) then i :: readyC L (i + 1) ds else readyC L (i + 1) ds
theorem mem_readyC {L : List Bool} : ∀ {ds : List (List Nat)} {k i : Nat}, i ∈ readyC L k ds ↔ k ≤ i ∧ L.getD i true = false ∧ ∃ d, ds[i - k]? = some d ∧ d.all (fun j => L.getD j false) = true
  | [], k, i => by simp [readyC]
  | d :: ds, k, i => by
    have ih := mem_readyC (L := L) (ds := ds) (k := k + 1) (i := i)
    have key : i ∈ readyC L k (d :: ds) ↔ (i = k ∧ L.getD k true = false ∧ d.all (fun j => L.getD j false) = true) ∨ i ∈ readyC L (k + 1) ds := by
      rw [show readyC L k (d :: ds) = bif !(L.getD k true) && d.all (fun j => L.getD j false) then k :: readyC L (k + 1) ds else readyC L (k + 1) ds from rfl]
      cases h : (!(L.getD k true) && d.all (fun j => L.getD j false)) with
      | true =>
        simp only [Bool.and_eq_true, Bool.not_eq_true'] at h
        simp only [cond_true, List.mem_cons]
        exact ⟨fun h' => h'.imp (fun e => ⟨e, h.1, h.2⟩) id, fun h' => h'.imp (fun e => e.1) id⟩
      | false =>
        simp only [cond_false]
        refine ⟨.inr, fun h' => h'.resolve_left fun e => ?_⟩
        rw [e.2.1, e.2.2] at h
        cases h
    rw [key, ih]
    constructor
    · rintro (⟨rfl, h1, h2⟩ | ⟨h1, h2, d', h3, h4⟩)
      · exact ⟨Nat.le_refl _, h1, d, by simp, h2⟩
      · refine ⟨by omega, h2, d', ?_, h4⟩
        rw [show i - k = (i - (k + 1)) + 1 by omega, List.getElem?_cons_succ]
        exact h3
    · rintro ⟨h1, h2, d', h3, h4⟩
      by_cases e : i = k
      · subst e
        rw [Nat.sub_self, List.getElem?_cons_zero] at h3
        obtain rfl := Option.some.inj h3
        exact .inl ⟨rfl, h2, h4⟩
      · rw [show i - k = (i - (k + 1)) + 1 by omega, List.getElem?_cons_succ] at h3
        exact .inr ⟨by omega, h2, d', h3, h4⟩
theorem ready_readyC {L : List Bool} (hd : depsOf ops = deps) {i : Nat} : i ∈ Region.ready .any ops L.toArray ↔ i ∈ readyC L 0 deps := by
  have hg : ∀ (j : Nat) (b : Bool), L.toArray.getD j b = L.getD j b := fun j b => by simp [List.getD_eq_getElem?_getD]
  rw [mem_ready, mem_readyC, ← hd]
  simp only [hg, Nat.zero_le, true_and, Nat.sub_zero, depsOf, List.getElem?_map, Array.getElem?_toList]
  constructor
  · rintro ⟨h1, o, ho, h2⟩
    refine ⟨h1, _, by rw [ho]; rfl, ?_⟩
    rw [List.all_eq_true]
    intro j hj
    obtain ⟨e, he, rfl⟩ := List.mem_map.1 hj
    obtain ⟨he1, he2⟩ := List.mem_filter.1 he
    exact h2 e (Array.mem_toList_iff.1 he1) he2
  · rintro ⟨h1, d, h2, h3⟩
    cases ho : ops[i]? with
    | none => rw [ho] at h2; cases h2
    | some o =>
      rw [ho] at h2
      obtain rfl := Option.some.inj h2
      refine ⟨h1, o, rfl, fun e he hb => ?_⟩
      exact List.all_eq_true.1 h3 _ (List.mem_map.2 ⟨e, List.mem_filter.2 ⟨Array.mem_toList_iff.2 he, hb⟩, rfl⟩)
theorem e_draw_any {id : Nat} {l : List Oper} (n : Nat) (L : List Bool) (deps : List (List Nat)) (hd : depsOf l.toArray = deps) (hn : l.toArray.size = n) (hm : P.follows .mixedOrders = true) (hL : List.replicate n false = L) (h : depsOf l.toArray = deps → E cx T B R (wpAny P .any l.toArray Q n L.toArray)) : E cx T B R ((Code.region id l.toArray true).wp P Q) := fun M V a w hr => by
  have hr1 : Rel cx T B R M V a w.drew := ⟨hr.size, hr.defers, hr.heap.step (Below.refl _ _).drew, fun t x hx => (hr.tmp t x hx).stay (hr.heap.keeps (Below.refl _ _).drew) fun _ hg => hg.mono (Nat.le_refl _)⟩
  refine wp_region_any hm ?_
  rw [hn, ← List.toArray_replicate, hL]
  exact h hd M V a w.drew hr1
def AnyE (P : Program) (cx : Cx) (T : TL) (B : BL) (R : RL) (ops : Array Oper) (Q : Exit → Act → World → Prop) (fuel : Nat) (L : List Bool) : List Nat → Prop
  | [] => True
  | i :: is => E cx T B R (wpOp P ops Q i (wpAny P .any ops Q fuel (L.set i true).toArray)) ∧ AnyE P cx T B R ops Q fuel L is
theorem AnyE.get {fuel : Nat} {L : List Bool} : ∀ {is : List Nat} (_ : AnyE P cx T B R ops Q fuel L is) {i : Nat}, i ∈ is → E cx T B R (wpOp P ops Q i (wpAny P .any ops Q fuel (L.set i true).toArray))
  | j :: is, h, i, hi => by
    rcases List.mem_cons.1 hi with rfl | hi
    · exact h.1
    · exact AnyE.get h.2 hi
  | [], _, _, hi => by cases hi
theorem e_any {fuel : Nat} {L : List Bool} (hd : depsOf ops = deps) (hne : (readyC L 0 deps).isEmpty = false) (h : AnyE P cx T B R ops Q fuel L (readyC L 0 deps)) : E cx T B R (wpAny P .any ops Q (fuel + 1) L.toArray) := fun M V a w hrel => by
  refine ⟨fun e => ?_, fun i hi => ?_⟩
  · cases hl : readyC L 0 deps with
    | nil => rw [hl] at hne; cases hne
    | cons i is =>
      have : i ∈ Region.ready .any ops L.toArray := (ready_readyC hd).2 (by rw [hl]; exact List.mem_cons_self)
      rw [e] at this
      cases this
  · have := AnyE.get h ((ready_readyC hd).1 hi)
    rw [List.setIfInBounds_toArray]
    exact this M V a w hrel
theorem e_any0 {L : List Bool} (hd : depsOf ops = deps) (hr : (readyC L 0 deps).isEmpty = true) (h : E cx T B R (Q .normal)) : E cx T B R (wpAny P .any ops Q 0 L.toArray) := fun M V a w hrel => by
  refine ⟨?_, h M V a w hrel⟩
  cases hl : Region.ready .any ops L.toArray with
  | nil => rfl
  | cons i is =>
    have : i ∈ readyC L 0 deps := (ready_readyC hd).1 (by rw [hl]; exact List.mem_cons_self)
    cases hl2 : readyC L 0 deps with
    | nil => rw [hl2] at this; cases this
    | cons j js => rw [hl2] at hr; cases hr
theorem e_opi {i : Nat} {o : Oper} {K : Act → World → Prop} (ho : ops[i]? = some o) (hl : LetsOut (Exit.then K Q) → LetsOut Q) (h : E cx T B R (wpList P ops (Exit.then K Q) [o])) : E cx T B R (wpOp P ops Q i K) := fun M V a w hrel => op_of_list ho hl (h M V a w hrel)
end
end Go.Proofs.Ytlikbiiimhfnkaa
namespace Go.Proofs.Ytlikbiiimhfnkaa
open Go.RowKit
def pickT (L : List Bool) : List (Nat × Nat × IV) → TL
  | [] => []
  | (i, s, y) :: es => bif L.getD i false then (s, y) :: pickT L es else pickT L es
def pickS (L : List Bool) : List Nat → List (Nat × Nat × Bx) → BL
  | _, [] => []
  | sn, (i, s, y) :: es => bif L.getD i false && !(sn.any fun c => Nat.beq c s) then (s, y) :: pickS L (s :: sn) es else pickS L sn es
def pickB (L : List Bool) (es : List (Nat × Nat × Bx)) : BL := pickS L [] es
def dagB (deps : List (List Nat)) (L0 full : List Bool) (reach : List (List Bool)) (steps : List (List Bool × Nat)) : Bool :=
  reach.contains L0 && reach.all fun L => bif L == full then (readyC L 0 deps).isEmpty && (L.count false == 0) else
    !(readyC L 0 deps).isEmpty && (readyC L 0 deps).all fun i => steps.contains (L, i) && reach.contains (L.set i true) && ((L.set i true).count false + 1 == L.count false)
section
variable {P : Program} {cx : Cx} {T0 : TL} {B0 : BL} {R : RL} {ops : Array Oper} {Q : Exit → Act → World → Prop} {deps : List (List Nat)} {es : List (Nat × Nat × IV)} {bs : List (Nat × Nat × Bx)}
def AllSteps (P : Program) (cx : Cx) (T0 : TL) (B0 : BL) (R : RL) (ops : Array Oper) (Q : Exit → Act → World → Prop) (es : List (Nat × Nat × IV)) (bs : List (Nat × Nat × Bx)) : List (List Bool × Nat) → Prop
  | [] => True
  | (L, i) :: r => (∀ K, E cx (T0 ++ pickT (L.set i true) es) (pickB (L.set i true) bs ++ B0) R K → E cx (T0 ++ pickT L es) (pickB L bs ++ B0) R (wpOp P ops Q i K)) ∧ AllSteps P cx T0 B0 R ops Q es bs r
theorem AllSteps.get : ∀ {st : List (List Bool × Nat)} (_ : AllSteps P cx T0 B0 R ops Q es bs st) {L : List Bool} {i : Nat}, (L, i) ∈ st → ∀ K, E cx (T0 ++ pickT (L.set i true) es) (pickB (L.set i true) bs ++ B0) R K → E cx (T0 ++ pickT L es) (pickB L bs ++ B0) R (wpOp P ops Q i K)
  | (L', j) :: r, h, L, i, hm => by
    rcases List.mem_cons.1 hm with e | hm
    · injection e with e1 e2
      subst e1 e2
      exact h.1
    · exact AllSteps.get h.2 hm
  | [], _, _, _, hm => by cases hm
theorem AnyE.of {T : TL} {B : BL} {fuel : Nat} {L : List Bool} : ∀ {is : List Nat}, (∀ i ∈ is, E cx T B R (wpOp P ops Q i (wpAny P .any ops Q fuel (L.set i true).toArray))) → AnyE P cx T B R ops Q fuel L is
  | [], _ => trivial
  | i :: is, h => ⟨h i List.mem_cons_self, AnyE.of fun j hj => h j (List.mem_cons_of_mem _ hj)⟩
theorem e_states {L0 full : List Bool} {reach : List (List Bool)} {steps : List (List Bool × Nat)} (hd : depsOf ops = deps) (hB : dagB deps L0 full reach steps = true) (hs : AllSteps P cx T0 B0 R ops Q es bs steps) (hend : E cx (T0 ++ pickT full es) (pickB full bs ++ B0) R (Q .normal)) :
    ∀ (m : Nat) (L : List Bool), L.count false = m → L ∈ reach → E cx (T0 ++ pickT L es) (pickB L bs ++ B0) R (wpAny P .any ops Q m L.toArray) := by
  simp only [dagB, Bool.and_eq_true] at hB
  have hall := List.all_eq_true.1 hB.2
  intro m
  induction m with
  | zero =>
    intro L hm hL
    have h := hall L hL
    cases hf : (L == full) with
    | true =>
      rw [hf] at h
      simp only [cond_true, Bool.and_eq_true] at h
      rw [beq_iff_eq] at hf
      subst hf
      exact e_any0 hd h.1 hend
    | false =>
      rw [hf] at h
      simp only [cond_false, Bool.and_eq_true] at h
      cases hr : readyC L 0 deps with
      | nil => rw [hr] at h; exact absurd h.1 (by decide)
      | cons i is =>
        have h2 := List.all_eq_true.1 h.2 i (by rw [hr]; exact List.mem_cons_self)
        simp only [Bool.and_eq_true, beq_iff_eq] at h2
        omega
  | succ m ih =>
    intro L hm hL
    have h := hall L hL
    cases hf : (L == full) with
    | true =>
      rw [hf] at h
      simp only [cond_true, Bool.and_eq_true, beq_iff_eq] at h
      omega
    | false =>
      rw [hf] at h
      simp only [cond_false, Bool.and_eq_true, Bool.not_eq_true'] at h
      refine e_any hd h.1 (AnyE.of fun i hi => ?_)
      have h2 := List.all_eq_true.1 h.2 i hi
      simp only [Bool.and_eq_true, beq_iff_eq, List.contains_iff_mem] at h2
      exact hs.get h2.1.1 _ (ih _ (by omega) h2.1.2)
theorem e_subK {T T' : TL} {B B' : BL} {K : Act → World → Prop} (hK : E cx T' B' [] K) (hT : SubT T T') (hB : SubB B B') : E cx T B [] K := e_sub (R' := []) hT hB trivial hK
theorem e_draw_st {id : Nat} {l : List Oper} (n : Nat) (deps : List (List Nat)) (reach : List (List Bool)) (steps : List (List Bool × Nat)) (es : List (Nat × Nat × IV)) (bs : List (Nat × Nat × Bx)) {T : TL} {B : BL} (T0 : TL) (B0 : BL) (hd : depsOf l.toArray = deps) (hn : l.toArray.size = n) (hm : P.follows .mixedOrders = true) (hB : dagB deps (List.replicate n false) (List.replicate n true) reach steps = true) (hc : (List.replicate n false).count false = n)
    (h0 : ∀ K, E cx (T0 ++ pickT (List.replicate n false) es) (pickB (List.replicate n false) bs ++ B0) R K → E cx T B R K) (hs : AllSteps P cx T0 B0 R l.toArray Q es bs steps) (hend : E cx (T0 ++ pickT (List.replicate n true) es) (pickB (List.replicate n true) bs ++ B0) R (Q .normal)) : E cx T B R ((Code.region id l.toArray true).wp P Q) := by
  refine e_draw_any n _ deps hd hn hm rfl fun _ => h0 _ ?_
  refine e_states hd hB hs hend n _ hc ?_
  simp only [dagB, Bool.and_eq_true, List.contains_iff_mem] at hB
  exact hB.1
end
end Go.Proofs.Ytlikbiiimhfnkaa
namespace Go.Proofs.Ytlikbiiimhfnkaa
open Go.RowKit
abbrev xB (t : TypeId) (v : Vl) : Bx := ⟨t, bcs (vd v)⟩
end Go.Proofs.Ytlikbiiimhfnkaa
namespace Go.Proofs.Ytlikbiiimhfnkaa
open Go
def wgo (n : Int) (x : Vl) : Bool → List (Int × Vl) → List (Int × Vl)
  | d, [] => if d then [] else [(n, x)]
  | d, f :: fs => if d = false ∧ n ≤ f.1 then (n, x) :: (if f.1 = n then wgo n x true fs else f :: wgo n x true fs) else if f.1 = n then wgo n x d fs else f :: wgo n x d fs
theorem wgo_fold (n : Int) (x : Vl) : ∀ (fs : List (Int × Vl)) (d : Bool) (acc : List (Int × Vl)),
    (if (fs.foldl (fun s f => wtwo n (wone n x s f) f) (d, acc)).1 then (fs.foldl (fun s f => wtwo n (wone n x s f) f) (d, acc)).2 else (fs.foldl (fun s f => wtwo n (wone n x s f) f) (d, acc)).2 ++ [(n, x)]) = acc ++ wgo n x d fs
  | [], d, acc => by cases d <;> simp [wgo]
  | f :: fs, d, acc => by
    rw [List.foldl_cons, wgo]
    by_cases h : d = false ∧ n ≤ f.1
    · have e : wone n x (d, acc) f = (true, acc ++ [(n, x)]) := if_pos h
      rw [e, if_pos h]
      by_cases h2 : f.1 = n
      · rw [show wtwo n (true, acc ++ [(n, x)]) f = (true, acc ++ [(n, x)]) from if_pos h2, if_pos h2, wgo_fold n x fs]
        simp
      · rw [show wtwo n (true, acc ++ [(n, x)]) f = (true, acc ++ [(n, x)] ++ [f]) from if_neg h2, if_neg h2, wgo_fold n x fs]
        simp
    · have e : wone n x (d, acc) f = (d, acc) := if_neg h
      rw [e, if_neg h]
      by_cases h2 : f.1 = n
      · rw [show wtwo n (d, acc) f = (d, acc) from if_pos h2, if_pos h2, wgo_fold n x fs]
      · rw [show wtwo n (d, acc) f = (d, acc ++ [f]) from if_neg h2, if_neg h2, wgo_fold n x fs]
        simp
theorem wfields_go (n : Int) (x : Vl) (fs : List (Int × Vl)) : wfields n x fs = wgo n x (decide (x.kind = 0)) fs := by
  have h := wgo_fold n x fs (decide (x.kind = 0)) []
  rw [List.nil_append] at h
  exact h
theorem fright_iff (p : Int) (f : Int × Vl) (fs : List (Int × Vl)) : fright p (f :: fs) = true ↔ 1 ≤ f.1 ∧ f.1 ≤ 536870911 ∧ p < f.1 ∧ f.2.kind ≠ 0 ∧ vright f.2 = true ∧ fright f.1 fs = true := by
  obtain ⟨n, x⟩ := f
  rw [fright]
  simp only [Bool.and_eq_true, decide_eq_true_eq, and_assoc]
theorem fright_low {p q : Int} (h : q ≤ p) : ∀ {fs : List (Int × Vl)}, fright p fs = true → fright q fs = true
  | [], _ => rfl
  | f :: fs, k => by
    rw [fright_iff] at k ⊢
    exact ⟨k.1, k.2.1, by omega, k.2.2.2⟩
theorem wgo_true (n : Int) (x : Vl) : ∀ (fs : List (Int × Vl)) (p : Int), fright p fs = true → fright p (wgo n x true fs) = true
  | [], _, _ => rfl
  | f :: fs, p, h => by
    rw [fright_iff] at h
    obtain ⟨h1, h2, h3, h4, h5, h6⟩ := h
    have ih := wgo_true n x fs f.1 h6
    rw [wgo, if_neg (by simp)]
    split
    · exact fright_low (by omega) ih
    · rw [fright_iff]
      exact ⟨h1, h2, h3, h4, h5, ih⟩
theorem wgo_false {n : Int} {x : Vl} (hn : 1 ≤ n) (hm : n ≤ 536870911) (hk : x.kind ≠ 0) (hx : vright x = true) : ∀ (fs : List (Int × Vl)) (p : Int), p < n → fright p fs = true → fright p (wgo n x false fs) = true
  | [], p, hp, _ => by
    rw [wgo, if_neg (by simp), fright_iff]
    exact ⟨hn, hm, hp, hk, hx, rfl⟩
  | f :: fs, p, hp, h => by
    rw [fright_iff] at h
    obtain ⟨h1, h2, h3, h4, h5, h6⟩ := h
    rw [wgo]
    by_cases h7 : n ≤ f.1
    · rw [if_pos ⟨rfl, h7⟩, fright_iff]
      refine ⟨hn, hm, hp, hk, hx, ?_⟩
      dsimp only
      have ih := wgo_true n x fs f.1 h6
      split
      · rename_i h8
        rw [h8] at ih
        exact ih
      · rename_i h8
        rw [fright_iff]
        exact ⟨h1, h2, by omega, h4, h5, ih⟩
    · rw [if_neg fun hc => h7 hc.2, if_neg (by omega), fright_iff]
      exact ⟨h1, h2, h3, h4, h5, wgo_false hn hm hk hx fs f.1 (by omega) h6⟩
theorem wgo_mem {n : Int} {x : Vl} {g : Int × Vl} : ∀ {d : Bool} {fs : List (Int × Vl)}, g ∈ wgo n x d fs → g ∈ fs ∨ g = (n, x)
  | d, [], h => by
    rw [wgo] at h
    split at h
    · cases h
    · exact .inr (by simpa using h)
  | d, f :: fs, h => by
    have up : g ∈ fs ∨ g = (n, x) → g ∈ f :: fs ∨ g = (n, x) := fun h => h.imp (List.mem_cons_of_mem _) id
    rw [wgo] at h
    split at h
    · rcases List.mem_cons.1 h with h | h
      · exact .inr h
      · split at h
        · exact up (wgo_mem h)
        · rcases List.mem_cons.1 h with h | h
          · exact .inl (h ▸ List.mem_cons_self)
          · exact up (wgo_mem h)
    · split at h
      · exact up (wgo_mem h)
      · rcases List.mem_cons.1 h with h | h
        · exact .inl (h ▸ List.mem_cons_self)
        · exact up (wgo_mem h)
theorem fnodes_cons (f : Int × Vl) (fs : List (Int × Vl)) : fnodes (f :: fs) = vnodes f.2 + fnodes fs := by
  obtain ⟨n, x⟩ := f
  rw [fnodes]
theorem wgo_nodes (n : Int) (x : Vl) : ∀ (d : Bool) (fs : List (Int × Vl)), fnodes (wgo n x d fs) ≤ fnodes fs + (if d then 0 else vnodes x)
  | d, [] => by cases d <;> simp [wgo, fnodes]
  | d, f :: fs => by
    have h1 := wgo_nodes n x true fs
    have h2 := wgo_nodes n x d fs
    rw [if_pos rfl] at h1
    rw [wgo, fnodes_cons f fs]
    split
    · rename_i h
      obtain ⟨rfl, _⟩ := h
      rw [if_neg Bool.false_ne_true, fnodes_cons]
      dsimp only
      split
      · omega
      · rw [fnodes_cons]; omega
    · split
      · omega
      · rw [fnodes_cons]; omega
theorem wgo_len (n : Int) (x : Vl) (d : Bool) (fs : List (Int × Vl)) : (wgo n x d fs).length ≤ fnodes fs + vnodes x := by
  have h1 := wgo_nodes n x d fs
  have h2 := fnodes_len (wgo n x d fs)
  split at h1 <;> omega
theorem wgo_find {n : Int} {x : Vl} : ∀ (fs : List (Int × Vl)), (wgo n x false fs).find? (fun f => f.1 == n) = some (n, x)
  | [] => by simp [wgo]
  | f :: fs => by
    rw [wgo]
    by_cases h : n ≤ f.1
    · rw [if_pos ⟨rfl, h⟩, List.find?_cons]
      simp
    · rw [if_neg fun hc => h hc.2, if_neg (by omega), List.find?_cons, show (f.1 == n) = false by simp; omega]
      exact wgo_find fs
theorem wgo_none {n : Int} {x : Vl} : ∀ (fs : List (Int × Vl)), (wgo n x true fs).find? (fun f => f.1 == n) = none
  | [] => by simp [wgo]
  | f :: fs => by
    rw [wgo, if_neg (by simp)]
    split
    · exact wgo_none fs
    · rename_i h
      rw [List.find?_cons, show (f.1 == n) = false by simpa using h]
      exact wgo_none fs
theorem right_none {x : Vl} (h : vright x = true) (hk : x.kind = 0) : x = .zero := by
  rw [vright_eq] at h
  simp only [Bool.and_eq_true] at h
  have h1 := (vplain_iff x).1 h.1.1.1
  obtain ⟨k, n, t, fs, r, ls, ps⟩ := x
  simp only [Vl.kind_mk, Vl.num_mk, Vl.text_mk, Vl.fields_mk, Vl.rest_mk, Vl.list_mk, Vl.pairs_mk] at h1 hk
  subst hk
  obtain ⟨_, _, h2, h3, h4, h5, h6⟩ := h1
  have e1 := h2 (by decide)
  have e2 := h3 (by decide)
  have e3 := h4 (by decide)
  have e4 : ls = [] := by
    rcases ls with _ | ⟨a, l⟩
    · rfl
    · exact absurd (h5.2 (by simp)) (by decide)
  have e5 : ps = [] := by
    rcases ps with _ | ⟨a, l⟩
    · rfl
    · exact absurd (h6.2 (by simp)) (by decide)
  rw [e1, e2, e3.1, e3.2, e4, e5]
  rfl
theorem with_right {v x : Vl} (n : Int) (hv : vright v = true) (hx : vright x = true) : vright (vwith v n x) = true := by
  unfold vwith
  split
  · rename_i h
    rw [vright_eq] at hv ⊢
    simp only [Bool.and_eq_true] at hv ⊢
    simp only [Vl.fields_mk, Vl.list_mk, Vl.pairs_mk]
    refine ⟨⟨⟨?_, ?_⟩, rfl⟩, by simp [pright]⟩
    · rw [vplain_iff]
      simp [Vl.kind_mk, Vl.num_mk, Vl.text_mk, Vl.fields_mk, Vl.rest_mk, Vl.list_mk, Vl.pairs_mk]
    · rw [wfields_go]
      by_cases hk : x.kind = 0
      · rw [decide_eq_true hk]
        exact wgo_true n x _ _ hv.1.1.2
      · rw [decide_eq_false hk]
        exact wgo_false h.2.1 h.2.2 hk hx _ _ (by omega) hv.1.1.2
  · exact hv
theorem with_get {v x : Vl} {n : Int} (hx : vright x = true) (hk : v.kind = 3) (h1 : 1 ≤ n) (h2 : n ≤ 536870911) : vget (vwith v n x) n = x := by
  unfold vwith
  rw [if_pos ⟨hk, h1, h2⟩]
  unfold vget
  rw [Vl.kind_mk, if_pos rfl, Vl.fields_mk, wfields_go]
  by_cases h0 : x.kind = 0
  · rw [decide_eq_true h0, wgo_none, right_none hx h0]
    rfl
  · rw [decide_eq_false h0, wgo_find]
    rfl
theorem with_nodes (v x : Vl) (n : Int) : vnodes (vwith v n x) ≤ vnodes v + vnodes x := by
  unfold vwith
  split
  · rw [vnodes_eq, vnodes_eq v, Vl.fields_mk, Vl.list_mk, Vl.pairs_mk, wfields_go, lnodes, pnodes]
    have h := wgo_nodes n x (decide (x.kind = 0)) v.fields
    split at h <;> omega
  · omega
theorem with_fine {v x : Vl} (n : Int) (hv : v.Fine) (hx : x.Fine) (hn : vnodes v + vnodes x ≤ 1000000) : (vwith v n x).Fine := by
  unfold vwith
  split
  · rename_i h
    have hb := hv.bounds
    have hl := wgo_len n x (decide (x.kind = 0)) v.fields
    have hn2 := vnodes_eq v
    rw [wfields_go]
    refine .mk _ (by simp [Vl.kind_mk]) (by simp [Vl.kind_mk]) (by simp [Vl.num_mk]) (Nat.zero_le _) hb.2.2.1 ?_ (Nat.zero_le _) (Nat.zero_le _) (fun f hf => ?_) (fun f hf => ?_) (fun _ h => by cases h) (fun _ h => by cases h) (fun _ h => by cases h)
    · have : (1000000 : Nat) ≤ maxLen := by decide
      rw [Vl.fields_mk]
      omega
    · rcases wgo_mem hf with h4 | h4
      · exact (hv.field h4).1
      · rw [h4]; dsimp only; omega
    · rcases wgo_mem hf with h4 | h4
      · exact (hv.field h4).2
      · rw [h4]; exact hx
  · exact hv
theorem tx_field {v : Vl} (h : v.Tx) {f : Int × Vl} (hf : f ∈ v.fields) : f.2.Tx := h.kid (kids_mem.2 (gkids_field hf))
theorem with_tx {v x : Vl} (n : Int) (hv : v.Tx) (hx : x.Tx) : (vwith v n x).Tx := by
  unfold vwith
  split
  · rw [wfields_go]
    refine .mk _ (Nat.zero_le _) hv.texts.2 fun y hy => ?_
    unfold rkids at hy
    simp only [Vl.list_mk, Vl.fields_mk, Vl.pairs_mk, List.nil_append, gpairs, List.flatMap_nil, List.append_nil] at hy
    obtain ⟨f, hf, rfl⟩ := List.mem_map.1 hy
    rcases wgo_mem hf with h4 | h4
    · exact tx_field hv h4
    · rw [h4]; exact hx
  · exact hv
theorem with_good {v x : Vl} (n : Int) (hv : v.Good) (hx : x.Good) (hn : vnodes v + vnodes x ≤ 1000) : (vwith v n x).Good :=
  ⟨with_fine n hv.fine hx.fine (by omega), with_tx n hv.tx hx.tx, Nat.le_trans (with_nodes v x n) hn⟩
end Go.Proofs.Ytlikbiiimhfnkaa
namespace Go.Proofs.Ytlikbiiimhfnkaa
open Go.RowKit
theorem nor {a b : Bool} (h : (!(a || b)) = true) : a = false ∧ b = false := by cases a <;> cases b <;> simp_all
theorem nor2 {a b : Bool} (h : (a || b) = false) : a = false ∧ b = false := by cases a <;> cases b <;> simp_all
theorem good_get {v : Vl} (n : Int) (h : v.Good) : (vget v n).Good := by
  have h0 : Vl.zero.Good := good_zero 0 0 (by decide) (by decide) (by decide)
  unfold vget
  split
  · cases hf : v.fields.find? fun f => f.1 == n with
    | none => exact h0
    | some f =>
      have hm := List.mem_of_find?_eq_some hf
      have hn := lnodes_mem (gkids_field hm)
      have hg := gnodes v
      have hv := h.nodes
      exact ⟨(h.fine.field hm).2, tx_field h.tx hm, show vnodes f.2 ≤ 1000 by omega⟩
  · exact h0
set_option maxRecDepth 100000 in
set_option maxHeartbeats 4000000 in
theorem fields_ef (hP : ProgE) (v x : Vl) (n : Int) (hv : v.Fine) (hx : x.Fine) : EF Try.prog [] 5 [.many (vd v), iP n, .many (vd x)] (.part (tP true)) := by
  refine ef_enter 83 Try.func5 rfl rfl rfl fun w D => ?_
  try refine e_fl ?_
  refine e_list ?_
  refine e_box 3 rfl rfl rfl rfl (kn rfl) rfl rfl rfl rfl ?_
  refine e_box 5 rfl rfl rfl rfl (kn rfl) rfl rfl rfl rfl ?_
  refine l_as ?_
  refine e_nil ?_
  try refine e_fl ?_
  refine e_plain (w_op rfl rfl rfl (s_call rfl (by kernel_rfl) (alive_ef hP) trivial) (w_op rfl rfl rfl (s_not rfl (kn rfl)) .nil)) ?_
  try refine e_fl ?_
  refine c_no ?_
  try refine e_fl ?_
  refine e_plain (w_op rfl rfl rfl (s_loadn_box (ds := [_, _, _, _, _, _, _]) 7 rfl (kn rfl) rfl rfl agg_27 sz_27 rfl) (w_op rfl rfl rfl (s_call rfl (by kernel_rfl) (big_ef v 100 hv (by decide) (by decide)) ⟨(kn rfl), ⟨(kn rfl), trivial⟩⟩) (w_mv rfl rfl rfl rfl rfl (Walk.gd _ rfl rfl rfl (fun h => s_loadn_box (ds := [_, _, _, _, _, _, _]) 7 rfl (kn rfl) rfl rfl agg_27 sz_27 rfl) (Walk.gd _ rfl rfl rfl (fun h => s_call rfl (by kernel_rfl) (big_ef x 100 hx (by decide) (by decide)) ⟨(kn_opt rfl h), ⟨(kn rfl), trivial⟩⟩) (w_op rfl rfl rfl (s_or rfl (kn rfl) (fun hb => kn_opt rfl hb)) (w_mv rfl rfl rfl rfl rfl (Walk.gd _ rfl rfl rfl (fun h => s_loadn_box (ds := [_, _, _, _, _, _, _]) 7 rfl (kn rfl) rfl rfl agg_27 sz_27 rfl) (Walk.gd _ rfl rfl rfl (fun h => s_call rfl (by kernel_rfl) (hP.right v (good_of hv (by decide) (by decide) (nor h).1)) ⟨(kn_opt rfl h), trivial⟩) (Walk.gd _ rfl rfl rfl (fun h => s_not rfl (kn_opt rfl h)) (w_op rfl rfl rfl (s_or rfl (kn rfl) (fun hb => kn_opt rfl hb)) (w_mv rfl rfl rfl rfl rfl (Walk.gd _ rfl rfl rfl (fun h => s_loadn_box (ds := [_, _, _, _, _, _, _]) 7 rfl (kn rfl) rfl rfl agg_27 sz_27 rfl) (Walk.gd _ rfl rfl rfl (fun h => s_call rfl (by kernel_rfl) (hP.right x (good_of hx (by decide) (by decide) (nor2 (nor h).1).2)) ⟨(kn_opt rfl h), trivial⟩) (Walk.gd _ rfl rfl rfl (fun h => s_not rfl (kn_opt rfl h)) (w_op rfl rfl rfl (s_or rfl (kn rfl) (fun hb => kn_opt rfl hb)) .nil)))))))))))))))) ?_
  try refine e_fl ?_
  refine e_cond rfl (fun h => ?_) (fun h => ?_)
  · try refine e_fl ?_
    refine e_plain (w_as rfl rfl rfl rfl rfl .nil) ?_
    try refine e_fl ?_
    exact e_return rfl rfl (.tmp (kn rfl) (.nil)) (Imp.of_eq rfl) rfl
  simp only [Bool.or_eq_false_iff, Bool.not_eq_false'] at h
  obtain ⟨⟨⟨g1, g2⟩, g3⟩, g4⟩ := h
  have qv := good_of hv (by decide) (by decide) g1
  have qx := good_of hx (by decide) (by decide) g2
  have nv := (vbig_no (by decide) g1).1
  have nx := (vbig_no (by decide) g2).1
  have qw := with_good n qv qx (by omega)
  have hvl : v.fields.length ≤ 1000000 := by have := fnodes_len v.fields; have := vnodes_eq v; omega
  have ov := of_ef v (by omega)
  have ox := of_ef x (by omega)
  have ow := of_ef (vwith v n x) (by have := qw.nodes; omega)
  have og := of_ef (vget v n) (by have := (good_get n qv).nodes; omega)
  have rw_ := with_right n g3 g4
  have wx := with_ef v x n hvl
  clear g1 g2
  try refine e_fl ?_
  refine e_list ?_
  refine l_op (s_loadn_box (ds := [_, _, _, _, _, _, _]) 7 rfl (kn rfl) rfl rfl agg_27 sz_27 rfl) ?_
  refine l_op (s_call rfl (by kernel_rfl) (ov) ⟨(kn rfl), trivial⟩) ?_
  refine e_alloc 7 [.is (.int .i64 0), .is (.int .u64 0), .is (.string ⟨#[]⟩), .is (.slice none 0 0), .is (.string ⟨#[]⟩), .is (.slice none 0 0), .is (.slice none 0 0)] rfl rfl rfl rfl zr_34 (fun w D M V => ⟨rfl, fun j x v h1 h2 => cfit_is _ h1 h2 rfl⟩) rfl rfl rfl rfl ?_
  refine e_storew rfl rfl rfl (kn rfl) rfl (kn rfl) rfl rfl sz_34 ?_
  refine e_nil ?_
  try refine e_fl ?_
  refine e_list ?_
  refine l_op (s_loadn_box (ds := [_, _, _, _, _, _, _]) 7 rfl (kn rfl) rfl rfl agg_27 sz_27 rfl) ?_
  refine l_mv ?_
  refine l_op (s_loadn_box (ds := [_, _, _, _, _, _, _]) 7 rfl (kn rfl) rfl rfl agg_27 sz_27 rfl) ?_
  refine l_op (s_call rfl (by kernel_rfl) (hP.with_ v n x qv qx g3) ⟨(kn rfl), ⟨(kn rfl), ⟨(kn rfl), trivial⟩⟩⟩) ?_
  refine e_alloc 8 [.is (.int .i64 0), .is (.int .u64 0), .is (.string ⟨#[]⟩), .is (.slice none 0 0), .is (.string ⟨#[]⟩), .is (.slice none 0 0), .is (.slice none 0 0)] rfl rfl rfl rfl zr_27 (fun w D M V => ⟨rfl, fun j x v h1 h2 => cfit_is _ h1 h2 rfl⟩) rfl rfl rfl rfl ?_
  refine e_storew rfl rfl rfl (kn rfl) rfl (kn rfl) rfl rfl sz_27 ?_
  refine e_nil ?_
  try refine e_fl ?_
  refine e_sub (T' := [(1, .is (.int .i64 n)), (3, .box 3 0), (5, .box 5 0), (7, .box 7 0), (8, .box 8 0)]) (B' := [(3, xB 27 v), (5, xB 27 x), (7, xB 34 v), (8, xB 27 (vwith v n x))]) (R' := []) ⟨s_t, s_t, s_t, s_t, s_t, trivial⟩ ⟨s_b, s_b, s_b, s_b, trivial⟩ trivial ?_
  refine e_draw_st 7 [[], [], [], [2], [0, 1, 3, 3], [], [5, 4, 4, 0, 1, 2, 3, 4, 5]] [[false, false, false, false, false, false, false], [true, false, false, false, false, false, false], [false, true, false, false, false, false, false], [false, false, true, false, false, false, false], [false, false, false, false, false, true, false], [true, true, false, false, false, false, false], [true, false, true, false, false, false, false], [true, false, false, false, false, true, false], [false, true, true, false, false, false, false], [false, true, false, false, false, true, false], [false, false, true, true, false, false, false], [false, false, true, false, false, true, false], [true, true, true, false, false, false, false], [true, true, false, false, false, true, false], [true, false, true, true, false, false, false], [true, false, true, false, false, true, false], [false, true, true, true, false, false, false], [false, true, true, false, false, true, false], [false, false, true, true, false, true, false], [true, true, true, true, false, false, false], [true, true, true, false, false, true, false], [true, false, true, true, false, true, false], [false, true, true, true, false, true, false], [true, true, true, true, true, false, false], [true, true, true, true, false, true, false], [true, true, true, true, true, true, false], [true, true, true, true, true, true, true]] [([false, false, false, false, false, false, false], 0), ([false, false, false, false, false, false, false], 1), ([false, false, false, false, false, false, false], 2), ([false, false, false, false, false, false, false], 5), ([true, false, false, false, false, false, false], 1), ([true, false, false, false, false, false, false], 2), ([true, false, false, false, false, false, false], 5), ([false, true, false, false, false, false, false], 0), ([false, true, false, false, false, false, false], 2), ([false, true, false, false, false, false, false], 5), ([false, false, true, false, false, false, false], 0), ([false, false, true, false, false, false, false], 1), ([false, false, true, false, false, false, false], 3), ([false, false, true, false, false, false, false], 5), ([false, false, false, false, false, true, false], 0), ([false, false, false, false, false, true, false], 1), ([false, false, false, false, false, true, false], 2), ([true, true, false, false, false, false, false], 2), ([true, true, false, false, false, false, false], 5), ([true, false, true, false, false, false, false], 1), ([true, false, true, false, false, false, false], 3), ([true, false, true, false, false, false, false], 5), ([true, false, false, false, false, true, false], 1), ([true, false, false, false, false, true, false], 2), ([false, true, true, false, false, false, false], 0), ([false, true, true, false, false, false, false], 3), ([false, true, true, false, false, false, false], 5), ([false, true, false, false, false, true, false], 0), ([false, true, false, false, false, true, false], 2), ([false, false, true, true, false, false, false], 0), ([false, false, true, true, false, false, false], 1), ([false, false, true, true, false, false, false], 5), ([false, false, true, false, false, true, false], 0), ([false, false, true, false, false, true, false], 1), ([false, false, true, false, false, true, false], 3), ([true, true, true, false, false, false, false], 3), ([true, true, true, false, false, false, false], 5), ([true, true, false, false, false, true, false], 2), ([true, false, true, true, false, false, false], 1), ([true, false, true, true, false, false, false], 5), ([true, false, true, false, false, true, false], 1), ([true, false, true, false, false, true, false], 3), ([false, true, true, true, false, false, false], 0), ([false, true, true, true, false, false, false], 5), ([false, true, true, false, false, true, false], 0), ([false, true, true, false, false, true, false], 3), ([false, false, true, true, false, true, false], 0), ([false, false, true, true, false, true, false], 1), ([true, true, true, true, false, false, false], 4), ([true, true, true, true, false, false, false], 5), ([true, true, true, false, false, true, false], 3), ([true, false, true, true, false, true, false], 1), ([false, true, true, true, false, true, false], 0), ([true, true, true, true, true, false, false], 5), ([true, true, true, true, false, true, false], 4), ([true, true, true, true, true, true, false], 6)] [(0, 34, .part (.many (vd v))), (1, 35, .is (.int .i64 n)), (2, 36, .part (.many (vd x))), (3, 37, .part (.many (vd x))), (4, 38, .part (.many (vd (vwith v n x)))), (5, 9, .box 9 0)] [(6, 9, xB 34 (vwith v n x)), (5, 9, ⟨34, zB⟩)] [(1, .is (.int .i64 n)), (3, .box 3 0), (5, .box 5 0), (7, .box 7 0), (8, .box 8 0)] [(3, xB 27 v), (5, xB 27 x), (7, xB 34 v), (8, xB 27 (vwith v n x))] (by kernel_rfl) rfl mixed (by kernel_rfl) (by decide) (fun K h => h) ?_ ?_
  · repeat' first
      | exact trivial
      | refine And.intro ?_ ?_
    all_goals
      intro K hK
      first
        | (refine e_opi (i := 0) rfl (fun h => h) ?_; refine l_op (s_loadn_box (ds := [_, _, _, _, _, _, _]) 7 rfl (kn rfl) rfl rfl agg_34 sz_34 rfl) ?_; refine e_nil ?_; refine e_fl ?_; exact e_subK hK (by repeat' first | exact trivial | refine And.intro s_t ?_) (by repeat' first | exact trivial | refine And.intro s_b ?_))
        | (refine e_opi (i := 1) rfl (fun h => h) ?_; refine l_mv ?_; refine e_nil ?_; refine e_fl ?_; exact e_subK hK (by repeat' first | exact trivial | refine And.intro s_t ?_) (by repeat' first | exact trivial | refine And.intro s_b ?_))
        | (refine e_opi (i := 2) rfl (fun h => h) ?_; refine l_op (s_loadn_box (ds := [_, _, _, _, _, _, _]) 7 rfl (kn rfl) rfl rfl agg_27 sz_27 rfl) ?_; refine e_nil ?_; refine e_fl ?_; exact e_subK hK (by repeat' first | exact trivial | refine And.intro s_t ?_) (by repeat' first | exact trivial | refine And.intro s_b ?_))
        | (refine e_opi (i := 3) rfl (fun h => h) ?_; refine l_op (s_call rfl (by kernel_rfl) (ox) ⟨(kn rfl), trivial⟩) ?_; refine e_nil ?_; refine e_fl ?_; exact e_subK hK (by repeat' first | exact trivial | refine And.intro s_t ?_) (by repeat' first | exact trivial | refine And.intro s_b ?_))
        | (refine e_opi (i := 4) rfl (fun h => h) ?_; refine l_op (s_call rfl (by kernel_rfl) (wx) ⟨(kn rfl), ⟨(kn rfl), ⟨(kn rfl), trivial⟩⟩⟩) ?_; refine e_nil ?_; refine e_fl ?_; exact e_subK hK (by repeat' first | exact trivial | refine And.intro s_t ?_) (by repeat' first | exact trivial | refine And.intro s_b ?_))
        | (refine e_opi (i := 5) rfl (fun h => h) ?_; refine e_alloc 9 [.is (.int .i64 0), .is (.int .u64 0), .is (.string ⟨#[]⟩), .is (.slice none 0 0), .is (.string ⟨#[]⟩), .is (.slice none 0 0), .is (.slice none 0 0)] rfl rfl rfl rfl zr_34 (fun w D M V => ⟨rfl, fun j x v h1 h2 => cfit_is _ h1 h2 rfl⟩) rfl rfl rfl rfl ?_; refine e_nil ?_; refine e_fl ?_; exact e_subK hK (by repeat' first | exact trivial | refine And.intro s_t ?_) (by repeat' first | exact trivial | refine And.intro s_b ?_))
        | (refine e_opi (i := 6) rfl (fun h => h) ?_; refine e_storew rfl rfl rfl (kn rfl) rfl (kn rfl) rfl rfl sz_34 ?_; refine e_nil ?_; refine e_fl ?_; exact e_subK hK (by repeat' first | exact trivial | refine And.intro s_t ?_) (by repeat' first | exact trivial | refine And.intro s_b ?_))
  try refine e_fl ?_
  refine e_draw mixed (by kernel_rfl) (w_op rfl rfl rfl (s_loadn_box (ds := [_, _, _, _, _, _, _]) 7 rfl (kn rfl) rfl rfl agg_27 sz_27 rfl) (w_op rfl rfl rfl (s_call rfl (by kernel_rfl) (ow) ⟨(kn rfl), trivial⟩) (w_op rfl rfl rfl (s_loadn_box (ds := [_, _, _, _, _, _, _]) 7 rfl (kn rfl) rfl rfl agg_34 sz_34 rfl) (w_op rfl rfl rfl (s_call rfl (by kernel_rfl) (same_ef (vwith v n x) (vwith v n x) qw.fine qw.fine) ⟨(kn rfl), ⟨(kn rfl), trivial⟩⟩) (w_op rfl rfl rfl (s_not rfl (kn rfl)) (w_mv rfl rfl rfl rfl rfl (Walk.gd _ rfl rfl rfl (fun h => s_loadn_box (ds := [_, _, _, _, _, _, _]) 7 rfl (kn rfl) rfl rfl agg_27 sz_27 rfl) (Walk.gd _ rfl rfl rfl (fun h => s_call rfl (by kernel_rfl) (hP.right (vwith v n x) qw) ⟨(kn_opt rfl h), trivial⟩) (Walk.gd _ rfl rfl rfl (fun h => s_not rfl (kn_opt rfl h)) (w_op rfl rfl rfl (s_or rfl (kn rfl) (fun hb => kn_opt rfl hb)) (w_mv rfl rfl rfl rfl rfl (Walk.gd _ rfl rfl rfl (fun h => s_loadn_box (ds := [_, _, _, _, _, _, _]) 7 rfl (kn rfl) rfl rfl agg_27 sz_27 rfl) (Walk.gd _ rfl rfl rfl (fun h => s_move rfl (kn rfl)) (Walk.gd _ rfl rfl rfl (fun h => s_call rfl (by kernel_rfl) (hP.get v n qv g3) ⟨(kn_opt rfl h), ⟨(kn_opt rfl h), trivial⟩⟩) (Walk.gd _ rfl rfl rfl (fun h => s_call rfl (by kernel_rfl) (og) ⟨(kn_opt rfl h), trivial⟩) (Walk.gd _ rfl rfl rfl (fun h => s_loadn_box (ds := [_, _, _, _, _, _, _]) 7 rfl (kn rfl) rfl rfl agg_34 sz_34 rfl) (Walk.gd _ rfl rfl rfl (fun h => s_move rfl (kn rfl)) (Walk.gd _ rfl rfl rfl (fun h => s_call rfl (by kernel_rfl) (get_ef v n hv) ⟨(kn_opt rfl h), ⟨(kn_opt rfl h), trivial⟩⟩) (Walk.gd _ rfl rfl rfl (fun h => s_call rfl (by kernel_rfl) (same_ef (vget v n) (vget v n) (good_get n qv).fine (good_get n qv).fine) ⟨(kn_opt rfl h), ⟨(kn_opt rfl h), trivial⟩⟩) (Walk.gd _ rfl rfl rfl (fun h => s_not rfl (kn_opt rfl h)) (w_op rfl rfl rfl (s_or rfl (kn rfl) (fun hb => kn_opt rfl hb)) .nil))))))))))))))))))))) ?_
  try refine e_fl ?_
  refine e_cond rfl (fun h => ?_) (fun _ => ?_)
  · rw [vcmp_self, vcmp_self, rw_] at h
    cases h
  try refine e_fl ?_
  refine e_draw mixed (by kernel_rfl) (w_op rfl rfl rfl (s_faddr_box rfl (kn rfl) off_27_0) (w_op rfl rfl rfl (s_load1_box rfl (kn rfl) rfl rfl one_3) (w_op rfl rfl rfl (s_bin rfl (kn rfl) (kn rfl) v_eql) (w_mv rfl rfl rfl rfl rfl (Walk.gd _ rfl rfl rfl (fun h => s_move rfl (kn rfl)) (Walk.gd _ rfl rfl rfl (fun h => s_bin rfl (kn_opt rfl h) (kn rfl) v_geq) (w_op rfl rfl rfl (s_and rfl (kn rfl) (fun hb => kn_opt rfl hb)) (w_mv rfl rfl rfl rfl rfl (Walk.gd _ rfl rfl rfl (fun h => s_move rfl (kn rfl)) (Walk.gd _ rfl rfl rfl (fun h => s_bin rfl (kn_opt rfl h) (kn rfl) v_lss) (w_op rfl rfl rfl (s_and rfl (kn rfl) (fun hb => kn_opt rfl hb)) (w_mv rfl rfl rfl rfl rfl (Walk.gd _ rfl rfl rfl (fun h => s_loadn_box (ds := [_, _, _, _, _, _, _]) 7 rfl (kn rfl) rfl rfl agg_27 sz_27 rfl) (Walk.gd _ rfl rfl rfl (fun h => s_move rfl (kn rfl)) (Walk.gd _ rfl rfl rfl (fun h => s_call rfl (by kernel_rfl) (hP.get (vwith v n x) n qw rw_) ⟨(kn_opt rfl h), ⟨(kn_opt rfl h), trivial⟩⟩) (Walk.gd _ rfl rfl rfl (fun h => s_loadn_box (ds := [_, _, _, _, _, _, _]) 7 rfl (kn rfl) rfl rfl agg_27 sz_27 rfl) (Walk.gd _ rfl rfl rfl (fun h => s_call rfl (by kernel_rfl) (hP.same (vget (vwith v n x) n) x (good_get n qw) qx) ⟨(kn_opt rfl h), ⟨(kn_opt rfl h), trivial⟩⟩) (Walk.gd _ rfl rfl rfl (fun h => s_not rfl (kn_opt rfl h)) (w_op rfl rfl rfl (s_and rfl (kn rfl) (fun hb => kn_opt rfl hb)) .nil))))))))))))))))))) ?_
  try refine e_fl ?_
  refine e_cond rfl (fun h => ?_) (fun _ => ?_)
  · exfalso
    simp only [Bool.and_eq_true, Bool.not_eq_true', decide_eq_true_eq, decide_eq_false_iff_not] at h
    obtain ⟨⟨⟨h1, h2⟩, h3⟩, h4⟩ := h
    rw [with_get g4 h1 h2 (by omega), vcmp_self] at h4
    exact h4 rfl
  try refine e_fl ?_
  refine e_draw mixed (by kernel_rfl) (w_op rfl rfl rfl (s_loadn_box (ds := [_, _, _, _, _, _, _]) 7 rfl (kn rfl) rfl rfl agg_27 sz_27 rfl) (w_op rfl rfl rfl (s_call rfl (by kernel_rfl) (ov) ⟨(kn rfl), trivial⟩) (w_op rfl rfl rfl (s_loadn_box (ds := [_, _, _, _, _, _, _]) 7 rfl (kn rfl) rfl rfl agg_34 sz_34 rfl) (w_op rfl rfl rfl (s_call rfl (by kernel_rfl) (same_ef v v hv hv) ⟨(kn rfl), ⟨(kn rfl), trivial⟩⟩) (w_as rfl rfl rfl rfl rfl .nil))))) ?_
  try refine e_fl ?_
  exact e_return rfl rfl (.tmp (kn rfl) (.nil)) (Imp.of_eq (by rw [vcmp_self]; rfl)) rfl
end Go.Proofs.Ytlikbiiimhfnkaa
namespace Go.Proofs.Ytlikbiiimhfnkaa
open Go.RowKit
theorem gl_none {w : World} : GlOK ([] : List (Nat × List Value)) w := fun g cs h => by cases h
theorem fits_vd {w : World} {D : Nat → Prop} {v : Vl} {xs : List Value} (h : Fits w D v.dats xs) : PFit w D (.many (vd v)) (.agg xs.toArray) := ⟨xs, rfl, by rw [← dats_vd]; exact h⟩
theorem true_of {f : FuncId} {ps : List Part} {w : World} {D : Nat → Prop} {vs : List Value} (h : EF Try.prog [] f ps (.part (tP true))) (hD : ∀ g, D g → g < w.heap.size) (hp : PsFit w D ps vs) :
    Calls Try.prog f vs.toArray w fun e w' => e = .returned (.bool true) ∧ Below w.heap.size w w' := by
  refine (h w D vs hD gl_none hp).mono ?_
  rintro e w' ⟨v, y, rfl, rfl, hb, hv⟩
  have hv1 : Lies w' _ (.cell (.bool true)) v := hv (fun _ => 0) (fun _ => undef)
  exact ⟨by rw [hv1.cell_eq], hb⟩
theorem fields_any (hP : ProgE) (w : World) (D : Nat → Prop) (hD : ∀ g, D g → g < w.heap.size) {v x : Vl} {n : Int} {xs ys : List Value} (hv : Fits w D v.dats xs) (hx : Fits w D x.dats ys) (fv : v.Fine) (fx : x.Fine) :
    Calls Try.prog 5 #[.agg xs.toArray, .int .i64 n, .agg ys.toArray] w fun e w' => e = .returned (.bool true) ∧ Below w.heap.size w w' :=
  true_of (fields_ef hP v x n fv fx) hD ⟨fits_vd hv, .cell _, fits_vd hx, trivial⟩
end Go.Proofs.Ytlikbiiimhfnkaa
