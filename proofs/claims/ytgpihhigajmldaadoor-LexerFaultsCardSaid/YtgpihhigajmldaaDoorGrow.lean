/- A region that draws its order, whose operations may make memory and call functions that do: walked once, in the order of the text. Of each operation one says what its value is (a value, or what is known of it in the world that it leaves); this must not hang on the other operations' values, but of the operations that it reads. Over any program. -/
import Derived.Still
import Derived.RegionTactic
import Derived.Below
namespace Go.Proofs.YtgpihhigajmldaaDoor

/-- What is said of an operation's value: the very value, or what is known of it in a world. -/
structure Kind where
  exact : Option Value
  pred : Value → World → Prop
def Kind.is (c : Value) : Kind := ⟨some c, fun _ _ => True⟩
def Kind.of (T : Value → World → Prop) : Kind := ⟨none, T⟩
def Kind.ok (k : Kind) (v : Value) : Prop := ∀ c, k.exact = some c → v = c
def Kind.pick (k : Kind) : Value := k.exact.getD undef
theorem Kind.ok_pick (k : Kind) : k.ok k.pick := fun c h => by simp [Kind.pick, h]
theorem Kind.ok_is {c v : Value} : (Kind.is c).ok v ↔ v = c := ⟨fun h => h c rfl, fun h d hd => by cases hd; exact h⟩
theorem Kind.ok_of {T : Value → World → Prop} {v : Value} : (Kind.of T).ok v := fun c h => by cases h

abbrev Fact := Option Tmp × (World → Prop)

section
variable {P : Program} {ops : Array Oper} {md : Region.Mode} {C : World → Prop} {R : World → World → Prop}

/-- The facts on the slots that the operation looks at. -/
def Seen (ops : Array Oper) (o : Oper) (G : List Fact) (w : World) : Prop := ∀ f ∈ G, ∀ d, f.1 = some d → d ∈ o.looksAt ops → f.2 w

def GrowsUpon (P : Program) (R : World → World → Prop) (k : Kind) (w : World) : Result Next → Prop
  | .ok (.value u) w' => R w w' ∧ k.ok u ∧ k.pred u w'
  | .ok .skip w' => R w w' ∧ k.ok undef ∧ k.pred undef w'
  | .ok (.enter f args) w' => Calls P f args w' fun e w'' => ∃ v, e = .returned v ∧ R w w'' ∧ k.ok v ∧ k.pred v w''
  | _ => False
def GrowsAt (P : Program) (R : World → World → Prop) (o : Oper) (a : Act) (k : Kind) (w : World) : Prop := GrowsUpon P R k w ((execOp a.eval o).run P w)

theorem wp_of_grows {o : Oper} {a : Act} {k : Kind} {w : World} {K : Act → World → Prop} {Q : Exit → Act → World → Prop} (h : GrowsAt P R o a k w)
    (hK : ∀ v w', R w w' → k.ok v → k.pred v w' → K (a.put o.dst v) w') : o.wp P a w K Q := by
  unfold GrowsAt at h
  unfold Oper.wp
  generalize (execOp a.eval o).run P w = r at *
  cases r with
  | ok n w' =>
    cases n <;> simp only [GrowsUpon] at h <;> simp only [Oper.upon]
    case value u => exact hK _ _ h.1 h.2.1 h.2.2
    case skip => exact hK _ _ h.1 h.2.1 h.2.2
    case enter f args =>
      exact h.mono fun e w'' ⟨v, he, h1, h2, h3⟩ => by subst he; exact hK _ _ h1 h2 h3
  | halt x w' => simp only [GrowsUpon] at h

/-- What is asked of one operation. -/
def AskT (P : Program) (ops : Array Oper) (R : World → World → Prop) (C : World → Prop) (o : Oper) (k : Kind) (G : List Fact) (a : Act) : Prop :=
  if Region.wanted o (yielded ops a.tmps) then ∀ w, C w → Seen ops o G w → GrowsAt P R o a k w else k.ok undef ∧ ∀ w, k.pred undef w

/-- The walk, in the order of the text. -/
def wpT (P : Program) (ops : Array Oper) (R : World → World → Prop) (C : World → Prop) (Q : List Fact → Act → Prop) : List Oper → List Kind → List Fact → Act → Prop
  | [], _, G, a => Q G a
  | o :: rest, k :: ks, G, a => AskT P ops R C o k G a ∧ ∀ v, k.ok v → wpT P ops R C Q rest ks ((o.dst, k.pred v) :: G) (a.put o.dst v)
  | _ :: _, [], _, _ => False

/-- Whatever order is picked. -/
def wpAnyT (P : Program) (md : Region.Mode) (ops : Array Oper) (R : World → World → Prop) (C : World → Prop) (ks : Nat → Kind) (Q : List Fact → Act → Prop) : Nat → Array Bool → List Fact → Act → Prop
  | 0, listed, G, a => Region.ready md ops listed = [] ∧ Q G a
  | fuel + 1, listed, G, a =>
    (Region.ready md ops listed = [] → Q G a) ∧
    ∀ i ∈ Region.ready md ops listed, ∀ o, ops[i]? = some o → AskT P ops R C o (ks i) G a ∧
      ∀ v, (ks i).ok v → wpAnyT P md ops R C ks Q fuel (listed.setIfInBounds i true) ((o.dst, (ks i).pred v) :: G) (a.put o.dst v)

/-- What is known stays known. -/
def Stays (R : World → World → Prop) (F : World → Prop) : Prop := ∀ w w', R w w' → F w → F w'

theorem AskT.more {o : Oper} {k : Kind} {G G' : List Fact} {a : Act} (hG : ∀ f ∈ G, f ∈ G') (h : AskT P ops R C o k G a) : AskT P ops R C o k G' a := by
  unfold AskT at *
  split
  · rename_i hw
    rw [if_pos hw] at h
    exact fun w hC hS => h w hC fun f hf => hS f (hG f hf)
  · rename_i hw
    rwa [if_neg hw] at h

theorem wpAnyT_more {ks : Nat → Kind} {Q : List Fact → Act → Prop} (hQ : ∀ G G' a, (∀ f ∈ G, f ∈ G') → Q G a → Q G' a) :
    ∀ (fuel : Nat) (listed : Array Bool) (G G' : List Fact) (a : Act), (∀ f ∈ G, f ∈ G') → wpAnyT P md ops R C ks Q fuel listed G a → wpAnyT P md ops R C ks Q fuel listed G' a
  | 0, _, _, _, _, hG, h => ⟨h.1, hQ _ _ _ hG h.2⟩
  | fuel + 1, _, G, G', _, hG, h => ⟨fun h0 => hQ _ _ _ hG (h.1 h0), fun i hi o ho => by
      obtain ⟨h1, h2⟩ := h.2 i hi o ho
      refine ⟨h1.more hG, fun v hv => wpAnyT_more hQ fuel _ _ _ _ (fun f hf => ?_) (h2 v hv)⟩
      rcases List.mem_cons.1 hf with rfl | hf
      · exact List.mem_cons_self
      · exact List.mem_cons_of_mem _ (hG f hf)⟩

theorem wpAny_of_T {ks : Nat → Kind} {Q : List Fact → Act → Prop} {Q' : Exit → Act → World → Prop} (hC : Stays R C) (hks : ∀ i v, Stays R ((ks i).pred v))
    (hQ : ∀ G a w, C w → (∀ f ∈ G, f.2 w) → Q G a → Q' .normal a w) : ∀ (fuel : Nat) (listed : Array Bool) (G : List Fact) (a : Act) (w : World), C w → (∀ f ∈ G, f.2 w) → (∀ f ∈ G, Stays R f.2) →
    wpAnyT P md ops R C ks Q fuel listed G a → wpAny P md ops Q' fuel listed a w
  | 0, _, _, _, _, hw, hG, _, h => ⟨h.1, hQ _ _ _ hw hG h.2⟩
  | fuel + 1, listed, G, a, w, hw, hG, hst, h => ⟨fun h0 => hQ _ _ _ hw hG (h.1 h0), fun i hi => by
      unfold wpOp
      split
      · rename_i ho
        obtain ⟨_, o, ho', _⟩ := mem_ready.1 hi
        rw [ho] at ho'; cases ho'
      · rename_i o ho
        obtain ⟨h1, h2⟩ := h.2 i hi o ho
        unfold AskT at h1
        split
        · rename_i hwt
          rw [if_pos hwt] at h1
          refine .inl (wp_of_grows (h1 w hw fun f hf _ _ _ => hG f hf) fun v w' hR hok hp => ?_)
          refine wpAny_of_T hC hks hQ fuel _ _ _ w' (hC _ _ hR hw) (fun f hf => ?_) (fun f hf => ?_) (h2 v hok)
          · rcases List.mem_cons.1 hf with rfl | hf
            · exact hp
            · exact hst f hf _ _ hR (hG f hf)
          · rcases List.mem_cons.1 hf with rfl | hf
            · exact hks i v
            · exact hst f hf
        · rename_i hwt
          rw [if_neg hwt] at h1
          refine wpAny_of_T hC hks hQ fuel _ _ _ w hw (fun f hf => ?_) (fun f hf => ?_) (h2 undef h1.1)
          · rcases List.mem_cons.1 hf with rfl | hf
            · exact h1.2 w
            · exact hG f hf
          · rcases List.mem_cons.1 hf with rfl | hf
            · exact hks i undef
            · exact hst f hf⟩

/-- One operation, apart from another one: whether that one's value is there makes no difference. -/
theorem AskT.put {oi oj : Oper} {k : Kind} {F : World → Prop} {v : Value} {G : List Fact} {a : Act} (hsj : ∀ cs b, oj.op ≠ .select cs b)
    (h1 : ∀ d, oi.dst = some d → d ∉ oj.looksAt ops) : AskT P ops R C oj k ((oi.dst, F) :: G) (a.put oi.dst v) ↔ AskT P ops R C oj k G a := by
  have e1 : execOp (a.put oi.dst v).eval oj = execOp a.eval oj := execOp_put oj hsj a oi.dst v h1
  have e2 := wanted_put oj a oi.dst v h1
  have e3 : ∀ w, Seen ops oj ((oi.dst, F) :: G) w ↔ Seen ops oj G w := fun w => ⟨fun h f hf => h f (List.mem_cons_of_mem _ hf), fun h f hf d hd hl => by
    rcases List.mem_cons.1 hf with rfl | hf
    · exact absurd hl (h1 d hd)
    · exact h f hf d hd hl⟩
  unfold AskT GrowsAt
  rw [e1, e2]
  simp only [e3]

/-- Two operations that may both come up now do not wait for each other. -/
theorem ready_free {i j : Nat} {o : Oper} {listed : Array Bool} (hi : i ∈ Region.ready md ops listed) (hj : j ∈ Region.ready md ops listed) (ho : ops[j]? = some o) :
    ∀ e ∈ o.after, Region.binds md e = true → e.on ≠ i := by
  rintro e he hb rfl
  obtain ⟨_, o', ho', hall⟩ := mem_ready.1 hj
  rw [ho] at ho'; cases ho'
  have h1 := hall e he hb
  have h0 := (mem_ready.1 hi).1
  simp only [Array.getD] at h0 h1
  split at h1
  · rename_i hlt
    rw [dif_pos hlt, h1] at h0
    cases h0
  · cases h1

theorem wpAnyT_first {ks : Nat → Kind} {Q : List Fact → Act → Prop} (hQ : ∀ G G' a, (∀ f ∈ G, f ∈ G') → Q G a → Q G' a) {i : Nat} {oi : Oper} (hi : ops[i]? = some oi)
    (hsel : ∀ (j : Nat) (o : Oper) cs b, ops[j]? = some o → o.op ≠ .select cs b) :
    ∀ (fuel : Nat) (listed : Array Bool) (G : List Fact) (a : Act),
      (∀ j oj, ops[j]? = some oj → j ≠ i → listed.getD j true = false → (∀ e ∈ oj.after, Region.binds md e = true → e.on ≠ i) → oi.apart ops oj = true) →
      i ∈ Region.ready md ops listed → AskT P ops R C oi (ks i) G a →
      (∀ v, (ks i).ok v → wpAnyT P md ops R C ks Q fuel (listed.setIfInBounds i true) ((oi.dst, (ks i).pred v) :: G) (a.put oi.dst v)) → wpAnyT P md ops R C ks Q (fuel + 1) listed G a := by
  intro fuel
  induction fuel with
  | zero =>
    intro listed G a _ hr hy H
    refine ⟨fun h => (by rw [h] at hr; cases hr), fun j hj o ho => ?_⟩
    by_cases hji : j = i
    · subst hji
      rw [hi] at ho; cases ho
      exact ⟨hy, H⟩
    · have h0 := (H _ (ks i).ok_pick).1
      have := ready_mono hj hji
      rw [h0] at this
      cases this
  | succ fuel ih =>
    intro listed G a hfree hr hy H
    refine ⟨fun h => (by rw [h] at hr; cases hr), fun j hj o ho => ?_⟩
    by_cases hji : j = i
    · subst hji
      rw [hi] at ho; cases ho
      exact ⟨hy, H⟩
    · have hjun := (mem_ready.1 hj).1
      obtain ⟨a1, a2, a3⟩ := Oper.apart_spec (hfree j o ho hji hjun (ready_free hr hj ho))
      have hjr := ready_mono hj hji
      refine ⟨(AskT.put (hsel j o · · ho) a1).1 ((H _ (ks i).ok_pick).2 j hjr o ho).1, fun u hu => ?_⟩
      refine ih (listed.setIfInBounds j true) _ _ (fun k ok hk hki hun hno => hfree k ok hk hki (Decidable.byCases (fun h : j = k => by rw [← h]; exact hjun) fun h => by rwa [getD_set_ne true h] at hun) hno) (ready_mono hr (Ne.symm hji)) ((AskT.put (hsel i oi · · hi) a3).2 hy) fun v hv => ?_
      have h2 := ((H v hv).2 j hjr o ho).2 u hu
      rw [Array.setIfInBounds_comm _ _ hji, ← Act.put_comm a v u a2]
      refine wpAnyT_more hQ fuel _ _ _ _ (fun f hf => ?_) h2
      simp only [List.mem_cons] at hf ⊢
      rcases hf with h | h | h
      · exact .inr (.inl h)
      · exact .inl h
      · exact .inr (.inr h)

theorem wpAnyT_lex {ks : Nat → Kind} {Q : List Fact → Act → Prop} (hQ : ∀ G G' a, (∀ f ∈ G, f ∈ G') → Q G a → Q G' a) (hs : Region.noSelect ops = true) :
    ∀ (l : List Oper) (kl : List Kind) (n : Nat) (listed : Array Bool) (G : List Fact) (a : Act), (∀ j, l[j]? = ops[n + j]?) → (∀ (j : Nat) k, kl[j]? = some k → ks (n + j) = k) →
    Region.lexFrom md ops l.length n listed = true → wpT P ops R C Q l kl G a → wpAnyT P md ops R C ks Q l.length listed G a
  | [], _, _, _, _, _, _, _, hB, h => ⟨by simpa [Region.lexFrom] using hB, h⟩
  | _ :: _, [], _, _, _, _, _, _, _, h => h.elim
  | o :: l, k :: kl, n, listed, G, a, hl, hk, hB, h => by
    have h0 : ops[n]? = some o := by simpa using (hl 0).symm
    have hk0 : ks n = k := by simpa using hk 0 k (by simp)
    simp only [List.length_cons, Region.lexFrom, Bool.and_eq_true] at hB
    obtain ⟨⟨hr, hf⟩, hB'⟩ := hB
    obtain ⟨h1, h2⟩ := h
    refine wpAnyT_first hQ h0 (Region.noSelect_spec hs) l.length listed G a (Region.free_spec h0 hf) (by simpa using hr) (by rw [hk0]; exact h1) fun v hv => ?_
    rw [hk0] at hv ⊢
    exact wpAnyT_lex hQ hs l kl (n + 1) _ _ _ (fun j => by have := hl (j + 1); simpa [Nat.add_assoc, Nat.add_comm 1 j] using this)
      (fun j k' hj => by have := hk (j + 1) k' (by simpa using hj); simpa [Nat.add_assoc, Nat.add_comm 1 j] using this) hB' (h2 v hv)

/-- All of them stay. -/
def AllStay (R : World → World → Prop) : List Kind → Prop
  | [] => True
  | k :: ks => (∀ v, Stays R (k.pred v)) ∧ AllStay R ks
theorem AllStay.mem : ∀ {l : List Kind}, AllStay R l → ∀ k ∈ l, ∀ v, Stays R (k.pred v)
  | _ :: _, h, k, hk => by
    rcases List.mem_cons.1 hk with rfl | hk
    · exact h.1
    · exact AllStay.mem h.2 k hk
theorem stay_is {c : Value} : ∀ v, Stays R ((Kind.is c).pred v) := fun _ _ _ _ _ => trivial

/-- **The region, walked once.** -/
theorem wp_region_grow {id : Nat} {Q : Exit → Act → World → Prop} {a : Act} {w : World} {l : List Oper} (C : World → Prop) (R : World → World → Prop) (kl : List Kind) (hm : P.follows .mixedOrders = true)
    (hB : Region.lexB .any l.toArray = true) (hC : Stays R C) (hks : AllStay R kl) (h0 : C w.drew)
    (h : wpT P l.toArray R C (fun G a' => ∀ w', C w' → (∀ f ∈ G, f.2 w') → Q .normal a' w') l kl [] a) : (Code.region id l.toArray true).wp P Q a w := by
  simp only [Region.lexB, Bool.and_eq_true] at hB
  have hks' : ∀ i v, Stays R (((fun i => kl.getD i (Kind.is undef)) i).pred v) := fun i v => by
    simp only [List.getD]
    cases hk : kl[i]? with
    | none => exact fun _ _ _ _ => trivial
    | some k => exact hks.mem k (List.mem_of_getElem? hk) v
  refine wp_region_any hm (wpAny_of_T (ks := fun i => kl.getD i (Kind.is undef)) (Q := fun G a' => ∀ w', C w' → (∀ f ∈ G, f.2 w') → Q .normal a' w') hC hks' (fun G a' w' hw hG h => h w' hw hG) _ _ [] a _ h0
    (fun f hf => by cases hf) (fun f hf => by cases hf) ?_)
  have := wpAnyT_lex (md := .any) (ks := fun i => kl.getD i (Kind.is undef)) (fun G G' a' hG h w' hw hF => h w' hw fun f hf => hF f (hG f hf)) hB.1 l kl 0 (Array.replicate l.toArray.size false) [] a (by simp)
    (fun j k hj => by simp [List.getD, hj]) (by simpa using hB.2) h
  simpa using this

theorem Seen.get {o : Oper} {G : List Fact} {w : World} (h : Seen ops o G w) {d : Tmp} {F : World → Prop} (hm : (some d, F) ∈ G) (hl : (o.looksAt ops).contains d = true) : F w :=
  h _ hm d rfl (by simpa using hl)

/-! ### Steps -/
variable {Q : List Fact → Act → Prop} {o : Oper} {rest : List Oper} {ks : List Kind} {G : List Fact} {a : Act}
theorem wpT_nil (h : Q G a) : wpT P ops R C Q [] ks G a := h
/-- An operation that yields one value and leaves the world alone. -/
theorem wpT_is {c : Value} (hR : ∀ w, R w w) (hw : Region.wanted o (yielded ops a.tmps) = true) (h : ∀ w, C w → Seen ops o G w → (execOp a.eval o).run P w = .ok (.value c) w)
    (hr : wpT P ops R C Q rest ks ((o.dst, fun _ => True) :: G) (a.put o.dst c)) : wpT P ops R C Q (o :: rest) (.is c :: ks) G a :=
  ⟨by
    unfold AskT; rw [if_pos hw]
    exact fun w hC hS => by unfold GrowsAt; rw [h w hC hS]; exact ⟨hR w, Kind.ok_is.2 rfl, trivial⟩, fun v hv => by
    rw [Kind.ok_is.1 hv]; exact hr⟩
/-- An operation whose guard says no. -/
theorem wpT_no (hw : Region.wanted o (yielded ops a.tmps) = false)
    (hr : wpT P ops R C Q rest ks ((o.dst, fun _ => True) :: G) (a.put o.dst undef)) : wpT P ops R C Q (o :: rest) (.is undef :: ks) G a :=
  ⟨by
    unfold AskT; rw [if_neg (by rw [hw]; simp)]
    exact ⟨Kind.ok_is.2 rfl, fun _ => trivial⟩, fun v hv => by
    rw [Kind.ok_is.1 hv]; exact hr⟩
/-- An operation that yields a value, and may make memory. -/
theorem wpT_val {T : Value → World → Prop} (hw : Region.wanted o (yielded ops a.tmps) = true) (h : ∀ w, C w → Seen ops o G w → ∃ v w', (execOp a.eval o).run P w = .ok (.value v) w' ∧ R w w' ∧ T v w')
    (hr : ∀ v, wpT P ops R C Q rest ks ((o.dst, T v) :: G) (a.put o.dst v)) : wpT P ops R C Q (o :: rest) (.of T :: ks) G a :=
  ⟨by
    unfold AskT; rw [if_pos hw]
    exact fun w hC hS => by
      obtain ⟨v, w', he, h1, h2⟩ := h w hC hS
      unfold GrowsAt; rw [he]
      exact ⟨h1, Kind.ok_of, h2⟩, fun v _ => hr v⟩
/-- A call. -/
theorem wpT_call {T : Value → World → Prop} {f : FuncId} {args : Array Value} (hw : Region.wanted o (yielded ops a.tmps) = true) (h : ∀ w, C w → Seen ops o G w → (execOp a.eval o).run P w = .ok (.enter f args) w)
    (hc : ∀ w, C w → Seen ops o G w → Calls P f args w fun e w'' => ∃ v, e = .returned v ∧ R w w'' ∧ T v w'')
    (hr : ∀ v, wpT P ops R C Q rest ks ((o.dst, T v) :: G) (a.put o.dst v)) : wpT P ops R C Q (o :: rest) (.of T :: ks) G a :=
  ⟨by
    unfold AskT; rw [if_pos hw]
    exact fun w hC hS => by
      unfold GrowsAt; rw [h w hC hS]
      exact (hc w hC hS).mono fun e w'' ⟨v, he, h1, h2⟩ => ⟨v, he, h1, Kind.ok_of, h2⟩, fun v _ => hr v⟩
/-- A call that gives one value. -/
theorem wpT_callIs {c : Value} {f : FuncId} {args : Array Value} (hw : Region.wanted o (yielded ops a.tmps) = true) (h : ∀ w, C w → Seen ops o G w → (execOp a.eval o).run P w = .ok (.enter f args) w)
    (hc : ∀ w, C w → Seen ops o G w → Calls P f args w fun e w'' => e = .returned c ∧ R w w'')
    (hr : wpT P ops R C Q rest ks ((o.dst, fun _ => True) :: G) (a.put o.dst c)) : wpT P ops R C Q (o :: rest) (.is c :: ks) G a :=
  ⟨by
    unfold AskT; rw [if_pos hw]
    exact fun w hC hS => by
      unfold GrowsAt; rw [h w hC hS]
      exact (hc w hC hS).mono fun e w'' ⟨he, h1⟩ => ⟨c, he, h1, Kind.ok_is.2 rfl, trivial⟩, fun v hv => by
    rw [Kind.ok_is.1 hv]; exact hr⟩
end
end Go.Proofs.YtgpihhigajmldaaDoor
