/- Part 11 of what the last text of this claim is proved by: walks over the program, and the math behind them. Conditions: as each theorem says. -/
import Derived.Test.YtekeanikgcpijaaGreatDoorST10
namespace Go.Proofs.YtekeanikgcpijaaGreatDoor
section
variable {P : Program} {ops : Array Oper} {md : Region.Mode} {C : World → Prop} {R : World → World → Prop}
theorem yielded_patched (ops : Array Oper) (n : Nat) (tmps : Array Value) : yielded (patched ops n) tmps = yielded ops tmps := by
  funext j
  unfold yielded
  have : ((patched ops n)[j]?).bind (·.dst) = (ops[j]?).bind (·.dst) := by
    by_cases h : j = n
    · subst h
      cases ho : ops[j]? with
      | none =>
        have : (patched ops j)[j]? = none := by
          unfold patched
          rw [Array.getElem?_modify, if_pos rfl, ho]
          rfl
        rw [this]
      | some o => rw [patched_eq ho]; rfl
    · rw [patched_ne h]
  rw [this]
def listedB (ops : Array Oper) (n : Nat) : Array Bool := (List.range ops.size).map (fun i => Nat.blt 0 i && Nat.blt i n) |>.toArray
def seqL (md : Region.Mode) (ops : Array Oper) : List Nat → Array Bool → Bool
  | [], listed => (Region.ready md ops listed).isEmpty
  | k :: ks, listed => decide (Region.ready md ops listed = [k]) && seqL md ops ks (listed.setIfInBounds k true)
def float2B (ops : Array Oper) (n : Nat) : Bool :=
  Region.lexTailB .any (patched ops n) n && decide (0 < n) &&
  (match ops[0]? with | some o0 => o0.after.all (fun e => !Region.binds .any e) | none => false) && seqL .any ops (0 :: List.range' (n + 1) (ops.size - n - 1)) ((listedB ops n).setIfInBounds n true)
theorem wpAny_of_seqL {Q' : Exit → Act → World → Prop} : ∀ (l : List Oper) (ks : List Nat) (listed : Array Bool) (a : Act) (w : World), l.length = ks.length → (∀ (j k : Nat), ks[j]? = some k → l[j]? = ops[k]?) →
    seqL md ops ks listed = true → wpList P ops Q' l a w → wpAny P md ops Q' l.length listed a w
  | [], [], _, _, _, _, _, hB, h => ⟨by simpa [seqL] using hB, h⟩
  | [], _ :: _, _, _, _, hl, _, _, _ => by cases hl
  | _ :: _, [], _, _, _, hl, _, _, _ => by cases hl
  | o :: l, k :: ks, listed, a, w, hlen, hl, hB, h => by
    have h0 : ops[k]? = some o := by simpa using (hl 0 k rfl).symm
    simp only [seqL, Bool.and_eq_true, decide_eq_true_eq] at hB
    refine ⟨fun h1 => (by rw [hB.1] at h1; cases h1), fun i hi => ?_⟩
    rw [hB.1] at hi
    have hik : i = k := by simpa using hi
    subst hik
    have hw : wpOp P ops Q' i (wpList P ops Q' l) a w := by unfold wpOp; simp only [h0]; exact h
    exact wpOp_mono (fun a' w' h' => wpAny_of_seqL l ks _ a' w' (by simpa using hlen) (fun j k hj => by have := hl (j + 1) k (by simpa using hj); simpa using this) hB.2 h') hw
theorem seqB_patched {n : Nat} : ∀ (g k : Nat) (listed : Array Bool), listed.getD 0 false = true → Region.seqB .any (patched ops n) g k listed = Region.seqB .any ops g k listed := by
  have hr : ∀ listed : Array Bool, listed.getD 0 false = true → Region.ready .any (patched ops n) listed = Region.ready .any ops listed := fun listed hz => by
    unfold Region.ready
    rw [patched_size]
    refine List.filter_congr fun i hi => ?_
    by_cases h : i = n
    · subst h
      have hlt : i < ops.size := List.mem_range.1 hi
      rw [patched_eq (Array.getElem?_eq_getElem hlt), Array.getElem?_eq_getElem hlt]
      simp only [Option.map_some, Option.getD_some, Array.all_push, hz, Bool.or_true, Bool.and_true]
    · rw [patched_ne h]
  intro g
  induction g with
  | zero => intro k listed hz; simp only [Region.seqB, hr listed hz]
  | succ g ih => intro k listed hz; simp only [Region.seqB, hr listed hz, ih _ _ (getD_set_true hz)]
theorem wpAny_of_TLf {ks : Nat → Kind} {n g : Nat} {L : Array Bool → List Fact → Act → Prop} {Q' : Exit → Act → World → Prop} (hC : Stays R C) (hks : ∀ i v, Stays R ((ks i).pred v)) (hn0 : 0 < n) (hn : n < ops.size) {o0 : Oper} (ho0 : ops[0]? = some o0) (hd0 : ∀ e ∈ o0.after, Region.binds md e ≠ true)
    (hs : Region.sinkB md (patched ops n) n = true) (hc : Region.chainB md (patched ops n) n = true)
    (hA : ∀ listed G a w, C w → (∀ f ∈ G, f.2 w) → L listed G a → wpAny P md ops Q' g listed a w)
    (hB : ∀ G a w, C w → (∀ f ∈ G, f.2 w) → (∀ v, (ks 0).ok v → L ((listedB ops n).setIfInBounds 0 true) ((o0.dst, (ks 0).pred v) :: G) (a.put o0.dst v)) → wpOp P ops Q' n (wpAny P md ops Q' g ((listedB ops n).setIfInBounds n true)) a w) :
    ∀ (fuel : Nat) (listed : Array Bool) (G : List Fact) (a : Act) (w : World), HeadInv md ops n listed → C w → (∀ f ∈ G, f.2 w) → (∀ f ∈ G, Stays R f.2) →
    wpAnyTL P md (patched ops n) R C ks n L fuel listed G a → wpAny P md ops Q' (fuel + g) listed a w
  | 0, _, _, _, _, _, hw, hG, _, h => by rw [Nat.zero_add]; exact hA _ _ _ _ hw hG h
  | fuel + 1, listed, G, a, w, inv, hw, hG, hst, h => by
    rw [show fuel + 1 + g = (fuel + g) + 1 by omega]
    have hsub : ∀ i, i ≠ n → (i ∈ Region.ready md (patched ops n) listed ↔ i ∈ Region.ready md ops listed) := fun i hi => by
      rw [mem_ready, mem_ready, patched_ne hi]
    refine ⟨fun h0 => ?_, fun i hi => ?_⟩
    · obtain ⟨i, hi⟩ := List.exists_mem_of_ne_nil _ h.1
      have hin := (h.2 i hi).1
      rw [hsub i (by omega), h0] at hi
      cases hi
    · by_cases hin : i = n
      · subst hin
        have h00 : listed.getD 0 true = false := by
          cases e : listed.getD 0 true with
          | false => rfl
          | true =>
            exfalso
            have he : listed.getD 0 false = true := by
              have : 0 < listed.size := by rw [inv.size]; omega
              simp [this] at e ⊢
              exact e
            obtain ⟨h1, o, ho, hall⟩ := mem_ready.1 hi
            have : i ∈ Region.ready md (patched ops i) listed := mem_ready.2 ⟨h1, _, patched_eq ho, fun e' he' hb => by
              rcases Array.mem_push.1 he' with he' | rfl
              · exact hall e' he' hb
              · exact he⟩
            exact absurd (h.2 i this).1 (Nat.lt_irrefl i)
        have hr0 : 0 ∈ Region.ready md ops listed := mem_ready.2 ⟨h00, o0, ho0, fun e he hb => absurd hb (hd0 e he)⟩
        have inv' : FloatInv md ops i (listed.setIfInBounds 0 true) := ⟨inv.set hr0 hn0, by
          have : 0 < listed.size := by rw [inv.size]; omega
          simp [this]⟩
        have hall : ∀ j, j < i → (listed.setIfInBounds 0 true).getD j true = true := fun j hj => by
          cases e : (listed.setIfInBounds 0 true).getD j true with
          | true => rfl
          | false => exact absurd (ready_mono hi (by omega)) (inv'.wait hs hc hn j hj e i (Nat.le_refl i))
        have hL : listed = listedB ops i := by
          refine Array.ext (by simp [listedB, inv.size]) fun j h1 h2 => ?_
          have hjs : j < ops.size := by rw [← inv.size]; exact h1
          simp only [listedB, List.getElem_toArray, List.getElem_map, List.getElem_range]
          by_cases hj0 : j = 0
          · subst hj0
            have : listed[0] = false := by simpa [h1] using h00
            rw [this]
            rfl
          · by_cases hji : j < i
            · have := hall j hji
              rw [getD_set_ne true (Ne.symm hj0)] at this
              have : listed[j] = true := by simpa [h1] using this
              rw [this]
              have e1 : Nat.blt 0 j = true := by simp; omega
              have e2 : Nat.blt j i = true := by simpa using hji
              rw [e1, e2]
              rfl
            · have := inv.tail j (by omega) hjs
              have : listed[j] = false := by simpa [h1] using this
              rw [this]
              have e2 : Nat.blt j i = false := by
                cases e : Nat.blt j i
                · rfl
                · exact absurd (by simpa using e) hji
              rw [e2, Bool.and_false]
        have hr0' := (hsub 0 (by omega)).2 hr0
        obtain ⟨_, h1⟩ := h.2 0 hr0'
        obtain ⟨_, h2⟩ := h1 o0 (by rw [patched_ne (by omega)]; exact ho0)
        have hf : fuel = 0 := by
          cases fuel with
          | zero => rfl
          | succ fuel =>
            exfalso
            obtain ⟨h3, h4⟩ := h2 _ (ks 0).ok_pick
            obtain ⟨j, hj⟩ := List.exists_mem_of_ne_nil _ h3
            have hjn := (h4 j hj).1
            have := (mem_ready.1 hj).1
            rw [hall j hjn] at this
            cases this
        subst hf
        have := hB G a w hw hG fun v hv => (by have := h2 v hv; rw [hL] at this; exact this)
        rw [hL, Nat.zero_add]
        exact this
      · have hi' := (hsub i hin).2 hi
        unfold wpOp
        split
        · rename_i ho
          obtain ⟨_, o, ho', _⟩ := mem_ready.1 hi
          rw [ho] at ho'; cases ho'
        · rename_i o ho
          obtain ⟨h1, h2⟩ := (h.2 i hi').2 o (by rw [patched_ne hin]; exact ho)
          have hil := (h.2 i hi').1
          unfold AskT at h1
          rw [yielded_patched] at h1
          split
          · rename_i hwt
            rw [if_pos hwt] at h1
            refine .inl (wp_of_grows (h1 w hw fun f hf _ _ _ => hG f hf) fun v w' hR hok hp => ?_)
            refine wpAny_of_TLf hC hks hn0 hn ho0 hd0 hs hc hA hB fuel _ _ _ w' (inv.set hi hil) (hC _ _ hR hw) (fun f hf => ?_) (fun f hf => ?_) (h2 v hok)
            · rcases List.mem_cons.1 hf with rfl | hf
              · exact hp
              · exact hst f hf _ _ hR (hG f hf)
            · rcases List.mem_cons.1 hf with rfl | hf
              · exact hks i v
              · exact hst f hf
          · rename_i hwt
            rw [if_neg hwt] at h1
            refine wpAny_of_TLf hC hks hn0 hn ho0 hd0 hs hc hA hB fuel _ _ _ w (inv.set hi hil) hw (fun f hf => ?_) (fun f hf => ?_) (h2 undef h1.1)
            · rcases List.mem_cons.1 hf with rfl | hf
              · exact h1.2 w
              · exact hG f hf
            · rcases List.mem_cons.1 hf with rfl | hf
              · exact hks i undef
              · exact hst f hf
theorem wp_region_float2 {id : Nat} {Q : Exit → Act → World → Prop} {a : Act} {w : World} {l : List Oper} (n : Nat) (C : World → Prop) (R : World → World → Prop) (k0 : Kind) (kl : List Kind) (Z ZX : List Fact → Act → Prop) {o0 on : Oper} (hm : P.follows .mixedOrders = true)
    (hB : float2B l.toArray n = true) (ho : l.toArray[0]? = some o0) (hon : l.toArray[n]? = some on) (hC : Stays R C) (hk0 : ∀ v, Stays R (k0.pred v)) (hks : AllStay R kl) (h0 : C w.drew) (hZ : ∀ G G' a, (∀ f ∈ G, f ∈ G') → Z G a → Z G' a)
    (hA : ∀ G a, Z G a → ∀ w', C w' → (∀ f ∈ G, f.2 w') → wpList P l.toArray Q (l.drop n) a w')
    (hX : ∀ G a v, k0.ok v → Z ((o0.dst, k0.pred v) :: G) (a.put o0.dst v) → ZX G a)
    (hB2 : ∀ G a, ZX G a → ∀ w', C w' → (∀ f ∈ G, f.2 w') → wpList P l.toArray Q (on :: o0 :: l.drop (n + 1)) a w')
    (h : wpT P (patched l.toArray n) R C Z (l.take n) (k0 :: kl) [] a) : (Code.region id l.toArray true).wp P Q a w := by
  simp only [float2B, Bool.and_eq_true, decide_eq_true_eq, ho] at hB
  obtain ⟨⟨⟨hT, hn0⟩, hd0⟩, hseq⟩ := hB
  simp only [Region.lexTailB, Bool.and_eq_true, decide_eq_true_eq, patched_size] at hT
  obtain ⟨⟨⟨⟨hsel, hn⟩, hs⟩, hc⟩, hlex⟩ := hT
  have hn' : n < l.length := by simpa using hn
  have htl : (l.take n).length = n := by simp; omega
  have hdl : (l.drop n).length = l.toArray.size - n := by simp
  have inv0 : HeadInv .any l.toArray n (Array.replicate l.toArray.size false) :=
    ⟨by simp, fun j oj _ hl => (by rw [getD_replicate_false] at hl; cases hl), fun t _ ht => getD_in (by simpa using ht) (getD_replicate_false _ _)⟩
  have inv1 : HeadInv .any (patched l.toArray n) n (Array.replicate l.toArray.size false) :=
    ⟨by simp [patched_size], fun j oj _ hl => (by rw [getD_replicate_false] at hl; cases hl), fun t _ ht => getD_in (by simpa [patched_size] using ht) (getD_replicate_false _ _)⟩
  have hks' : ∀ i v, Stays R (((fun i => (k0 :: kl).getD i (Kind.is undef)) i).pred v) := fun i v => by
    cases i with
    | zero => exact hk0 v
    | succ i =>
      simp only [List.getD, List.getElem?_cons_succ]
      cases hk : kl[i]? with
      | none => exact fun _ _ _ _ => trivial
      | some k => exact hks.mem k (List.mem_of_getElem? hk) v
  have H := wpAnyTL_lex (md := .any) (ops := patched l.toArray n) (ks := fun i => (k0 :: kl).getD i (Kind.is undef)) (g := l.toArray.size - n) (Q := Z) hZ hsel hs hc (by rw [patched_size]; exact hn) (l.take n) (k0 :: kl) 0 _ [] a (fun j hj => by
    have hj' : j < n := by rw [htl] at hj; exact hj
    rw [Nat.zero_add, patched_ne (by omega)]
    simp [hj']) (fun j k hj => by simp [List.getD, hj]) (by simpa using htl) inv1 (by rw [htl]; exact hlex) h
  refine wp_region_any hm ?_
  have hsub : ∀ listed j, j ≠ n → (j ∈ Region.ready .any (patched l.toArray n) listed ↔ j ∈ Region.ready .any l.toArray listed) := fun listed j hj => by
    rw [mem_ready, mem_ready, patched_ne hj]
  have := wpAny_of_TLf (md := .any) (ops := l.toArray) (L := fun listed' G' a' => Region.seqB .any (patched l.toArray n) (l.toArray.size - n) n listed' = true ∧ Z G' a') (Q' := Q) (g := l.toArray.size - n) (C := C) (R := R) hC hks' hn0 hn ho (fun e he hb => by
      have := Array.all_eq_true_iff_forall_mem.1 hd0 e he
      rw [hb] at this
      cases this) hs hc (fun listed G a' w' hw hG hL => ?_) (fun G a' w' hw hG hv => ?_) _ _ [] a w.drew inv0 h0 (fun f hf => by cases hf) (fun f hf => by cases hf) H
  · rw [htl, show n + (l.toArray.size - n) = l.toArray.size by omega] at this
    exact this
  · obtain ⟨h1, h2⟩ := hL
    have hz : listed.getD 0 false = true := by
      obtain ⟨m, hm'⟩ : ∃ m, l.toArray.size - n = m + 1 := ⟨l.toArray.size - n - 1, by omega⟩
      rw [hm'] at h1
      simp only [Region.seqB, Bool.and_eq_true, decide_eq_true_eq] at h1
      have hr : n ∈ Region.ready .any (patched l.toArray n) listed := by rw [h1.1]; exact List.mem_cons_self
      obtain ⟨_, o, ho', hall⟩ := mem_ready.1 hr
      rw [patched_eq hon] at ho'
      obtain rfl := Option.some.inj ho'
      exact hall { on := 0, ground := .phase } (Array.mem_push.2 (.inr rfl)) rfl
    rw [seqB_patched _ _ _ hz] at h1
    have := wpAny_of_seq (md := .any) (Q' := Q) (l.drop n) n listed a' w' (fun j => by simp [List.getElem?_drop]) (by rw [hdl]; exact h1) (hA G a' h2 w' hw hG)
    rwa [hdl] at this
  · obtain ⟨_, h1⟩ := hv _ k0.ok_pick
    have h2 := hB2 G a' (hX G a' _ k0.ok_pick h1) w' hw hG
    have hop : wpOp P l.toArray Q n (wpList P l.toArray Q (o0 :: l.drop (n + 1))) a' w' := by unfold wpOp; simp only [hon]; exact h2
    refine wpOp_mono (fun a2 w2 h3 => ?_) hop
    have := wpAny_of_seqL (md := .any) (ops := l.toArray) (o0 :: l.drop (n + 1)) (0 :: List.range' (n + 1) (l.toArray.size - n - 1)) _ a2 w2 (by simp; omega) (fun j k hj => ?_) hseq h3
    · have hlen : (o0 :: l.drop (n + 1)).length = l.toArray.size - n := by simp; omega
      rwa [hlen] at this
    · cases j with
      | zero =>
        simp only [List.getElem?_cons_zero, Option.some.injEq] at hj
        subst hj
        simpa using ho.symm
      | succ j =>
        simp only [List.getElem?_cons_succ] at hj ⊢
        obtain ⟨hlt, hk⟩ := List.getElem?_eq_some_iff.1 hj
        simp only [List.getElem_range', Nat.one_mul] at hk
        rw [List.getElem?_drop, ← hk, List.getElem?_toArray]
end
end Go.Proofs.YtekeanikgcpijaaGreatDoor
namespace Go.Proofs.YtekeanikgcpijaaGreatDoor
open Go.RowKit
def off (d : Nat) : TL → TL
  | [] => []
  | (j, x) :: l => bif Nat.beq j d then off d l else (j, x) :: off d l
theorem lk_off {d t : Nat} {x : IV} : ∀ {T : TL}, lk t (off d T) = some x → t ≠ d ∧ lk t T = some x
  | [], h => by cases h
  | (j, y) :: l, h => by
    unfold off at h
    cases e : Nat.beq j d with
    | true =>
      rw [e] at h
      obtain ⟨h1, h2⟩ := lk_off (T := l) h
      have : j = d := Nat.eq_of_beq_eq_true e
      exact ⟨h1, by rw [lk_cons_ne _ _ (by omega)]; exact h2⟩
    | false =>
      rw [e] at h
      have hjd : j ≠ d := fun h => by subst h; simp at e
      rcases lk_cons h with ⟨rfl, rfl⟩ | ⟨hne, h⟩
      · exact ⟨hjd, lk_cons_eq _ _ _⟩
      · obtain ⟨h1, h2⟩ := lk_off (T := l) h
        exact ⟨h1, by rw [lk_cons_ne _ _ hne]; exact h2⟩
section
variable {P : Program} {cx : Cx} {T T' T2 : TL} {B : BL} {R : RL}
theorem e_draw_float2 (n : Nat) {id : Nat} {o0 on : Oper} {l : List Oper} {d : Nat} {y0 : IV} {Q : Exit → Act → World → Prop} {ys : List IV} (hm : P.follows .mixedOrders = true) (hB : float2B (o0 :: l).toArray n = true) (hd : o0.dst = some d) (hon : (o0 :: l).toArray[n]? = some on)
    (hW : Walk P cx B R (patched (o0 :: l).toArray n) ((o0 :: l).take n) T (y0 :: ys) T') (hT : off d T' = T2) (hA : E cx T' B R (wpList P (o0 :: l).toArray Q ((o0 :: l).drop n))) (hB2 : E cx T2 B R (wpList P (o0 :: l).toArray Q (on :: o0 :: (o0 :: l).drop (n + 1)))) :
    E cx T B R ((Code.region id (o0 :: l).toArray true).wp P Q) := fun M V a w hr => by
  have h0 : Ct cx T B R M V a w.drew := Ct.stay w _ (Below.refl _ _).drew ⟨hr.heap, hr.tmp⟩
  have hks := kinds_stay (cx := cx) (B := B) (R := R) (M := M) (V := V) (y0 :: ys)
  refine wp_region_float2 n (Ct cx T B R M V a) Rb (kindOf cx B R M V y0) (ys.map (kindOf cx B R M V)) (fun G a' => a'.tmps.size = cx.n ∧ a'.defers = [] ∧ Gt cx B R M V (Ct cx T B R M V a) T' G a') (fun G a' => a'.tmps.size = cx.n ∧ a'.defers = [] ∧ Gt cx B R M V (Ct cx T B R M V a) T2 G a') (o0 := o0) (on := on) hm hB rfl hon Ct.stay hks.1 hks.2 h0 ?_ ?_ ?_ ?_ ?_
  · rintro G G' a' hG ⟨h1, h2, h3⟩
    refine ⟨h1, h2, fun t x hx => ?_⟩
    rcases h3 t x hx with h | ⟨h4, F, h5, h6⟩
    · exact .inl h
    · exact .inr ⟨h4, F, hG _ h5, h6⟩
  · rintro G a' ⟨hn, hdf, hG⟩ w' hc hF
    exact hA M V a' w' (hG.rel (fun w h => h.1) hn hdf hc hF)
  · rintro G a' v _ ⟨hn, hdf, hG⟩
    refine ⟨by simpa [Act.put, hd] using hn, by rw [hd] at hdf; exact hdf, fun t x hx => ?_⟩
    rw [← hT] at hx
    obtain ⟨hne, hx⟩ := lk_off hx
    have hget : (a'.put o0.dst v).tmps.getD t undef = a'.tmps.getD t undef := by
      rw [hd]
      simp only [Act.put, Array.getD_eq_getD_getElem?, Array.getElem?_setIfInBounds]
      rw [if_neg (Ne.symm hne)]
    rcases hG t x hx with h | ⟨h4, F, h5, h6⟩
    · rw [hget] at h
      exact .inl h
    · rw [hget] at h6
      refine .inr ⟨h4, F, ?_, h6⟩
      rcases List.mem_cons.1 h5 with e | h5
      · injection e with e _
        rw [hd] at e
        injection e with e
        exact absurd e hne
      · exact h5
  · rintro G a' ⟨hn, hdf, hG⟩ w' hc hF
    exact hB2 M V a' w' (hG.rel (fun w h => h.1) hn hdf hc hF)
  · exact hW.wpT (fun w h => h.1) ⟨_, h0⟩ hr.size hr.defers (fun t x hx => .inl fun w h => h.2 t x hx) fun G' a' hn hdf hG => ⟨hn, hdf, hG⟩
end
end Go.Proofs.YtekeanikgcpijaaGreatDoor
namespace Go.Proofs.YtekeanikgcpijaaGreatDoor
open Go.RowKit
section
variable {P : Program} {cx : Cx} {T : TL} {B : BL} {R : RL} {o : Oper}
def fieldT (P : Program) (t : TypeId) (f : Nat) : Option (TypeId × Nat) :=
  match P.underlying t with
  | some (.struct fs) => (fs[f]?).map fun g => (g.type, g.offset)
  | _ => none
theorem s_field {x : Operand} {t fty : TypeId} {f off : Nat} {cs : List Value} {v : Value} (ho : o.op = .field t x f) (hx : Kn T x (.part (.many (cs.map .cell)))) (hf : fieldT P t f = some (fty, off)) (h1 : P.underlying fty = some .string ∨ ∃ k, P.underlying fty = some (.int k)) (hv : cs[off]? = some v) : LStep P cx B R o T (.is v) := LStep.same fun M V w a _ hk => by
  have h2 := many_cells (hk x _ (by simp [ho, Op.operands]) hx)
  unfold fieldT at hf
  cases hu : P.underlying t with
  | none => rw [hu] at hf; cases hf
  | some d =>
    cases d <;> rw [hu] at hf <;> try (cases hf; done)
    rename_i fs
    obtain ⟨g, hg, hg2⟩ := Option.map_eq_some_iff.1 hf
    injection hg2 with e1 e2
    subst e1 e2
    have h3 := run_part_one (P := P) (xs := cs.toArray) w h1 (by simpa using hv)
    refine ⟨v, ?_, .cell v⟩
    unfold execOp
    simp only [ho, h2]
    simp [Instr.field, run_underlying hu, hg, asAgg, h3]
end
end Go.Proofs.YtekeanikgcpijaaGreatDoor
namespace Go.Proofs.YtekeanikgcpijaaGreatDoor
open Go.RowKit
section
variable {P : Program} {cx : Cx} {T : TL} {B : BL} {R : RL}
theorem wp_then {o : Oper} {a : Act} {w : World} {K : Act → World → Prop} {Q : Exit → Act → World → Prop} (h : o.wp P a w K (Exit.then K Q)) : o.wp P a w K Q := by
  unfold Oper.wp at *
  generalize (execOp a.eval o).run P w = r at *
  cases r with
  | ok n w' =>
    cases n <;> simp only [Oper.upon] at h ⊢ <;> first | exact h | exact Calls.mono h (fun e w'' he => by cases e <;> exact he) | exact Rows.mono h (fun _ _ he => he)
  | halt x w' => cases x <;> simp only [Oper.upon] at h ⊢ <;> exact h
def coinB (ops : Array Oper) : Bool :=
  decide (ops.size = 4) && decide (Region.ready .any ops #[false, false, false, false] = [0]) && decide (Region.ready .any ops #[true, false, false, false] = [1, 2]) && decide (Region.ready .any ops #[true, true, false, false] = [2]) && decide (Region.ready .any ops #[true, false, true, false] = [1]) && decide (Region.ready .any ops #[true, true, true, false] = [3]) && decide (Region.ready .any ops #[true, true, true, true] = [])
theorem wp_region_coin {id : Nat} {Q : Exit → Act → World → Prop} {a : Act} {w : World} {o0 o1 o2 o3 : Oper} (hm : P.follows .mixedOrders = true) (hB : coinB #[o0, o1, o2, o3] = true)
    (h : wpOp P #[o0, o1, o2, o3] Q 0 (fun a w => wpOp P #[o0, o1, o2, o3] Q 1 (wpOp P #[o0, o1, o2, o3] Q 2 (wpOp P #[o0, o1, o2, o3] Q 3 (Q .normal))) a w ∧ wpOp P #[o0, o1, o2, o3] Q 2 (wpOp P #[o0, o1, o2, o3] Q 1 (wpOp P #[o0, o1, o2, o3] Q 3 (Q .normal))) a w) a w.drew) : (Code.region id #[o0, o1, o2, o3] true).wp P Q a w := by
  simp only [coinB, Bool.and_eq_true, decide_eq_true_eq] at hB
  obtain ⟨⟨⟨⟨⟨⟨_, r0⟩, r1⟩, r2⟩, r3⟩, r4⟩, r5⟩ := hB
  refine wp_region_any hm ?_
  have hend : ∀ a w, Q .normal a w → wpAny P .any #[o0, o1, o2, o3] Q 0 #[true, true, true, true] a w := fun a w h => ⟨r5, h⟩
  have h3 : ∀ a w, wpOp P #[o0, o1, o2, o3] Q 3 (Q .normal) a w → wpAny P .any #[o0, o1, o2, o3] Q 1 #[true, true, true, false] a w := fun a w h => ⟨fun e => (by rw [r4] at e; cases e), fun i hi => by
    rw [r4] at hi
    obtain rfl : i = 3 := by simpa using hi
    exact wpOp_mono hend h⟩
  have h2 : ∀ a w, wpOp P #[o0, o1, o2, o3] Q 2 (wpOp P #[o0, o1, o2, o3] Q 3 (Q .normal)) a w → wpAny P .any #[o0, o1, o2, o3] Q 2 #[true, true, false, false] a w := fun a w h => ⟨fun e => (by rw [r2] at e; cases e), fun i hi => by
    rw [r2] at hi
    obtain rfl : i = 2 := by simpa using hi
    exact wpOp_mono h3 h⟩
  have h1 : ∀ a w, wpOp P #[o0, o1, o2, o3] Q 1 (wpOp P #[o0, o1, o2, o3] Q 3 (Q .normal)) a w → wpAny P .any #[o0, o1, o2, o3] Q 2 #[true, false, true, false] a w := fun a w h => ⟨fun e => (by rw [r3] at e; cases e), fun i hi => by
    rw [r3] at hi
    obtain rfl : i = 1 := by simpa using hi
    exact wpOp_mono h3 h⟩
  refine ⟨fun e => (by have : Region.ready .any #[o0, o1, o2, o3] #[false, false, false, false] = [] := e; rw [r0] at this; cases this), fun i hi => ?_⟩
  have hi' : i ∈ Region.ready .any #[o0, o1, o2, o3] #[false, false, false, false] := hi
  rw [r0] at hi'
  obtain rfl : i = 0 := by simpa using hi'
  refine wpOp_mono (fun a w hk => ?_) h
  show wpAny P .any #[o0, o1, o2, o3] Q 3 #[true, false, false, false] a w
  refine ⟨fun e => (by rw [r1] at e; cases e), fun i hi => ?_⟩
  rw [r1] at hi
  rcases List.mem_cons.1 hi with rfl | hi
  · exact wpOp_mono h2 hk.1
  · obtain rfl : i = 2 := by simpa using hi
    exact wpOp_mono h1 hk.2
theorem op_of_list {ops : Array Oper} {Q : Exit → Act → World → Prop} {K : Act → World → Prop} {o : Oper} {i : Nat} {a : Act} {w : World} (hi : ops[i]? = some o) (hl : LetsOut (Exit.then K Q) → LetsOut Q) (h : wpList P ops (Exit.then K Q) [o] a w) : wpOp P ops Q i K a w := by
  unfold wpOp
  simp only [hi]
  simp only [wpList] at h
  split
  · rename_i hw
    rw [if_pos hw] at h
    exact h.imp (fun h => wp_then h) (fun h => ⟨h.1, hl h.2⟩)
  · rename_i hw
    rw [if_neg hw] at h
    exact h
theorem e_coin {id : Nat} {Q : Exit → Act → World → Prop} {o0 o1 o2 o3 : Oper} {d0 d1 ty : Nat} (b : Nat) (hm : P.follows .mixedOrders = true) (hB : coinB #[o0, o1, o2, o3] = true) (hl : ∀ K, LetsOut (Exit.then K Q) → LetsOut Q)
    (g0 : o0.guard = none) (e0 : o0.dst = some d0) (n0 : Nat.blt d0 cx.n = true) (p0 : o0.op = .alloc ty) (hz : zeroT P ty = some [.bool false])
    (g1 : o1.guard = none) (e1 : o1.dst = none) (p1 : o1.op = .store ty (.tmp d0) (.const (.bool true))) (g2 : o2.guard = none) (e2 : o2.dst = none) (p2 : o2.op = .store ty (.tmp d0) (.const (.bool false)))
    (g3 : o3.guard = none) (e3 : o3.dst = some d1) (n1 : Nat.blt d1 cx.n = true) (p3 : o3.op = .load ty (.tmp d0)) (hs : sizeT P ty = some 1) (h1 : oneT P ty = true)
    (hpn : cx.pn.all (fun c => !Nat.beq c b) = true) (hT : nobT b T = true) (hBb : nobB b B = true)
    (h : ∀ x y : Bool, E cx ((d1, .is (.bool y)) :: (d0, .box b 0) :: T) ((b, ⟨ty, [.is (.bool y)]⟩) :: (b, ⟨ty, [.is (.bool x)]⟩) :: (b, ⟨ty, [.is (.bool false)]⟩) :: B) R (Q .normal)) : E cx T B R ((Code.region id #[o0, o1, o2, o3] true).wp P Q) := fun M V a w hr => by
  refine wp_region_coin hm hB ?_
  have hr1 : Rel cx T B R M V a w.drew := ⟨hr.size, hr.defers, hr.heap.step (Below.refl _ _).drew, fun t x hx => (hr.tmp t x hx).stay (hr.heap.keeps (Below.refl _ _).drew) fun _ hg => hg.mono (Nat.le_refl _)⟩
  have kd : Kn ((d0, .box b 0) :: T) (.tmp d0) (.box b 0) := kn (show lk d0 ((d0, IV.box b 0) :: T) = _ from lk_cons_eq _ _ _)
  have key : ∀ (x y : Bool) (i j : Nat) (oi oj : Oper), #[o0, o1, o2, o3][i]? = some oi → #[o0, o1, o2, o3][j]? = some oj → oi.guard = none → oi.dst = none → oi.op = .store ty (.tmp d0) (.const (.bool x)) → oj.guard = none → oj.dst = none → oj.op = .store ty (.tmp d0) (.const (.bool y)) →
      E cx ((d0, .box b 0) :: T) ((b, ⟨ty, [.is (.bool false)]⟩) :: B) R (wpOp P #[o0, o1, o2, o3] Q i (wpOp P #[o0, o1, o2, o3] Q j (wpOp P #[o0, o1, o2, o3] Q 3 (Q .normal)))) := fun x y i j oi oj hi hj gi ei pi gj ej pj => by
    have s3 : E cx ((d0, .box b 0) :: T) ((b, ⟨ty, [.is (.bool y)]⟩) :: (b, ⟨ty, [.is (.bool x)]⟩) :: (b, ⟨ty, [.is (.bool false)]⟩) :: B) R (wpOp P #[o0, o1, o2, o3] Q 3 (Q .normal)) := fun M V a w hr => by
      refine op_of_list (o := o3) rfl (hl _) ?_
      exact e_list_op (ops := #[o0, o1, o2, o3]) (Q := Exit.then (Q .normal) Q) g3 e3 n1 (s_load1_box (y := .is (.bool y)) p3 kd (lk_cons_eq _ _ _) rfl h1) (h x y) M V a w hr
    have s2 : E cx ((d0, .box b 0) :: T) ((b, ⟨ty, [.is (.bool x)]⟩) :: (b, ⟨ty, [.is (.bool false)]⟩) :: B) R (wpOp P #[o0, o1, o2, o3] Q j (wpOp P #[o0, o1, o2, o3] Q 3 (Q .normal))) := fun M V a w hr => by
      refine op_of_list (o := oj) hj (hl _) ?_
      exact e_store1 (ops := #[o0, o1, o2, o3]) (Q := Exit.then (wpOp P #[o0, o1, o2, o3] Q 3 (Q .normal)) Q) gj ej pj kd (lk_cons_eq _ _ _) (kn rfl) rfl rfl hs rfl s3 M V a w hr
    exact fun M V a w hr => by
      refine op_of_list (o := oi) hi (hl _) ?_
      exact e_store1 (ops := #[o0, o1, o2, o3]) (Q := Exit.then (wpOp P #[o0, o1, o2, o3] Q j (wpOp P #[o0, o1, o2, o3] Q 3 (Q .normal))) Q) gi ei pi kd (lk_cons_eq _ _ _) (kn rfl) rfl rfl hs rfl s2 M V a w hr
  refine op_of_list (o := o0) rfl (hl _) ?_
  refine e_alloc (ops := #[o0, o1, o2, o3]) (Q := Exit.then _ Q) b [.is (.bool false)] g0 e0 n0 p0 hz (fun w D M V => ⟨rfl, fun j x v h1 h2 => cfit_is _ h1 h2 rfl⟩) hpn hT hBb rfl ?_ M V a w.drew hr1
  exact fun M V a w hr => ⟨key true false 1 2 o1 o2 rfl rfl g1 e1 p1 g2 e2 p2 M V a w hr, key false true 2 1 o2 o1 rfl rfl g2 e2 p2 g1 e1 p1 M V a w hr⟩
end
end Go.Proofs.YtekeanikgcpijaaGreatDoor
namespace Go.Proofs.YtekeanikgcpijaaGreatDoor
open Go.RowKit
section
variable {P : Program} {cx : Cx} {T : TL} {B : BL} {R : RL}
def LentBr (ρ σ : Nat → Nat) (B : BL) : BL → Prop
  | [] => True
  | (b, x) :: l => lk (ρ b) B = some ⟨x.ty, x.cs.map (·.ren ρ σ)⟩ ∧ LentBr ρ σ B l
def LentRr (σ : Nat → Nat) (R : RL) : RL → Prop
  | [] => True
  | (r, x) :: l => lk (σ r) R = some x ∧ LentRr σ R l
theorem LentBr.get {ρ σ : Nat → Nat} : ∀ {B0 : BL} (_ : LentBr ρ σ B B0) {b : Nat} {x : Bx}, lk b B0 = some x → lk (ρ b) B = some ⟨x.ty, x.cs.map (·.ren ρ σ)⟩
  | (c, y) :: l, h, b, x, hx => by
    rcases lk_cons hx with ⟨rfl, rfl⟩ | ⟨_, hx⟩
    · exact h.1
    · exact LentBr.get h.2 hx
  | [], _, _, _, hx => by cases hx
theorem LentRr.get {σ : Nat → Nat} : ∀ {R0 : RL} (_ : LentRr σ R R0) {b : Nat} {x : Rw}, lk b R0 = some x → lk (σ b) R = some x
  | (c, y) :: l, h, b, x, hx => by
    rcases lk_cons hx with ⟨rfl, rfl⟩ | ⟨_, hx⟩
    · exact h.1
    · exact LentRr.get h.2 hx
  | [], _, _, _, hx => by cases hx
theorem eg_ren {gls : List (Nat × List Value)} {f : FuncId} {xs ys : List IV} {B0 : BL} {R0 : RL} {Y Y' : IV → BL → RL → Prop} (ρ σ : Nat → Nat) (hf : EG P gls f ys B0 R0 Y) (hxs : xs = ys.map (·.ren ρ σ)) (hB : LentBr ρ σ B B0) (hR : LentRr σ R R0) (apB : Apart ρ (names B0)) (apR : Apart σ (names R0))
    (hY : ∀ y B1 R1, Y y B1 R1 → Tidy B0 R0 y B1 R1)
    (hY' : ∀ y B1 R1, Y y B1 R1 → ∃ y' B2 R2, Y' y' B2 R2 ∧ Imp (y.ren ρ σ) y' ∧ SubB (renB ρ σ B1 ++ killBL ((names R0).map σ) B) B2 ∧ SubR (renR σ R1 ++ R) R2) : EG P gls f xs B R Y' := fun w D M V vs n hh hp => by
  subst hxs
  have hL : Lent B R ρ σ B0 R0 := ⟨fun b x hx => hB.get hx, fun r x hx => hR.get hx, apB, apR⟩
  let cx : Cx := lcx w D 1 gls B R M V
  have hr : Rel cx [] B R M V { tmps := #[undef], defers := [] } w := ⟨rfl, rfl, hh.n 1, fun t x hx => (by cases hx)⟩
  refine (calls_back (d := 0) hr hL hp hf hY Nat.zero_lt_one).mono fun e w' ⟨v, y, B1, R1, V', h1, h2, h3⟩ => ?_
  obtain ⟨y', B2, R2, g1, g2, g3, g4⟩ := hY' y B1 R1 h2
  have h4 := h3.sub (T' := []) trivial g3 g4
  have hD : ∀ g, Dc cx (renB ρ σ B1 ++ killBL ((names R0).map σ) B) (renR σ R1 ++ R) M V' w' g → Dc cx B2 R2 M V' w' g := fun g hg => by
    rcases hg with hg | ⟨a1, a2, a3, a4⟩
    · exact .inl hg
    · exact .inr ⟨a1, a2, fun b x hx => by obtain ⟨z, hz, _⟩ := g3.get hx; exact a3 b z hz, fun r x hx => a4 r x (g4.get hx)⟩
  have hv := h3.tmp 0 _ (lk_cons_eq _ _ _)
  rw [getD_put _ 0 0 v (by show 0 < 1; exact Nat.zero_lt_one), if_pos rfl] at hv
  exact ⟨v, y', B2, R2, M, V', h1, g1, h4.heap.n n, (g2 _ _ _ _ _ hv).stay (Keeps.refl _ _) hD⟩
theorem kn_many (cs : List Value) : Kn T (.const (.agg cs.toArray)) (.part (.many (cs.map .cell))) := fun w D _ _ _ _ => ⟨cs, rfl, fits_cells w D cs⟩
theorem e_store_last {ops : Array Oper} {Q : Exit → Act → World → Prop} {o1 o2 : Oper} {l : List Oper} {d : Nat} {x i y : Operand} {t st : TypeId} {r k n : Nat} {ty : TypeId} {ds zs es : List Dat} {kk : IntKind} (hg1 : o1.guard = none) (hd1 : o1.dst = some d) (hn1 : Nat.blt d cx.n = true) (ho1 : o1.op = .indexAddr t x i) (hx : Kn T x (.own r)) (hr : lk r R = some ⟨ty, k, n + 1, ds ++ zs, false⟩) (hzs : zs.length = k) (hi : Kn T i (.is (.int kk (n : Int))))
    (ht : P.underlying t = some (.slice (P.elem t))) (hs : sizeT P (P.elem t) = some k) (hg2 : o2.guard = none) (hd2 : o2.dst = none) (ho2 : o2.op = .store st (.tmp d) y) (hy : Kn ((d, .junk) :: T) y (.part (.many es))) (h1 : es.all Dat.isOne = true) (hel : es.length = k) (hst : sizeT P st = some k)
    (hE : E cx ((d, .junk) :: T) B ((r, ⟨ty, k, n + 1, ds ++ es, false⟩) :: R) (wpList P ops Q l)) (hty : Nat.blt ty 1000000 = true := by rfl) : E cx T B R (wpList P ops Q (o1 :: o2 :: l)) := fun M V a w hrel => by
  have hh := hrel.heap
  have hxv : a.eval x = V r := hx w (Dc cx B R M V w) M V a fun t z _ hz => hrel.tmp t z hz
  have hiv : a.eval i = .int kk (n : Int) := (hi w (Dc cx B R M V w) M V a fun t z _ hz => hrel.tmp t z hz).is_eq
  obtain ⟨xs, hown, hfx⟩ : Gr w (Dc cx B R M V w) 0 ty k (V r) (n + 1) (ds ++ zs) := Gx.row (hh.row r _ hr) hty
  obtain ⟨hxl, hv⟩ := hown
  obtain ⟨g, cap, cur, hVr, _, hg, hcap, hmax, hcs, hcx⟩ := hv.resolve_left fun h => Nat.succ_ne_zero _ h.2
  have hob : obk (V r) = some g := by rw [hVr]; rfl
  have hdl : ds.length = n * k := by
    have := hfx.1
    rw [List.length_append, hzs, hxl, Nat.succ_mul] at this
    omega
  have hle : n * k + k ≤ cap * k := by
    rw [← Nat.succ_mul]
    exact Nat.mul_le_mul_right _ hcap
  refine wpList_plain hg1 fun K hK => ?_
  have hadd : (⟨g, 0, none⟩ : Addr).add (n * k) = ⟨g, n * k, none⟩ := by unfold Addr.add; split <;> simp_all
  have h7 := run_indexAt_slice (P := P) w t ⟨g, 0, none⟩ (n + 1) cap kk (n : Int) ht
  rw [if_pos ⟨by omega, by omega⟩, run_sizeT hs, Result.andThen_ok, Int.toNat_natCast, hadd] at h7
  have hrun : (execOp a.eval o1).run P w = .ok (.value (.pointer (some ⟨g, n * k, none⟩))) w := by
    simp [execOp, ho1, hxv, hiv, hVr, h7]
  unfold Oper.wp
  rw [hrun]
  simp only [Oper.upon, hd1]
  refine hK _ _ ?_
  have hr1 : Rel cx ((d, .junk) :: T) B R M V (a.put (some d) (.pointer (some ⟨g, n * k, none⟩))) w := hrel.put (Below.refl _ _) (blt_lt hn1) trivial
  generalize ha1 : a.put (some d) (.pointer (some ⟨g, n * k, none⟩)) = a1 at hr1 ⊢
  have hp1 : a1.eval (.tmp d) = .pointer (some ⟨g, n * k, none⟩) := by
    rw [← ha1]
    show (a.put (some d) (.pointer (some ⟨g, n * k, none⟩))).tmps.getD d undef = _
    rw [getD_put a d d _ (by rw [hrel.size]; exact blt_lt hn1), if_pos rfl]
  obtain ⟨us, hyv, hyf⟩ := hy w (Dc cx B R M V w) M V a1 fun t z _ hz => hr1.tmp t z hz
  have hone := hyf.one h1
  have hul : us.length = k := hyf.1.symm.trans hel
  have hblk : Blk w g ty cur.toList := by unfold Blk; rw [hg]
  have hcl : cur.toList.length = cap * k := by simpa using hcs
  refine wpList_plain hg2 fun K hK => ?_
  have hstc := run_storeCells_at (P := P) g (n * k) ty us 0 cur.toList.toArray w hblk (by simp; omega) hone
  simp only [Nat.add_zero] at hstc
  have hnew := setRow_heap w g cur.toList.toArray (cur.toList.take (n * k) ++ us ++ cur.toList.drop (n * k + us.length)).toArray ty (0, 0) hblk
  have hoth : ∀ q, q ≠ g → (w.setRow g (cur.toList.take (n * k) ++ us ++ cur.toList.drop (n * k + us.length)).toArray).heap[q]? = w.heap[q]? := fun q hq => setRow_other w g q _ hq
  have hsz' : (w.setRow g (cur.toList.take (n * k) ++ us ++ cur.toList.drop (n * k + us.length)).toArray).heap.size = w.heap.size := by simp
  have hrel' : Rel cx ((d, .junk) :: T) B ((r, ⟨ty, k, n + 1, ds ++ es, false⟩) :: R) M V a1 (w.setRow g (cur.toList.take (n * k) ++ us ++ cur.toList.drop (n * k + us.length)).toArray) := by
    generalize hw' : w.setRow g (cur.toList.take (n * k) ++ us ++ cur.toList.drop (n * k + us.length)).toArray = w' at hnew hoth hsz'
    have hos : w'.os = w.os := by rw [← hw']; rfl
    have htp : w'.tape = w.tape := by rw [← hw']; rfl
    have hou : w'.output = w.output := by rw [← hw']; rfl
    have hDne : ∀ q, Dc cx B R M V w q → q ≠ g := fun q hq e => by
      subst e
      rcases hq with hq | ⟨_, _, _, a4⟩
      · have := hh.d0 _ hq
        rcases hh.ro r _ _ hr rfl hob with h | h
        · omega
        · exact this.2 h
      · exact a4 r _ hr rfl hob
    have hkeep : Keeps (Dc cx B R M V w) w w' := fun q hq => hoth q (hDne q hq)
    have hD : ∀ q, Dc cx B R M V w q → Dc cx B ((r, ⟨ty, k, n + 1, ds ++ es, false⟩) :: R) M V w' q := fun q hq => by
      rcases hq with hq | ⟨a1, a2, a3, a4⟩
      · exact .inl hq
      · refine .inr ⟨a1, by omega, a3, fun p z hz hf => ?_⟩
        rcases lk_cons hz with ⟨rfl, rfl⟩ | ⟨_, hz⟩
        · exact a4 _ _ hr rfl
        · exact a4 p z hz hf
    refine ⟨hr1.size, hr1.defers, ⟨hh.below.turn hos htp hou (by omega) (some g) (fun q hq => by cases hq; exact hh.ro r _ _ hr rfl hob) (fun q hq hne => hoth q fun e => hne (by rw [e])), hh.d0, hh.bl, hh.gl, fun c z hz => ?_, fun q z hz => ?_, fun q z p hz hf hp => ?_, hh.pin, hh.bb, fun c q z u p hz hu hf hp => ?_, fun q p z u s hz hu hf hf' hp hs => ?_⟩, fun t z hz => (hr1.tmp t z hz).stay hkeep hD⟩
    · obtain ⟨b1, cs, b2, b3⟩ := hh.box c z hz
      refine ⟨b1, cs, ?_, b3.stay hkeep hD⟩
      unfold Blk
      rw [hoth (M c) (hh.br c r z _ g hz hr rfl hob)]
      exact b2
    · rcases lk_cons hz with ⟨rfl, rfl⟩ | ⟨hne, hz⟩
      · have : Gx w' (Dc cx B ((r, ⟨ty, k, n + 1, ds ++ es, false⟩) :: R) M V w') 0 ty k (V r) (n + 1) (ds ++ es) := by
          refine ⟨xs.take (n * k) ++ us, .inl ⟨hty, by simp [hxl, hul, Nat.succ_mul], .inr ⟨g, cap, _, hVr, Nat.zero_le _, hnew, hcap, hmax, by simp; omega, ?_⟩⟩, ?_⟩
          · rw [← hcx, Nat.succ_mul, List.take_take, Nat.min_eq_left (Nat.le_add_right _ _)]
            simp only [List.append_assoc]
            rw [List.take_append, List.take_append]
            have e1 : (List.take (n * k) cur.toList).length = n * k := by rw [List.length_take, hcl]; omega
            rw [e1, hul, Nat.add_sub_cancel_left, Nat.sub_self, List.take_zero, List.append_nil, List.take_of_length_le (l := us) (by omega), List.take_of_length_le (by rw [e1]; omega)]
          · have hf1 : Fits w (Dc cx B R M V w) ds (xs.take (n * k)) := by
              refine ⟨by rw [List.length_take, hxl, hdl, Nat.succ_mul]; omega, fun j e v he hv => ?_⟩
              have hj : j < ds.length := by
                rcases Nat.lt_or_ge j ds.length with h | h
                · exact h
                · rw [List.getElem?_eq_none h] at he; cases he
              rw [List.getElem?_take] at hv
              split at hv
              · exact hfx.2 j e v (by rw [List.getElem?_append_left hj]; exact he) hv
              · cases hv
            exact (hf1.append hyf).stay hkeep hD
        exact this
      · have h1 := hh.row q z hz
        split
        · rename_i hf
          rw [if_pos hf] at h1
          exact h1.stay hkeep hD
        · rename_i hf
          rw [if_neg hf] at h1
          obtain ⟨ys, a2, a3⟩ := h1
          refine ⟨ys, Ow.stay a2 fun p hp => hoth p fun e => ?_, a3.stay hkeep hD⟩
          subst e
          exact hne (hh.rr r q _ z _ hr hz rfl (by simpa using hf) hob hp)
    · rcases lk_cons hz with ⟨rfl, rfl⟩ | ⟨_, hz⟩
      · exact hh.ro _ _ p hr rfl hp
      · exact hh.ro q z p hz hf hp
    · rcases lk_cons hu with ⟨rfl, rfl⟩ | ⟨_, hu⟩
      · exact hh.br c _ z _ p hz hr rfl hp
      · exact hh.br c q z u p hz hu hf hp
    · rcases lk_cons hz with ⟨rfl, rfl⟩ | ⟨_, hz⟩
      · rcases lk_cons hu with ⟨rfl, rfl⟩ | ⟨_, hu⟩
        · rfl
        · exact hh.rr _ p _ u s hr hu rfl hf' hp hs
      · rcases lk_cons hu with ⟨rfl, rfl⟩ | ⟨_, hu⟩
        · exact hh.rr q _ z _ s hz hr hf rfl hp hs
        · exact hh.rr q p z u s hz hu hf hf' hp hs
  have := hK _ _ (hE M V _ _ hrel')
  have hsz := run_sizeT hst (w := w)
  unfold Oper.wp execOp
  simp only [ho2, hp1, hyv, Instr.storeAt, Instr.sureAddr, Sem.run_bind, Sem.run_pure, Result.andThen_ok]
  simp [storeVar, hsz, hul, Value.cells, hstc, Oper.upon, hd2, Act.put]
  simpa [hul] using this
end
end Go.Proofs.YtekeanikgcpijaaGreatDoor
namespace Go.Proofs.YtekeanikgcpijaaGreatDoor
open Go.RowKit
section
variable {P : Program} {cx : Cx} {T : TL} {B : BL} {R : RL} {M : Nat → Nat} {V : Nat → Value} {o : Oper}
theorem EFx.more {gls gls' : List (Nat × List Value)} {f : FuncId} {ps : List Part} {Y : IV → Prop} (h : EFx P gls f ps Y) (hs : ∀ x, x ∈ gls → x ∈ gls') : EFx P gls' f ps Y := fun w D vs hD hG hp => h w D vs hD (fun g cs hg => hG g cs (hs _ hg)) hp
theorem call_enter {gls : List (Nat × List Value)} {f : FuncId} {fn : Func} {c : Code} {ps : List Part} {Y : IV → Prop} (n : Nat) (hf : P.funcs[f]? = some fn) (hb : fn.body = some c) (hn : fn.ntmps = n) (hle : Nat.ble ps.length n = true) (w : World) (D : Nat → Prop) (vs : List Value) (hD : ∀ g, D g → g < w.heap.size) (hG : GlOK gls w) (hp : PsFit w D ps vs)
    (h : E ⟨w, D, fun _ => False, n, gls, [], fun _ => 0⟩ (pslots 0 ps) [] [] (c.wp P (bodyPost P fn (Gives w D Y)))) : Calls P f vs.toArray w (Gives w D Y) := by
  refine calls_of_wp hf hb ?_
  have hl := hp.length
  have hle' := Nat.le_of_ble_eq_true hle
  refine h (fun _ => 0) (fun _ => undef) _ w ⟨by simp [hn]; omega, rfl, ⟨Bex.refl _ _, fun g hg => ⟨hD g hg, fun h => h⟩, fun _ h => h.elim, fun g cs hg => ⟨⟨(hG g cs hg).1, fun h => h⟩, (hG g cs hg).2⟩, fun b x hx => (by cases hx), fun r x hx => (by cases hx), fun r x g hx => (by cases hx), fun b hb => (by cases hb), fun b c x y hx => (by cases hx), fun b r x y g hx => (by cases hx), fun r q x y g hx => (by cases hx)⟩, fun t x hx => ?_⟩
  obtain ⟨p, h1, rfl, _⟩ := pslots_get hx
  obtain ⟨v, h2, h3⟩ := hp.get h1
  rw [Nat.sub_zero] at h2
  have hv : (vs.toArray ++ Array.replicate (fn.ntmps - vs.toArray.size) undef).getD t undef = v := by
    have hlt : t < vs.length := by
      rcases Nat.lt_or_ge t vs.length with h | h
      · exact h
      · rw [List.getElem?_eq_none h] at h2; cases h2
    have h4 : vs[t] = v := by
      rw [List.getElem?_eq_getElem hlt] at h2
      exact Option.some.inj h2
    simp [Array.getElem?_append, hlt, h4]
  show VR _ _ _ _ _ ((vs.toArray ++ Array.replicate (fn.ntmps - vs.toArray.size) undef).getD t undef)
  rw [hv]
  exact PFit.stay (D := D) (Keeps.refl _ _) (fun g hg => Or.inl hg) h3
def EFw (P : Program) (cx : Cx) (f : FuncId) (ps : List Part) (y : IV) : Prop := ∀ w, Bex cx.bor cx.w0 w → ∀ (D : Nat → Prop) (vs : List Value), (∀ g, D g → g < w.heap.size) → GlOK cx.gl w → PsFit w D ps vs → Calls P f vs.toArray w (Gives w D (· = y))
theorem s_callw {f : FuncId} {xs : List Operand} {ts : Array TypeId} {ps : List Part} {y : IV} (ho : o.op = .call { callee := .value (.func f), args := xs.toArray, argTypes := ts }) (hc : callable P f = true) (hf : EFw P cx f ps y) (hx : KnA T xs ps) : LStep P cx B R o T y := fun M V w a hh ht => by
  have hrun : (execOp a.eval o).run P w = .ok (.enter f (xs.map a.eval).toArray) w := by
    have he : a.eval (.func f) = .func (.func f) #[] #[] := rfl
    simp [execOp, ho, resolve, he, Deferred.ofValue, invoke, run_callable hc]
  have hk : ∀ x z, x ∈ xs → Kn T x z → VR w (Dc cx B R M V w) M V z (a.eval x) := fun x z hm hkx => hkx w _ M V a fun t z' e hz => ht t z' (by
    subst e
    rw [ho]
    simp [Op.operands, Call.operands]
    exact hm) hz
  rw [hrun]
  refine ⟨rfl, (hf w hh.below (Dc cx B R M V w) _ (fun _ hg => hh.dlt hg) hh.glok (hx.fit hk)).mono fun _ _ ⟨v, y', h1, h2, h3, h4⟩ => ⟨v, h1, h3, ?_⟩⟩
  subst h2
  exact (h4 M V).stay (Keeps.refl _ _) fun _ hg => hh.new hg h3.size
end
end Go.Proofs.YtekeanikgcpijaaGreatDoor
