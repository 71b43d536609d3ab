/- Part 19 of what the last text of this claim is proved by: walks over the program, and the math behind them. Conditions: as each theorem says. -/
import Derived.Test.YtfcjeciepadmeaaGreatDoorTx18
import Derived.Test.YtfcjeciepadmeaaGreatDoorProg
namespace Go.Proofs.YtfcjeciepadmeaaGreatDoor
section
variable {P : Program} {ops : Array Oper} {md : Region.Mode} {C : World → Prop} {R : World → World → Prop}
theorem wpAnyTL_firstW {ks : Nat → Kind} {n i : Nat} {oi : Oper} {L : Array Bool → List Fact → Act → Prop} (hLm : ∀ listed G G' a, (∀ f ∈ G, f ∈ G') → L listed G a → L listed G' a) (hi : ops[i]? = some oi)
    (hsel : ∀ (j : Nat) (o : Oper) cs b, ops[j]? = some o → o.op ≠ .select cs b)
    {Inv : Array Bool → Prop} (hset : ∀ listed i, Inv listed → i ∈ Region.ready md ops listed → i < n → Inv (listed.setIfInBounds i true)) (hwait : ∀ listed, Inv listed → ∀ i, i < n → listed.getD i true = false → ∀ t, n ≤ t → t ∉ Region.ready md ops listed) (hin : i < n)
    (hdone : ∀ listed G a, L listed G a → ∀ j ∈ Region.ready md ops listed, n ≤ j) :
    ∀ (fuel : Nat) (listed : Array Bool) (G : List Fact) (a : Act), Inv listed →
      (∀ j oj, ops[j]? = some oj → j ≠ i → listed.getD j true = false → (∀ e ∈ oj.after, Region.binds md e = true → e.on ≠ i) → oi.apart ops oj = true) →
      i ∈ Region.ready md ops listed → AskT P ops R C oi (ks i) G a →
      (∀ v, (ks i).ok v → wpAnyTL P md ops R C ks n L fuel (listed.setIfInBounds i true) ((oi.dst, (ks i).pred v) :: G) (a.put oi.dst v)) → wpAnyTL P md ops R C ks n L (fuel + 1) listed G a := by
  intro fuel
  induction fuel with
  | zero =>
    intro listed G a inv _ hr hy H
    have hun := (mem_ready.1 hr).1
    refine ⟨fun h => (by rw [h] at hr; cases hr), fun j hj => ?_⟩
    have hjn : j < n := by
      rcases Nat.lt_or_ge j n with h | h
      · exact h
      · exact absurd hj (hwait _ inv i hin hun j h)
    refine ⟨hjn, fun o ho => ?_⟩
    by_cases hji : j = i
    · subst hji
      rw [hi] at ho; cases ho
      exact ⟨hy, H⟩
    · have := hdone _ _ _ (H _ (ks i).ok_pick) j (ready_mono hj hji)
      omega
  | succ fuel ih =>
    intro listed G a inv hfree hr hy H
    have hun := (mem_ready.1 hr).1
    refine ⟨fun h => (by rw [h] at hr; cases hr), fun j hj => ?_⟩
    have hjn : j < n := by
      rcases Nat.lt_or_ge j n with h | h
      · exact h
      · exact absurd hj (hwait _ inv i hin hun j h)
    refine ⟨hjn, fun o ho => ?_⟩
    by_cases hji : j = i
    · subst hji
      rw [hi] at ho; cases ho
      exact ⟨hy, H⟩
    · have hjun := (mem_ready.1 hj).1
      obtain ⟨a1, a2, a3⟩ := Oper.apart_spec (hfree j o ho hji hjun (ready_free hr hj ho))
      have hjr := ready_mono hj hji
      refine ⟨(AskT.put (hsel j o · · ho) a1).1 (((H _ (ks i).ok_pick).2 j hjr).2 o ho).1, fun u hu => ?_⟩
      refine ih (listed.setIfInBounds j true) _ _ (hset _ _ inv hj hjn) (fun k ok hk hki hun hno => hfree k ok hk hki (Decidable.byCases (fun h : j = k => by rw [← h]; exact hjun) fun h => by rwa [getD_set_ne true h] at hun) hno) (ready_mono hr (Ne.symm hji)) ((AskT.put (hsel i oi · · hi) a3).2 hy) fun v hv => ?_
      have h2 := (((H v hv).2 j hjr).2 o ho).2 u hu
      rw [Array.setIfInBounds_comm _ _ hji, ← Act.put_comm a v u a2]
      refine wpAnyTL_more hLm fuel _ _ _ _ (fun f hf => ?_) h2
      simp only [List.mem_cons] at hf ⊢
      rcases hf with h | h | h
      · exact .inr (.inl h)
      · exact .inl h
      · exact .inr (.inr h)
theorem wpAnyTL_lexW {ks : Nat → Kind} {n g : Nat} {Q : List Fact → Act → Prop} (hQ : ∀ G G' a, (∀ f ∈ G, f ∈ G') → Q G a → Q G' a) (hsel : Region.noSelect ops = true) {Inv : Array Bool → Prop} (hset : ∀ listed i, Inv listed → i ∈ Region.ready md ops listed → i < n → Inv (listed.setIfInBounds i true)) (hwait : ∀ listed, Inv listed → ∀ i, i < n → listed.getD i true = false → ∀ t, n ≤ t → t ∉ Region.ready md ops listed) :
    ∀ (l : List Oper) (kl : List Kind) (k : Nat) (listed : Array Bool) (G : List Fact) (a : Act), (∀ j, j < l.length → l[j]? = ops[k + j]?) → (∀ (j : Nat) x, kl[j]? = some x → ks (k + j) = x) → k + l.length = n → Inv listed →
    Region.lexHead md ops g l.length k listed = true → wpT P ops R C Q l kl G a →
    wpAnyTL P md ops R C ks n (fun listed' G' a' => Region.seqB md ops g n listed' = true ∧ Q G' a') l.length listed G a
  | [], _, k, listed, G, a, _, _, hk, _, hB, h => by
    have : k = n := by simpa using hk
    subst this
    exact ⟨by simpa [Region.lexHead] using hB, h⟩
  | _ :: _, [], _, _, _, _, _, _, _, _, _, h => h.elim
  | o :: l, x :: kl, k, listed, G, a, hl, hx, hk, inv, hB, h => by
    have h0 : ops[k]? = some o := by simpa using (hl 0 (by simp)).symm
    have hx0 : ks k = x := by simpa using hx 0 x (by simp)
    simp only [List.length_cons, Region.lexHead, Bool.and_eq_true] at hB
    obtain ⟨⟨hr, hf⟩, hB'⟩ := hB
    have hkn : k < n := by simp only [List.length_cons] at hk; omega
    have hr' : k ∈ Region.ready md ops listed := by simpa using hr
    obtain ⟨h1, h2⟩ := h
    refine wpAnyTL_firstW (fun listed G G' a hG h => ⟨h.1, hQ _ _ _ hG h.2⟩) h0 (Region.noSelect_spec hsel) hset hwait hkn (fun listed' G' a' hL => seqB_ready hL.1) l.length listed G a inv (Region.free_spec h0 hf) hr' (by rw [hx0]; exact h1) fun v hv => ?_
    rw [hx0] at hv ⊢
    exact wpAnyTL_lexW hQ hsel hset hwait l kl (k + 1) _ _ _ (fun j hj => by have := hl (j + 1) (by simp; omega); simpa [Nat.add_assoc, Nat.add_comm 1 j] using this)
      (fun j x' hj => by have := hx (j + 1) x' (by simpa using hj); simpa [Nat.add_assoc, Nat.add_comm 1 j] using this) (by simp only [List.length_cons] at hk; omega) (hset _ _ inv hr' hkn) hB' (h2 v hv)
def patched (ops : Array Oper) (n : Nat) : Array Oper := ops.modify n fun o => { o with after := o.after.push { on := 0, ground := .phase } }
def floatB (ops : Array Oper) (n : Nat) : Bool :=
  Region.noSelect ops && decide (1 < n) && decide (n < ops.size) && Region.sinkB .any (patched ops n) n && Region.chainB .any (patched ops n) n && Region.lexHead .any ops (ops.size - n) (n - 1) 1 ((Array.replicate ops.size false).setIfInBounds 0 true) &&
  (match ops[0]? with
   | some o0 => o0.after.all (fun e => !Region.binds .any e) && (List.range ops.size).all fun j => j == 0 || Region.waitsFor .any ops j 0 || (match ops[j]? with | some oj => o0.apart ops oj | none => true)
   | none => false)
theorem patched_size (ops : Array Oper) (n : Nat) : (patched ops n).size = ops.size := by simp [patched]
theorem patched_ne {n j : Nat} (h : j ≠ n) : (patched ops n)[j]? = ops[j]? := by
  unfold patched
  rw [Array.getElem?_modify, if_neg (Ne.symm h)]
theorem patched_eq {n : Nat} {o : Oper} (h : ops[n]? = some o) : (patched ops n)[n]? = some { o with after := o.after.push { on := 0, ground := .phase } } := by
  unfold patched
  rw [Array.getElem?_modify, if_pos rfl, h]
  rfl
structure FloatInv (md : Region.Mode) (ops : Array Oper) (n : Nat) (listed : Array Bool) : Prop where
  head : HeadInv md ops n listed
  zero : listed.getD 0 false = true
theorem FloatInv.wait {n : Nat} {listed : Array Bool} (hs : Region.sinkB md (patched ops n) n = true) (hc : Region.chainB md (patched ops n) n = true) (hn : n < ops.size) (inv : FloatInv md ops n listed) : ∀ i, i < n → listed.getD i true = false → ∀ t, n ≤ t → t ∉ Region.ready md ops listed := fun i hi hun t ht hr => by
  have hnl : listed.getD n false = false := getD_both (inv.head.tail n (Nat.le_refl _) hn)
  have inv' : HeadInv md (patched ops n) n listed := ⟨by rw [patched_size]; exact inv.head.size, fun j oj hj hl e he hb => by
    have hjn : j ≠ n := fun e => by
      subst e
      rw [hnl] at hl
      cases hl
    rw [patched_ne hjn] at hj
    exact inv.head.closed j oj hj hl e he hb, fun t h1 h2 => inv.head.tail t h1 (by rwa [patched_size] at h2)⟩
  refine tail_waits hs hc (by rwa [patched_size]) inv' _ i rfl hi hun t ht ?_
  obtain ⟨h1, o, ho, hall⟩ := mem_ready.1 hr
  refine mem_ready.2 ⟨h1, ?_⟩
  by_cases htn : t = n
  · subst htn
    refine ⟨_, patched_eq ho, fun e he hb => ?_⟩
    rcases Array.mem_push.1 he with he | rfl
    · exact hall e he hb
    · exact inv.zero
  · exact ⟨o, by rw [patched_ne htn]; exact ho, hall⟩
theorem wp_region_float {id : Nat} {Q : Exit → Act → World → Prop} {a : Act} {w : World} {l : List Oper} (n : Nat) (C : World → Prop) (R : World → World → Prop) (kl : List Kind) {o0 : Oper} {v : Value} (hm : P.follows .mixedOrders = true)
    (hB : floatB l.toArray n = true) (ho : l.toArray[0]? = some o0) (hy : Yields P l.toArray o0 v a) (hQ : ∀ c a w, Q (.panic c) (a.put o0.dst v) w → Q (.panic c) a w) (hC : Stays R C) (hks : AllStay R kl) (h0 : C w.drew)
    (h : wpT P l.toArray R C (fun G a' => ∀ w', C w' → (∀ f ∈ G, f.2 w') → wpList P l.toArray Q (l.drop n) a' w') ((l.take n).drop 1) kl [] (a.put o0.dst v)) : (Code.region id l.toArray true).wp P Q a w := by
  simp only [floatB, Bool.and_eq_true, decide_eq_true_eq, ho] at hB
  obtain ⟨⟨⟨⟨⟨⟨hsel, hn1⟩, hn⟩, hs⟩, hc⟩, hlex⟩, hd0, hap⟩ := hB
  have hn' : n < l.length := by simpa using hn
  have htl : ((l.take n).drop 1).length = n - 1 := by simp; omega
  have hdl : (l.drop n).length = l.toArray.size - n := by simp
  have hl0 : 0 < l.length := by omega
  have hrep : (Array.replicate l.toArray.size false).getD 0 true = false := by
    simp [hl0]
  have hr0 : 0 ∈ Region.ready .any l.toArray (Array.replicate l.toArray.size false) := mem_ready.2 ⟨hrep, o0, ho, fun e he hb => by
    have := Array.all_eq_true_iff_forall_mem.1 hd0 e he
    rw [hb] at this
    cases this⟩
  have inv00 : HeadInv .any l.toArray n (Array.replicate l.toArray.size false) :=
    ⟨by simp, fun j oj _ hl => (by rw [getD_replicate_false] at hl; cases hl), fun t _ ht => getD_in (by simpa using ht) (getD_replicate_false _ _)⟩
  have inv0 : FloatInv .any l.toArray n ((Array.replicate l.toArray.size false).setIfInBounds 0 true) := ⟨inv00.set hr0 (by omega), by simp [hl0]⟩
  have hks' : ∀ i v, Stays R (((fun i => kl.getD (i - 1) (Kind.is undef)) i).pred v) := fun i v => by
    simp only [List.getD]
    cases hk : kl[i - 1]? with
    | none => exact fun _ _ _ _ => trivial
    | some k => exact hks.mem k (List.mem_of_getElem? hk) v
  have H := wpAnyTL_lexW (md := .any) (ks := fun i => kl.getD (i - 1) (Kind.is undef)) (g := l.toArray.size - n) (Inv := FloatInv .any l.toArray n) (fun G G' a' hG h w' hw hF => h w' hw fun f hf => hF f (hG f hf)) hsel
    (fun listed i inv hi hin => ⟨inv.head.set hi hin, getD_set_true inv.zero⟩) (fun listed inv => inv.wait hs hc hn) ((l.take n).drop 1) kl 1 _ [] (a.put o0.dst v) (fun j hj => by
    have hj' : 1 + j < n := by rw [htl] at hj; omega
    rw [List.getElem?_drop, List.getElem?_take, if_pos hj', List.getElem?_toArray]) (fun j k hj => by simp [List.getD, Nat.add_sub_cancel_left, hj]) (by rw [htl]; omega) inv0 (by rw [htl]; exact hlex) h
  refine wp_region_any hm ?_
  have hsz : l.toArray.size = (l.toArray.size - 1) + 1 := by simp; omega
  have K := wpAny_of_TL (Q' := Q) (g := l.toArray.size - n) hC hks' (fun listed G a' w' hw hG hL => by
    have := wpAny_of_seq (md := .any) (Q' := Q) (l.drop n) n listed a' w' (fun j => by simp [List.getElem?_drop]) (by rw [hdl]; exact hL.1) (hL.2 w' hw hG)
    rwa [hdl] at this) _ _ [] _ w.drew h0 (fun f hf => by cases hf) (fun f hf => by cases hf) H
  rw [htl, show n - 1 + (l.toArray.size - n) = l.toArray.size - 1 by omega] at K
  have := wpAny_first (v := v) ho (Region.noSelect_spec hsel) hQ (l.toArray.size - 1) (Array.replicate l.toArray.size false) a w.drew (fun j oj hj hj0 _ hno => by
    have hlt : j < l.toArray.size := (Array.getElem?_eq_some_iff.1 hj).1
    have h1 := List.all_eq_true.1 hap j (List.mem_range.2 hlt)
    simp only [Bool.or_eq_true, beq_iff_eq, hj] at h1
    rcases h1 with (h1 | h1) | h1
    · exact absurd h1 hj0
    · obtain ⟨oj', hj', e, he, hb, hon⟩ := Region.waitsFor_spec h1
      rw [hj] at hj'
      obtain rfl := Option.some.inj hj'
      exact absurd hon (hno e he hb)
    · exact h1) hr0 hy K
  rwa [← hsz] at this
end
end Go.Proofs.YtfcjeciepadmeaaGreatDoor
namespace Go.Proofs.YtfcjeciepadmeaaGreatDoor
open Go.RowKit
section
variable {P : Program} {cx : Cx} {T T' : TL} {B : BL} {R : RL}
theorem e_draw_float (n : Nat) {id : Nat} {o0 : Oper} {l : List Oper} {x : Operand} {d : Nat} {y : IV} {Q : Exit → Act → World → Prop} {ys : List IV} (hm : P.follows .mixedOrders = true) (hB : floatB (o0 :: l).toArray n = true) (hg : o0.guard = none) (hd : o0.dst = some d) (hn : Nat.blt d cx.n = true) (ho : o0.op = .move x) (hx : Kn T x y)
    (hQ : ∀ c a v w, Q (.panic c) (a.put (some d) v) w → Q (.panic c) a w) (hW : Walk P cx B R (o0 :: l).toArray (((o0 :: l).take n).drop 1) ((d, y) :: T) ys T') (h : E cx T' B R (wpList P (o0 :: l).toArray Q ((o0 :: l).drop n))) :
    E cx T B R ((Code.region id (o0 :: l).toArray true).wp P Q) := fun M V a w hr => by
  have hxv := hx w (Dc cx B R M V w) M V a fun t z _ hz => hr.tmp t z hz
  have hr1 : Rel cx ((d, y) :: T) B R M V (a.put (some d) (a.eval x)) w := hr.put (Below.refl _ _) (blt_lt hn) hxv
  have h0 : Ct cx ((d, y) :: T) B R M V (a.put (some d) (a.eval x)) w.drew := Ct.stay w _ (Below.refl _ _).drew ⟨hr1.heap, hr1.tmp⟩
  refine wp_region_float n (Ct cx ((d, y) :: T) B R M V (a.put (some d) (a.eval x))) Rb (ys.map (kindOf cx B R M V)) (o0 := o0) (v := a.eval x) hm hB rfl (.inl ⟨by simp [Region.wanted, hg], fun u => by simp [execOp, ho]⟩) (fun c a' w' hq => hQ c a' _ w' (by rw [hd] at hq; exact hq)) Ct.stay (kinds_stay ys) h0 ?_
  rw [hd]
  refine hW.wpT (fun w h => h.1) ⟨_, h0⟩ hr1.size hr1.defers (fun t x hx => .inl fun w h => h.2 t x hx) fun G' a' hn hd hG w' hc hF => ?_
  exact h M V a' w' (hG.rel (fun w h => h.1) hn hd hc hF)
end
end Go.Proofs.YtfcjeciepadmeaaGreatDoor
namespace Go.Proofs.YtfcjeciepadmeaaGreatDoor
open Go.RowKit
theorem sRow_ok {l : List Tk} : ∀ (n : Nat) (f : Fld) (p : Nat) {g : Fld} {q : Nat}, sRow l n f p = .ok (g, q) → p < q ∧ q ≤ l.length
 | 0, f, p, g, q, h => by cases h
 | n + 1, f, p, g, q, h => by
  unfold sRow at h
  split at h
  ·cases h
  rename_i x r hx
  have h1 := sOption_ok hx
  split at h
  ·have := sRow_ok n _ _ h
   omega
  split at h
  ·cases h
  rename_i s hs
  have h2 := sWant_ok hs
  injection h with h
  injection h with h4 h5
  omega
theorem sOptions_row {l : List Tk} {f : Fld} {s : Nat} (h : tkIs l s 4 [91] = true) : sOptions l f s = (match sRow l (l.length + 1) f (s + 1) with | .error e => .error e | .ok (g, r) => match sWant l 4 [59] r with | .error e => .error e | .ok s => .ok (g, s)) := by
 unfold sOptions
 rw [if_pos h]
 rcases sOpts_row l (l.length + 1) f s (by omega) with h1 | h1
 ·exact h1
 ·omega
theorem sOptions_none {l : List Tk} {f : Fld} {s : Nat} (h : tkIs l s 4 [91] = false) : sOptions l f s = (match sWant l 4 [59] s with | .error e => .error e | .ok s => .ok (f, s)) := by
 unfold sOptions
 rw [h]
 rfl
abbrev cloN : IV := .clo (.func 142) [] [.box 4 0, .box 2 0]
set_option maxRecDepth 100000 in
set_option maxHeartbeats 1000000 in
theorem rowOpt_g (E8 E9 : Er) (l : List Tk) (hl : PTk l) (f0 : Fld) (p : Nat) (hp : p ≤ 100000) : EG Tryz.prog (gE E8 E9) 133 [.box 1 0, .part (sP [93]), cloN] (fB4 l f0 p) [] (FE4 l E8 E9 (sRow l (l.length + 1) f0 p)) := by
 refine eg_enter 21 Tryz.func133 rfl rfl rfl fun w D bor mb => ?_
 try refine e_fl ?_
 have hll := hl.len
 obtain ⟨rr, hrr⟩ : ∃ rr, rr = sRow l (l.length + 1) f0 p := ⟨_, rfl⟩
 rw [← hrr]
 refine e_plain (w_as rfl rfl rfl rfl rfl .nil) ?_
 try refine e_fl ?_
 refine e_loop (ι := { i : Nat × Fld × Nat // 1 ≤ i.1 ∧ l.length + 1 ≤ i.1 + i.2.2 ∧ i.2.2 ≤ 100000 ∧ rr = sRow l i.1 i.2.1 i.2.2 })
  (fun _ => [(0, .box 1 0), (1, .part (sP [93])), (2, cloN)])
  (fun i => fB4 l i.1.2.1 i.1.2.2) (fun _ => [])
  (fun i => i.1.1) ⟨(l.length + 1, f0, p), by omega, by dsimp only; omega, hp, hrr⟩
  (fun K => e_sub ⟨s_t, s_t, s_t, trivial⟩ ⟨s_b, s_b, s_b, trivial⟩ trivial) ?_
 rintro ⟨⟨n, f, q⟩, hn1, hn, hq, hw⟩
 dsimp only at hn1 hn hq hw ⊢
 obtain ⟨m, rfl⟩ : ∃ m, n = m + 1 := ⟨n - 1, by omega⟩
 rw [sRow] at hw
 try refine e_fl ?_
 refine e_list ?_
 refine l_mv ?_
 refine e_callci (zs := []) rfl rfl rfl rfl (by kernel_rfl) (named1_g E8 E9 l hl f q hq) ⟨rfl, rfl, rfl, trivial⟩ trivial (kn rfl) trivial rfl (FE4.tidy) ?_
 rintro _ _ _ (⟨a, b, z, g, he, rfl, rfl, rfl⟩ | ⟨g, r, ho, rfl, rfl, rfl⟩)
 ·refine l_as ?_
  refine e_nil ?_
  try refine e_fl ?_
  refine e_plain (w_mv rfl rfl rfl rfl rfl (w_op rfl rfl rfl (s_err_neq rfl (kn rfl) rfl ifc_28) .nil)) ?_
  try refine e_fl ?_
  refine c_yes ?_
  try refine e_fl ?_
  refine e_plain (w_mv rfl rfl rfl rfl rfl (w_as rfl rfl rfl rfl rfl .nil)) ?_
  try refine e_fl ?_
  exact e_returnx (fB4 l g z) ([]) rfl (.tmp (kn rfl) (.nil)) (Imp.refl _) ⟨s_b, s_b, s_b, trivial⟩ trivial (.inl ⟨a, b, z, g, by rw [hw, he], rfl, rfl, rfl⟩)
 have ho1 := sOption_ok ho
 rw [ho] at hw
 dsimp only at hw
 refine l_as ?_
 refine e_nil ?_
 try refine e_fl ?_
 refine e_plain (w_mv rfl rfl rfl rfl rfl (w_op rfl rfl rfl (s_nil_neq rfl (kn rfl) ifc_28) .nil)) ?_
 try refine e_fl ?_
 refine c_no ?_
 try refine e_fl ?_
 refine e_list ?_
 refine l_mv ?_
 refine l_op (s_buildSlice (ds := [_]) [(0, _)] rfl ⟨rfl, (kn rfl), trivial⟩ rfl sl_49 sz_9 zr_9 (fun w D => .cons (.cell _) (.nil _ _)) rfl rfl rfl rfl rfl) ?_
 refine e_calli rfl rfl rfl rfl (by kernel_rfl) (take1 _ l hl [44] 4 rfl (by decide) r (by omega)) ⟨rfl, trivial⟩ trivial ⟨(kn rfl), ⟨(kn rfl), trivial⟩⟩ (fun _ _ _ h => PY.tidy h.1 h.2.1 h.2.2) ?_
 rintro _ _ _ ⟨rfl, rfl, rfl⟩
 refine l_op (s_not rfl (kn rfl)) ?_
 refine e_nil ?_
 try refine e_fl ?_
 refine e_cond rfl (fun h => ?_) (fun h => ?_)
 ·have h1 := not_t h
  rw [if_neg (by rw [h1]; decide)] at hw
  rw [h1]
  try refine e_fl ?_
  refine e_list ?_
  refine l_mv ?_
  refine l_mv ?_
  refine l_op (s_buildSlice (ds := [_]) [(0, _)] rfl ⟨rfl, (kn rfl), trivial⟩ rfl sl_49 sz_9 zr_9 (fun w D => .cons (.cell _) (.nil _ _)) rfl rfl rfl rfl rfl) ?_
  refine e_calli rfl rfl rfl rfl (by kernel_rfl) (want1_g E8 E9 l hl 4 [93] rfl (by decide) r (by omega)) ⟨rfl, trivial⟩ trivial ⟨(kn rfl), ⟨(kn rfl), trivial⟩⟩ (PE.tidy) ?_
  rintro _ _ _ (⟨a, b, z, he, rfl, rfl, rfl⟩ | ⟨z, hz, rfl, rfl, rfl⟩)
  ·refine l_as ?_
   refine e_nil ?_
   try refine e_fl ?_
   exact e_returnx (fB4 l g z) ([]) rfl (.tmp (kn rfl) (.nil)) (Imp.refl _) ⟨s_b, s_b, s_b, trivial⟩ trivial (.inl ⟨a, b, z, g, by rw [hw, he], rfl, rfl, rfl⟩)
  ·refine l_as ?_
   refine e_nil ?_
   try refine e_fl ?_
   exact e_returnx (fB4 l g z) ([]) rfl (.tmp (kn rfl) (.nil)) (Imp.refl _) ⟨s_b, s_b, s_b, trivial⟩ trivial (.inr ⟨g, z, by rw [hw, hz], rfl, rfl, rfl⟩)
 have h1 := not_f h
 have hlt := tkIs_lt h1
 rw [if_pos h1] at hw
 rw [h1]
 try refine e_fl ?_
 refine e_again ⟨(m, g, r + 1), by omega, by dsimp only; omega, by dsimp only; omega, hw⟩ (by dsimp only; omega) (fun K => e_sub ⟨s_t, s_t, s_t, trivial⟩ ⟨s_b, s_b, s_b, trivial⟩ trivial)
abbrev pmX (m : Msg) : Bx := ⟨52, [.is (.string (str m.name)), .own 100, .own 101, .own 102, .own 103, .own 104, .own 105, .is (.int .i64 m.line), .is (.int .i64 m.col)]⟩
abbrev pmR (m : Msg) : RL := [(100, ⟨56, 10, m.fields.length, m.fields.flatMap Fld.dats, false⟩), (101, ⟨9, 1, m.oneofs.length, m.oneofs.flatMap textDats, false⟩), (102, ⟨52, 9, m.msgs.length, m.msgs.flatMap Msg.dats, false⟩), (103, ⟨76, 4, m.enums.length, m.enums.flatMap Enm.dats, false⟩), (104, ⟨117, 2, m.reserved.length, m.reserved.flatMap rangeDats, false⟩), (105, ⟨9, 1, m.names.length, m.names.flatMap textDats, false⟩)]
abbrev mS (l : List Tk) (m : Msg) (q : Nat) : BL := [(1, pX l q), (3, pmX m)]
abbrev NE (l : List Tk) (E8 E9 : Er) (r : Ans8 (Msg × Nat)) (y : IV) (B1 : BL) (R1 : RL) : Prop := ME l E8 E9 (mS l) pmR r y B1 R1
theorem NE.tidy {l : List Tk} {E8 E9 : Er} {r : Ans8 (Msg × Nat)} {m : Msg} {q : Nat} (y : IV) (B1 : BL) (R1 : RL) (h : NE l E8 E9 r y B1 R1) : Tidy (mS l m q) (pmR m) y B1 R1 := by
 rcases h with ⟨a, b, z, x, _, rfl, rfl, rfl⟩ | ⟨x, z, _, rfl, rfl, rfl⟩ <;> exact ⟨rfl, rfl, rfl, rfl⟩
def withFld (m : Msg) (r : Ans8 (Fld × Nat)) : Ans8 (Msg × Nat) :=
 match r with
 | .error e => .error e
 | .ok (g, q) => .ok (m.addField g, q)
set_option maxRecDepth 100000 in
set_option maxHeartbeats 4000000 in
theorem named_g (E8 E9 : Er) (l : List Tk) (hl : PTk l) (m : Msg) (hm : m.fields.length ≤ 100000000000) (f : Fld) (p : Nat) (hp : p ≤ 100000) : EG Tryz.prog (gE E8 E9) 139 [.box 1 0, .box 3 0, .part (.many f.dats)] (mS l m p) (pmR m) (NE l E8 E9 (withFld m (sRest l f p))) := by
 obtain ⟨nm, fs, os, ms, es, rs, ns, ln, cl⟩ := m
 have hm1 : fs.length ≤ 100000000000 := hm
 refine eg_enter 72 Tryz.func139 rfl rfl rfl fun w D bor mb => ?_
 try refine e_fl ?_
 have hll := hl.len
 refine e_list ?_
 refine e_boxi 4 rfl rfl rfl rfl (kn rfl) rfl rfl rfl rfl rfl ?_
 refine e_box 2 rfl rfl rfl rfl (kn rfl) rfl rfl rfl rfl ?_
 refine l_as ?_
 refine e_nil ?_
 try refine e_fl ?_
 refine e_list ?_
 refine l_op (s_load1_box rfl (kn rfl) rfl rfl one_123) ?_
 refine e_calli rfl rfl rfl rfl (by kernel_rfl) (token_g E8 E9 l hl.toTksOk (p) 1 (by omega)) ⟨rfl, trivial⟩ trivial ⟨(kn rfl), ⟨(kn rfl), trivial⟩⟩ (TY.tidy) ?_
 rintro _ _ _ (⟨hk, rfl, rfl, rfl⟩ | ⟨hk, rfl, rfl, rfl⟩)
 ·refine l_mv ?_
  refine l_ex ?_
  refine l_ex ?_
  refine e_alloc 7 [.is (.int .i64 0), .is (.string ⟨#[]⟩), .is (.int .i64 0), .is (.int .i64 0), .is (.int .i64 0)] rfl rfl rfl rfl zr_45 (fun w D M V => ⟨rfl, fun j x v h1 h2 => cfit_is _ h1 h2 rfl⟩) rfl rfl rfl rfl ?_
  refine e_storew rfl rfl rfl (kn rfl) rfl (kn rfl) rfl rfl sz_45 ?_
  refine l_as ?_
  refine e_nil ?_
  try refine e_fl ?_
  refine e_plain (w_mv rfl rfl rfl rfl rfl (w_op rfl rfl rfl (s_err_neq rfl (kn rfl) rfl ifc_28) .nil)) ?_
  try refine e_fl ?_
  refine c_yes ?_
  try refine e_fl ?_
  refine e_plain (w_mv rfl rfl rfl rfl rfl (w_as rfl rfl rfl rfl rfl .nil)) ?_
  try refine e_fl ?_
  exact e_returnx (mS l (.mk nm fs os ms es rs ns ln cl) p) (pmR (.mk nm fs os ms es rs ns ln cl)) rfl (.tmp (kn rfl) (.nil)) (Imp.refl _) ⟨s_b, s_b, trivial⟩ ⟨rfl, rfl, rfl, rfl, rfl, rfl, trivial⟩ (.inl ⟨p, 9, p, _, by simp only [withFld, sRest, name_not hk], rfl, rfl, rfl⟩)
 refine l_mv ?_
 refine l_ex ?_
 refine l_ex ?_
 refine e_alloc 7 [.is (.int .i64 0), .is (.string ⟨#[]⟩), .is (.int .i64 0), .is (.int .i64 0), .is (.int .i64 0)] rfl rfl rfl rfl zr_45 (fun w D M V => ⟨rfl, fun j x v h1 h2 => cfit_is _ h1 h2 rfl⟩) rfl rfl rfl rfl ?_
 refine e_storew rfl rfl rfl (kn rfl) rfl (kn rfl) rfl rfl sz_45 ?_
 refine l_as ?_
 refine e_nil ?_
 try refine e_fl ?_
 refine e_plain (w_mv rfl rfl rfl rfl rfl (w_op rfl rfl rfl (s_nil_neq rfl (kn rfl) ifc_28) .nil)) ?_
 try refine e_fl ?_
 refine c_no ?_
 try refine e_fl ?_
 obtain ⟨hlt0, hx⟩ := name_is hk
 refine e_draw_mix [(2, [some _, none, none, none, none, none, none, none, some _, some _])] mixed (by kernel_rfl) (WalkM.op rfl rfl rfl (s_faddr_box rfl (kn rfl) off_45_1) (WalkM.op rfl rfl rfl (s_load1_box rfl (kn rfl) rfl rfl one_9) (WalkM.op rfl rfl rfl (s_faddr_box rfl (kn rfl) off_45_3) (WalkM.op rfl rfl rfl (s_load1_box rfl (kn rfl) rfl rfl one_3) (WalkM.op rfl rfl rfl (s_faddr_box rfl (kn rfl) off_45_4) (WalkM.op rfl rfl rfl (s_load1_box rfl (kn rfl) rfl rfl one_3) (WalkM.op rfl rfl rfl (s_faddr_box rfl (kn rfl) off_56_0) (WalkM.st1 rfl rfl rfl (kn rfl) rfl rfl (kn rfl) rfl rfl rfl sz_9 (WalkM.op rfl rfl rfl (s_faddr_box rfl (kn rfl) off_56_8) (WalkM.st1 rfl rfl rfl (kn rfl) rfl rfl (kn rfl) rfl rfl rfl sz_3 (WalkM.op rfl rfl rfl (s_faddr_box rfl (kn rfl) off_56_9) (WalkM.st1 rfl rfl rfl (kn rfl) rfl rfl (kn rfl) rfl rfl rfl sz_3 (WalkM.nil))))))))))))) rfl ?_
 try refine e_fl ?_
 refine e_list ?_
 refine l_op (s_load1_box rfl (kn rfl) rfl rfl one_123) ?_
 refine l_op (s_buildSlice (ds := [_]) [(0, _)] rfl ⟨rfl, (kn rfl), trivial⟩ rfl sl_49 sz_9 zr_9 (fun w D => .cons (.cell _) (.nil _ _)) rfl rfl rfl rfl rfl) ?_
 refine e_calli rfl rfl rfl rfl (by kernel_rfl) (want1_g E8 E9 l hl 4 [61] rfl (by decide) (p + 1) (by omega)) ⟨rfl, trivial⟩ trivial ⟨(kn rfl), ⟨(kn rfl), trivial⟩⟩ (PE.tidy) ?_
 rintro _ _ _ (⟨a, b, z, he, rfl, rfl, rfl⟩ | ⟨q, ho, rfl, rfl, rfl⟩)
 ·refine l_as ?_
  refine e_nil ?_
  try refine e_fl ?_
  refine e_plain (w_mv rfl rfl rfl rfl rfl (w_op rfl rfl rfl (s_err_neq rfl (kn rfl) rfl ifc_28) .nil)) ?_
  try refine e_fl ?_
  refine c_yes ?_
  try refine e_fl ?_
  refine e_plain (w_mv rfl rfl rfl rfl rfl (w_as rfl rfl rfl rfl rfl .nil)) ?_
  try refine e_fl ?_
  exact e_returnx (mS l (.mk nm fs os ms es rs ns ln cl) z) (pmR (.mk nm fs os ms es rs ns ln cl)) rfl (.tmp (kn rfl) (.nil)) (Imp.refl _) ⟨s_b, s_b, trivial⟩ ⟨rfl, rfl, rfl, rfl, rfl, rfl, trivial⟩ (.inl ⟨a, b, z, _, by simp only [withFld, sRest, hx, he], rfl, rfl, rfl⟩)
 refine l_as ?_
 refine e_nil ?_
 try refine e_fl ?_
 refine e_plain (w_mv rfl rfl rfl rfl rfl (w_op rfl rfl rfl (s_nil_neq rfl (kn rfl) ifc_28) .nil)) ?_
 try refine e_fl ?_
 refine c_no ?_
 try refine e_fl ?_
 have ho1 := sWant_ok ho
 refine e_list ?_
 refine l_op (s_load1_box rfl (kn rfl) rfl rfl one_123) ?_
 refine e_calli rfl rfl rfl rfl (by kernel_rfl) (token_g E8 E9 l hl.toTksOk (q) 2 (by omega)) ⟨rfl, trivial⟩ trivial ⟨(kn rfl), ⟨(kn rfl), trivial⟩⟩ (TY.tidy) ?_
 rintro _ _ _ (⟨hk2, rfl, rfl, rfl⟩ | ⟨hk2, rfl, rfl, rfl⟩)
 ·refine l_mv ?_
  refine l_ex ?_
  refine l_ex ?_
  refine e_alloc 10 [.is (.int .i64 0), .is (.string ⟨#[]⟩), .is (.int .i64 0), .is (.int .i64 0), .is (.int .i64 0)] rfl rfl rfl rfl zr_45 (fun w D M V => ⟨rfl, fun j x v h1 h2 => cfit_is _ h1 h2 rfl⟩) rfl rfl rfl rfl ?_
  refine e_storew rfl rfl rfl (kn rfl) rfl (kn rfl) rfl rfl sz_45 ?_
  refine l_as ?_
  refine e_nil ?_
  try refine e_fl ?_
  refine e_plain (w_mv rfl rfl rfl rfl rfl (w_op rfl rfl rfl (s_err_neq rfl (kn rfl) rfl ifc_28) .nil)) ?_
  try refine e_fl ?_
  refine c_yes ?_
  try refine e_fl ?_
  refine e_plain (w_mv rfl rfl rfl rfl rfl (w_as rfl rfl rfl rfl rfl .nil)) ?_
  try refine e_fl ?_
  exact e_returnx (mS l (.mk nm fs os ms es rs ns ln cl) q) (pmR (.mk nm fs os ms es rs ns ln cl)) rfl (.tmp (kn rfl) (.nil)) (Imp.refl _) ⟨s_b, s_b, trivial⟩ ⟨rfl, rfl, rfl, rfl, rfl, rfl, trivial⟩ (.inl ⟨q, 9, q, _, by simp only [withFld, sRest, hx, ho, number_not hk2], rfl, rfl, rfl⟩)
 refine l_mv ?_
 refine l_ex ?_
 refine l_ex ?_
 refine e_alloc 10 [.is (.int .i64 0), .is (.string ⟨#[]⟩), .is (.int .i64 0), .is (.int .i64 0), .is (.int .i64 0)] rfl rfl rfl rfl zr_45 (fun w D M V => ⟨rfl, fun j x v h1 h2 => cfit_is _ h1 h2 rfl⟩) rfl rfl rfl rfl ?_
 refine e_storew rfl rfl rfl (kn rfl) rfl (kn rfl) rfl rfl sz_45 ?_
 refine l_as ?_
 refine e_nil ?_
 try refine e_fl ?_
 refine e_plain (w_mv rfl rfl rfl rfl rfl (w_op rfl rfl rfl (s_nil_neq rfl (kn rfl) ifc_28) .nil)) ?_
 try refine e_fl ?_
 refine c_no ?_
 try refine e_fl ?_
 obtain ⟨hlt1, hn⟩ := number_is hk2
 have hw : sRest l f p = sOptions l { f with name := (tkAt l p).1.t, line := (tkAt l p).2.1, col := (tkAt l p).2.2, number := ((tkAt l q).1.n : Int) } (q + 1) := by simp only [sRest, hx, ho, hn]
 obtain ⟨f2, hf2⟩ : ∃ f2 : Fld, f2 = { f with name := (tkAt l p).1.t, line := (tkAt l p).2.1, col := (tkAt l p).2.2, number := ((tkAt l q).1.n : Int) } := ⟨_, rfl⟩
 refine e_list ?_
 refine l_op (s_faddr_box rfl (kn rfl) off_45_2) ?_
 refine l_op (s_load1_box rfl (kn rfl) rfl rfl one_3) ?_
 refine l_op (s_faddr_box rfl (kn rfl) off_56_5) ?_
 refine e_store1 rfl rfl rfl (kn rfl) rfl (kn rfl) rfl rfl sz_3 rfl ?_
 refine e_nil ?_
 try refine e_fl ?_
 refine e_cells 2 (bcs f2.dats) rfl (by rw [hf2]; exact ImpL.refl _) ?_
 rw [← hf2] at hw
 refine e_list ?_
 refine l_op (s_load1_box rfl (kn rfl) rfl rfl one_123) ?_
 refine l_op (s_buildSlice (ds := [_]) [(0, _)] rfl ⟨rfl, (kn rfl), trivial⟩ rfl sl_49 sz_9 zr_9 (fun w D => .cons (.cell _) (.nil _ _)) rfl rfl rfl rfl rfl) ?_
 refine e_calli rfl rfl rfl rfl (by kernel_rfl) (take1 _ l hl [91] 4 rfl (by decide) (q + 1) (by omega)) ⟨rfl, trivial⟩ trivial ⟨(kn rfl), ⟨(kn rfl), trivial⟩⟩ (fun _ _ _ h => PY.tidy h.1 h.2.1 h.2.2) ?_
 rintro _ _ _ ⟨rfl, rfl, rfl⟩
 refine e_nil ?_
 try refine e_fl ?_
 refine e_cond rfl (fun h => ?_) (fun h => ?_)
 ·have hlt2 := tkIs_lt h
  rw [sOptions_row h] at hw
  rw [h]
  try refine e_fl ?_
  refine e_list ?_
  refine l_op (s_load1_box rfl (kn rfl) rfl rfl one_123) ?_
  refine l_op (s_func (fs := []) (cs := [.box 4 0, .box 2 0]) rfl trivial ⟨(kn rfl), (kn rfl), trivial⟩) ?_
  refine e_calli rfl rfl rfl rfl (by kernel_rfl) (rowOpt_g E8 E9 l hl f2 (q + 1 + 1) (by omega)) ⟨rfl, rfl, rfl, trivial⟩ trivial ⟨(kn rfl), ⟨(kn rfl), ⟨(kn rfl), trivial⟩⟩⟩ (FE4.tidy) ?_
  rintro _ _ _ (⟨a, b, z, g, he, rfl, rfl, rfl⟩ | ⟨g, r, hr, rfl, rfl, rfl⟩)
  ·refine l_as ?_
   refine e_nil ?_
   try refine e_fl ?_
   refine e_plain (w_mv rfl rfl rfl rfl rfl (w_op rfl rfl rfl (s_err_neq rfl (kn rfl) rfl ifc_28) .nil)) ?_
   try refine e_fl ?_
   refine c_yes ?_
   try refine e_fl ?_
   refine e_plain (w_mv rfl rfl rfl rfl rfl (w_as rfl rfl rfl rfl rfl .nil)) ?_
   try refine e_fl ?_
   exact e_returnx (mS l (.mk nm fs os ms es rs ns ln cl) z) (pmR (.mk nm fs os ms es rs ns ln cl)) rfl (.tmp (kn rfl) (.nil)) (Imp.refl _) ⟨s_b, s_b, trivial⟩ ⟨rfl, rfl, rfl, rfl, rfl, rfl, trivial⟩ (.inl ⟨a, b, z, _, by simp only [withFld, hw, he], rfl, rfl, rfl⟩)
  have hr1 := sRow_ok _ _ _ hr
  refine l_as ?_
  refine e_nil ?_
  try refine e_fl ?_
  refine e_plain (w_mv rfl rfl rfl rfl rfl (w_op rfl rfl rfl (s_nil_neq rfl (kn rfl) ifc_28) .nil)) ?_
  try refine e_fl ?_
  refine c_no ?_
  try refine e_fl ?_
  refine e_list ?_
  refine l_op (s_load1_box rfl (kn rfl) rfl rfl one_123) ?_
  refine l_op (s_buildSlice (ds := [_]) [(0, _)] rfl ⟨rfl, (kn rfl), trivial⟩ rfl sl_49 sz_9 zr_9 (fun w D => .cons (.cell _) (.nil _ _)) rfl rfl rfl rfl rfl) ?_
  refine e_calli rfl rfl rfl rfl (by kernel_rfl) (want1_g E8 E9 l hl 4 [59] rfl (by decide) (r) (by omega)) ⟨rfl, trivial⟩ trivial ⟨(kn rfl), ⟨(kn rfl), trivial⟩⟩ (PE.tidy) ?_
  rintro _ _ _ (⟨a, b, z, he, rfl, rfl, rfl⟩ | ⟨z, hz, rfl, rfl, rfl⟩)
  ·refine l_as ?_
   refine e_nil ?_
   try refine e_fl ?_
   refine e_plain (w_mv rfl rfl rfl rfl rfl (w_op rfl rfl rfl (s_err_neq rfl (kn rfl) rfl ifc_28) .nil)) ?_
   try refine e_fl ?_
   refine c_yes ?_
   try refine e_fl ?_
   refine e_plain (w_mv rfl rfl rfl rfl rfl (w_as rfl rfl rfl rfl rfl .nil)) ?_
   try refine e_fl ?_
   exact e_returnx (mS l (.mk nm fs os ms es rs ns ln cl) z) (pmR (.mk nm fs os ms es rs ns ln cl)) rfl (.tmp (kn rfl) (.nil)) (Imp.refl _) ⟨s_b, s_b, trivial⟩ ⟨rfl, rfl, rfl, rfl, rfl, rfl, trivial⟩ (.inl ⟨a, b, z, _, by simp only [withFld, hw, hr, he], rfl, rfl, rfl⟩)
  refine l_as ?_
  refine e_nil ?_
  try refine e_fl ?_
  refine e_plain (w_mv rfl rfl rfl rfl rfl (w_op rfl rfl rfl (s_nil_neq rfl (kn rfl) ifc_28) .nil)) ?_
  try refine e_fl ?_
  refine c_no ?_
  try refine e_fl ?_
  refine e_draw_float 7 mixed (by kernel_rfl) rfl rfl rfl rfl (kn rfl) (fun _ _ _ _ h => h) (w_mv rfl rfl rfl rfl rfl (w_op rfl rfl rfl (s_nil_box rfl (kn rfl)) (w_op rfl rfl rfl (s_faddr_box rfl (kn rfl) off_52_1) (w_op rfl rfl rfl (s_load1_box rfl (kn rfl) rfl rfl one_48) (w_op rfl rfl rfl (s_loadn_box (ds := [_, _, _, _, _, _, _, _, _, _]) 10 rfl (kn rfl) rfl rfl agg_56 sz_56 rfl) (w_op rfl rfl rfl (s_buildSlice (ds := [_, _, _, _, _, _, _, _, _, _]) [(0, _)] rfl ⟨rfl, (kn rfl), trivial⟩ rfl sl_48 sz_56 zr_56 (fun w D => .cons (.cell _) (.cons (.cell _) (.cons (.cell _) (.cons (.cell _) (.cons (.cell _) (.cons (.cell _) (.cons (.cell _) (.cons (.cell _) (.cons (.cell _) (.cons (.cell _) (.nil _ _))))))))))) rfl rfl rfl rfl rfl) .nil)))))) ?_
  refine e_append rfl rfl rfl rfl (kn rfl) rfl (kn rfl) sl_48 ap_48 rfl rfl (by first | omega | (dsimp only; omega) | omega) (by first | omega | (dsimp only; omega) | omega) ?_
  refine l_op (s_nil_box rfl (kn rfl)) ?_
  refine l_op (s_faddr_box rfl (kn rfl) off_52_1) ?_
  refine e_store_own rfl rfl rfl (kn rfl) rfl (kn rfl) rfl rfl sz_48 rfl ?_
  refine e_nil ?_
  try refine e_fl ?_
  refine e_plain (w_as rfl rfl rfl rfl rfl .nil) ?_
  try refine e_fl ?_
  exact e_returnx (mS l ((Msg.mk nm fs os ms es rs ns ln cl).addField g) z) (pmR ((Msg.mk nm fs os ms es rs ns ln cl).addField g)) rfl (.tmp (kn rfl) (.nil)) (Imp.refl _) ⟨s_b, s_b, trivial⟩ ⟨rowEq rfl (by simp [Msg.addField, Msg.fields]) (by simp [Msg.addField, Msg.fields, List.flatMap_append, Fld.dats, Fld.cells]), rfl, rfl, rfl, rfl, rfl, trivial⟩ (.inr ⟨(Msg.mk nm fs os ms es rs ns ln cl).addField g, z, by simp only [withFld, hw, hr, hz], rfl, rfl, rfl⟩)
 ·rw [sOptions_none h] at hw
  rw [h]
  try refine e_fl ?_
  refine e_list ?_
  refine l_op (s_load1_box rfl (kn rfl) rfl rfl one_123) ?_
  refine l_op (s_buildSlice (ds := [_]) [(0, _)] rfl ⟨rfl, (kn rfl), trivial⟩ rfl sl_49 sz_9 zr_9 (fun w D => .cons (.cell _) (.nil _ _)) rfl rfl rfl rfl rfl) ?_
  refine e_calli rfl rfl rfl rfl (by kernel_rfl) (want1_g E8 E9 l hl 4 [59] rfl (by decide) (q + 1) (by omega)) ⟨rfl, trivial⟩ trivial ⟨(kn rfl), ⟨(kn rfl), trivial⟩⟩ (PE.tidy) ?_
  rintro _ _ _ (⟨a, b, z, he, rfl, rfl, rfl⟩ | ⟨z, hz, rfl, rfl, rfl⟩)
  ·refine l_as ?_
   refine e_nil ?_
   try refine e_fl ?_
   refine e_plain (w_mv rfl rfl rfl rfl rfl (w_op rfl rfl rfl (s_err_neq rfl (kn rfl) rfl ifc_28) .nil)) ?_
   try refine e_fl ?_
   refine c_yes ?_
   try refine e_fl ?_
   refine e_plain (w_mv rfl rfl rfl rfl rfl (w_as rfl rfl rfl rfl rfl .nil)) ?_
   try refine e_fl ?_
   exact e_returnx (mS l (.mk nm fs os ms es rs ns ln cl) z) (pmR (.mk nm fs os ms es rs ns ln cl)) rfl (.tmp (kn rfl) (.nil)) (Imp.refl _) ⟨s_b, s_b, trivial⟩ ⟨rfl, rfl, rfl, rfl, rfl, rfl, trivial⟩ (.inl ⟨a, b, z, _, by simp only [withFld, hw, hn, he], rfl, rfl, rfl⟩)
  refine l_as ?_
  refine e_nil ?_
  try refine e_fl ?_
  refine e_plain (w_mv rfl rfl rfl rfl rfl (w_op rfl rfl rfl (s_nil_neq rfl (kn rfl) ifc_28) .nil)) ?_
  try refine e_fl ?_
  refine c_no ?_
  try refine e_fl ?_
  refine e_draw_float 7 mixed (by kernel_rfl) rfl rfl rfl rfl (kn rfl) (fun _ _ _ _ h => h) (w_mv rfl rfl rfl rfl rfl (w_op rfl rfl rfl (s_nil_box rfl (kn rfl)) (w_op rfl rfl rfl (s_faddr_box rfl (kn rfl) off_52_1) (w_op rfl rfl rfl (s_load1_box rfl (kn rfl) rfl rfl one_48) (w_op rfl rfl rfl (s_loadn_box (ds := [_, _, _, _, _, _, _, _, _, _]) 10 rfl (kn rfl) rfl rfl agg_56 sz_56 rfl) (w_op rfl rfl rfl (s_buildSlice (ds := [_, _, _, _, _, _, _, _, _, _]) [(0, _)] rfl ⟨rfl, (kn rfl), trivial⟩ rfl sl_48 sz_56 zr_56 (fun w D => .cons (.cell _) (.cons (.cell _) (.cons (.cell _) (.cons (.cell _) (.cons (.cell _) (.cons (.cell _) (.cons (.cell _) (.cons (.cell _) (.cons (.cell _) (.cons (.cell _) (.nil _ _))))))))))) rfl rfl rfl rfl rfl) .nil)))))) ?_
  refine e_append rfl rfl rfl rfl (kn rfl) rfl (kn rfl) sl_48 ap_48 rfl rfl (by first | omega | (dsimp only; omega) | omega) (by first | omega | (dsimp only; omega) | omega) ?_
  refine l_op (s_nil_box rfl (kn rfl)) ?_
  refine l_op (s_faddr_box rfl (kn rfl) off_52_1) ?_
  refine e_store_own rfl rfl rfl (kn rfl) rfl (kn rfl) rfl rfl sz_48 rfl ?_
  refine e_nil ?_
  try refine e_fl ?_
  refine e_plain (w_as rfl rfl rfl rfl rfl .nil) ?_
  try refine e_fl ?_
  exact e_returnx (mS l ((Msg.mk nm fs os ms es rs ns ln cl).addField f2) z) (pmR ((Msg.mk nm fs os ms es rs ns ln cl).addField f2)) rfl (.tmp (kn rfl) (.nil)) (Imp.refl _) ⟨s_b, s_b, trivial⟩ ⟨rowEq rfl (by simp [Msg.addField, Msg.fields]) (by simp [Msg.addField, Msg.fields, List.flatMap_append, Fld.dats, Fld.cells]), rfl, rfl, rfl, rfl, rfl, trivial⟩ (.inr ⟨(Msg.mk nm fs os ms es rs ns ln cl).addField f2, z, by simp only [withFld, hw, hn, hz], rfl, rfl, rfl⟩)
end Go.Proofs.YtfcjeciepadmeaaGreatDoor
