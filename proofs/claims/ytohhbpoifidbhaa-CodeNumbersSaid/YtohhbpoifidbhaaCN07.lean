/- Part 7 of what the last text of this claim is proved by: walks over the program, and the math behind them. Conditions: as each theorem says. -/
import Derived.Test.YtohhbpoifidbhaaCN06
import Derived.Laws.Slices
import Derived.ChangeMaps5
import Derived.Carry
namespace Go.Proofs.Ytohhbpoifidbhaa
open Go.RowKit
section
variable {P : Program} {cx : Cx} {T : TL} {B : BL} {R : RL} {M : Nat → Nat} {V : Nat → Value}
theorem Rel.own_new {a : Act} {w w' : World} (hrel : Rel cx T B R M V a w) (hb : Below w.heap.size w w') {ty k n : Nat} {v : Value} {cs : List Value} (hown : w'.ownsRow w.heap.size ty k v n cs) (r : Nat) (hT : norT r T = true) (hB : norB r B = true) (hty : Nat.blt ty 1000000 = true) : ∃ V', V' r = v ∧ Rel cx T B ((r, ⟨ty, k, n, cs.map .cell, false⟩) :: R) M V' a w' := by
  have hh := hrel.heap
  have hsz := hh.below.size
  let V' : Nat → Value := fun q => if q = r then v else V q
  have hVr : V' r = v := if_pos rfl
  have hV : ∀ q, q ≠ r → V' q = V q := fun q h => if_neg h
  have hlt : ∀ g, obk v = some g → w.heap.size ≤ g ∧ g < w'.heap.size := fun g hg => hown.lt g ((obk_row hown).symm.trans hg)
  have hown0 : w'.ownsRow 0 ty k v n cs := by
    refine ⟨hown.1, ?_⟩
    rcases hown.2 with h | ⟨g, cap, cur, h1, _, h3⟩
    · exact .inl h
    · exact .inr ⟨g, cap, cur, h1, Nat.zero_le _, h3⟩
  have hold : ∀ q x g, lk q R = some x → x.fz = false → obk (V q) = some g → g < w.heap.size := fun q x g hx hf hg => by
    have h1 := hh.row q x hx
    rw [hf] at h1
    obtain ⟨ys, a2, _⟩ := h1
    exact (a2.lt g hg).2
  have hoB : ∀ b x, lk b B = some x → M b < w.heap.size := fun b x hx => by
    obtain ⟨_, cs, h2, _⟩ := hh.box b x hx
    exact h2.lt
  have hk := hh.keeps hb
  have hD : ∀ g, Dc cx B R M V w g → Dc cx B ((r, ⟨ty, k, n, cs.map .cell, false⟩) :: R) M V' w' g := fun g hg => by
    have hgl := hh.dlt hg
    rcases hg with hg | ⟨a1, a2, a3, a4⟩
    · exact .inl hg
    · refine .inr ⟨a1, by have := hb.size; omega, a3, fun q x hx hf e => ?_⟩
      rcases lk_cons hx with ⟨rfl, _⟩ | ⟨hne, hx⟩
      · rw [hVr] at e
        have := (hlt g e).1
        omega
      · rw [hV q (Ne.symm hne)] at e
        exact a4 q x hx hf e
  refine ⟨V', hVr, hrel.size, hrel.defers, ⟨hh.below.step hb, hh.d0, hh.bl, hh.gl, fun b x hx => ?_, fun q x hx => ?_, fun q x g hx hf hg => ?_, hh.pin, hh.bb, fun b q x y g hx hy hf hg => ?_, fun q p x y g hx hy hf hf' hg hg' => ?_⟩, fun t x hx => ?_⟩
  · obtain ⟨a1, cs, a2, a3⟩ := hh.box b x hx
    have hn := List.all_eq_true.1 hB _ (lk_mem hx)
    have a4 : CFit w (Dc cx B R M V w) M V' x.cs cs := ⟨a3.1, fun j y v h1 h2 => ⟨(a3.2 j y v h1 h2).1.newV hV (List.all_eq_true.1 hn _ (List.mem_of_getElem? h1)), (a3.2 j y v h1 h2).2⟩⟩
    exact ⟨a1, cs, a2.kept hb, a4.stay hk hD⟩
  · rcases lk_cons hx with ⟨rfl, rfl⟩ | ⟨hne, hx⟩
    · rw [hVr]
      exact (⟨cs, .inl ⟨hty, hown0⟩, fits_cells _ _ _⟩ : Gx _ _ _ _ _ _ _ _)
    · rw [hV q (Ne.symm hne)]
      have h1 := hh.row q x hx
      split
      · rename_i hf
        rw [if_pos hf] at h1
        exact h1.stay hk hD
      · rename_i hf
        rw [if_neg hf] at h1
        obtain ⟨xs, a2, a3⟩ := h1
        exact ⟨xs, Ow.stay a2 fun g hg => hb.block g (a2.lt g hg).2, a3.stay hk hD⟩
  · rcases lk_cons hx with ⟨rfl, rfl⟩ | ⟨hne, hx⟩
    · rw [hVr] at hg
      have := (hlt g hg).1
      exact .inl (by omega)
    · rw [hV q (Ne.symm hne)] at hg
      exact hh.ro q x g hx hf hg
  · rcases lk_cons hy with ⟨rfl, rfl⟩ | ⟨hne, hy⟩
    · rw [hVr] at hg
      have := (hlt g hg).1
      have := hoB b x hx
      omega
    · rw [hV q (Ne.symm hne)] at hg
      exact hh.br b q x y g hx hy hf hg
  · rcases lk_cons hx with ⟨rfl, rfl⟩ | ⟨hne, hx⟩
    · rcases lk_cons hy with ⟨rfl, rfl⟩ | ⟨hne', hy⟩
      · rfl
      · rw [hVr] at hg
        rw [hV p (Ne.symm hne')] at hg'
        have := (hlt g hg).1
        have := hold p y g hy hf' hg'
        omega
    · rcases lk_cons hy with ⟨rfl, rfl⟩ | ⟨hne', hy⟩
      · rw [hVr] at hg'
        rw [hV q (Ne.symm hne)] at hg
        have := (hlt g hg').1
        have := hold q x g hx hf hg
        omega
      · rw [hV q (Ne.symm hne)] at hg
        rw [hV p (Ne.symm hne')] at hg'
        exact hh.rr q p x y g hx hy hf hf' hg hg'
  · exact ((hrel.tmp t x hx).newV hV (List.all_eq_true.1 hT _ (lk_mem hx))).stay hk hD
end
end Go.Proofs.Ytohhbpoifidbhaa
namespace Go.Proofs.Ytohhbpoifidbhaa
open Go.RowKit
theorem flat_drop {α : Type} {f : α → List Dat} {k : Nat} (hk : ∀ a, (f a).length = k) : ∀ (qs : List α) (i : Nat), (qs.flatMap f).drop (i * k) = (qs.drop i).flatMap f
  | [], i => by simp
  | q :: qs, 0 => by simp
  | q :: qs, i + 1 => by
    rw [List.flatMap_cons, List.drop_succ_cons, ← flat_drop hk qs i, List.drop_append, List.drop_eq_nil_of_le (by rw [hk, Nat.succ_mul]; omega), List.nil_append, hk, Nat.succ_mul, Nat.add_sub_cancel]
theorem flat_take {α : Type} {f : α → List Dat} {k : Nat} (hk : ∀ a, (f a).length = k) : ∀ (qs : List α) (i : Nat), (qs.flatMap f).take (i * k) = (qs.take i).flatMap f
  | [], i => by simp
  | q :: qs, 0 => by simp
  | q :: qs, i + 1 => by
    rw [List.flatMap_cons, List.take_succ_cons, List.flatMap_cons, ← flat_take hk qs i, List.take_append, List.take_of_length_le (by rw [hk, Nat.succ_mul]; omega), hk, Nat.succ_mul, Nat.add_sub_cancel]
theorem lies_part {w : World} {D : Nat → Prop} {k : Nat} {α : Type} {f : α → List Dat} (hk : ∀ a, (f a).length = k) {qs : List α} {p : Option Addr} {c lo hi : Nat} (h : Lies w D (.row k qs.length (qs.flatMap f)) (.slice p qs.length c)) (hlh : lo ≤ hi) (hh : hi ≤ qs.length) (hc : qs.length ≤ c) :
    Lies w D (.row k ((qs.take hi).drop lo).length (((qs.take hi).drop lo).flatMap f)) (.slice (if c = lo then p else p.map (·.add (lo * k))) (hi - lo) (c - lo)) := by
  have hl : ((qs.take hi).drop lo).length = hi - lo := by rw [List.length_drop, List.length_take]; omega
  rcases Nat.eq_zero_or_pos (hi - lo) with h0 | h0
  · rw [hl, h0, List.eq_nil_of_length_eq_zero (hl.trans h0)]
    exact .none _ _ _
  · have hne : ¬ c = lo := by omega
    rw [if_neg hne, hl]
    have hd : ((qs.take hi).drop lo).flatMap f = ((qs.flatMap f).drop (lo * k)).take ((hi - lo) * k) := by
      rw [flat_drop hk, flat_take hk, List.drop_take]
    rw [hd]
    have hp : ∃ b o, p = some ⟨b, o, none⟩ := by
      generalize hn : qs.length = n at h
      generalize qs.flatMap f = ds at h
      cases h with
      | none => omega
      | row k n b o c ds X => exact ⟨b, o, rfl⟩
    obtain ⟨b, o, rfl⟩ := hp
    have hadd : (⟨b, o, none⟩ : Addr).add (lo * k) = ⟨b, o + lo * k, none⟩ := by unfold Addr.add; split <;> simp_all
    rw [Option.map_some, hadd]
    exact lies_sub h hlh hh _ (by omega)
theorem row_cap {w : World} {D : Nat → Prop} {k n : Nat} {ds : List Dat} {v : Value} (h : Lies w D (.row k n ds) v) : ∃ p c, v = .slice p n c ∧ n ≤ c := by
  cases h with
  | none k p c => exact ⟨p, c, rfl, Nat.zero_le _⟩
  | row k n b o c ds X h1 h2 => exact ⟨_, c, rfl, h2⟩
section
variable {P : Program} {cx : Cx} {T : TL} {B : BL} {R : RL} {o : Oper}
theorem s_rslice_to {x hi : Operand} {t : TypeId} {k : Nat} {α : Type} {f : α → List Dat} {qs : List α} {kk : IntKind} {z : Int} (ho : o.op = .slice t x none (some hi) none) (hx : Kn T x (.part (.one (.row k qs.length (qs.flatMap f))))) (hh : Kn T hi (.is (.int kk z))) (hz : 0 ≤ z ∧ z ≤ (qs.length : Int)) (hk : ∀ a, (f a).length = k) (ht : P.underlying t = some (.slice (P.elem t))) (hs : sizeT P (P.elem t) = some k) :
    LStep P cx B R o T (.part (.one (.row k (qs.take z.toNat).length ((qs.take z.toNat).flatMap f)))) := LStep.same fun M V w a _ hkk => by
  have h1 := (hkk hi _ (by simp [ho, Op.operands]) hh).is_eq
  have hv := hkk x _ (by simp [ho, Op.operands]) hx
  obtain ⟨p, c, h2, h3⟩ := row_cap hv
  rw [h2] at hv
  have h4 := lies_part hk hv (Nat.zero_le z.toNat) (by omega) h3
  have h5 := run_slice_h (P := P) (w := w) t p qs.length c ht kk z hz.1 (by omega)
  rw [run_sizeT hs, Result.andThen_ok, ← run_sliceAt_slice _ _ _ _ _ _ ht] at h5
  rw [List.drop_zero] at h4
  exact ⟨sliced _ _ _ _ _, by simp [execOp, ho, h1, h2, h5], h4⟩
end
end Go.Proofs.Ytohhbpoifidbhaa
namespace Go.Proofs.Ytohhbpoifidbhaa
open Go.RowKit
section
variable {P : Program} {cx : Cx} {T : TL} {B : BL} {R : RL} {o : Oper}
theorem Rel.row_turn {M : Nat → Nat} {V : Nat → Value} {a : Act} {w w' : World} (hr : Rel cx T B R M V a w) {r g : Nat} {z z' : Rw} (hr0 : lk r R = some z) (hf0 : z.fz = false) (hob : obk (V r) = some g) (hz' : z'.fz = false) (hoth : ∀ q, q ≠ g → w'.heap[q]? = w.heap[q]?) (hsz : w'.heap.size = w.heap.size) (hos : w'.os = w.os) (htp : w'.tape = w.tape) (hou : w'.output = w.output)
    (hnew : ∀ D', Keeps (Dc cx B R M V w) w w' → (∀ q, Dc cx B R M V w q → D' q) → Gx w' D' 0 z'.ty z'.k (V r) z'.n z'.ds) : Rel cx T B ((r, z') :: R) M V a w' := by
  have hh := hr.heap
  have hDne : ∀ q, Dc cx B R M V w q → q ≠ g := fun q hq e => by
    subst e
    rcases hq with hq | ⟨_, _, _, a4⟩
    · have := hh.d0 _ hq
      rcases hh.ro r _ _ hr0 hf0 hob with h | h
      · omega
      · exact this.2 h
    · exact a4 r _ hr0 hf0 hob
  have hkeep : Keeps (Dc cx B R M V w) w w' := fun q hq => hoth q (hDne q hq)
  have hD : ∀ q, Dc cx B R M V w q → Dc cx B ((r, z') :: R) M V w' q := fun q hq => by
    rcases hq with hq | ⟨a1, a2, a3, a4⟩
    · exact .inl hq
    · refine .inr ⟨a1, by omega, a3, fun p y hy hf => ?_⟩
      rcases lk_cons hy with ⟨rfl, rfl⟩ | ⟨_, hy⟩
      · exact a4 _ _ hr0 hf0
      · exact a4 p y hy hf
  refine ⟨hr.size, hr.defers, ⟨hh.below.turn hos htp hou (by omega) (some g) (fun q hq => by cases hq; exact hh.ro r _ _ hr0 hf0 hob) (fun q hq hne => hoth q fun e => hne (by rw [e])), hh.d0, hh.bl, hh.gl, fun c y hy => ?_, fun q y hy => ?_, fun q y p hy hf hp => ?_, hh.pin, hh.bb, fun c q y u p hy hu hf hp => ?_, fun q p y u s hy hu hf hf' hp hs => ?_⟩, fun t y hy => (hr.tmp t y hy).stay hkeep hD⟩
  · obtain ⟨b1, cs, b2, b3⟩ := hh.box c y hy
    refine ⟨b1, cs, ?_, b3.stay hkeep hD⟩
    unfold Blk
    rw [hoth (M c) (hh.br c r y _ g hy hr0 hf0 hob)]
    exact b2
  · rcases lk_cons hy with ⟨rfl, rfl⟩ | ⟨hne, hy⟩
    · rw [hz']
      exact hnew _ hkeep hD
    · have h1 := hh.row q y hy
      split
      · rename_i hf
        rw [if_pos hf] at h1
        exact h1.stay hkeep hD
      · rename_i hf
        rw [if_neg hf] at h1
        obtain ⟨ys, a2, a3⟩ := h1
        refine ⟨ys, Ow.stay a2 fun p hp => hoth p fun e => ?_, a3.stay hkeep hD⟩
        subst e
        exact hne (hh.rr r q _ y _ hr0 hy hf0 (by simpa using hf) hob hp)
  · rcases lk_cons hy with ⟨rfl, rfl⟩ | ⟨_, hy⟩
    · exact hh.ro _ _ p hr0 hf0 hp
    · exact hh.ro q y p hy hf hp
  · rcases lk_cons hu with ⟨rfl, rfl⟩ | ⟨_, hu⟩
    · exact hh.br c _ y _ p hy hr0 hf0 hp
    · exact hh.br c q y u p hy hu hf hp
  · rcases lk_cons hy with ⟨rfl, rfl⟩ | ⟨_, hy2⟩
    · rcases lk_cons hu with ⟨rfl, rfl⟩ | ⟨_, hu2⟩
      · rfl
      · exact hh.rr _ p _ u s hr0 hu2 hf0 hf' hp hs
    · rcases lk_cons hu with ⟨rfl, rfl⟩ | ⟨_, hu2⟩
      · exact hh.rr q _ y _ s hy2 hr0 hf hf0 hp hs
      · exact hh.rr q p y u s hy2 hu2 hf hf' hp hs
variable {α : Type}
def mds (kf : α → Value) (ps : List (α × Dat)) : List Dat := ps.flatMap fun p => [.cell (kf p.1), p.2]
def mget [DecidableEq α] (x : α) : List (α × Dat) → Option Dat
  | [] => none
  | p :: ps => if x = p.1 then some p.2 else mget x ps
def mset [DecidableEq α] (x : α) (d : Dat) : List (α × Dat) → List (α × Dat)
  | [] => [(x, d)]
  | p :: ps => if x = p.1 then (x, d) :: ps else p :: mset x d ps
structure KeyF [DecidableEq α] (P : Program) (kt : TypeId) (kf : α → Value) : Prop where
  same : ∃ desc, P.underlying kt = some desc ∧ ∀ x y : α, Instr.sameNow desc (kf x) (kf y) = some (decide (x = y))
  chk : ∀ (e : Bool) (x : α) (w : World), (Instr.checkKey e 10000 kt (kf x)).run P w = .ok () w
  bits : ∀ x : α, Instr.sameBits 10000 (kf x) (kf x) = true
theorem str_beq (a b : List UInt8) : (str a == str b) = decide (a = b) := by
  have : (str a == str b) = ((str a).data == (str b).data) := rfl
  rw [this]
  by_cases h : a = b
  · subst h
    simp
  · rw [decide_eq_false h]
    simpa [str] using h
theorem keyStr {kt : TypeId} (h : P.underlying kt = some .string) : KeyF P kt (fun s : List UInt8 => Value.string (str s)) :=
  ⟨⟨_, h, fun x y => congrArg some (str_beq x y)⟩, fun e x w => by unfold Instr.checkKey; simp [run_underlying h, Result.andThen], fun x => by unfold Instr.sameBits; rw [str_beq]; simp⟩
def MEs (w : World) (D : Nat → Prop) (kf : α → Value) : List (α × Dat) → List MapEntry → Prop
  | [], [] => True
  | p :: ps, e :: es => e.key = kf p.1 ∧ Lies w D p.2 e.val ∧ MEs w D kf ps es
  | _, _ => False
variable {w w' : World} {D D' : Nat → Prop} {kf : α → Value}
theorem mes_of : ∀ {ps : List (α × Dat)} {es : List MapEntry}, Fits w D (mds kf ps) (kvs es) → MEs w D kf ps es
  | [], [], _ => trivial
  | p :: ps, e :: es, h => by
    obtain ⟨x, ys, h1, h2, h3⟩ := Fits.head (d := .cell (kf p.1)) (ds := p.2 :: mds kf ps) h
    obtain ⟨x', ys', h4, h5, h6⟩ := Fits.head h3
    have e1 : e.key :: e.val :: kvs es = x :: ys := h1
    rw [h4] at e1
    injection e1 with e1 e2
    injection e2 with e2 e3
    exact ⟨e1.trans h2.cell_eq, e2 ▸ h5, mes_of (e3 ▸ h6)⟩
  | [], e :: es, h => by have := h.1; simp [mds, kvs] at this
  | p :: ps, [], h => by have := h.1; simp [mds, kvs] at this
theorem fits_mes : ∀ {ps : List (α × Dat)} {es : List MapEntry}, MEs w D kf ps es → Fits w D (mds kf ps) (kvs es)
  | [], [], _ => Fits.nil _ _
  | p :: ps, e :: es, h => .cons (by rw [h.1]; exact .cell _) (.cons h.2.1 (fits_mes h.2.2))
  | [], _ :: _, h => h.elim
  | _ :: _, [], h => h.elim
theorem MEs.length : ∀ {ps : List (α × Dat)} {es : List MapEntry}, MEs w D kf ps es → es.length = ps.length
  | [], [], _ => rfl
  | _ :: _, _ :: _, h => by simp [MEs.length h.2.2]
  | [], _ :: _, h => h.elim
  | _ :: _, [], h => h.elim
theorem MEs.stay (hk : Keeps D w w') (hD : ∀ g, D g → D' g) : ∀ {ps : List (α × Dat)} {es : List MapEntry}, MEs w D kf ps es → MEs w' D' kf ps es
  | [], [], _ => trivial
  | _ :: _, _ :: _, h => ⟨h.1, h.2.1.stay hk hD, MEs.stay hk hD h.2.2⟩
  | [], _ :: _, h => h.elim
  | _ :: _, [], h => h.elim
variable [DecidableEq α]
theorem mes_find {kt : TypeId} (K : KeyF P kt kf) {desc : TypeDesc} (hd : P.underlying kt = some desc) (x : α) : ∀ {ps : List (α × Dat)} {es : List MapEntry} (i : Nat), MEs w D kf ps es →
    (mget x ps = none ∧ Instr.findNow desc (kf x) es i = some none ∧ ∀ d v w' D' b, MEs w' D' kf ps es → Lies w' D' d v → MEs w' D' kf (mset x d ps) (es ++ [{ key := kf x, val := v, born := b }])) ∨
    ∃ j d e, mget x ps = some d ∧ es[j]? = some e ∧ e.key = kf x ∧ Lies w D d e.val ∧ Instr.findNow desc (kf x) es i = some (some (i + j, e.val)) ∧ ∀ d' v w' D', MEs w' D' kf ps es → Lies w' D' d' v → MEs w' D' kf (mset x d' ps) (es.modify j fun e => { e with key := kf x, val := v })
  | [], [], i, _ => .inl ⟨rfl, rfl, fun d v w' D' b _ hv => ⟨rfl, hv, trivial⟩⟩
  | p :: ps, e :: es, i, h => by
    obtain ⟨desc', h1, h2⟩ := K.same
    obtain rfl : desc = desc' := Option.some.inj (hd.symm.trans h1)
    by_cases hx : x = p.1
    · refine .inr ⟨0, p.2, e, by simp [mget, hx], rfl, h.1.trans (by rw [hx]), h.2.1, ?_, fun d' v w' D' h' hv => ?_⟩
      · simp [Instr.findNow, h.1, h2, hx]
      · have : mset x d' (p :: ps) = (x, d') :: ps := by simp [mset, hx]
        rw [this]
        exact ⟨rfl, hv, h'.2.2⟩
    · have e0 : Instr.findNow desc (kf x) (e :: es) i = Instr.findNow desc (kf x) es (i + 1) := by simp [Instr.findNow, h.1, h2, hx]
      have e1 : mget x (p :: ps) = mget x ps := by simp [mget, hx]
      have e2 : ∀ d, mset x d (p :: ps) = p :: mset x d ps := fun d => by simp [mset, hx]
      rw [e0, e1]
      rcases mes_find K hd x (i + 1) h.2.2 with ⟨a1, a2, a3⟩ | ⟨j, d, e', a1, a2, a3, a4, a5, a6⟩
      · exact .inl ⟨a1, a2, fun d v w' D' b h' hv => by rw [e2]; exact ⟨h'.1, h'.2.1, a3 d v w' D' b h'.2.2 hv⟩⟩
      · refine .inr ⟨j + 1, d, e', a1, by simpa using a2, a3, a4, by rw [a5]; congr 3; omega, fun d' v w' D' h' hv => ?_⟩
        rw [e2, List.modify_succ_cons]
        exact ⟨h'.1, h'.2.1, a6 d' v w' D' h'.2.2 hv⟩
  | [], _ :: _, _, h => h.elim
  | _ :: _, [], _, h => h.elim
theorem run_look {t kt et : TypeId} (ht : P.underlying t = some (.map kt et)) (K : KeyF P kt kf) {z : Value} (hz : ∀ w : World, (zeroValue et).run P w = .ok z w) {g : Nat} {es : Array MapEntry} {clock : Nat} (hg : w.heap[g]? = some (.map es clock)) {ps : List (α × Dat)} (h : MEs w D kf ps es.toList) (x : α) (ok : Bool) :
    ∃ v, Lies w D ((mget x ps).getD (.cell z)) v ∧ (Instr.lookup t (.map (some g)) (kf x) ok).run P w = .ok (if ok then .tuple #[v, .bool (mget x ps).isSome] else v) w := by
  obtain ⟨desc, h1, _⟩ := K.same
  rcases mes_find K h1 x 0 h with ⟨a1, a2, _⟩ | ⟨j, d, e', a1, a2, a3, a4, a5, _⟩
  · refine ⟨z, by rw [a1]; exact .cell z, ?_⟩
    simp [Instr.lookup, run_underlying ht, MapKept.run_getObj_map hg, K.chk, Instr.findKey, run_underlying h1, a2, hz, Result.andThen, a1]
  · refine ⟨e'.val, by rw [a1]; exact a4, ?_⟩
    simp [Instr.lookup, run_underlying ht, MapKept.run_getObj_map hg, K.chk, Instr.findKey, run_underlying h1, a5, Result.andThen, a1]
end
end Go.Proofs.Ytohhbpoifidbhaa
namespace Go.Proofs.Ytohhbpoifidbhaa
open Go.RowKit
section
variable {P : Program} {cx : Cx} {T : TL} {B : BL} {R : RL} {o : Oper} {α : Type} {kf : α → Value}
def zeroV (P : Program) (t : TypeId) : Option Value := (P.info? t).bind (·.zero)
theorem run_zeroV {t : TypeId} {z : Value} (h : zeroV P t = some z) (w : World) : (zeroValue t).run P w = .ok z w := by
  unfold zeroV at h
  cases hi : P.info? t with
  | none => simp [hi] at h
  | some i =>
    have hz : i.zero = some z := by simpa [hi] using h
    simp [zeroValue, typeInfo, hi, hz, Result.andThen]
theorem MapRow.mes {w : World} {D : Nat → Prop} {base : Nat} {e : TypeId} {k n : Nat} {v : Value} {ps : List (α × Dat)} (h : Gx w D base e k v n (mds kf ps)) (hty : Nat.blt e 1000000 = false) : ∃ g es clock, v = .map (some g) ∧ base ≤ g ∧ w.heap[g]? = some (.map es clock) ∧ es.size = n ∧ MEs w D kf ps es.toList := by
  obtain ⟨xs, ⟨h0, _⟩ | ⟨_, g, es, clock, h1, h2, h3, h4, h5⟩, h6⟩ := h
  · rw [hty] at h0; cases h0
  · exact ⟨g, es, clock, h1, h2, h3, h4, mes_of (h5 ▸ h6)⟩
variable [DecidableEq α]
theorem s_mlook {x i : Operand} {t kt et : TypeId} {r k n ty : Nat} {ps : List (α × Dat)} {c : α} {z : Value} (ho : o.op = .lookup t x i true) (hx : Kn T x (.own r)) (hr : lk r R = some ⟨ty, k, n, mds kf ps, false⟩) (hi : Kn T i (.is (kf c))) (K : KeyF P kt kf) (ht : P.underlying t = some (.map kt et)) (hz : zeroV P et = some z) (hty : Nat.blt ty 1000000 = false := by rfl) :
    LStep P cx B R o T (.tup [.one ((mget c ps).getD (.cell z)), .one (.cell (.bool (mget c ps).isSome))]) := LStep.same fun M V w a hh hk => by
  have h1 : a.eval x = V r := hk x _ (by simp [ho, Op.operands]) hx
  have h2 : a.eval i = kf c := (hk i _ (by simp [ho, Op.operands]) hi).is_eq
  have hrow : Gx w (Dc cx B R M V w) 0 ty k (V r) n (mds kf ps) := hh.row r _ hr
  obtain ⟨g, es, clock, e1, _, e3, _, e5⟩ := MapRow.mes hrow hty
  obtain ⟨v, hv, hrun⟩ := run_look ht K (run_zeroV hz) e3 e5 c true
  exact ⟨.tuple [v, .bool (mget c ps).isSome].toArray, by simp [execOp, ho, h1, h2, e1, hrun], [v, .bool (mget c ps).isSome], rfl, hv, .cell _, trivial⟩
theorem s_mlook1 {x i : Operand} {t kt et : TypeId} {r k n ty : Nat} {ps : List (α × Dat)} {c : α} {z : Value} (ho : o.op = .lookup t x i false) (hx : Kn T x (.own r)) (hr : lk r R = some ⟨ty, k, n, mds kf ps, false⟩) (hi : Kn T i (.is (kf c))) (K : KeyF P kt kf) (ht : P.underlying t = some (.map kt et)) (hz : zeroV P et = some z) (hty : Nat.blt ty 1000000 = false := by rfl) :
    LStep P cx B R o T (.part (.one ((mget c ps).getD (.cell z)))) := LStep.same fun M V w a hh hk => by
  have h1 : a.eval x = V r := hk x _ (by simp [ho, Op.operands]) hx
  have h2 : a.eval i = kf c := (hk i _ (by simp [ho, Op.operands]) hi).is_eq
  have hrow : Gx w (Dc cx B R M V w) 0 ty k (V r) n (mds kf ps) := hh.row r _ hr
  obtain ⟨g, es, clock, e1, _, e3, _, e5⟩ := MapRow.mes hrow hty
  obtain ⟨v, hv, hrun⟩ := run_look ht K (run_zeroV hz) e3 e5 c false
  exact ⟨_, by simp [execOp, ho, h1, h2, e1, hrun], hv⟩
omit [DecidableEq α] in
theorem s_mlen {x : Operand} {t kt et : TypeId} {r k n ty : Nat} {ps : List (α × Dat)} (ho : o.op = .call { callee := .builtin .len, args := #[x], argTypes := #[t] }) (hx : Kn T x (.own r)) (hr : lk r R = some ⟨ty, k, n, mds kf ps, false⟩) (ht : P.underlying t = some (.map kt et)) (hty : Nat.blt ty 1000000 = false := by rfl) :
    LStep P cx B R o T (.is (.int .i64 (n : Int))) := LStep.same fun M V w a hh hk => by
  have h1 : a.eval x = V r := hk x _ (by simp [ho, Op.operands, Call.operands]) hx
  have hrow : Gx w (Dc cx B R M V w) 0 ty k (V r) n (mds kf ps) := hh.row r _ hr
  obtain ⟨g, es, clock, e1, _, e3, e4, _⟩ := MapRow.mes hrow hty
  refine ⟨.int .i64 (n : Int), ?_, .cell _⟩
  simp [execOp, ho, resolve, h1, e1, invoke, builtin, Builtin.len_, run_underlying ht, MapKept.run_getObj_map e3, goInt, Result.andThen, e4]
theorem e_mset {ops : Array Oper} {Q : Exit → Act → World → Prop} {l : List Oper} {x i y : Operand} {t kt et : TypeId} {r k n ty : Nat} {ps : List (α × Dat)} {c : α} {d : Dat} (hg : o.guard = none) (hd : o.dst = none) (ho : o.op = .mapUpdate t x i y) (hx : Kn T x (.own r)) (hr : lk r R = some ⟨ty, k, n, mds kf ps, false⟩) (hi : Kn T i (.is (kf c))) (hy : Kn T y (.part (.one d))) (K : KeyF P kt kf) (ht : P.underlying t = some (.map kt et))
    (hE : E cx T B ((r, ⟨ty, k, (mset c d ps).length, mds kf (mset c d ps), false⟩) :: R) (wpList P ops Q l)) (hty : Nat.blt ty 1000000 = false := by rfl) : E cx T B R (wpList P ops Q (o :: l)) := fun M V a w hrel => by
  refine wpList_plain hg fun Q' hK => ?_
  have hh := hrel.heap
  have hxv : a.eval x = V r := hx w (Dc cx B R M V w) M V a fun t z _ hz => hrel.tmp t z hz
  have hiv : a.eval i = kf c := (hi w (Dc cx B R M V w) M V a fun t z _ hz => hrel.tmp t z hz).is_eq
  have hyv : Lies w (Dc cx B R M V w) d (a.eval y) := hy w (Dc cx B R M V w) M V a fun t z _ hz => hrel.tmp t z hz
  have hrow : Gx w (Dc cx B R M V w) 0 ty k (V r) n (mds kf ps) := hh.row r _ hr
  obtain ⟨g, es, clock, e1, _, e3, e4, e5⟩ := MapRow.mes hrow hty
  have hob : obk (V r) = some g := by rw [e1]; rfl
  obtain ⟨desc, h1, _⟩ := K.same
  have hout : ∃ es' clock', (Instr.mapUpdate t (.map (some g)) (kf c) (a.eval y)).run P w = .ok () (ChangeMaps.setBlock w g (.map es' clock')) ∧ ∀ w' D', MEs w' D' kf ps es.toList → Lies w' D' d (a.eval y) → MEs w' D' kf (mset c d ps) es'.toList := by
    rcases mes_find K h1 c 0 e5 with ⟨a1, a2, a3⟩ | ⟨j, d0, e', a1, a2, a3, a4, a5, a6⟩
    · refine ⟨es.push { key := kf c, val := a.eval y, born := clock }, clock + 1, ?_, fun w' D' hm hv => ?_⟩
      · simp [Instr.mapUpdate, run_underlying ht, MapKept.run_getObj_map e3, K.chk, Instr.findKey, run_underlying h1, a2, MapKept.run_setObj_map _ e3, Result.andThen, ChangeMaps.setBlock]
      · rw [Array.toList_push]
        exact a3 d _ w' D' clock hm hv
    · have hj : es[j]? = some e' := by simpa using a2
      refine ⟨es.modify j fun e => { e with key := kf c, val := a.eval y }, clock, ?_, fun w' D' hm hv => ?_⟩
      · simp [Instr.mapUpdate, run_underlying ht, MapKept.run_getObj_map e3, K.chk, Instr.findKey, run_underlying h1, a5, hj, a3, Instr.keyThatStays, K.bits, MapKept.run_setObj_map _ e3, Result.andThen, ChangeMaps.setBlock]
      · rw [Array.toList_modify]
        exact a6 d _ w' D' hm hv
  obtain ⟨es', clock', hrun, hmes⟩ := hout
  have hrel' : Rel cx T B ((r, ⟨ty, k, (mset c d ps).length, mds kf (mset c d ps), false⟩) :: R) M V a (ChangeMaps.setBlock w g (.map es' clock')) := by
    refine hrel.row_turn hr rfl hob rfl (fun q hq => ChangeMaps.heap_setBlock_other e3 _ hq) (by simp [ChangeMaps.setBlock]) rfl rfl rfl fun D' hk hD => ?_
    have hm := hmes _ _ (MEs.stay hk hD e5) (hyv.stay hk hD)
    exact ⟨_, .inr ⟨hty, g, es', clock', e1, Nat.zero_le _, ChangeMaps.heap_setBlock_same e3 _, by rw [← hm.length]; simp, rfl⟩, fits_mes hm⟩
  have := hK _ _ (hE M V _ _ hrel')
  unfold Oper.wp execOp
  simp [ho, hxv, hiv, e1, hrun, Oper.upon, hd, Result.andThen]
  exact this
end
end Go.Proofs.Ytohhbpoifidbhaa
namespace Go.Proofs.Ytohhbpoifidbhaa
open Go.RowKit
section
variable {P : Program} {cx : Cx} {T : TL} {B : BL} {R : RL} {o : Oper}
theorem e_mmap (r ty k : Nat) {ops : Array Oper} {Q : Exit → Act → World → Prop} {l : List Oper} {d : Nat} {t : TypeId} (hg : o.guard = none) (hd : o.dst = some d) (hn : Nat.blt d cx.n = true) (ho : o.op = .makeMap t none)
    (hT : norT r T = true) (hB : norB r B = true) (hE : E cx ((d, .own r) :: T) B ((r, ⟨ty, k, 0, [], false⟩) :: R) (wpList P ops Q l)) (hty : Nat.blt ty 1000000 = false := by rfl) : E cx T B R (wpList P ops Q (o :: l)) := fun M V a w hrel => by
  refine wpList_plain hg fun K hK => ?_
  have hb : Below w.heap.size w (w.alloc (.map #[] 0)) := (Below.refl _ _).alloc (Nat.le_refl _) _
  have h1 : Rel cx ((d, .junk) :: T) B R M V (a.put (some d) (.map (some w.heap.size))) (w.alloc (.map #[] 0)) := hrel.put hb (blt_lt hn) trivial
  have hh := h1.heap
  have hsz := hrel.heap.below.size
  let v : Value := .map (some w.heap.size)
  let V' : Nat → Value := fun q => if q = r then v else V q
  have hVr : V' r = v := if_pos rfl
  have hV : ∀ q, q ≠ r → V' q = V q := fun q h => if_neg h
  have hob : obk v = some w.heap.size := rfl
  have hmade : MapRow (w.alloc (.map #[] 0)) 0 ty v 0 [] := ⟨hty, w.heap.size, #[], 0, rfl, Nat.zero_le _, heap_alloc_new w _, rfl, rfl⟩
  have hold : ∀ q x g, lk q R = some x → x.fz = false → obk (V q) = some g → g < w.heap.size := fun q x g hx hf hg => by
    have h1 := hrel.heap.row q x hx
    rw [hf] at h1
    obtain ⟨ys, a2, _⟩ := h1
    exact (a2.lt g hg).2
  have hoB : ∀ b x, lk b B = some x → M b < w.heap.size := fun b x hx => by
    obtain ⟨_, cs, h2, _⟩ := hrel.heap.box b x hx
    exact h2.lt
  have hk := hrel.heap.keeps hb
  have hD : ∀ g, Dc cx B R M V w g → Dc cx B ((r, ⟨ty, k, 0, [], false⟩) :: R) M V' (w.alloc (.map #[] 0)) g := fun g hg => by
    have hgl := hrel.heap.dlt hg
    rcases hg with hg | ⟨a1, a2, a3, a4⟩
    · exact .inl hg
    · refine .inr ⟨a1, by have := hb.size; omega, a3, fun q x hx hf e => ?_⟩
      rcases lk_cons hx with ⟨rfl, _⟩ | ⟨hne, hx⟩
      · rw [hVr, hob] at e
        have : w.heap.size = g := by simpa using e
        omega
      · rw [hV q (Ne.symm hne)] at e
        exact a4 q x hx hf e
  have hrel' : Rel cx ((d, .own r) :: T) B ((r, ⟨ty, k, 0, [], false⟩) :: R) M V' (a.put (some d) v) (w.alloc (.map #[] 0)) := by
    refine ⟨h1.size, h1.defers, ⟨hh.below, hh.d0, hh.bl, hh.gl, fun b x hx => ?_, fun q x hx => ?_, fun q x g hx hf hg => ?_, hh.pin, hh.bb, fun b q x y g hx hy hf hg => ?_, fun q p x y g hx hy hf hf' hg hg' => ?_⟩, fun t x hx => ?_⟩
    · obtain ⟨a1, cs, a2, a3⟩ := hrel.heap.box b x hx
      have hn := List.all_eq_true.1 hB _ (lk_mem hx)
      have a4 : CFit w (Dc cx B R M V w) M V' x.cs cs := ⟨a3.1, fun j y v h1 h2 => ⟨(a3.2 j y v h1 h2).1.newV hV (List.all_eq_true.1 hn _ (List.mem_of_getElem? h1)), (a3.2 j y v h1 h2).2⟩⟩
      exact ⟨a1, cs, a2.kept hb, a4.stay hk hD⟩
    · rcases lk_cons hx with ⟨rfl, rfl⟩ | ⟨hne, hx⟩
      · rw [hVr]
        exact (⟨[], .inr hmade, Fits.nil _ _⟩ : Gx _ _ _ _ _ _ _ _)
      · rw [hV q (Ne.symm hne)]
        have h1 := hrel.heap.row q x hx
        split
        · rename_i hf
          rw [if_pos hf] at h1
          exact h1.stay hk hD
        · rename_i hf
          rw [if_neg hf] at h1
          obtain ⟨xs, a2, a3⟩ := h1
          exact ⟨xs, Ow.stay a2 fun g hg => hb.block g (a2.lt g hg).2, a3.stay hk hD⟩
    · rcases lk_cons hx with ⟨rfl, rfl⟩ | ⟨hne, hx⟩
      · rw [hVr, hob] at hg
        have : w.heap.size = g := by simpa using hg
        exact .inl (by omega)
      · rw [hV q (Ne.symm hne)] at hg
        exact hh.ro q x g hx hf hg
    · rcases lk_cons hy with ⟨rfl, rfl⟩ | ⟨hne, hy⟩
      · rw [hVr, hob] at hg
        have : w.heap.size = g := by simpa using hg
        have := hoB b x hx
        omega
      · rw [hV q (Ne.symm hne)] at hg
        exact hh.br b q x y g hx hy hf hg
    · rcases lk_cons hx with ⟨rfl, rfl⟩ | ⟨hne, hx⟩
      · rcases lk_cons hy with ⟨rfl, rfl⟩ | ⟨hne', hy⟩
        · rfl
        · rw [hVr, hob] at hg
          rw [hV p (Ne.symm hne')] at hg'
          have : w.heap.size = g := by simpa using hg
          have := hold p y g hy hf' hg'
          omega
      · rcases lk_cons hy with ⟨rfl, rfl⟩ | ⟨hne', hy⟩
        · rw [hVr, hob] at hg'
          rw [hV q (Ne.symm hne)] at hg
          have : w.heap.size = g := by simpa using hg'
          have := hold q x g hx hf hg
          omega
        · rw [hV q (Ne.symm hne)] at hg
          rw [hV p (Ne.symm hne')] at hg'
          exact hh.rr q p x y g hx hy hf hf' hg hg'
    · rw [getD_put a d t _ (by rw [hrel.size]; exact blt_lt hn)]
      rcases lk_cons hx with ⟨rfl, rfl⟩ | ⟨hne, hx⟩
      · rw [if_pos rfl]
        exact hVr.symm
      · rw [if_neg hne]
        exact ((hrel.tmp t x hx).newV hV (List.all_eq_true.1 hT _ (lk_mem hx))).stay hk hD
  have := hK _ _ (hE M V' _ _ hrel')
  unfold Oper.wp execOp
  simp only [ho, Option.map_none, Sem.run_bind]
  simp only [run_makeMap, Result.andThen_ok, Sem.run_pure, Oper.upon, hd]
  exact this
def AtV (o : Nat) (u v : Value) : Prop := ∃ g n c, u = .slice (some ⟨g, 0, none⟩) n c ∧ v = .pointer (some ⟨g, o, none⟩)
theorem add_none (b o k : Nat) : (⟨b, o, none⟩ : Addr).add k = ⟨b, o + k, none⟩ := by unfold Addr.add; split <;> simp_all
theorem HR.own_shape {M : Nat → Nat} {V : Nat → Value} {w : World} (hh : HR cx B R M V w) {r ty k n : Nat} {ds : List Dat} (hr : lk r R = some ⟨ty, k, n, ds, false⟩) (hty : Nat.blt ty 1000000 = true) (hn : 0 < n) :
    ∃ g cap cur xs, V r = .slice (some ⟨g, 0, none⟩) n cap ∧ w.heap[g]? = some (.cells cur ty (0, 0)) ∧ n ≤ cap ∧ cap ≤ maxLen ∧ cur.size = cap * k ∧ cur.toList.take (n * k) = xs ∧ xs.length = n * k ∧ Fits w (Dc cx B R M V w) ds xs := by
  obtain ⟨xs, hown, hfx⟩ : Gr w (Dc cx B R M V w) 0 ty k (V r) n ds := Gx.row (hh.row r _ hr) hty
  obtain ⟨hxl, hv⟩ := hown
  obtain ⟨g, cap, cur, hVr, _, hg, hcap, hmax, hcs, hcx⟩ := hv.resolve_left fun h => by omega
  exact ⟨g, cap, cur, xs, hVr, hg, hcap, hmax, hcs, hcx, hxl, hfx⟩
theorem HR.own_slice {M : Nat → Nat} {V : Nat → Value} {w : World} (hh : HR cx B R M V w) {r ty k n : Nat} {ds : List Dat} (hr : lk r R = some ⟨ty, k, n, ds, false⟩) (hty : Nat.blt ty 1000000 = true) : ∃ p cap, V r = .slice p n cap ∧ n ≤ cap ∧ (0 < n → ∃ g, p = some ⟨g, 0, none⟩) := by
  obtain ⟨xs, hown, hfx⟩ : Gr w (Dc cx B R M V w) 0 ty k (V r) n ds := Gx.row (hh.row r _ hr) hty
  obtain ⟨hxl, hv⟩ := hown
  rcases hv with ⟨h1, rfl⟩ | ⟨g, cap, cur, h1, _, _, h2, _⟩
  · exact ⟨none, 0, h1, Nat.le_refl _, fun h => by omega⟩
  · exact ⟨_, cap, h1, h2, fun _ => ⟨g, rfl⟩⟩
theorem s_own_addr {x i : Operand} {t : TypeId} {r ty k n : Nat} {ds : List Dat} {kk : IntKind} {z : Int} (ho : o.op = .indexAddr t x i) (hx : Kn T x (.own r)) (hr : lk r R = some ⟨ty, k, n, ds, false⟩) (hi : Kn T i (.is (.int kk z))) (hz : 0 ≤ z ∧ z < (n : Int)) (ht : P.underlying t = some (.slice (P.elem t))) (hs : sizeT P (P.elem t) = some k) (hty : Nat.blt ty 1000000 = true := by rfl) :
    LStep P cx B R o T (.via r (AtV (z.toNat * k))) := LStep.same fun M V w a hh hk => by
  have h1 : a.eval x = V r := hk x _ (by simp [ho, Op.operands]) hx
  have h2 := (hk i _ (by simp [ho, Op.operands]) hi).is_eq
  obtain ⟨p, cap, hVr, _, hp⟩ := hh.own_slice hr hty
  obtain ⟨g, rfl⟩ := hp (by omega)
  have h7 := run_indexAt_slice (P := P) w t ⟨g, 0, none⟩ n cap kk z ht
  rw [if_pos ⟨hz.1, hz.2⟩, run_sizeT hs, Result.andThen_ok, add_none, Nat.zero_add] at h7
  exact ⟨_, by simp [execOp, ho, h1, h2, hVr, h7], g, n, cap, hVr, rfl⟩
theorem own_cell {w : World} {g ty j : Nat} {cur : Array Value} (hg : w.heap[g]? = some (.cells cur ty (0, 0))) : w.cell? ⟨g, j, none⟩ = cur.toList[j]? := by
  have : Blk w g ty cur.toList := by unfold Blk; rw [hg]
  exact this.cell _
theorem s_via_load1 {x : Operand} {t : TypeId} {r ty k n j : Nat} {ds : List Dat} {d : Dat} (ho : o.op = .load t x) (hx : Kn T x (.via r (AtV j))) (hr : lk r R = some ⟨ty, k, n, ds, false⟩) (hj : ds[j]? = some d) (ht : oneT P t = true) (hty : Nat.blt ty 1000000 = true := by rfl) : LStep P cx B R o T (.part (.one d)) := LStep.same fun M V w a hh hk => by
  obtain ⟨g, n', c, h1, h2⟩ : AtV j (V r) (a.eval x) := hk x _ (by simp [ho, Op.operands]) hx
  have hjl : j < ds.length := by
    rcases Nat.lt_or_ge j ds.length with h | h
    · exact h
    · rw [List.getElem?_eq_none h] at hj; cases hj
  have hn : 0 < n := by
    rcases Nat.eq_zero_or_pos n with h | h
    · obtain ⟨xs, hown, hfx⟩ : Gr w (Dc cx B R M V w) 0 ty k (V r) n ds := Gx.row (hh.row r _ hr) hty
      have := hfx.1
      have := hown.1
      rw [h, Nat.zero_mul] at this
      omega
    · exact h
  obtain ⟨g', cap, cur, xs, e1, e2, e3, e4, e5, e6, e7, e8⟩ := hh.own_shape hr hty hn
  rw [h1] at e1
  cases e1
  have hxj : j < xs.length := by rw [← e8.1]; exact hjl
  have hc : w.cell? ⟨g, j, none⟩ = some xs[j] := by
    rw [own_cell e2, ← List.getElem?_eq_getElem hxj, ← e6, List.getElem?_take, if_pos (by omega)]
  have h5 := run_load_one (P := P) w ⟨g, j, none⟩ _ t hc ht
  exact ⟨xs[j], by simp [execOp, ho, h2, Instr.loadAt, Instr.sureAddr, h5], e8.2 j d _ hj (List.getElem?_eq_getElem hxj)⟩
theorem HR.own_store {M : Nat → Nat} {V : Nat → Value} {w : World} {a : Act} (hrel : Rel cx T B R M V a w) {r ty k n j g n' c : Nat} {ds es : List Dat} {us : List Value} (hr : lk r R = some ⟨ty, k, n, ds, false⟩) (hV : V r = .slice (some ⟨g, 0, none⟩) n' c) (hjm : j + es.length ≤ ds.length) (he0 : 0 < es.length) (hf : Fits w (Dc cx B R M V w) es us) (hone : ∀ u ∈ us, u.oneCell' = true) (hty : Nat.blt ty 1000000 = true) :
    ∃ w', (storeCells ⟨g, j, none⟩ us 0).run P w = .ok () w' ∧ Rel cx T B ((r, ⟨ty, k, n, ds.take j ++ es ++ ds.drop (j + es.length), false⟩) :: R) M V a w' := by
  have hh := hrel.heap
  have hn : 0 < n := by
    rcases Nat.eq_zero_or_pos n with h | h
    · obtain ⟨xs, hown, hfx⟩ : Gr w (Dc cx B R M V w) 0 ty k (V r) n ds := Gx.row (hh.row r _ hr) hty
      have := hfx.1
      have := hown.1
      rw [h, Nat.zero_mul] at this
      omega
    · exact h
  obtain ⟨g', cap, cur, xs, e1, e2, e3, e4, e5, e6, e7, e8⟩ := hh.own_shape hr hty hn
  rw [hV] at e1
  obtain ⟨rfl, rfl, rfl⟩ : g = g' ∧ n' = n ∧ c = cap := by injection e1 with a1 a2 a3; injection a1 with a1; injection a1 with a1; exact ⟨a1, a2, a3⟩
  have hul : us.length = es.length := hf.1.symm
  have hdl := e8.1
  have hle : n' * k ≤ c * k := Nat.mul_le_mul_right _ e3
  have hcl : cur.toList.length = c * k := by simpa using e5
  have hblk : Blk w g ty cur.toList := by unfold Blk; rw [e2]
  have hst := run_storeCells_at (P := P) g j ty us 0 cur.toList.toArray w hblk (by simp; omega) hone
  simp only [Nat.add_zero] at hst
  have hnew := setRow_heap w g cur.toList.toArray (cur.toList.take j ++ us ++ cur.toList.drop (j + us.length)).toArray ty (0, 0) hblk
  refine ⟨_, hst, hrel.row_turn (g := g) hr rfl (by rw [hV]; rfl) rfl (fun q hq => setRow_other w g q _ hq) (by simp) rfl rfl rfl fun D' hk hD => ?_⟩
  have hfx := e8.stay hk hD
  have hfu := hf.stay hk hD
  refine ⟨xs.take j ++ us ++ xs.drop (j + us.length), .inl ⟨hty, by simp; omega, .inr ⟨g, c, _, hV, Nat.zero_le _, hnew, e3, e4, by simp; omega, ?_⟩⟩, ?_⟩
  · subst e6
    have hjl : j + us.length ≤ n' * k := by omega
    apply List.ext_getElem?
    intro i
    simp only [List.getElem?_take, List.getElem?_append, List.getElem?_drop, List.length_take, List.length_append, hcl]
    split <;> (repeat' split) <;> first | rfl | omega | (congr 1; omega)
  · have p1 := hfx.part 0 j
    have p2 := hfx.part (j + es.length) (ds.length - (j + es.length))
    simp only [List.drop_zero] at p1
    rw [List.take_of_length_le (l := ds.drop (j + es.length)) (by simp), List.take_of_length_le (l := xs.drop (j + es.length)) (by simp; omega)] at p2
    rw [show xs.drop (j + es.length) = xs.drop (j + us.length) by rw [hul]] at p2
    exact (p1.append hfu).append p2
end
end Go.Proofs.Ytohhbpoifidbhaa
namespace Go.Proofs.Ytohhbpoifidbhaa
open Go.RowKit
section
variable {P : Program} {cx : Cx} {T : TL} {B : BL} {R : RL} {o : Oper}
def Far (y y' : IV) : Prop := ∀ (w : World) (D : Nat → Prop) (M : Nat → Nat) (V : Nat → Value) (w' : World) (D' : Nat → Prop) (M' : Nat → Nat) (V' : Nat → Value) (v : Value), VR w D M V y v → VR w' D' M' V' y' v
theorem Far.is (v : Value) : Far (.is v) (.is v) := fun w D M V w' D' M' V' u h => by
  obtain rfl := VR.is_eq h
  exact .cell _
def LenV (n : Nat) (_ v : Value) : Prop := ∃ p c, v = .slice p n c
theorem Far.row (r k n : Nat) (ds : List Dat) : Far (.part (.one (.row k n ds))) (.via r (LenV n)) := fun w D M V w' D' M' V' u h => by
  obtain ⟨p, c, h1⟩ := row_shape h
  exact ⟨p, c, h1⟩
variable {ops : Array Oper} {Q : Exit → Act → World → Prop} {l : List Oper}
end
end Go.Proofs.Ytohhbpoifidbhaa
namespace Go.Proofs.Ytohhbpoifidbhaa
open Go.RowKit
section
variable {P : Program} {cx : Cx} {T : TL} {B : BL} {R : RL} {ops : Array Oper} {Q : Exit → Act → World → Prop} {deps : List (List Nat)}
def depsOf (ops : Array Oper) : List (List Nat) := ops.toList.map fun o => (o.after.toList.filter fun e => Region.binds .any e).map (·.on)
def readyC (L : List Bool) : Nat → List (List Nat) → List Nat
  | _, [] => []
  | i, d :: ds => bif !(L.getD i true) && d.all (fun j => L.getD j false) then i :: readyC L (i + 1) ds else readyC L (i + 1) ds
theorem mem_readyC {L : List Bool} : ∀ {ds : List (List Nat)} {k i : Nat}, i ∈ readyC L k ds ↔ k ≤ i ∧ L.getD i true = false ∧ ∃ d, ds[i - k]? = some d ∧ d.all (fun j => L.getD j false) = true
  | [], k, i => by simp [readyC]
  | d :: ds, k, i => by
    have ih := mem_readyC (L := L) (ds := ds) (k := k + 1) (i := i)
    have key : i ∈ readyC L k (d :: ds) ↔ (i = k ∧ L.getD k true = false ∧ d.all (fun j => L.getD j false) = true) ∨ i ∈ readyC L (k + 1) ds := by
      rw [show readyC L k (d :: ds) = bif !(L.getD k true) && d.all (fun j => L.getD j false) then k :: readyC L (k + 1) ds else readyC L (k + 1) ds from rfl]
      cases h : (!(L.getD k true) && d.all (fun j => L.getD j false)) with
      | true =>
        simp only [Bool.and_eq_true, Bool.not_eq_true'] at h
        simp only [cond_true, List.mem_cons]
        exact ⟨fun h' => h'.imp (fun e => ⟨e, h.1, h.2⟩) id, fun h' => h'.imp (fun e => e.1) id⟩
      | false =>
        simp only [cond_false]
        refine ⟨.inr, fun h' => h'.resolve_left fun e => ?_⟩
        rw [e.2.1, e.2.2] at h
        cases h
    rw [key, ih]
    constructor
    · rintro (⟨rfl, h1, h2⟩ | ⟨h1, h2, d', h3, h4⟩)
      · exact ⟨Nat.le_refl _, h1, d, by simp, h2⟩
      · refine ⟨by omega, h2, d', ?_, h4⟩
        rw [show i - k = (i - (k + 1)) + 1 by omega, List.getElem?_cons_succ]
        exact h3
    · rintro ⟨h1, h2, d', h3, h4⟩
      by_cases e : i = k
      · subst e
        rw [Nat.sub_self, List.getElem?_cons_zero] at h3
        obtain rfl := Option.some.inj h3
        exact .inl ⟨rfl, h2, h4⟩
      · rw [show i - k = (i - (k + 1)) + 1 by omega, List.getElem?_cons_succ] at h3
        exact .inr ⟨by omega, h2, d', h3, h4⟩
theorem ready_readyC {L : List Bool} (hd : depsOf ops = deps) {i : Nat} : i ∈ Region.ready .any ops L.toArray ↔ i ∈ readyC L 0 deps := by
  have hg : ∀ (j : Nat) (b : Bool), L.toArray.getD j b = L.getD j b := fun j b => by simp [List.getD_eq_getElem?_getD]
  rw [mem_ready, mem_readyC, ← hd]
  simp only [hg, Nat.zero_le, true_and, Nat.sub_zero, depsOf, List.getElem?_map, Array.getElem?_toList]
  constructor
  · rintro ⟨h1, o, ho, h2⟩
    refine ⟨h1, _, by rw [ho]; rfl, ?_⟩
    rw [List.all_eq_true]
    intro j hj
    obtain ⟨e, he, rfl⟩ := List.mem_map.1 hj
    obtain ⟨he1, he2⟩ := List.mem_filter.1 he
    exact h2 e (Array.mem_toList_iff.1 he1) he2
  · rintro ⟨h1, d, h2, h3⟩
    cases ho : ops[i]? with
    | none => rw [ho] at h2; cases h2
    | some o =>
      rw [ho] at h2
      obtain rfl := Option.some.inj h2
      refine ⟨h1, o, rfl, fun e he hb => ?_⟩
      exact List.all_eq_true.1 h3 _ (List.mem_map.2 ⟨e, List.mem_filter.2 ⟨Array.mem_toList_iff.2 he, hb⟩, rfl⟩)
theorem e_draw_any {id : Nat} {l : List Oper} (n : Nat) (L : List Bool) (deps : List (List Nat)) (hd : depsOf l.toArray = deps) (hn : l.toArray.size = n) (hm : P.follows .mixedOrders = true) (hL : List.replicate n false = L) (h : depsOf l.toArray = deps → E cx T B R (wpAny P .any l.toArray Q n L.toArray)) : E cx T B R ((Code.region id l.toArray true).wp P Q) := fun M V a w hr => by
  have hr1 : Rel cx T B R M V a w.drew := ⟨hr.size, hr.defers, hr.heap.step (Below.refl _ _).drew, fun t x hx => (hr.tmp t x hx).stay (hr.heap.keeps (Below.refl _ _).drew) fun _ hg => hg.mono (Nat.le_refl _)⟩
  refine wp_region_any hm ?_
  rw [hn, ← List.toArray_replicate, hL]
  exact h hd M V a w.drew hr1
def AnyE (P : Program) (cx : Cx) (T : TL) (B : BL) (R : RL) (ops : Array Oper) (Q : Exit → Act → World → Prop) (fuel : Nat) (L : List Bool) : List Nat → Prop
  | [] => True
  | i :: is => E cx T B R (wpOp P ops Q i (wpAny P .any ops Q fuel (L.set i true).toArray)) ∧ AnyE P cx T B R ops Q fuel L is
theorem AnyE.get {fuel : Nat} {L : List Bool} : ∀ {is : List Nat} (_ : AnyE P cx T B R ops Q fuel L is) {i : Nat}, i ∈ is → E cx T B R (wpOp P ops Q i (wpAny P .any ops Q fuel (L.set i true).toArray))
  | j :: is, h, i, hi => by
    rcases List.mem_cons.1 hi with rfl | hi
    · exact h.1
    · exact AnyE.get h.2 hi
  | [], _, _, hi => by cases hi
theorem e_any {fuel : Nat} {L : List Bool} (hd : depsOf ops = deps) (hne : (readyC L 0 deps).isEmpty = false) (h : AnyE P cx T B R ops Q fuel L (readyC L 0 deps)) : E cx T B R (wpAny P .any ops Q (fuel + 1) L.toArray) := fun M V a w hrel => by
  refine ⟨fun e => ?_, fun i hi => ?_⟩
  · cases hl : readyC L 0 deps with
    | nil => rw [hl] at hne; cases hne
    | cons i is =>
      have : i ∈ Region.ready .any ops L.toArray := (ready_readyC hd).2 (by rw [hl]; exact List.mem_cons_self)
      rw [e] at this
      cases this
  · have := AnyE.get h ((ready_readyC hd).1 hi)
    rw [List.setIfInBounds_toArray]
    exact this M V a w hrel
theorem e_any0 {L : List Bool} (hd : depsOf ops = deps) (hr : (readyC L 0 deps).isEmpty = true) (h : E cx T B R (Q .normal)) : E cx T B R (wpAny P .any ops Q 0 L.toArray) := fun M V a w hrel => by
  refine ⟨?_, h M V a w hrel⟩
  cases hl : Region.ready .any ops L.toArray with
  | nil => rfl
  | cons i is =>
    have : i ∈ readyC L 0 deps := (ready_readyC hd).1 (by rw [hl]; exact List.mem_cons_self)
    cases hl2 : readyC L 0 deps with
    | nil => rw [hl2] at this; cases this
    | cons j js => rw [hl2] at hr; cases hr
theorem e_opi {i : Nat} {o : Oper} {K : Act → World → Prop} (ho : ops[i]? = some o) (hl : LetsOut (Exit.then K Q) → LetsOut Q) (h : E cx T B R (wpList P ops (Exit.then K Q) [o])) : E cx T B R (wpOp P ops Q i K) := fun M V a w hrel => op_of_list ho hl (h M V a w hrel)
end
end Go.Proofs.Ytohhbpoifidbhaa
