/- Part 15 of what the last text of this claim is proved by: walks over the program, and the math behind them. Conditions: as each theorem says. -/
import Derived.Test.YtlikbiiimhfnkaaVO14
import Derived.Laws.Slices
import Derived.Test.YtlikbiiimhfnkaaProg
import Derived.Lib.AppendZeros
import Derived.Lib.Hide
namespace Go.Proofs.Ytlikbiiimhfnkaa
open Go
def gidx {α : Type} (c : α → Int) (l : List α) : Nat := (l.takeWhile fun x => decide (c x < 0)).length
def gfound {α : Type} [Inhabited α] (c : α → Int) (l : List α) : Bool := decide (gidx c l < l.length) && decide (c (l.getD (gidx c l) default) = 0)
theorem gidx_le {α : Type} (c : α → Int) (l : List α) : gidx c l ≤ l.length := List.IsPrefix.length_le (List.takeWhile_prefix _)
theorem gidx_of {α : Type} {c : α → Int} : ∀ {l : List α} {i : Nat}, i ≤ l.length → (∀ (p : Nat) x, p < i → l[p]? = some x → c x < 0) → (∀ x, l[i]? = some x → ¬ c x < 0) → gidx c l = i
  | [], i, h, _, _ => by
    have : i = 0 := by simpa using h
    rw [this]; rfl
  | a :: l, 0, _, _, h2 => by
    unfold gidx
    rw [List.takeWhile_cons, decide_eq_false (h2 a rfl)]
    rfl
  | a :: l, i + 1, h, h1, h2 => by
    have ih := gidx_of (c := c) (l := l) (i := i) (by simpa using h) (fun p x hp hx => h1 (p + 1) x (by omega) (by simpa using hx)) (fun x hx => h2 x (by simpa using hx))
    unfold gidx at ih ⊢
    rw [List.takeWhile_cons, decide_eq_true (h1 0 a (by omega) rfl)]
    simp [ih]
def gwith {α : Type} [Inhabited α] (c : α → Int) (l : List α) (x : α) (st : Bool) : List α :=
  l.take (gidx c l) ++ ((if st then [x] else []) ++ (if gfound c l then (l.drop (gidx c l)).drop 1 else l.drop (gidx c l)))
theorem gidx_cons_lt {α : Type} {c : α → Int} {a : α} {l : List α} (h : c a < 0) : gidx c (a :: l) = gidx c l + 1 := by
  unfold gidx
  rw [List.takeWhile_cons, decide_eq_true h]
  rfl
theorem gidx_cons_ge {α : Type} {c : α → Int} {a : α} {l : List α} (h : ¬ c a < 0) : gidx c (a :: l) = 0 := by
  unfold gidx
  rw [List.takeWhile_cons, decide_eq_false h]
  rfl
theorem gfound_cons_lt {α : Type} [Inhabited α] {c : α → Int} {a : α} {l : List α} (h : c a < 0) : gfound c (a :: l) = gfound c l := by
  unfold gfound
  rw [gidx_cons_lt h]
  simp
theorem gfound_cons_ge {α : Type} [Inhabited α] {c : α → Int} {a : α} {l : List α} (h : ¬ c a < 0) : gfound c (a :: l) = decide (c a = 0) := by
  unfold gfound
  rw [gidx_cons_ge h]
  simp
theorem gwith_cons_lt {α : Type} [Inhabited α] {c : α → Int} {a : α} {l : List α} (x : α) (st : Bool) (h : c a < 0) : gwith c (a :: l) x st = a :: gwith c l x st := by
  unfold gwith
  rw [gidx_cons_lt h, gfound_cons_lt h]
  simp
theorem gwith_cons_ge {α : Type} [Inhabited α] {c : α → Int} {a : α} {l : List α} (x : α) (st : Bool) (h : ¬ c a < 0) : gwith c (a :: l) x st = (if st then [x] else []) ++ (if c a = 0 then l else a :: l) := by
  unfold gwith
  rw [gidx_cons_ge h, gfound_cons_ge h]
  simp
def fto (n : Int) (f : Int × Vl) : Int := icmp f.1 n
theorem fright_mono {n : Int} : ∀ {p : Int} {fs : List (Int × Vl)}, fright p fs = true → ∀ (i j : Nat) (x y : Int × Vl), i ≤ j → fs[i]? = some x → fs[j]? = some y → fto n y < 0 → fto n x < 0
  | _, [], _, i, j, x, y, _, hx, _, _ => by simp at hx
  | p, f :: fs, h, 0, 0, x, y, _, hx, hy, hc => by
    have e : x = y := by simp at hx hy; rw [← hx, hy]
    rw [e]; exact hc
  | p, f :: fs, h, 0, j + 1, x, y, _, hx, hy, hc => by
    obtain ⟨h1, h2, h3, h4, h5, h6⟩ := (fright_iff p f fs).1 h
    have hl : ∀ {q : Int} {gs : List (Int × Vl)}, fright q gs = true → ∀ g ∈ gs, q < g.1 := by
      intro q gs
      induction gs generalizing q with
      | nil => intro _ g hg; cases hg
      | cons a gs ih =>
        intro h g hg
        obtain ⟨_, _, k3, _, _, k6⟩ := (fright_iff q a gs).1 h
        rcases List.mem_cons.1 hg with rfl | hg
        · exact k3
        · have := ih k6 g hg
          omega
    obtain rfl : f = x := by simpa using hx
    have hy' : y ∈ fs := List.mem_of_getElem? (i := j) (by simpa using hy)
    have := hl h6 y hy'
    rw [fto, icmp_neg_iff] at hc ⊢
    omega
  | p, f :: fs, h, i + 1, j + 1, x, y, hij, hx, hy, hc => by
    obtain ⟨h1, h2, h3, h4, h5, h6⟩ := (fright_iff p f fs).1 h
    exact fright_mono h6 i j x y (by omega) (by simpa using hx) (by simpa using hy) hc
  | _, _ :: _, _, _ + 1, 0, _, _, hij, _, _, _ => by omega
theorem wgo_done (n : Int) (x : Vl) : ∀ {p : Int} {fs : List (Int × Vl)}, fright p fs = true → n ≤ p → wgo n x true fs = fs
  | _, [], _, _ => by simp [wgo]
  | p, f :: fs, h, hn => by
    obtain ⟨h1, h2, h3, h4, h5, h6⟩ := (fright_iff p f fs).1 h
    rw [wgo, if_neg (by simp), if_neg (by omega), wgo_done n x h6 (by omega)]
theorem wgo_with (n : Int) (x : Vl) (st : Bool) : ∀ {p : Int} {fs : List (Int × Vl)}, fright p fs = true → wgo n x (!st) fs = gwith (fto n) fs (n, x) st
  | _, [], _ => by cases st <;> simp [wgo, gwith, gidx, gfound]
  | p, f :: fs, h => by
    obtain ⟨h1, h2, h3, h4, h5, h6⟩ := (fright_iff p f fs).1 h
    rcases Int.lt_or_le f.1 n with hlt | hge
    · have hc : fto n f < 0 := (icmp_neg_iff _ _).2 hlt
      rw [gwith_cons_lt _ _ hc, wgo, if_neg (fun h => by omega), if_neg (by omega), wgo_with n x st h6]
    · have hc : ¬ fto n f < 0 := fun h => by
        have := (icmp_neg_iff _ _).1 h
        omega
      rw [gwith_cons_ge _ _ hc, wgo]
      have h0 : fto n f = 0 ↔ f.1 = n := by
        unfold fto icmp
        repeat' split
        all_goals omega
      have ht := wgo_done n x h6 hge
      cases st with
      | true =>
        rw [if_pos ⟨rfl, hge⟩, ht]
        by_cases he : f.1 = n
        · rw [if_pos he, if_pos (h0.2 he)]; rfl
        · rw [if_neg he, if_neg (fun h => he (h0.1 h))]; rfl
      | false =>
        rw [if_neg (by simp)]
        by_cases he : f.1 = n
        · rw [if_pos he, if_pos (h0.2 he)]
          exact ht
        · rw [if_neg he, if_neg (fun h => he (h0.1 h))]
          exact congrArg (f :: ·) ht
theorem wfields_with (n : Int) (x : Vl) {p : Int} {fs : List (Int × Vl)} (h : fright p fs = true) : wfields n x fs = gwith (fto n) fs (n, x) (!decide (x.kind = 0)) := by
  rw [wfields_go, ← wgo_with n x _ h, Bool.not_not]
theorem find_found (n : Int) : ∀ {p : Int} {fs : List (Int × Vl)}, fright p fs = true → fs.find? (fun f => f.1 == n) = if gfound (fto n) fs then some (fs.getD (gidx (fto n) fs) default) else none
  | _, [], _ => by simp [gfound]
  | p, f :: fs, h => by
    obtain ⟨h1, h2, h3, h4, h5, h6⟩ := (fright_iff p f fs).1 h
    rcases Int.lt_or_le f.1 n with hlt | hge
    · have hc : fto n f < 0 := (icmp_neg_iff _ _).2 hlt
      rw [gfound_cons_lt hc, gidx_cons_lt hc, List.find?_cons, show (f.1 == n) = false by simpa using (by omega : ¬ f.1 = n)]
      simpa using find_found n h6
    · have hc : ¬ fto n f < 0 := fun h => by
        have := (icmp_neg_iff _ _).1 h
        omega
      have h0 : fto n f = 0 ↔ f.1 = n := by
        unfold fto icmp
        repeat' split
        all_goals omega
      rw [gfound_cons_ge hc, gidx_cons_ge hc, List.find?_cons]
      by_cases he : f.1 = n
      · rw [show (f.1 == n) = true by simpa using he, decide_eq_true (h0.2 he)]
        rfl
      · rw [show (f.1 == n) = false by simpa using he, decide_eq_false (fun h => he (h0.1 h))]
        have hno : ∀ {q : Int} {gs : List (Int × Vl)}, n ≤ q → fright q gs = true → gs.find? (fun f => f.1 == n) = none := by
          intro q gs
          induction gs generalizing q with
          | nil => intros; rfl
          | cons a gs ih =>
            intro hq h
            obtain ⟨_, _, k3, _, _, k6⟩ := (fright_iff q a gs).1 h
            rw [List.find?_cons, show (a.1 == n) = false by simpa using (by omega : ¬ a.1 = n)]
            exact ih (by omega) k6
        exact hno hge h6
def pto (k : Vl) (p : Vl × Vl) : Int := vcmp p.1 k
def Rises : List (Vl × Vl) → Prop
  | [] => True
  | p :: ps => (∀ q ∈ ps, vcmp p.1 q.1 < 0) ∧ Rises ps
theorem vcmp_lt {a b c : Vl} (h1 : vcmp a b < 0) (h2 : vcmp b c ≤ 0) : vcmp a c < 0 := (vcmp_tri a b c).2.1 h1 h2
theorem vcmp_lt2 {a b c : Vl} (h1 : vcmp a b ≤ 0) (h2 : vcmp b c < 0) : vcmp a c < 0 := (vcmp_tri a b c).2.2.1 h1 h2
theorem rises_of : ∀ {ps : List (Vl × Vl)}, grises pkeyc ps = true → Rises ps
  | [], _ => trivial
  | [p], _ => ⟨fun q hq => absurd hq (List.not_mem_nil), trivial⟩
  | p :: q :: ps, h => by
    rw [grises, Bool.and_eq_true] at h
    have h1 : vcmp p.1 q.1 < 0 := of_decide_eq_true h.1
    have ih := rises_of h.2
    refine ⟨fun r hr => ?_, ih⟩
    rcases List.mem_cons.1 hr with rfl | hr
    · exact h1
    · exact vcmp_lt h1 (Int.le_of_lt (ih.1 r hr))
theorem rises_right {v : Vl} (h : vright v = true) : Rises v.pairs := by
  rw [vright_eq] at h
  simp only [Bool.and_eq_true] at h
  have hp := h.2
  rw [pright_prog] at hp
  revert hp
  cases v.pairs with
  | nil => exact fun _ => trivial
  | cons p ps =>
    intro hp
    simp only [prights, Bool.or_eq_true, Bool.and_eq_true, reduceCtorEq, decide_false, Bool.false_eq_true, false_or] at hp
    exact rises_of hp.2.2
theorem pto_mono {k : Vl} : ∀ {ps : List (Vl × Vl)}, Rises ps → ∀ (i j : Nat) (x y : Vl × Vl), i ≤ j → ps[i]? = some x → ps[j]? = some y → pto k y < 0 → pto k x < 0
  | [], _, i, j, x, y, _, hx, _, _ => by simp at hx
  | p :: ps, h, 0, 0, x, y, _, hx, hy, hc => by
    have e : x = y := by simp at hx hy; rw [← hx, hy]
    rw [e]; exact hc
  | p :: ps, h, 0, j + 1, x, y, _, hx, hy, hc => by
    obtain rfl : p = x := by simpa using hx
    have hy' : y ∈ ps := List.mem_of_getElem? (i := j) (by simpa using hy)
    exact vcmp_lt (h.1 y hy') (Int.le_of_lt hc)
  | p :: ps, h, i + 1, j + 1, x, y, hij, hx, hy, hc => pto_mono h.2 i j x y (by omega) (by simpa using hx) (by simpa using hy) hc
  | _ :: _, _, _ + 1, 0, _, _, hij, _, _, _ => by omega
theorem gwith_all {α : Type} [Inhabited α] {c : α → Int} {l : List α} (x : α) (h : ∀ q ∈ l, 0 < c q) : gwith c l x false = l := by
  cases l with
  | nil => simp [gwith, gidx, gfound]
  | cons a l =>
    have h1 := h a List.mem_cons_self
    rw [gwith_cons_ge _ _ (by omega)]
    simp [show ¬ c a = 0 by omega]
def pfin (key x : Vl) (r : Bool × List (Vl × Vl)) : List (Vl × Vl) := if r.1 then r.2 else r.2 ++ [(key, x)]
theorem pfold_with (key x : Vl) : ∀ (fs : List (Vl × Vl)) (d : Bool) (acc : List (Vl × Vl)), Rises fs → pfin key x (fs.foldl (fun s f => ptwo key (pone key x s f) f) (d, acc)) = acc ++ gwith (pto key) fs (key, x) (!d)
  | [], d, acc, _ => by cases d <;> simp [pfin, gwith, gidx, gfound]
  | f :: fs, d, acc, h => by
    rw [List.foldl_cons]
    rcases Int.lt_or_le (vcmp f.1 key) 0 with hlt | hge
    · have hc : pto key f < 0 := hlt
      rw [gwith_cons_lt _ _ hc]
      have e1 : pone key x (d, acc) f = (d, acc) := if_neg fun h => by omega
      have e2 : ptwo key (d, acc) f = (d, acc ++ [f]) := if_neg (by omega)
      rw [e1, e2, pfold_with key x fs d _ h.2]
      simp
    · have hc : ¬ pto key f < 0 := by show ¬ vcmp f.1 key < 0; omega
      have hall : ∀ q ∈ fs, 0 < pto key q := fun q hq => by
        have h1 := h.1 q hq
        have h2 := vcmp_neg f.1 q.1
        have h3 := vcmp_neg q.1 key
        have h4 := vcmp_neg f.1 key
        have h5 := @vcmp_lt2 key f.1 q.1 (by have := vcmp_neg key f.1; omega) h1
        have h6 := vcmp_neg key q.1
        show 0 < vcmp q.1 key
        omega
      rw [gwith_cons_ge _ _ hc]
      have h0 : pto key f = 0 ↔ vcmp f.1 key = 0 := Iff.rfl
      cases d with
      | true =>
        have e1 : pone key x (true, acc) f = (true, acc) := if_neg fun h => by simp at h
        rw [e1]
        by_cases he : vcmp f.1 key = 0
        · have e2 : ptwo key (true, acc) f = (true, acc) := if_pos he
          rw [e2, if_pos (h0.2 he), pfold_with key x fs true _ h.2, Bool.not_true, gwith_all _ hall]
          rfl
        · have e2 : ptwo key (true, acc) f = (true, acc ++ [f]) := if_neg he
          rw [e2, if_neg (fun h => he (h0.1 h)), pfold_with key x fs true _ h.2, Bool.not_true, gwith_all _ hall]
          simp
      | false =>
        have e1 : pone key x (false, acc) f = (true, acc ++ [(key, x)]) := if_pos ⟨rfl, hge⟩
        rw [e1]
        by_cases he : vcmp f.1 key = 0
        · have e2 : ptwo key (true, acc ++ [(key, x)]) f = (true, acc ++ [(key, x)]) := if_pos he
          rw [e2, if_pos (h0.2 he), pfold_with key x fs true _ h.2, Bool.not_true, gwith_all _ hall]
          simp
        · have e2 : ptwo key (true, acc ++ [(key, x)]) f = (true, acc ++ [(key, x)] ++ [f]) := if_neg he
          rw [e2, if_neg (fun h => he (h0.1 h)), pfold_with key x fs true _ h.2, Bool.not_true, gwith_all _ hall]
          simp
theorem ppairs_with (key x : Vl) {fs : List (Vl × Vl)} (h : Rises fs) : ppairs key x fs = gwith (pto key) fs (key, x) (!decide (x.kind = 0)) := by
  have := pfold_with key x fs (decide (x.kind = 0)) [] h
  rw [List.nil_append] at this
  exact this
theorem findp_found (key : Vl) : ∀ {fs : List (Vl × Vl)}, Rises fs → fs.find? (fun p => vcmp p.1 key == 0) = if gfound (pto key) fs then some (fs.getD (gidx (pto key) fs) default) else none
  | [], _ => by simp [gfound]
  | f :: fs, h => by
    rcases Int.lt_or_le (vcmp f.1 key) 0 with hlt | hge
    · have hc : pto key f < 0 := hlt
      rw [gfound_cons_lt hc, gidx_cons_lt hc, List.find?_cons, show (vcmp f.1 key == 0) = false by simpa using (by omega : ¬ vcmp f.1 key = 0)]
      simpa using findp_found key h.2
    · have hc : ¬ pto key f < 0 := by show ¬ vcmp f.1 key < 0; omega
      rw [gfound_cons_ge hc, gidx_cons_ge hc, List.find?_cons]
      by_cases he : vcmp f.1 key = 0
      · rw [show (vcmp f.1 key == 0) = true by simpa using he, show decide (pto key f = 0) = true from decide_eq_true he]
        rfl
      · rw [show (vcmp f.1 key == 0) = false by simpa using he, show decide (pto key f = 0) = false from decide_eq_false he]
        show fs.find? (fun p => vcmp p.1 key == 0) = none
        rw [List.find?_eq_none]
        intro q hq
        have h1 := h.1 q hq
        have h5 := @vcmp_lt2 key f.1 q.1 (by have := vcmp_neg key f.1; omega) h1
        have h6 := vcmp_neg key q.1
        simp
        omega
end Go.Proofs.Ytlikbiiimhfnkaa
namespace Go.Proofs.Ytlikbiiimhfnkaa
open Go.RowKit
theorem flat_drop {α : Type} {f : α → List Dat} {k : Nat} (hk : ∀ a, (f a).length = k) : ∀ (qs : List α) (i : Nat), (qs.flatMap f).drop (i * k) = (qs.drop i).flatMap f
  | [], i => by simp
  | q :: qs, 0 => by simp
  | q :: qs, i + 1 => by
    rw [List.flatMap_cons, List.drop_succ_cons, ← flat_drop hk qs i, List.drop_append, List.drop_eq_nil_of_le (by rw [hk, Nat.succ_mul]; omega), List.nil_append, hk, Nat.succ_mul, Nat.add_sub_cancel]
theorem flat_take {α : Type} {f : α → List Dat} {k : Nat} (hk : ∀ a, (f a).length = k) : ∀ (qs : List α) (i : Nat), (qs.flatMap f).take (i * k) = (qs.take i).flatMap f
  | [], i => by simp
  | q :: qs, 0 => by simp
  | q :: qs, i + 1 => by
    rw [List.flatMap_cons, List.take_succ_cons, List.flatMap_cons, ← flat_take hk qs i, List.take_append, List.take_of_length_le (by rw [hk, Nat.succ_mul]; omega), hk, Nat.succ_mul, Nat.add_sub_cancel]
theorem lies_part {w : World} {D : Nat → Prop} {k : Nat} {α : Type} {f : α → List Dat} (hk : ∀ a, (f a).length = k) {qs : List α} {p : Option Addr} {c lo hi : Nat} (h : Lies w D (.row k qs.length (qs.flatMap f)) (.slice p qs.length c)) (hlh : lo ≤ hi) (hh : hi ≤ qs.length) (hc : qs.length ≤ c) :
    Lies w D (.row k ((qs.take hi).drop lo).length (((qs.take hi).drop lo).flatMap f)) (.slice (if c = lo then p else p.map (·.add (lo * k))) (hi - lo) (c - lo)) := by
  have hl : ((qs.take hi).drop lo).length = hi - lo := by rw [List.length_drop, List.length_take]; omega
  rcases Nat.eq_zero_or_pos (hi - lo) with h0 | h0
  · rw [hl, h0, List.eq_nil_of_length_eq_zero (hl.trans h0)]
    exact .none _ _ _
  · have hne : ¬ c = lo := by omega
    rw [if_neg hne, hl]
    have hd : ((qs.take hi).drop lo).flatMap f = ((qs.flatMap f).drop (lo * k)).take ((hi - lo) * k) := by
      rw [flat_drop hk, flat_take hk, List.drop_take]
    rw [hd]
    have hp : ∃ b o, p = some ⟨b, o, none⟩ := by
      generalize hn : qs.length = n at h
      generalize qs.flatMap f = ds at h
      cases h with
      | none => omega
      | row k n b o c ds X => exact ⟨b, o, rfl⟩
    obtain ⟨b, o, rfl⟩ := hp
    have hadd : (⟨b, o, none⟩ : Addr).add (lo * k) = ⟨b, o + lo * k, none⟩ := by unfold Addr.add; split <;> simp_all
    rw [Option.map_some, hadd]
    exact lies_sub h hlh hh _ (by omega)
theorem row_cap {w : World} {D : Nat → Prop} {k n : Nat} {ds : List Dat} {v : Value} (h : Lies w D (.row k n ds) v) : ∃ p c, v = .slice p n c ∧ n ≤ c := by
  cases h with
  | none k p c => exact ⟨p, c, rfl, Nat.zero_le _⟩
  | row k n b o c ds X h1 h2 => exact ⟨_, c, rfl, h2⟩
section
variable {P : Program} {cx : Cx} {T : TL} {B : BL} {R : RL} {o : Oper}
theorem s_rslice_to {x hi : Operand} {t : TypeId} {k : Nat} {α : Type} {f : α → List Dat} {qs : List α} {kk : IntKind} {z : Int} (ho : o.op = .slice t x none (some hi) none) (hx : Kn T x (.part (.one (.row k qs.length (qs.flatMap f))))) (hh : Kn T hi (.is (.int kk z))) (hz : 0 ≤ z ∧ z ≤ (qs.length : Int)) (hk : ∀ a, (f a).length = k) (ht : P.underlying t = some (.slice (P.elem t))) (hs : sizeT P (P.elem t) = some k) :
    LStep P cx B R o T (.part (.one (.row k (qs.take z.toNat).length ((qs.take z.toNat).flatMap f)))) := LStep.same fun M V w a _ hkk => by
  have h1 := (hkk hi _ (by simp [ho, Op.operands]) hh).is_eq
  have hv := hkk x _ (by simp [ho, Op.operands]) hx
  obtain ⟨p, c, h2, h3⟩ := row_cap hv
  rw [h2] at hv
  have h4 := lies_part hk hv (Nat.zero_le z.toNat) (by omega) h3
  have h5 := run_slice_h (P := P) (w := w) t p qs.length c ht kk z hz.1 (by omega)
  rw [run_sizeT hs, Result.andThen_ok, ← run_sliceAt_slice _ _ _ _ _ _ ht] at h5
  rw [List.drop_zero] at h4
  exact ⟨sliced _ _ _ _ _, by simp [execOp, ho, h1, h2, h5], h4⟩
theorem s_rslice_from {x lo : Operand} {t : TypeId} {k : Nat} {α : Type} {f : α → List Dat} {qs : List α} {kk : IntKind} {z : Int} (ho : o.op = .slice t x (some lo) none none) (hx : Kn T x (.part (.one (.row k qs.length (qs.flatMap f))))) (hl : Kn T lo (.is (.int kk z))) (hz : 0 ≤ z ∧ z ≤ (qs.length : Int)) (hk : ∀ a, (f a).length = k) (ht : P.underlying t = some (.slice (P.elem t))) (hs : sizeT P (P.elem t) = some k) :
    LStep P cx B R o T (.part (.one (.row k (qs.drop z.toNat).length ((qs.drop z.toNat).flatMap f)))) := LStep.same fun M V w a _ hkk => by
  have h1 := (hkk lo _ (by simp [ho, Op.operands]) hl).is_eq
  have hv := hkk x _ (by simp [ho, Op.operands]) hx
  obtain ⟨p, c, h2, h3⟩ := row_cap hv
  rw [h2] at hv
  have h4 := lies_part hk hv (lo := z.toNat) (hi := qs.length) (by omega) (Nat.le_refl _) h3
  have h5 := run_slice_l (P := P) (w := w) t p qs.length c ht kk z hz.1 hz.2
  rw [run_sizeT hs, Result.andThen_ok, ← run_sliceAt_slice _ _ _ _ _ _ ht] at h5
  rw [List.take_length] at h4
  exact ⟨sliced _ _ _ _ _, by simp [execOp, ho, h1, h2, h5], h4⟩
end
end Go.Proofs.Ytlikbiiimhfnkaa
namespace Go.Proofs.Ytlikbiiimhfnkaa
open Go.RowKit
theorem kI {a b : Int} (h : a = b) : Imp (.is (.int .i64 a)) (.is (.int .i64 b)) := Imp.of_eq (by rw [h])
theorem getD_some {α : Type} [Inhabited α] {l : List α} {i : Nat} (h : i < l.length) : l[((i : Nat) : Int).toNat]? = some (l.getD i default) := by
  rw [Int.toNat_natCast, List.getD_eq_getElem?_getD, List.getElem?_eq_getElem h]
  rfl
set_option maxRecDepth 100000 in
set_option maxHeartbeats 1000000 in
theorem bs_fields_ef (f : FuncId) (hfc : callable Try.prog f = true) (l : List (Int × Vl)) (hl : l.length ≤ 1000000) (t : Int × Vl) (c : Int × Vl → Int) (hmono : ∀ (i j : Nat) x y, i ≤ j → l[i]? = some x → l[j]? = some y → c y < 0 → c x < 0) (hc : ∀ x ∈ l, EF Try.prog [] f [.many (fd x), .many (fd t)] (.part (iP (c x)))) :
    EF Try.prog [] 68 [.one (.row 8 l.length (l.flatMap fieldDats)), .many (fd t), fP f] (.tup [iP (gidx c l), tP (gfound c l)]) := by
  refine ef_enter 49 Try.func68 rfl rfl rfl fun w D => ?_
  try refine e_fl ?_
  refine e_list ?_
  refine e_box 4 rfl rfl rfl rfl (kn rfl) rfl rfl rfl rfl ?_
  refine l_as ?_
  refine l_as ?_
  refine e_nil ?_
  try refine e_fl ?_
  refine e_plain (w_mv rfl rfl rfl rfl rfl (w_op rfl rfl rfl (s_len rfl (kn rfl) sle_23) (w_as rfl rfl rfl rfl rfl .nil))) ?_
  try refine e_fl ?_
  refine e_plain (w_mv rfl rfl rfl rfl rfl (w_as rfl rfl rfl rfl rfl (w_as rfl rfl rfl rfl rfl .nil))) ?_
  try refine e_fl ?_
  refine e_loop (ι := { ij : Nat × Nat // ij.1 ≤ ij.2 ∧ ij.2 ≤ l.length ∧ (∀ (p : Nat) x, p < ij.1 → l[p]? = some x → c x < 0) ∧ ∀ (q : Nat) y, ij.2 ≤ q → l[q]? = some y → ¬ c y < 0 })
    (fun i => [(0, .part (.one (.row 8 l.length (l.flatMap fieldDats)))), (2, .part (fP f)), (4, .box 4 0), (8, .is (.int .i64 (l.length : Int))), (9, .is (.int .i64 (i.1.1 : Int))), (10, .is (.int .i64 (i.1.2 : Int)))])
    (fun _ => [(4, ⟨58, bcs (fd t)⟩)]) (fun _ => []) (fun i => i.1.2 - i.1.1) ⟨(0, l.length), by omega, by omega, fun p x h => absurd h (by dsimp only; omega), fun q y h hy => by rw [List.getElem?_eq_none h] at hy; cases hy⟩
    (fun K => e_sub ⟨s_t, s_t, s_t, s_t, s_t, s_t, trivial⟩ ⟨s_b, trivial⟩ trivial) ?_
  rintro ⟨⟨i, j⟩, hij, hj, hlo, hhi⟩
  dsimp only at hij hj hlo hhi ⊢
  try refine e_fl ?_
  refine e_plain (w_mv rfl rfl rfl rfl rfl (w_mv rfl rfl rfl rfl rfl (w_op rfl rfl rfl (s_bin rfl (kn rfl) (kn rfl) v_lss) .nil))) ?_
  try refine e_fl ?_
  refine e_cond rfl (fun h => ?_) (fun h => ?_)
  · have hlt : i < j := by have := of_decide_eq_true h; omega
    obtain ⟨m, hm⟩ : ∃ m, m = (i + j) / 2 := ⟨_, rfl⟩
    have hmi : ((i : Int) + (j : Int)) / 2 = (m : Int) := by omega
    obtain ⟨x, hx⟩ : ∃ x, l[m]? = some x := ⟨_, List.getElem?_eq_getElem (by omega)⟩
    have hx' : l[(((i : Int) + (j : Int)) / 2).toNat]? = some x := by rw [hmi, Int.toNat_natCast]; exact hx
    try refine e_fl ?_
    refine e_plain (w_mv rfl rfl rfl rfl rfl (w_mv rfl rfl rfl rfl rfl (w_op rfl rfl rfl (s_bin rfl (kn rfl) (kn rfl) (v_add64 (by first | omega | (dsimp only; omega) | omega))) (w_op rfl rfl rfl (s_convk rfl (kn rfl) (by kernel_rfl) int_98 (by kernel_rfl) (wrap_u64 _ (by omega) (by omega))) (w_op rfl rfl rfl (s_bin rfl (kn rfl) (kn rfl) v_shr1) (w_op rfl rfl rfl (s_convk rfl (kn rfl) (by kernel_rfl) int_3 (by kernel_rfl) (wrap_in _ (by omega) (by omega))) (w_as rfl rfl rfl rfl rfl .nil))))))) ?_
    try refine e_fl ?_
    refine e_draw mixed (by kernel_rfl) (w_mv rfl rfl rfl rfl rfl (w_mv rfl rfl rfl rfl rfl (w_mv rfl rfl rfl rfl rfl (w_op rfl rfl rfl (s_index rfl (kn rfl) (kn rfl) (by omega) hx' fieldDats_len sle_23 esz_23 (fieldDats_vd x)) (w_op rfl rfl rfl (s_loadn_ref rfl (kn rfl) agg_58 sz_58) (w_op rfl rfl rfl (s_loadn_box (ds := [_, _, _, _, _, _, _, _]) 8 rfl (kn rfl) rfl rfl agg_58 sz_58 rfl) (w_op rfl rfl rfl (s_callf rfl hfc (kn rfl) (hc x (List.mem_of_getElem? hx)) ⟨kn rfl, kn rfl, trivial⟩) (w_op rfl rfl rfl (s_bin rfl (kn rfl) (kn rfl) v_lss) .nil)))))))) ?_
    try refine e_fl ?_
    refine e_cond rfl (fun h1 => ?_) (fun h1 => ?_)
    · try refine e_fl ?_
      refine e_plain (w_mv rfl rfl rfl rfl rfl (w_op rfl rfl rfl (s_bin rfl (kn rfl) (kn rfl) (v_add64 (by first | omega | (dsimp only; omega) | omega))) (w_as rfl rfl rfl rfl rfl .nil))) ?_
      try refine e_fl ?_
      refine e_again ⟨(m + 1, j), by dsimp only; omega, hj, fun p y hp hy => hmono p m y x (by dsimp only at hp; omega) hy hx (of_decide_eq_true h1), hhi⟩ (by dsimp only; omega) (fun K => e_sub ⟨s_t, s_t, s_t, s_t, ⟨_, rfl, kI (by dsimp only; omega)⟩, s_t, trivial⟩ ⟨s_b, trivial⟩ trivial)
    · try refine e_fl ?_
      refine e_plain (w_mv rfl rfl rfl rfl rfl (w_as rfl rfl rfl rfl rfl .nil)) ?_
      try refine e_fl ?_
      refine e_again ⟨(i, m), by dsimp only; omega, by dsimp only; omega, hlo, fun q y hq hy hn => of_decide_eq_false h1 (hmono m q x y hq hx hy hn)⟩ (by dsimp only; omega) (fun K => e_sub ⟨s_t, s_t, s_t, s_t, s_t, ⟨_, rfl, kI hmi⟩, trivial⟩ ⟨s_b, trivial⟩ trivial)
  obtain rfl : i = j := by have := of_decide_eq_false h; omega
  have hg : gidx c l = i := gidx_of hj hlo (fun x hx => hhi i x (Nat.le_refl _) hx)
  clear h
  have hget : decide ((i : Int) < (l.length : Int)) = true → l[(i : Int).toNat]? = some (l.getD i default) := fun h => getD_some (by have := of_decide_eq_true h; omega)
  try refine e_fl ?_
  refine e_draw mixed (by kernel_rfl) (w_mv rfl rfl rfl rfl rfl (w_mv rfl rfl rfl rfl rfl (w_mv rfl rfl rfl rfl rfl (w_op rfl rfl rfl (s_bin rfl (kn rfl) (kn rfl) v_lss) (w_mv rfl rfl rfl rfl rfl (Walk.gd _ rfl rfl rfl (fun h => s_move rfl (kn rfl)) (Walk.gd _ rfl rfl rfl (fun h => s_move rfl (kn rfl)) (Walk.gd _ rfl rfl rfl (fun h => s_move rfl (kn rfl)) (Walk.gd _ rfl rfl rfl (fun h => s_index rfl (kn_opt rfl h) (kn_opt rfl h) (by omega) (hget h) fieldDats_len sle_23 esz_23 (fieldDats_vd _)) (Walk.gd _ rfl rfl rfl (fun h => s_loadn_ref rfl (kn_opt rfl h) agg_58 sz_58) (Walk.gd _ rfl rfl rfl (fun h => s_loadn_box (ds := [_, _, _, _, _, _, _, _]) 8 rfl (kn rfl) rfl rfl agg_58 sz_58 rfl) (Walk.gd _ rfl rfl rfl (fun h => s_callf rfl hfc (kn_opt rfl h) (hc _ (List.mem_of_getElem? (hget h))) ⟨kn_opt rfl h, kn_opt rfl h, trivial⟩) (Walk.gd _ rfl rfl rfl (fun h => s_bin rfl (kn_opt rfl h) (kn rfl) v_eql) (w_op rfl rfl rfl (s_and rfl (kn rfl) (fun hb => kn_opt rfl hb)) (w_as rfl rfl rfl rfl rfl (w_as rfl rfl rfl rfl rfl .nil)))))))))))))))) ?_
  try refine e_fl ?_
  exact e_return rfl rfl (.tmp (kn rfl) (.tmp (kn rfl) (.nil))) (Imp.of_eq (by rw [← hg]; simp [gfound]; rfl)) rfl
set_option maxRecDepth 100000 in
set_option maxHeartbeats 1000000 in
theorem bs_pairs_ef (f : FuncId) (hfc : callable Try.prog f = true) (l : List (Vl × Vl)) (hl : l.length ≤ 1000000) (t : Vl × Vl) (c : Vl × Vl → Int) (hmono : ∀ (i j : Nat) x y, i ≤ j → l[i]? = some x → l[j]? = some y → c y < 0 → c x < 0) (hc : ∀ x ∈ l, EF Try.prog [] f [.many (pd x), .many (pd t)] (.part (iP (c x)))) :
    EF Try.prog [] 70 [.one (.row 14 l.length (l.flatMap pairDats)), .many (pd t), fP f] (.tup [iP (gidx c l), tP (gfound c l)]) := by
  refine ef_enter 49 Try.func70 rfl rfl rfl fun w D => ?_
  try refine e_fl ?_
  refine e_list ?_
  refine e_box 4 rfl rfl rfl rfl (kn rfl) rfl rfl rfl rfl ?_
  refine l_as ?_
  refine l_as ?_
  refine e_nil ?_
  try refine e_fl ?_
  refine e_plain (w_mv rfl rfl rfl rfl rfl (w_op rfl rfl rfl (s_len rfl (kn rfl) sle_25) (w_as rfl rfl rfl rfl rfl .nil))) ?_
  try refine e_fl ?_
  refine e_plain (w_mv rfl rfl rfl rfl rfl (w_as rfl rfl rfl rfl rfl (w_as rfl rfl rfl rfl rfl .nil))) ?_
  try refine e_fl ?_
  refine e_loop (ι := { ij : Nat × Nat // ij.1 ≤ ij.2 ∧ ij.2 ≤ l.length ∧ (∀ (p : Nat) x, p < ij.1 → l[p]? = some x → c x < 0) ∧ ∀ (q : Nat) y, ij.2 ≤ q → l[q]? = some y → ¬ c y < 0 })
    (fun i => [(0, .part (.one (.row 14 l.length (l.flatMap pairDats)))), (2, .part (fP f)), (4, .box 4 0), (8, .is (.int .i64 (l.length : Int))), (9, .is (.int .i64 (i.1.1 : Int))), (10, .is (.int .i64 (i.1.2 : Int)))])
    (fun _ => [(4, ⟨62, bcs (pd t)⟩)]) (fun _ => []) (fun i => i.1.2 - i.1.1) ⟨(0, l.length), by omega, by omega, fun p x h => absurd h (by dsimp only; omega), fun q y h hy => by rw [List.getElem?_eq_none h] at hy; cases hy⟩
    (fun K => e_sub ⟨s_t, s_t, s_t, s_t, s_t, s_t, trivial⟩ ⟨s_b, trivial⟩ trivial) ?_
  rintro ⟨⟨i, j⟩, hij, hj, hlo, hhi⟩
  dsimp only at hij hj hlo hhi ⊢
  try refine e_fl ?_
  refine e_plain (w_mv rfl rfl rfl rfl rfl (w_mv rfl rfl rfl rfl rfl (w_op rfl rfl rfl (s_bin rfl (kn rfl) (kn rfl) v_lss) .nil))) ?_
  try refine e_fl ?_
  refine e_cond rfl (fun h => ?_) (fun h => ?_)
  · have hlt : i < j := by have := of_decide_eq_true h; omega
    obtain ⟨m, hm⟩ : ∃ m, m = (i + j) / 2 := ⟨_, rfl⟩
    have hmi : ((i : Int) + (j : Int)) / 2 = (m : Int) := by omega
    obtain ⟨x, hx⟩ : ∃ x, l[m]? = some x := ⟨_, List.getElem?_eq_getElem (by omega)⟩
    have hx' : l[(((i : Int) + (j : Int)) / 2).toNat]? = some x := by rw [hmi, Int.toNat_natCast]; exact hx
    try refine e_fl ?_
    refine e_plain (w_mv rfl rfl rfl rfl rfl (w_mv rfl rfl rfl rfl rfl (w_op rfl rfl rfl (s_bin rfl (kn rfl) (kn rfl) (v_add64 (by first | omega | (dsimp only; omega) | omega))) (w_op rfl rfl rfl (s_convk rfl (kn rfl) (by kernel_rfl) int_98 (by kernel_rfl) (wrap_u64 _ (by omega) (by omega))) (w_op rfl rfl rfl (s_bin rfl (kn rfl) (kn rfl) v_shr1) (w_op rfl rfl rfl (s_convk rfl (kn rfl) (by kernel_rfl) int_3 (by kernel_rfl) (wrap_in _ (by omega) (by omega))) (w_as rfl rfl rfl rfl rfl .nil))))))) ?_
    try refine e_fl ?_
    refine e_draw mixed (by kernel_rfl) (w_mv rfl rfl rfl rfl rfl (w_mv rfl rfl rfl rfl rfl (w_mv rfl rfl rfl rfl rfl (w_op rfl rfl rfl (s_index rfl (kn rfl) (kn rfl) (by omega) hx' pairDats_len sle_25 esz_25 (pairDats_vd x)) (w_op rfl rfl rfl (s_loadn_ref rfl (kn rfl) agg_62 sz_62) (w_op rfl rfl rfl (s_loadn_box (ds := [_, _, _, _, _, _, _, _, _, _, _, _, _, _]) 14 rfl (kn rfl) rfl rfl agg_62 sz_62 rfl) (w_op rfl rfl rfl (s_callf rfl hfc (kn rfl) (hc x (List.mem_of_getElem? hx)) ⟨kn rfl, kn rfl, trivial⟩) (w_op rfl rfl rfl (s_bin rfl (kn rfl) (kn rfl) v_lss) .nil)))))))) ?_
    try refine e_fl ?_
    refine e_cond rfl (fun h1 => ?_) (fun h1 => ?_)
    · try refine e_fl ?_
      refine e_plain (w_mv rfl rfl rfl rfl rfl (w_op rfl rfl rfl (s_bin rfl (kn rfl) (kn rfl) (v_add64 (by first | omega | (dsimp only; omega) | omega))) (w_as rfl rfl rfl rfl rfl .nil))) ?_
      try refine e_fl ?_
      refine e_again ⟨(m + 1, j), by dsimp only; omega, hj, fun p y hp hy => hmono p m y x (by dsimp only at hp; omega) hy hx (of_decide_eq_true h1), hhi⟩ (by dsimp only; omega) (fun K => e_sub ⟨s_t, s_t, s_t, s_t, ⟨_, rfl, kI (by dsimp only; omega)⟩, s_t, trivial⟩ ⟨s_b, trivial⟩ trivial)
    · try refine e_fl ?_
      refine e_plain (w_mv rfl rfl rfl rfl rfl (w_as rfl rfl rfl rfl rfl .nil)) ?_
      try refine e_fl ?_
      refine e_again ⟨(i, m), by dsimp only; omega, by dsimp only; omega, hlo, fun q y hq hy hn => of_decide_eq_false h1 (hmono m q x y hq hx hy hn)⟩ (by dsimp only; omega) (fun K => e_sub ⟨s_t, s_t, s_t, s_t, s_t, ⟨_, rfl, kI hmi⟩, trivial⟩ ⟨s_b, trivial⟩ trivial)
  obtain rfl : i = j := by have := of_decide_eq_false h; omega
  have hg : gidx c l = i := gidx_of hj hlo (fun x hx => hhi i x (Nat.le_refl _) hx)
  clear h
  have hget : decide ((i : Int) < (l.length : Int)) = true → l[(i : Int).toNat]? = some (l.getD i default) := fun h => getD_some (by have := of_decide_eq_true h; omega)
  try refine e_fl ?_
  refine e_draw mixed (by kernel_rfl) (w_mv rfl rfl rfl rfl rfl (w_mv rfl rfl rfl rfl rfl (w_mv rfl rfl rfl rfl rfl (w_op rfl rfl rfl (s_bin rfl (kn rfl) (kn rfl) v_lss) (w_mv rfl rfl rfl rfl rfl (Walk.gd _ rfl rfl rfl (fun h => s_move rfl (kn rfl)) (Walk.gd _ rfl rfl rfl (fun h => s_move rfl (kn rfl)) (Walk.gd _ rfl rfl rfl (fun h => s_move rfl (kn rfl)) (Walk.gd _ rfl rfl rfl (fun h => s_index rfl (kn_opt rfl h) (kn_opt rfl h) (by omega) (hget h) pairDats_len sle_25 esz_25 (pairDats_vd _)) (Walk.gd _ rfl rfl rfl (fun h => s_loadn_ref rfl (kn_opt rfl h) agg_62 sz_62) (Walk.gd _ rfl rfl rfl (fun h => s_loadn_box (ds := [_, _, _, _, _, _, _, _, _, _, _, _, _, _]) 14 rfl (kn rfl) rfl rfl agg_62 sz_62 rfl) (Walk.gd _ rfl rfl rfl (fun h => s_callf rfl hfc (kn_opt rfl h) (hc _ (List.mem_of_getElem? (hget h))) ⟨kn_opt rfl h, kn_opt rfl h, trivial⟩) (Walk.gd _ rfl rfl rfl (fun h => s_bin rfl (kn_opt rfl h) (kn rfl) v_eql) (w_op rfl rfl rfl (s_and rfl (kn rfl) (fun hb => kn_opt rfl hb)) (w_as rfl rfl rfl rfl rfl (w_as rfl rfl rfl rfl rfl .nil)))))))))))))))) ?_
  try refine e_fl ?_
  exact e_return rfl rfl (.tmp (kn rfl) (.tmp (kn rfl) (.nil))) (Imp.of_eq (by rw [← hg]; simp [gfound]; rfl)) rfl
end Go.Proofs.Ytlikbiiimhfnkaa
