/- UTF-8, as the document tells it: how many bytes the first rune has, where a text's runes end, and that texts may be put together and parted. No condition. -/
import Derived.Test.YtbcokjhmfbfekaaDoorProg
import Derived.Test.YtbcokjhmfbfekaaDoorMem
namespace Go.Proofs.YtbcokjhmfbfekaaDoor
open Go.RowKit

/-- One more byte of a rune. -/
abbrev rmore (x : UInt8) : Prop := 128 ≤ x.toNat ∧ x.toNat ≤ 191
/-- How many bytes a rune has that begins with b; 0: none does. -/
def rneed (b : UInt8) : Nat := if b.toNat < 128 then 1 else if b.toNat < 194 then 0 else if b.toNat < 224 then 2 else if b.toNat < 240 then 3 else if b.toNat < 245 then 4 else 0
/-- What b asks of the next byte. -/
abbrev rnext (b x : UInt8) : Prop := (b.toNat = 224 → 160 ≤ x.toNat) ∧ (b.toNat = 237 → x.toNat ≤ 159) ∧ (b.toNat = 240 → 144 ≤ x.toNat) ∧ (b.toNat = 244 → x.toNat ≤ 143)
/-- What b asks of the bytes behind it. -/
abbrev rfits (b : UInt8) (xs : List UInt8) : Prop := (∀ x ∈ xs, rmore x) ∧ ∀ x ∈ xs.head?, rnext b x
/-- How many bytes the first rune has; 0: there is none. -/
def rsize : List UInt8 → Nat
  | [] => 0
  | b :: t => if rneed b ≤ t.length + 1 ∧ rfits b (t.take (rneed b - 1)) then rneed b else 0
theorem rsize_cons (b : UInt8) (t : List UInt8) : rsize (b :: t) = if rneed b ≤ t.length + 1 ∧ rfits b (t.take (rneed b - 1)) then rneed b else 0 := rfl
theorem rsize_nil : rsize [] = 0 := rfl
theorem rneed_four (b : UInt8) : rneed b ≤ 4 := by
  unfold rneed
  repeat' split
  all_goals omega
theorem rsize_four (l : List UInt8) : rsize l ≤ 4 := by
  match l with
  | [] => exact Nat.zero_le _
  | b :: t =>
    rw [rsize_cons]
    split
    · exact rneed_four b
    · omega
theorem rsize_le (l : List UInt8) : rsize l ≤ l.length := by
  match l with
  | [] => exact Nat.zero_le _
  | b :: t =>
    rw [rsize_cons]
    split
    · rename_i h
      rw [List.length_cons]
      exact h.1
    · omega
/-- Only its own bytes count. -/
theorem rsize_local (l m : List UInt8) (h : 0 < rsize l) (hm : m.take (rsize l) = l.take (rsize l)) : rsize m = rsize l := by
  match l, h, hm with
  | [], h, _ => exact absurd h (by decide)
  | b :: t, h, hm =>
    have hl := rsize_le (b :: t)
    by_cases hc : rneed b ≤ t.length + 1 ∧ rfits b (t.take (rneed b - 1))
    · have e : rsize (b :: t) = rneed b := by rw [rsize_cons]; rw [if_pos hc]
      rw [e] at h hm hl ⊢
      obtain ⟨r, hr⟩ : ∃ r, rneed b = r + 1 := ⟨rneed b - 1, by omega⟩
      match m, hm with
      | [], hm => rw [hr] at hm; simp at hm
      | c :: u, hm =>
        rw [hr, List.take_succ_cons, List.take_succ_cons] at hm
        obtain ⟨rfl, hu⟩ := List.cons.inj hm
        have hul := congrArg List.length hu
        rw [List.length_take, List.length_take] at hul
        rw [List.length_cons] at hl
        rw [rsize_cons]
        rw [hr, Nat.add_sub_cancel] at hc ⊢
        rw [if_pos ⟨by omega, by rw [hu]; exact hc.2⟩]
    · have e : rsize (b :: t) = 0 := by rw [rsize_cons]; rw [if_neg hc]
      omega
theorem rsize_append (l m : List UInt8) (h : 0 < rsize l) : rsize (l ++ m) = rsize l := rsize_local l (l ++ m) h (List.take_append_of_le_length (rsize_le l))
theorem rsize_take (l : List UInt8) (k : Nat) (h : 0 < rsize l) (hk : rsize l ≤ k) : rsize (l.take k) = rsize l := rsize_local l (l.take k) h (by rw [List.take_take, Nat.min_eq_left hk])

/-- How many runes there are up to the fault, and where it is. -/
def rscan : Nat → List UInt8 → Nat × Nat
  | 0, _ => (0, 0)
  | f + 1, l => if rsize l = 0 then (0, 0) else ((rscan f (l.drop (rsize l))).1 + 1, (rscan f (l.drop (rsize l))).2 + rsize l)
theorem rscan_stop {l : List UInt8} (h : rsize l = 0) : ∀ f, rscan f l = (0, 0)
  | 0 => rfl
  | f + 1 => by rw [rscan, if_pos h]
theorem rscan_more : ∀ (f g : Nat) (l : List UInt8), l.length ≤ f → l.length ≤ g → rscan f l = rscan g l
  | 0, g, l, h, _ => by
    obtain rfl := List.eq_nil_of_length_eq_zero (Nat.le_zero.1 h)
    rw [rscan_stop rsize_nil, rscan_stop rsize_nil]
  | f, 0, l, _, h => by
    obtain rfl := List.eq_nil_of_length_eq_zero (Nat.le_zero.1 h)
    rw [rscan_stop rsize_nil, rscan_stop rsize_nil]
  | f + 1, g + 1, l, hf, hg => by
    by_cases h : rsize l = 0
    · rw [rscan_stop h, rscan_stop h]
    · have hd : (l.drop (rsize l)).length ≤ l.length - 1 := by rw [List.length_drop]; omega
      rw [rscan, rscan, if_neg h, if_neg h, rscan_more f g (l.drop (rsize l)) (by omega) (by omega)]
def rcount (l : List UInt8) : Nat := (rscan l.length l).1
def rend (l : List UInt8) : Nat := (rscan l.length l).2
theorem rcount_stop {l : List UInt8} (h : rsize l = 0) : rcount l = 0 := by unfold rcount; rw [rscan_stop h]
theorem rend_stop {l : List UInt8} (h : rsize l = 0) : rend l = 0 := by unfold rend; rw [rscan_stop h]
theorem rscan_step {l : List UInt8} (h : rsize l ≠ 0) : rscan l.length l = (rcount (l.drop (rsize l)) + 1, rend (l.drop (rsize l)) + rsize l) := by
  have hle := rsize_le l
  obtain ⟨f, hf⟩ : ∃ f, l.length = f + 1 := ⟨l.length - 1, by omega⟩
  have hd : (l.drop (rsize l)).length ≤ f := by rw [List.length_drop]; omega
  rw [hf, rscan, if_neg h, rscan_more f _ _ hd (Nat.le_refl _)]
  rfl
theorem rcount_step {l : List UInt8} (h : rsize l ≠ 0) : rcount l = rcount (l.drop (rsize l)) + 1 := by conv => lhs; unfold rcount; rw [rscan_step h]
theorem rend_step {l : List UInt8} (h : rsize l ≠ 0) : rend l = rend (l.drop (rsize l)) + rsize l := by conv => lhs; unfold rend; rw [rscan_step h]

/-- An induction, rune by rune. -/
theorem rune_induct {P : List UInt8 → Prop} (h0 : ∀ l, rsize l = 0 → P l) (h1 : ∀ l, rsize l ≠ 0 → P (l.drop (rsize l)) → P l) : ∀ l, P l := by
  have : ∀ (n : Nat) (l : List UInt8), l.length ≤ n → P l := by
    intro n
    induction n with
    | zero =>
      intro l hl
      obtain rfl := List.eq_nil_of_length_eq_zero (Nat.le_zero.1 hl)
      exact h0 _ rsize_nil
    | succ n ih =>
      intro l hl
      by_cases h : rsize l = 0
      · exact h0 l h
      · exact h1 l h (ih _ (by rw [List.length_drop]; omega))
  exact fun l => this l.length l (Nat.le_refl _)
theorem rend_le (l : List UInt8) : rend l ≤ l.length := by
  refine rune_induct (P := fun l => rend l ≤ l.length) (fun l h => by rw [rend_stop h]; omega) (fun l h ih => ?_) l
  have := rsize_le l
  rw [List.length_drop] at ih
  rw [rend_step h]
  omega
theorem rcount_le (l : List UInt8) : rcount l ≤ rend l := by
  refine rune_induct (P := fun l => rcount l ≤ rend l) (fun l h => by rw [rend_stop h, rcount_stop h]; omega) (fun l h ih => ?_) l
  rw [rend_step h, rcount_step h]
  omega
/-- Is the text right? -/
def rright (l : List UInt8) : Prop := rend l = l.length
theorem rright_nil : rright [] := rend_stop rsize_nil
theorem rright_zero {l : List UInt8} (h : rsize l = 0) (hr : rright l) : l = [] := by
  unfold rright at hr
  rw [rend_stop h] at hr
  exact List.eq_nil_of_length_eq_zero hr.symm
theorem rright_step {l : List UInt8} (h : rsize l ≠ 0) : rright l ↔ rright (l.drop (rsize l)) := by
  have := rsize_le l
  unfold rright
  rw [rend_step h, List.length_drop]
  omega
/-- Two texts, one behind the other. -/
theorem rscan_append (l m : List UInt8) (h : rright l) : rend (l ++ m) = l.length + rend m ∧ rcount (l ++ m) = rcount l + rcount m := by
  refine rune_induct (P := fun l => rright l → rend (l ++ m) = l.length + rend m ∧ rcount (l ++ m) = rcount l + rcount m) (fun l hz hr => ?_) (fun l hz ih hr => ?_) l h
  · obtain rfl := rright_zero hz hr
    rw [List.nil_append, rcount_stop rsize_nil]
    simp
  · have hle := rsize_le l
    have e := rsize_append l m (by omega)
    have hz' : rsize (l ++ m) ≠ 0 := by rw [e]; exact hz
    have hd : (l ++ m).drop (rsize l) = l.drop (rsize l) ++ m := List.drop_append_of_le_length hle
    obtain ⟨h1, h2⟩ := ih ((rright_step hz).1 hr)
    rw [rend_step hz', rcount_step hz', rcount_step hz, e, hd, h1, h2, List.length_drop]
    omega
theorem rright_append (l m : List UInt8) (h : rright l) : rright (l ++ m) ↔ rright m := by
  unfold rright
  rw [(rscan_append l m h).1, List.length_append]
  omega
/-- What is ahead of the fault. -/
theorem rscan_take (l : List UInt8) : rright (l.take (rend l)) ∧ rcount (l.take (rend l)) = rcount l := by
  refine rune_induct (P := fun l => rright (l.take (rend l)) ∧ rcount (l.take (rend l)) = rcount l) (fun l h => ?_) (fun l h ih => ?_) l
  · rw [rend_stop h, rcount_stop h]
    exact ⟨rright_nil, rcount_stop rsize_nil⟩
  · have e : rsize (l.take (rend l)) = rsize l := rsize_take l _ (by omega) (by rw [rend_step h]; omega)
    have hd : (l.take (rend l)).drop (rsize l) = (l.drop (rsize l)).take (rend (l.drop (rsize l))) := by
      rw [List.drop_take, rend_step h, Nat.add_sub_cancel]
    have hz : rsize (l.take (rend l)) ≠ 0 := by rw [e]; exact h
    refine ⟨(rright_step hz).2 (by rw [e, hd]; exact ih.1), ?_⟩
    rw [rcount_step hz, e, hd, ih.2, ← rcount_step h]

/-- The longest beginning of at most so many bytes that ends at a rune's end. -/
def rclipF : Nat → List UInt8 → Int → Nat
  | 0, _, _ => 0
  | f + 1, l, most => if rsize l = 0 ∨ most < (rsize l : Int) then 0 else rsize l + rclipF f (l.drop (rsize l)) (most - (rsize l : Int))
theorem rclipF_stop {l : List UInt8} {most : Int} (h : rsize l = 0 ∨ most < (rsize l : Int)) : ∀ f, rclipF f l most = 0
  | 0 => rfl
  | f + 1 => by rw [rclipF, if_pos h]
theorem rclipF_more : ∀ (f g : Nat) (l : List UInt8) (most : Int), l.length ≤ f → l.length ≤ g → rclipF f l most = rclipF g l most
  | 0, g, l, _, h, _ => by
    obtain rfl := List.eq_nil_of_length_eq_zero (Nat.le_zero.1 h)
    rw [rclipF_stop (.inl rsize_nil), rclipF_stop (.inl rsize_nil)]
  | f, 0, l, _, _, h => by
    obtain rfl := List.eq_nil_of_length_eq_zero (Nat.le_zero.1 h)
    rw [rclipF_stop (.inl rsize_nil), rclipF_stop (.inl rsize_nil)]
  | f + 1, g + 1, l, most, hf, hg => by
    by_cases h : rsize l = 0 ∨ most < (rsize l : Int)
    · rw [rclipF_stop h, rclipF_stop h]
    · have hd : (l.drop (rsize l)).length ≤ l.length - 1 := by rw [List.length_drop]; omega
      rw [rclipF, rclipF, if_neg h, if_neg h, rclipF_more f g (l.drop (rsize l)) _ (by omega) (by omega)]
def rclip (l : List UInt8) (most : Int) : Nat := rclipF l.length l most
theorem rclip_stop {l : List UInt8} {most : Int} (h : rsize l = 0 ∨ most < (rsize l : Int)) : rclip l most = 0 := rclipF_stop h _
theorem rclip_step {l : List UInt8} {most : Int} (h : rsize l ≠ 0) (hm : (rsize l : Int) ≤ most) : rclip l most = rsize l + rclip (l.drop (rsize l)) (most - (rsize l : Int)) := by
  have hle := rsize_le l
  obtain ⟨f, hf⟩ : ∃ f, l.length = f + 1 := ⟨l.length - 1, by omega⟩
  have hd : (l.drop (rsize l)).length ≤ f := by rw [List.length_drop]; omega
  conv => lhs; unfold rclip; rw [hf, rclipF, if_neg (by omega), rclipF_more f _ _ _ hd (Nat.le_refl _)]
  rfl
theorem rclip_le (l : List UInt8) : ∀ most : Int, rclip l most ≤ l.length := by
  refine rune_induct (P := fun l => ∀ most : Int, rclip l most ≤ l.length) (fun l h most => by rw [rclip_stop (.inl h)]; omega) (fun l h ih most => ?_) l
  by_cases hm : most < (rsize l : Int)
  · rw [rclip_stop (.inr hm)]; omega
  · have := ih (most - (rsize l : Int))
    have hle := rsize_le l
    rw [List.length_drop] at this
    rw [rclip_step h (by omega)]
    omega
theorem rclip_right (l : List UInt8) : ∀ most : Int, rright (l.take (rclip l most)) ∧ (rright l → rright (l.drop (rclip l most))) := by
  refine rune_induct (P := fun l => ∀ most : Int, rright (l.take (rclip l most)) ∧ (rright l → rright (l.drop (rclip l most)))) (fun l h most => ?_) (fun l h ih most => ?_) l
  · rw [rclip_stop (.inl h)]
    exact ⟨rright_nil, fun hr => by simpa using hr⟩
  · by_cases hm : most < (rsize l : Int)
    · rw [rclip_stop (.inr hm)]
      exact ⟨rright_nil, fun hr => by simpa using hr⟩
    · obtain ⟨h1, h2⟩ := ih (most - (rsize l : Int))
      rw [rclip_step h (by omega)]
      generalize rclip (l.drop (rsize l)) (most - (rsize l : Int)) = c at *
      have e : rsize (l.take (rsize l + c)) = rsize l := rsize_take l _ (by omega) (by omega)
      have hz : rsize (l.take (rsize l + c)) ≠ 0 := by rw [e]; exact h
      have hd : (l.take (rsize l + c)).drop (rsize l) = (l.drop (rsize l)).take c := by rw [List.drop_take, Nat.add_sub_cancel_left]
      refine ⟨(rright_step hz).2 (by rw [e, hd]; exact h1), fun hr => ?_⟩
      rw [← List.drop_drop]
      exact h2 ((rright_step h).1 hr)

/-- Where the runes end, from a place on. -/
def rwalkF : Nat → Nat → List UInt8 → List Nat
  | 0, at_, _ => [at_]
  | f + 1, at_, l => if rsize l = 0 then [at_] else at_ :: rwalkF f (at_ + rsize l) (l.drop (rsize l))
theorem rwalkF_stop {l : List UInt8} (h : rsize l = 0) : ∀ f at_, rwalkF f at_ l = [at_]
  | 0, _ => rfl
  | f + 1, _ => by rw [rwalkF, if_pos h]
theorem rwalkF_more : ∀ (f g at_ : Nat) (l : List UInt8), l.length ≤ f → l.length ≤ g → rwalkF f at_ l = rwalkF g at_ l
  | 0, g, _, l, h, _ => by
    obtain rfl := List.eq_nil_of_length_eq_zero (Nat.le_zero.1 h)
    rw [rwalkF_stop rsize_nil, rwalkF_stop rsize_nil]
  | f, 0, _, l, _, h => by
    obtain rfl := List.eq_nil_of_length_eq_zero (Nat.le_zero.1 h)
    rw [rwalkF_stop rsize_nil, rwalkF_stop rsize_nil]
  | f + 1, g + 1, _, l, hf, hg => by
    by_cases h : rsize l = 0
    · rw [rwalkF_stop h, rwalkF_stop h]
    · have hd : (l.drop (rsize l)).length ≤ l.length - 1 := by rw [List.length_drop]; omega
      rw [rwalkF, rwalkF, if_neg h, if_neg h, rwalkF_more f g _ (l.drop (rsize l)) (by omega) (by omega)]
def rwalk (at_ : Nat) (l : List UInt8) : List Nat := rwalkF l.length at_ l
theorem rwalk_stop {l : List UInt8} (h : rsize l = 0) (at_ : Nat) : rwalk at_ l = [at_] := rwalkF_stop h _ _
theorem rwalk_step {l : List UInt8} (h : rsize l ≠ 0) (at_ : Nat) : rwalk at_ l = at_ :: rwalk (at_ + rsize l) (l.drop (rsize l)) := by
  have hle := rsize_le l
  obtain ⟨f, hf⟩ : ∃ f, l.length = f + 1 := ⟨l.length - 1, by omega⟩
  have hd : (l.drop (rsize l)).length ≤ f := by rw [List.length_drop]; omega
  conv => lhs; unfold rwalk; rw [hf, rwalkF, if_neg h, rwalkF_more f _ _ _ hd (Nat.le_refl _)]
  rfl
theorem rwalk_length (l : List UInt8) : ∀ at_, (rwalk at_ l).length = rcount l + 1 := by
  refine rune_induct (P := fun l => ∀ at_, (rwalk at_ l).length = rcount l + 1) (fun l h at_ => by rw [rwalk_stop h, rcount_stop h]; rfl) (fun l h ih at_ => ?_) l
  rw [rwalk_step h, rcount_step h, List.length_cons, ih]
theorem rwalk_last (l : List UInt8) : ∀ at_, (rwalk at_ l).getLast? = some (at_ + rend l) := by
  refine rune_induct (P := fun l => ∀ at_, (rwalk at_ l).getLast? = some (at_ + rend l)) (fun l h at_ => by rw [rwalk_stop h, rend_stop h]; rfl) (fun l h ih at_ => ?_) l
  rw [rwalk_step h, rend_step h, List.getLast?_cons, ih]
  simp only [Option.getD_some, Option.some.injEq]
  omega
theorem rwalk_in (l : List UInt8) : ∀ at_, ∀ x ∈ rwalk at_ l, at_ ≤ x ∧ x ≤ at_ + l.length := by
  refine rune_induct (P := fun l => ∀ at_, ∀ x ∈ rwalk at_ l, at_ ≤ x ∧ x ≤ at_ + l.length) (fun l h at_ x hx => ?_) (fun l h ih at_ x hx => ?_) l
  · rw [rwalk_stop h, List.mem_singleton] at hx
    omega
  · have hle := rsize_le l
    rw [rwalk_step h] at hx
    rcases List.mem_cons.1 hx with rfl | hx
    · omega
    · have := ih _ x hx
      rw [List.length_drop] at this
      omega
/-- The last one of them that is at most so great. -/
def rpick (most : Int) (q : Nat) (xs : List Nat) : Nat := xs.foldl (fun (q x : Nat) => if (x : Int) ≤ most then x else q) q
theorem rpick_past (l : List UInt8) (most : Int) : ∀ at_ q : Nat, most < (at_ : Int) → rpick most q (rwalk at_ l) = q := by
  intro at_ q h
  have : ∀ (xs : List Nat) (q : Nat), (∀ x ∈ xs, most < (x : Int)) → rpick most q xs = q := by
    intro xs
    induction xs with
    | nil => intro q _; rfl
    | cons x xs ih =>
      intro q hx
      have h1 := hx x List.mem_cons_self
      unfold rpick at ih ⊢
      rw [List.foldl_cons, if_neg (by omega)]
      exact ih q fun y hy => hx y (List.mem_cons_of_mem _ hy)
  exact this _ q fun x hx => by have := (rwalk_in l at_ x hx).1; omega
theorem rpick_walk (l : List UInt8) (most : Int) : ∀ at_ q : Nat, (at_ : Int) ≤ most → rpick most q (rwalk at_ l) = at_ + rclip l (most - (at_ : Int)) := by
  refine rune_induct (P := fun l => ∀ at_ q : Nat, (at_ : Int) ≤ most → rpick most q (rwalk at_ l) = at_ + rclip l (most - (at_ : Int))) (fun l h at_ q hm => ?_) (fun l h ih at_ q hm => ?_) l
  · rw [rwalk_stop h, rclip_stop (.inl h)]
    unfold rpick
    rw [List.foldl_cons, List.foldl_nil, if_pos hm]
    rfl
  · rw [rwalk_step h]
    have e : rpick most q (at_ :: rwalk (at_ + rsize l) (l.drop (rsize l))) = rpick most at_ (rwalk (at_ + rsize l) (l.drop (rsize l))) := by
      unfold rpick
      rw [List.foldl_cons, if_pos hm]
    rw [e]
    by_cases hs : most - (at_ : Int) < (rsize l : Int)
    · rw [rclip_stop (.inr hs), rpick_past _ _ _ _ (by omega)]
      rfl
    · rw [ih _ _ (by omega), rclip_step h (by omega)]
      have e2 : most - ((at_ + rsize l : Nat) : Int) = most - (at_ : Int) - (rsize l : Int) := by omega
      rw [e2]
      omega
/-- All that the law looks at. -/
theorem rpick_all (l : List UInt8) (most : Int) : rpick most 0 (rwalk 0 l) = rclip l most := by
  by_cases h : (0 : Int) ≤ most
  · rw [rpick_walk l most 0 0 h]
    simp
  · rw [rpick_past l most 0 0 (by omega), rclip_stop]
    exact .inr (by omega)
end Go.Proofs.YtbcokjhmfbfekaaDoor
