/- The tokens' texts, each behind a blank, have the same tokens: plain math. No program. No condition. -/
import Derived.Test.YtgpihhigajmldaaDoorLexWays
namespace Go.Proofs.YtgpihhigajmldaaDoor
open Go Go.Lib

def quoteOf (t : List UInt8) : UInt8 := if (34 : UInt8) ∈ t then 39 else 34
/-- a token as a text -/
def piece (x : Tok) : List UInt8 := if x.k = 3 then quoteOf x.t :: (x.t ++ [quoteOf x.t]) else x.t
def joined : List Tok → List UInt8
  | [] => []
  | x :: ts => 32 :: (piece x ++ joined ts)
/-- What a text's token is. -/
def Good (x : Tok) : Prop :=
  (x.k = 1 ∧ x.n = 0 ∧ x.t.length ≤ 40 ∧ ∃ b r, x.t = b :: r ∧ lxLet b = true ∧ ∀ c ∈ x.t, lxIn c = true) ∨
  (x.k = 2 ∧ lnum x.t = (x.n, 0) ∧ ∃ b r, x.t = b :: r ∧ lxLet b = false ∧ lxFig b = true ∧ ∀ c ∈ x.t, lxIn c = true) ∨
  (x.k = 3 ∧ x.n = 0 ∧ ¬ (92 : UInt8) ∈ x.t ∧ ¬ (10 : UInt8) ∈ x.t ∧ (¬ (34 : UInt8) ∈ x.t ∨ ¬ (39 : UInt8) ∈ x.t)) ∨
  (x.k = 4 ∧ x.n = 0 ∧ ∃ c, x.t = [c] ∧ lxLet c = false ∧ lxFig c = false ∧ lxQuote c = false ∧ lxSign c = true)

theorem byte_all (p : UInt8 → Bool) (h : ∀ n : Fin 256, p (UInt8.ofNat n.val) = true) (c : UInt8) : p c = true := by
  have := h ⟨c.toNat, c.toNat_lt⟩
  simpa using this
theorem lxIn_gap : ∀ c : UInt8, (!lxIn c || (!lxGap c && c != 47 && c != 10)) = true := byte_all (fun c => !lxIn c || (!lxGap c && c != 47 && c != 10)) (by decide +kernel)
theorem lxSign_gap : ∀ c : UInt8, (!lxSign c || (!lxGap c && c != 47 && c != 10)) = true := byte_all (fun c => !lxSign c || (!lxGap c && c != 47 && c != 10)) (by decide +kernel)
theorem lxQuote_is : ∀ c : UInt8, (!lxQuote c || ((c == 34 || c == 39) && !lxGap c && c != 47 && c != 10 && !lxLet c && !lxFig c)) = true := byte_all (fun c => !lxQuote c || ((c == 34 || c == 39) && !lxGap c && c != 47 && c != 10 && !lxLet c && !lxFig c)) (by decide +kernel)
theorem lspan_take (p : UInt8 → Bool) : ∀ l : List UInt8, ∀ c ∈ l.take (lspan p l), p c = true
  | [], c, h => by simp at h
  | b :: l, c, h => by
    unfold lspan at h
    split at h
    · rename_i hb
      rcases List.mem_cons.1 (by simpa using h) with h | h
      · exact h ▸ hb
      · exact lspan_take p l c h
    · simp at h
theorem noGap_of {b : UInt8} (r : List UInt8) (h1 : lxGap b = false) (h2 : b ≠ 47) : NoGap (b :: r) := by
  refine ⟨h1, fun h => ?_, fun h => ?_⟩ <;>
  · cases r <;> simp at h
    exact h2 h.1

/-- Each token of a text is good. -/
theorem good_of {x : UInt8} {r : List UInt8} (h : NoGap (x :: r)) (h0 : (lfirst (x :: r)).2.2 = 0) : Good (lfirst (x :: r)).1 := by
  cases hl : lxLet x
  · cases hf : lxFig x
    · cases hq : lxQuote x
      · cases hs : lxSign x
        · rw [lfirst_none h hl hf hq hs] at h0; cases h0
        · rw [lfirst_sign h hl hf hq hs]
          exact .inr (.inr (.inr ⟨rfl, rfl, x, rfl, hl, hf, hq, hs⟩))
      · rcases index_spec r [x] with ⟨hi, _⟩ | ⟨i, hi, hir, hocc, hno⟩
        · rw [lfirst_open h hl hf hq (by rw [hi]; decide)] at h0; cases h0
        · have hroom := index_room r [x] (by rw [hi]; omega)
          rw [hi] at hroom
          simp at hroom
          have hlt : i < r.length := by omega
          have hfq := lfirst_quote h hl hf hq i hi hlt
          by_cases hb : (92 : UInt8) ∈ r.take i ∨ (10 : UInt8) ∈ r.take i
          · rw [hfq, if_pos hb] at h0; cases h0
          · rw [hfq, if_neg hb]
            refine .inr (.inr (.inl ⟨rfl, rfl, fun h => hb (.inl h), fun h => hb (.inr h), ?_⟩))
            have hx : ¬ x ∈ r.take i := fun hm => by
              obtain ⟨j, hj, hjx⟩ := List.getElem_of_mem hm
              have hji : j < i := by rw [List.length_take] at hj; omega
              have hn := hno j hji
              have : occAt r [x] j = true := by
                unfold occAt
                rw [List.getElem_take] at hjx
                simp [List.drop_eq_getElem_cons (show j < r.length by omega), hjx]
              rw [this] at hn; cases hn
            have hqi := lxQuote_is x
            rw [hq] at hqi
            simp at hqi
            rcases hqi.1.1.1.1.1 with h | h
            · exact .inl (h ▸ hx)
            · exact .inr (h ▸ hx)
    · rw [lfirst_fig h hl hf] at h0 ⊢
      split at h0
      · rename_i hn
        rw [if_pos hn]
        have hp := lspan_pos (p := lxIn) (b := x) (l := r) (by simp [lxIn, hf])
        refine .inr (.inl ⟨rfl, Prod.ext rfl hn, x, r.take (lspan lxIn r), by simp only; rw [hp]; rfl, hl, hf, lspan_take lxIn _⟩)
      · rename_i hn; exact absurd h0 hn
  · rw [lfirst_word h hl] at h0 ⊢
    split at h0
    · cases h0
    · rename_i hn
      rw [if_neg hn]
      have hp := lspan_pos (p := lxIn) (b := x) (l := r) (by simp [lxIn, hl])
      have hle := lspan_le lxIn (x :: r)
      refine .inl ⟨rfl, rfl, by simp only [List.length_take]; omega, x, r.take (lspan lxIn r), by simp only; rw [hp]; rfl, hl, lspan_take lxIn _⟩

theorem in_noGap {c : UInt8} (h : lxIn c = true) : lxGap c = false ∧ c ≠ 47 ∧ c ≠ 10 := by
  have := lxIn_gap c
  rw [h] at this
  simpa [and_assoc] using this
theorem sign_noGap {c : UInt8} (h : lxSign c = true) : lxGap c = false ∧ c ≠ 47 ∧ c ≠ 10 := by
  have := lxSign_gap c
  rw [h] at this
  simpa [and_assoc] using this
theorem quote_fits {t : List UInt8} (h : ¬ (34 : UInt8) ∈ t ∨ ¬ (39 : UInt8) ∈ t) : ¬ quoteOf t ∈ t := by
  unfold quoteOf
  split
  · rename_i h1
    rcases h with h | h
    · exact absurd h1 h
    · exact h
  · rename_i h1; exact h1
theorem quote_noGap (t : List UInt8) : lxGap (quoteOf t) = false ∧ quoteOf t ≠ 47 ∧ quoteOf t ≠ 10 ∧ lxLet (quoteOf t) = false ∧ lxFig (quoteOf t) = false ∧ lxQuote (quoteOf t) = true := by
  unfold quoteOf
  split <;> decide
/-- What stands behind a token's text: nothing, or a blank. -/
def Blank (r : List UInt8) : Prop := ∀ b, r.head? = some b → b = 32
theorem span_piece {t r : List UInt8} (h : ∀ c ∈ t, lxIn c = true) (hr : Blank r) : lspan lxIn (t ++ r) = t.length :=
  lspan_append h fun b hb => by rw [hr b hb]; decide

theorem first_piece {x : Tok} (hx : Good x) {r : List UInt8} (hr : Blank r) : NoGap (piece x ++ r) ∧ lfirst (piece x ++ r) = (x, (piece x).length, 0) ∧ x.k ≠ 0 ∧ 0 < (piece x).length := by
  obtain ⟨k, t, n⟩ := x
  rcases hx with ⟨hk, hn, hlen, b, r', ht, hl, hin⟩ | ⟨hk, hn, b, r', ht, hl, hf, hin⟩ | ⟨hk, hn, h92, h10, hq⟩ | ⟨hk, hn, c, ht, hl, hf, hq, hs⟩
  · simp only at hk hn hlen ht hin
    subst hk; subst hn
    have hp : piece ⟨1, t, 0⟩ = t := rfl
    have hs := span_piece hin hr
    rw [hp]
    subst ht
    have hg := in_noGap (hin b (by simp))
    have hng : NoGap (b :: (r' ++ r)) := noGap_of _ hg.1 hg.2.1
    refine ⟨hng, ?_, by simp, by simp⟩
    have := lfirst_word hng hl
    rw [← List.cons_append, hs, if_neg (by omega), List.take_left] at this
    exact this
  · simp only at hk hn ht hin
    subst hk
    have hp : piece ⟨2, t, n⟩ = t := rfl
    have hs := span_piece hin hr
    rw [hp]
    subst ht
    have hg := in_noGap (hin b (by simp))
    have hng : NoGap (b :: (r' ++ r)) := noGap_of _ hg.1 hg.2.1
    refine ⟨hng, ?_, by simp, by simp⟩
    have := lfirst_fig hng hl hf
    rw [← List.cons_append, hs, List.take_left, hn, if_pos rfl] at this
    exact this
  · simp only at hk hn h92 h10 hq
    subst hk; subst hn
    have hp : piece ⟨3, t, 0⟩ = quoteOf t :: (t ++ [quoteOf t]) := rfl
    obtain ⟨g1, g2, _, g4, g5, g6⟩ := quote_noGap t
    have hnot := quote_fits hq
    rw [hp]
    have hng : NoGap (quoteOf t :: (t ++ [quoteOf t] ++ r)) := noGap_of _ g1 g2
    refine ⟨hng, ?_, by simp, by simp⟩
    have hi : Lib.index (t ++ [quoteOf t] ++ r) [quoteOf t] = (t.length : Int) := index_byte_at (fun j hj he => by
      rw [List.append_assoc, List.getElem?_append_left hj] at he
      exact hnot (List.mem_of_getElem? he)) (by simp)
    have := lfirst_quote hng g4 g5 g6 t.length hi (by simp)
    have htk : (t ++ [quoteOf t] ++ r).take t.length = t := by simp
    have hno : ¬ ((92 : UInt8) ∈ t ∨ (10 : UInt8) ∈ t) := fun h => h.elim h92 h10
    rw [htk, if_neg hno] at this
    show lfirst (quoteOf t :: (t ++ [quoteOf t] ++ r)) = _
    rw [this]
    simp
  · simp only at hk hn ht
    subst hk; subst hn; subst ht
    have hp : piece ⟨4, [c], 0⟩ = [c] := rfl
    rw [hp]
    have hg := sign_noGap hs
    have hng : NoGap (c :: r) := noGap_of _ hg.1 hg.2.1
    exact ⟨hng, lfirst_sign hng hl hf hq hs, by simp, by simp⟩

theorem first_blank {s : List UInt8} (h : lxGap (s.headD 0) = false) : lfirst (32 :: s) = (⟨0, [], 0⟩, 1, 0) ∧ (lcut (32 :: s)).1 = 0 := by
  have hs : lspan lxGap (32 :: s) = 1 := by
    rw [lspan_pos (by decide)]
    cases s with
    | nil => rfl
    | cons b s => simp only [List.headD_cons] at h; simp [lspan, h]
  have hc : lcut (32 :: s) = (0, 1, 0) := by
    unfold lcut
    rw [if_pos (by simp only [List.headD_cons]; decide), hs]
  refine ⟨?_, by rw [hc]⟩
  unfold lfirst
  rw [hc]
  rfl
theorem joined_blank : ∀ ts : List Tok, Blank (joined ts)
  | [], b, h => by simp [joined] at h
  | x :: ts, b, h => by simp [joined] at h; exact h.symm

/-- The pieces, each behind a blank, have the same tokens. -/
theorem lex_joined : ∀ (ts : List Tok) (pre : List UInt8), (∀ x ∈ ts, Good x) → ∃ T, T.map (·.1) = ts ∧ Lex (pre ++ joined ts) pre.length T 0 0
  | [], pre, _ => ⟨[], rfl, .done (by simp [joined])⟩
  | x :: ts, pre, h => by
    have hx := h x (by simp)
    obtain ⟨hng, hf, hk, hpos⟩ := first_piece hx (joined_blank ts)
    obtain ⟨T, hT, hL⟩ := lex_joined ts (pre ++ 32 :: piece x) fun y hy => h y (by simp [hy])
    have e : pre ++ joined (x :: ts) = (pre ++ 32 :: piece x) ++ joined ts := by simp [joined]
    have e2 : pre ++ joined (x :: ts) = (pre ++ [32]) ++ (piece x ++ joined ts) := by simp [joined]
    obtain ⟨hb, hbc⟩ := first_blank (s := piece x ++ joined ts) hng.1
    have d1 : (pre ++ joined (x :: ts)).drop pre.length = 32 :: (piece x ++ joined ts) := by simp [joined]
    have d2 : (pre ++ joined (x :: ts)).drop (pre.length + 1) = piece x ++ joined ts := by
      rw [e2, show pre.length + 1 = (pre ++ [32]).length by simp, List.drop_left]
    have hkc : (lcut (piece x ++ joined ts)).1 ≠ 0 := by
      have := lfirst_k (l := piece x ++ joined ts) (by simp; omega) (by rw [hf])
      rw [hf] at this
      rw [← this]
      exact hk
    refine ⟨(x, pre.length + 1) :: T, by simp [hT], ?_⟩
    have hlen : (pre ++ joined (x :: ts)).length = pre.length + 1 + (piece x).length + (joined ts).length := by rw [e]; simp; omega
    refine .gap (by omega) (by rw [d1, hb]) (by rw [d1, hbc]) ?_
    rw [d1, hb]
    have hnext : Lex (pre ++ joined (x :: ts)) (pre.length + 1 + (piece x).length) T 0 0 := by
      rw [e]
      have : (pre ++ 32 :: piece x).length = pre.length + 1 + (piece x).length := by simp; omega
      rw [← this]
      exact hL
    have := Lex.tok (l := pre ++ joined (x :: ts)) (i := pre.length + 1) (by omega) (by rw [d2, hf]) (by rw [d2]; exact hkc) (by rw [d2, hf]; exact hnext)
    rw [d2, hf] at this
    exact this

theorem noGap_of_cut {x : UInt8} {r : List UInt8} (h : (lcut (x :: r)).1 ≠ 0) : NoGap (x :: r) := by
  unfold lcut at h
  split at h
  · exact absurd rfl h
  rename_i h1
  split at h
  · exact absurd rfl h
  rename_i h2
  split at h
  · exact absurd rfl h
  rename_i h3
  exact ⟨by simpa using h1, h2, h3⟩
/-- Each token of a text is good. -/
theorem lex_good {l : List UInt8} {i : Nat} {T : List (Tok × Nat)} {e ea : Nat} (h : Lex l i T e ea) : ∀ x ∈ T, Good x.1 := by
  induction h with
  | done _ => intro x hx; cases hx
  | bad _ _ => intro x hx; cases hx
  | gap _ _ _ _ ih => exact ih
  | @tok i ts e ea h1 h2 h3 _ ih =>
    intro x hx
    rcases List.mem_cons.1 hx with rfl | hx
    · rw [List.drop_eq_getElem_cons h1] at h2 h3 ⊢
      exact good_of (noGap_of_cut h3) h2
    · exact ih x hx
theorem piece_lf {x : Tok} (hx : Good x) : ∀ c ∈ piece x, c ≠ 10 := by
  intro c hc
  unfold piece at hc
  rcases hx with ⟨hk, _, _, b, r', ht, hl, hin⟩ | ⟨hk, _, b, r', ht, hl, hf, hin⟩ | ⟨hk, _, h92, h10, hq⟩ | ⟨hk, _, c', ht, hl, hf, hq, hs⟩
  · rw [if_neg (by rw [hk]; decide)] at hc
    exact (in_noGap (hin c hc)).2.2
  · rw [if_neg (by rw [hk]; decide)] at hc
    exact (in_noGap (hin c hc)).2.2
  · rw [if_pos hk] at hc
    have hq10 := (quote_noGap x.t).2.2.1
    simp only [List.mem_cons, List.mem_append, List.not_mem_nil, or_false] at hc
    rcases hc with h | h | h
    · rw [h]; exact hq10
    · intro h'; exact h10 (h' ▸ h)
    · rw [h]; exact hq10
  · rw [if_neg (by rw [hk]; decide), ht] at hc
    rw [List.mem_singleton.1 hc]
    exact (sign_noGap hs).2.2
theorem joined_lf : ∀ (ts : List Tok), (∀ x ∈ ts, Good x) → ∀ c ∈ joined ts, c ≠ 10
  | [], _, c, hc => by simp [joined] at hc
  | x :: ts, h, c, hc => by
    simp only [joined, List.mem_cons, List.mem_append] at hc
    rcases hc with hc | hc | hc
    · rw [hc]; decide
    · exact piece_lf (h x (by simp)) c hc
    · exact joined_lf ts (fun y hy => h y (by simp [hy])) c hc
theorem lplace_one : ∀ (l : List UInt8) (p : Nat × Nat), (∀ c ∈ l, c ≠ 10) → (lplace p l).1 = p.1
  | [], _, _ => rfl
  | b :: l, p, h => by
    have e : lplace p (b :: l) = lplace (if b = 10 then (p.1 + 1, 1) else (p.1, p.2 + 1)) l := rfl
    rw [e, if_neg (h b (by simp)), lplace_one l _ fun c hc => h c (by simp [hc])]
theorem place_one {l : List UInt8} (h : ∀ c ∈ l, c ≠ 10) (i : Nat) : (placeAt l i).1 = 1 :=
  lplace_one _ _ fun c hc => h c (List.mem_of_mem_take hc)
theorem joined_snoc (ts : List Tok) (x : Tok) : joined (ts ++ [x]) = joined ts ++ 32 :: piece x := by
  induction ts with
  | nil => simp [joined]
  | cons y ts ih => simp [joined, ih]
/-- What the tokens' texts, each behind a blank, are read as: the same tokens, all on the first line. -/
theorem back_lex {l : List UInt8} {T : List (Tok × Nat)} {e ea : Nat} (h : Lex l 0 T e ea) : ∃ T', T'.map (·.1) = T.map (·.1) ∧ Lex (joined (T.map (·.1))) 0 T' 0 0 ∧ ∀ i, (placeAt (joined (T.map (·.1))) i).1 = 1 := by
  have hg : ∀ x ∈ T.map (·.1), Good x := fun x hx => by
    obtain ⟨y, hy, rfl⟩ := List.mem_map.1 hx
    exact lex_good h y hy
  obtain ⟨T', h1, h2⟩ := lex_joined (T.map (·.1)) [] hg
  exact ⟨T', h1, h2, place_one (joined_lf _ hg)⟩
/-! ### Sizes, and a round of the loop -/
theorem ltoken_len (k : Nat) (p : List UInt8) : (ltoken k p).1.t.length ≤ p.length := by
  unfold ltoken
  repeat' split
  all_goals simp
  all_goals omega
theorem lfirst_len (l : List UInt8) : (lfirst l).1.t.length ≤ l.length := by
  have h := ltoken_len (lcut l).1 (l.take (lcut l).2.1)
  rw [List.length_take] at h
  unfold lfirst
  split
  · simp
  split
  · simp
  · exact Nat.le_trans h (Nat.min_le_right _ _)
theorem lex_texts {l : List UInt8} {i : Nat} {T : List (Tok × Nat)} {e ea : Nat} (h : Lex l i T e ea) : ∀ x ∈ T, x.1.t.length ≤ l.length := by
  induction h with
  | done _ => intro x hx; cases hx
  | bad _ _ => intro x hx; cases hx
  | gap _ _ _ _ ih => exact ih
  | @tok i ts e ea h1 h2 h3 _ ih =>
    intro x hx
    rcases List.mem_cons.1 hx with rfl | hx
    · have := lfirst_len (l.drop i)
      rw [List.length_drop] at this
      show (lfirst (l.drop i)).1.t.length ≤ _
      omega
    · exact ih x hx
theorem piece_len (x : Tok) : (piece x).length ≤ x.t.length + 2 := by
  unfold piece
  split <;> simp
theorem joined_len (c : Nat) : ∀ ts : List Tok, (∀ x ∈ ts, x.t.length ≤ c) → (joined ts).length ≤ ts.length * (c + 3)
  | [], _ => by simp [joined]
  | x :: ts, h => by
    have h1 := joined_len c ts fun y hy => h y (by simp [hy])
    have h2 := piece_len x
    have h3 := h x (by simp)
    simp only [joined, List.length_cons, List.length_append, Nat.succ_mul]
    omega
theorem joined_take {ts : List Tok} {k : Nat} {x : Tok} (h : ts[k]? = some x) : joined (ts.take (k + 1)) = joined (ts.take k) ++ 32 :: piece x := by
  rw [List.take_add_one, h]
  exact joined_snoc _ _
theorem quote_step (t : List UInt8) (i : Nat) (h : i < t.length) : quoteOf (t.take (i + 1)) = if t[i] = 34 then 39 else quoteOf (t.take i) := by
  have e : t.take (i + 1) = t.take i ++ [t[i]] := by rw [List.take_add_one, List.getElem?_eq_getElem h]; rfl
  rw [e]
  unfold quoteOf
  by_cases hc : t[i] = 34
  · rw [if_pos hc, if_pos (by rw [hc]; simp)]
  · rw [if_neg hc]
    have : (34 : UInt8) ∈ t.take i ++ [t[i]] ↔ (34 : UInt8) ∈ t.take i := by
      simp only [List.mem_append, List.mem_singleton]
      exact ⟨fun h => h.elim id fun h => absurd h.symm hc, .inl⟩
    simp only [this]
end Go.Proofs.YtgpihhigajmldaaDoor
