/- Part 9 of what the last text of this claim is proved by: walks over the program, and the math behind them. Conditions: as each theorem says. -/
import Derived.Test.YtohhbpoifidbhaaCN08
import Derived.Test.YtohhbpoifidbhaaProg
namespace Go.Proofs.Ytohhbpoifidbhaa
open Go.RowKit
abbrev iP (z : Int) : Part := .one (.cell (.int .i64 z))
abbrev sP (l : Tx) : Part := .one (.cell (.string (str l)))
abbrev tP (b : Bool) : Part := .one (.cell (.bool b))
theorem tP_eq {a b : Bool} (h : a = b) : Imp (.part (tP a)) (.part (tP b)) := Imp.of_eq (by rw [h])
abbrev sC (s : Tx) : Dat := .cell (.string (str s))
def sD1 (s : Tx) : List Dat := [sC s]
def iD1 (z : Nat) : List Dat := [.cell (.int .i64 (z : Int))]
theorem sD1_len (s : Tx) : (sD1 s).length = 1 := rfl
theorem iD1_len (z : Nat) : (iD1 z).length = 1 := rfl
abbrev txD (l : List Tx) : Dat := .row 1 l.length (l.flatMap sD1)
abbrev nsD (l : List Nat) : Dat := .row 1 l.length (l.flatMap iD1)
def txD1 (l : List Tx) : List Dat := [txD l]
def nsD1 (l : List Nat) : List Dat := [nsD l]
theorem txD1_len (l : List Tx) : (txD1 l).length = 1 := rfl
theorem nsD1_len (l : List Nat) : (nsD1 l).length = 1 := rfl
abbrev txsD (L : List (List Tx)) : Dat := .row 1 L.length (L.flatMap txD1)
abbrev nssD (L : List (List Nat)) : Dat := .row 1 L.length (L.flatMap nsD1)
abbrev inti (z : Int) : IV := .is (.int .i64 z)
set_option maxRecDepth 100000 in
theorem has_ef (l : List Tx) (hl : l.length ≤ 1000000) (s : Tx) : EF Try.prog [] 12 [.one (txD l), sP s] (.part (tP (decide (pos s l < l.length)))) := by
  refine ef_enter 17 Try.func12 rfl rfl rfl fun w D => ?_
  try refine e_fl ?_
  refine e_plain (w_as rfl rfl rfl rfl rfl .nil) ?_
  try refine e_fl ?_
  refine e_plain (w_mv rfl rfl rfl rfl rfl (w_op rfl rfl rfl (s_len rfl (kn rfl) sle_22) (w_mv rfl rfl rfl rfl rfl .nil))) ?_
  try refine e_fl ?_
  refine e_loop (ι := { k : Nat // k ≤ l.length ∧ k ≤ pos s l })
    (fun k => [(0, .part (.one (txD l))), (1, .part (sP s)), (7, .part (.one (txD l))), (8, inti (l.length : Int)), (9, inti (k.1 : Int))])
    (fun _ => []) (fun _ => []) (fun k => l.length - k.1) ⟨0, by omega, by omega⟩
    (fun K => e_sub ⟨s_t, s_t, s_t, s_t, s_t, trivial⟩ trivial trivial) ?_
  rintro ⟨k, hk, hp⟩
  dsimp only at hk hp ⊢
  try refine e_fl ?_
  refine e_plain (w_op rfl rfl rfl (s_bin rfl (kn rfl) (kn rfl) v_lss) .nil) ?_
  try refine e_fl ?_
  refine e_cond rfl (fun h => ?_) (fun h => ?_)
  · have hlt : k < l.length := by have := of_decide_eq_true h; omega
    obtain ⟨x, hx⟩ : ∃ x, l[k]? = some x := ⟨_, List.getElem?_eq_getElem hlt⟩
    have hg := pos_get s l k x hx hp
    try refine e_fl ?_
    refine e_plain (w_op rfl rfl rfl (s_index rfl (kn rfl) (kn rfl) (by omega) hx sD1_len sle_22 esz_22 rfl) (w_op rfl rfl rfl (s_load1_ref rfl (kn rfl) one_9) (w_as rfl rfl rfl rfl rfl .nil))) ?_
    try refine e_fl ?_
    refine e_plain (w_mv rfl rfl rfl rfl rfl (w_mv rfl rfl rfl rfl rfl (w_op rfl rfl rfl (s_bin rfl (kn rfl) (kn rfl) (v_seql)) .nil))) ?_
    try refine e_fl ?_
    refine e_cond rfl (fun h1 => ?_) (fun h1 => ?_)
    · have e : k = pos s l := hg.1 (of_decide_eq_true h1)
      try refine e_fl ?_
      refine e_plain (w_as rfl rfl rfl rfl rfl .nil) ?_
      try refine e_fl ?_
      exact e_return rfl rfl (.tmp (kn rfl) (.nil)) (tP_eq (decide_eq_true (by omega)).symm) rfl
    have e : ¬ k = pos s l := fun h => (of_decide_eq_false h1) (hg.2 h)
    try refine e_fl ?_
    refine e_plain (w_op rfl rfl rfl (s_bin rfl (kn rfl) (kn rfl) (v_add64 (by first | omega | (dsimp only; omega) | omega))) (w_mv rfl rfl rfl rfl rfl .nil)) ?_
    try refine e_fl ?_
    refine e_again ⟨k + 1, by omega, by omega⟩ (by dsimp only; omega) (fun K => e_sub ⟨s_t, s_t, s_t, s_t, s_t, trivial⟩ trivial trivial)
  have hn : ¬ k < l.length := by have := of_decide_eq_false h; omega
  have := pos_le s l
  try refine e_fl ?_
  refine e_plain (w_as rfl rfl rfl rfl rfl .nil) ?_
  try refine e_fl ?_
  exact e_return rfl rfl (.tmp (kn rfl) (.nil)) (tP_eq (decide_eq_false (by omega)).symm) rfl
def longB (l : List Tx) (m n : Nat) : Bool := decide (m < l.length) || l.any fun s => decide (n < s.length)
set_option maxRecDepth 100000 in
theorem long_ef (l : List Tx) (m n : Nat) (hm : m ≤ 1000000) : EF Try.prog [] 5 [.one (txD l), iP (m : Int), iP (n : Int)] (.part (tP (longB l m n))) := by
  refine ef_enter 24 Try.func5 rfl rfl rfl fun w D => ?_
  try refine e_fl ?_
  refine e_plain (w_as rfl rfl rfl rfl rfl .nil) ?_
  try refine e_fl ?_
  refine e_plain (w_mv rfl rfl rfl rfl rfl (w_op rfl rfl rfl (s_len rfl (kn rfl) sle_22) (w_mv rfl rfl rfl rfl rfl (w_op rfl rfl rfl (s_bin rfl (kn rfl) (kn rfl) v_gtr) .nil)))) ?_
  try refine e_fl ?_
  refine e_cond rfl (fun h => ?_) (fun h => ?_)
  · have h1 : m < l.length := by have := of_decide_eq_true h; omega
    try refine e_fl ?_
    refine e_plain (w_as rfl rfl rfl rfl rfl .nil) ?_
    try refine e_fl ?_
    exact e_return rfl rfl (.tmp (kn rfl) (.nil)) (tP_eq (by unfold longB; rw [decide_eq_true h1]; rfl)) rfl
  have h1 : ¬ m < l.length := by have := of_decide_eq_false h; omega
  have h2 : longB l m n = l.any fun s => decide (n < s.length) := by unfold longB; rw [decide_eq_false h1]; rfl
  rw [h2]
  try refine e_fl ?_
  refine e_plain (w_mv rfl rfl rfl rfl rfl (w_op rfl rfl rfl (s_len rfl (kn rfl) sle_22) (w_mv rfl rfl rfl rfl rfl .nil))) ?_
  try refine e_fl ?_
  refine e_loop (ι := { k : Nat // k ≤ l.length ∧ (l.any fun s => decide (n < s.length)) = ((l.drop k).any fun s => decide (n < s.length)) })
    (fun k => [(2, .part (iP (n : Int))), (13, .part (.one (txD l))), (14, inti (l.length : Int)), (15, inti (k.1 : Int))])
    (fun _ => []) (fun _ => []) (fun k => l.length - k.1) ⟨0, by omega, rfl⟩
    (fun K => e_sub ⟨s_t, s_t, s_t, s_t, trivial⟩ trivial trivial) ?_
  rintro ⟨k, hk, hp⟩
  dsimp only at hk hp ⊢
  try refine e_fl ?_
  refine e_plain (w_op rfl rfl rfl (s_bin rfl (kn rfl) (kn rfl) v_lss) .nil) ?_
  try refine e_fl ?_
  refine e_cond rfl (fun h => ?_) (fun h => ?_)
  · have hlt : k < l.length := by have := of_decide_eq_true h; omega
    obtain ⟨x, hx⟩ : ∃ x, l[k]? = some x := ⟨_, List.getElem?_eq_getElem hlt⟩
    have hd : l.drop k = x :: l.drop (k + 1) := by rw [List.drop_eq_getElem_cons hlt, List.getElem?_eq_getElem hlt] at *; rw [Option.some.inj hx]
    rw [hd, List.any_cons] at hp
    try refine e_fl ?_
    refine e_plain (w_op rfl rfl rfl (s_index rfl (kn rfl) (kn rfl) (by omega) hx sD1_len sle_22 esz_22 rfl) (w_op rfl rfl rfl (s_load1_ref rfl (kn rfl) one_9) (w_as rfl rfl rfl rfl rfl .nil))) ?_
    try refine e_fl ?_
    refine e_plain (w_mv rfl rfl rfl rfl rfl (w_op rfl rfl rfl (s_slen rfl (kn rfl) str_9) (w_mv rfl rfl rfl rfl rfl (w_op rfl rfl rfl (s_bin rfl (kn rfl) (kn rfl) v_gtr) .nil)))) ?_
    try refine e_fl ?_
    refine e_cond rfl (fun h1 => ?_) (fun h1 => ?_)
    · have e : n < x.length := by have := of_decide_eq_true h1; omega
      try refine e_fl ?_
      refine e_plain (w_as rfl rfl rfl rfl rfl .nil) ?_
      try refine e_fl ?_
      exact e_return rfl rfl (.tmp (kn rfl) (.nil)) (tP_eq (by rw [hp, decide_eq_true e, Bool.true_or])) rfl
    have e : ¬ n < x.length := by have := of_decide_eq_false h1; omega
    rw [decide_eq_false e, Bool.false_or] at hp
    try refine e_fl ?_
    refine e_plain (w_op rfl rfl rfl (s_bin rfl (kn rfl) (kn rfl) (v_add64 (by first | omega | (dsimp only; omega) | omega))) (w_mv rfl rfl rfl rfl rfl .nil)) ?_
    try refine e_fl ?_
    refine e_again ⟨k + 1, by omega, hp⟩ (by dsimp only; omega) (fun K => e_sub ⟨s_t, s_t, s_t, s_t, trivial⟩ trivial trivial)
  have hn : ¬ k < l.length := by have := of_decide_eq_false h; omega
  try refine e_fl ?_
  refine e_plain (w_as rfl rfl rfl rfl rfl .nil) ?_
  try refine e_fl ?_
  exact e_return rfl rfl (.tmp (kn rfl) (.nil)) (tP_eq (by rw [hp, List.drop_eq_nil_of_le (by omega)]; rfl)) rfl
set_option maxRecDepth 100000 in
theorem ints_self (l : List Nat) (hl : l.length ≤ 1000000) : EF Try.prog [] 10 [.one (nsD l), .one (nsD l)] (.part (tP true)) := by
  refine ef_enter 26 Try.func10 rfl rfl rfl fun w D => ?_
  try refine e_fl ?_
  refine e_plain (w_as rfl rfl rfl rfl rfl .nil) ?_
  try refine e_fl ?_
  refine e_plain (w_mv rfl rfl rfl rfl rfl (w_op rfl rfl rfl (s_len rfl (kn rfl) sle_31) (w_mv rfl rfl rfl rfl rfl (w_op rfl rfl rfl (s_len rfl (kn rfl) sle_31) (w_op rfl rfl rfl (s_bin rfl (kn rfl) (kn rfl) v_neq) .nil))))) ?_
  try refine e_fl ?_
  refine e_cond rfl (fun h => absurd h (by simp)) (fun _ => ?_)
  try refine e_fl ?_
  refine e_plain (w_mv rfl rfl rfl rfl rfl (w_op rfl rfl rfl (s_len rfl (kn rfl) sle_31) (w_mv rfl rfl rfl rfl rfl .nil))) ?_
  try refine e_fl ?_
  refine e_loop (ι := { k : Nat // k ≤ l.length })
    (fun k => [(0, .part (.one (nsD l))), (1, .part (.one (nsD l))), (12, inti (l.length : Int)), (13, inti (k.1 : Int))])
    (fun _ => []) (fun _ => []) (fun k => l.length - k.1) ⟨0, by omega⟩
    (fun K => e_sub ⟨s_t, s_t, s_t, s_t, trivial⟩ trivial trivial) ?_
  rintro ⟨k, hk⟩
  dsimp only at hk ⊢
  try refine e_fl ?_
  refine e_plain (w_op rfl rfl rfl (s_bin rfl (kn rfl) (kn rfl) v_lss) .nil) ?_
  try refine e_fl ?_
  refine e_cond rfl (fun h => ?_) (fun h => ?_)
  · have hlt : k < l.length := by have := of_decide_eq_true h; omega
    obtain ⟨x, hx⟩ : ∃ x, l[k]? = some x := ⟨_, List.getElem?_eq_getElem hlt⟩
    try refine e_fl ?_
    refine e_plain (w_mv rfl rfl rfl rfl rfl (w_as rfl rfl rfl rfl rfl .nil)) ?_
    try refine e_fl ?_
    refine e_draw mixed (by kernel_rfl) (w_mv rfl rfl rfl rfl rfl (w_mv rfl rfl rfl rfl rfl (w_op rfl rfl rfl (s_index rfl (kn rfl) (kn rfl) (by omega) hx iD1_len sle_31 esz_31 rfl) (w_op rfl rfl rfl (s_load1_ref rfl (kn rfl) one_3) (w_mv rfl rfl rfl rfl rfl (w_mv rfl rfl rfl rfl rfl (w_op rfl rfl rfl (s_index rfl (kn rfl) (kn rfl) (by omega) hx iD1_len sle_31 esz_31 rfl) (w_op rfl rfl rfl (s_load1_ref rfl (kn rfl) one_3) (w_op rfl rfl rfl (s_bin rfl (kn rfl) (kn rfl) v_neq) .nil))))))))) ?_
    try refine e_fl ?_
    refine e_cond rfl (fun h1 => absurd h1 (by simp)) (fun _ => ?_)
    try refine e_fl ?_
    refine e_plain (w_op rfl rfl rfl (s_bin rfl (kn rfl) (kn rfl) (v_add64 (by first | omega | (dsimp only; omega) | omega))) (w_mv rfl rfl rfl rfl rfl .nil)) ?_
    try refine e_fl ?_
    refine e_again ⟨k + 1, by omega⟩ (by dsimp only; omega) (fun K => e_sub ⟨s_t, s_t, s_t, s_t, trivial⟩ trivial trivial)
  try refine e_fl ?_
  refine e_plain (w_as rfl rfl rfl rfl rfl .nil) ?_
  try refine e_fl ?_
  exact e_return rfl rfl (.tmp (kn rfl) (.nil)) (tP_eq rfl) rfl
theorem unl_here {l : List Tx} {k : Nat} {x : Tx} (hx : l[k]? = some x) : unl (l.take k) (l.drop k) = if pos x (l.take k) < (l.take k).length then false else unl (l.take (k + 1)) (l.drop (k + 1)) := by
  have hlt : k < l.length := by
    rcases Nat.lt_or_ge k l.length with h | h
    · exact h
    · rw [List.getElem?_eq_none h] at hx; cases hx
  rw [List.drop_eq_getElem_cons hlt, show l[k] = x by rw [List.getElem?_eq_getElem hlt] at hx; exact Option.some.inj hx, take_snoc hx]
  rfl
theorem unl_end {l : List Tx} {k : Nat} (hk : l.length ≤ k) : unl (l.take k) (l.drop k) = true := by rw [List.drop_eq_nil_of_le hk]; rfl
set_option maxRecDepth 100000 in
theorem refUnl_ef (l : List Tx) (hl : l.length ≤ 1000000) : EF Try.prog [] 9 [.one (txD l)] (.part (tP (unl [] l))) := by
  refine ef_enter 18 Try.func9 rfl rfl rfl fun w D => ?_
  try refine e_fl ?_
  refine e_plain (w_as rfl rfl rfl rfl rfl .nil) ?_
  try refine e_fl ?_
  refine e_plain (w_mv rfl rfl rfl rfl rfl (w_op rfl rfl rfl (s_len rfl (kn rfl) sle_22) (w_mv rfl rfl rfl rfl rfl .nil))) ?_
  try refine e_fl ?_
  refine e_loop (ι := { k : Nat // k ≤ l.length ∧ unl [] l = unl (l.take k) (l.drop k) })
    (fun k => [(0, .part (.one (txD l))), (5, .part (.one (txD l))), (6, inti (l.length : Int)), (7, inti (k.1 : Int))])
    (fun _ => []) (fun _ => []) (fun k => l.length - k.1) ⟨0, by omega, rfl⟩
    (fun K => e_sub ⟨s_t, s_t, s_t, s_t, trivial⟩ trivial trivial) ?_
  rintro ⟨k, hk, hp⟩
  dsimp only at hk hp ⊢
  try refine e_fl ?_
  refine e_plain (w_op rfl rfl rfl (s_bin rfl (kn rfl) (kn rfl) v_lss) .nil) ?_
  try refine e_fl ?_
  refine e_cond rfl (fun h => ?_) (fun h => ?_)
  · have hlt : k < l.length := by have := of_decide_eq_true h; omega
    obtain ⟨x, hx⟩ : ∃ x, l[k]? = some x := ⟨_, List.getElem?_eq_getElem hlt⟩
    rw [unl_here hx] at hp
    have htl : (l.take k).length = k := by rw [List.length_take]; omega
    have hh := has_ef (l.take k) (by omega) x
    rw [htl] at hh
    try refine e_fl ?_
    refine e_plain (w_mv rfl rfl rfl rfl rfl (w_op rfl rfl rfl (s_index rfl (kn rfl) (kn rfl) (by omega) hx sD1_len sle_22 esz_22 rfl) (w_op rfl rfl rfl (s_load1_ref rfl (kn rfl) one_9) (w_as rfl rfl rfl rfl rfl (w_as rfl rfl rfl rfl rfl .nil))))) ?_
    try refine e_fl ?_
    refine e_plain (w_mv rfl rfl rfl rfl rfl (w_mv rfl rfl rfl rfl rfl (w_op rfl rfl rfl (s_rslice_to rfl (kn rfl) (kn rfl) ⟨by omega, by omega⟩ sD1_len sle_22 esz_22) (w_mv rfl rfl rfl rfl rfl (w_op rfl rfl rfl (s_call rfl (by kernel_rfl) (hh) ⟨(kn rfl), ⟨(kn rfl), trivial⟩⟩) .nil))))) ?_
    try refine e_fl ?_
    refine e_cond rfl (fun h1 => ?_) (fun h1 => ?_)
    · try refine e_fl ?_
      refine e_plain (w_as rfl rfl rfl rfl rfl .nil) ?_
      try refine e_fl ?_
      exact e_return rfl rfl (.tmp (kn rfl) (.nil)) (tP_eq (by rw [hp, if_pos (by rw [htl]; exact of_decide_eq_true h1)])) rfl
    rw [if_neg (by rw [htl]; exact of_decide_eq_false h1)] at hp
    try refine e_fl ?_
    refine e_plain (w_op rfl rfl rfl (s_bin rfl (kn rfl) (kn rfl) (v_add64 (by first | omega | (dsimp only; omega) | omega))) (w_mv rfl rfl rfl rfl rfl .nil)) ?_
    try refine e_fl ?_
    refine e_again ⟨k + 1, by omega, hp⟩ (by dsimp only; omega) (fun K => e_sub ⟨s_t, s_t, s_t, s_t, trivial⟩ trivial trivial)
  have hn : l.length ≤ k := by have := of_decide_eq_false h; omega
  try refine e_fl ?_
  refine e_plain (w_as rfl rfl rfl rfl rfl .nil) ?_
  try refine e_fl ?_
  exact e_return rfl rfl (.tmp (kn rfl) (.nil)) (tP_eq (by rw [hp, unl_end hn])) rfl
end Go.Proofs.Ytohhbpoifidbhaa
namespace Go.Proofs.Ytohhbpoifidbhaa
open Go.RowKit
structure Few (L : List (List Tx)) : Prop where
  n : L.length ≤ 1000
  each : ∀ m ∈ L, m.length ≤ 1000
theorem knowA_len : ∀ (r : List (List Tx)) (l : List Tx), (∀ m ∈ r, m.length ≤ 1000) → (knowA l r).length ≤ l.length + 1000 * r.length
  | [], l, _ => by simp [knowA]
  | m :: r, l, h => by
    have h1 := knowA_len r (knowL l m) fun x hx => h x (List.mem_cons_of_mem _ hx)
    have h2 := knowL_len m l
    have h3 := h m List.mem_cons_self
    simp only [knowA, List.length_cons]
    omega
theorem Few.known {L : List (List Tx)} (h : Few L) {i j : Nat} {m : List Tx} (hi : i ≤ L.length) (hm : m.length ≤ 1000) : (knowL (knowA [] (L.take i)) (m.take j)).length ≤ 1001000 := by
  have h1 := knowA_len (L.take i) [] fun x hx => h.each x (List.mem_of_mem_take hx)
  have h2 := knowL_len (m.take j) (knowA [] (L.take i))
  rw [List.length_take] at h1 h2
  have := h.n
  simp only [List.length_nil] at h1
  omega
theorem len_snoc {α : Type} {l l' : List α} {x : α} (h : l' = l ++ [x]) : l.length + 1 = l'.length := by rw [h]; simp
theorem tx_snoc {l l' : List Tx} {x : Tx} (h : l' = l ++ [x]) : l.flatMap sD1 ++ sD1 x = l'.flatMap sD1 := by rw [h]; simp
theorem ns_snoc {l l' : List Nat} {x : Nat} (h : l' = l ++ [x]) : l.flatMap iD1 ++ iD1 x = l'.flatMap iD1 := by rw [h]; simp
theorem nss_snoc {l l' : List (List Nat)} {x : List Nat} (h : l' = l ++ [x]) : l.flatMap nsD1 ++ nsD1 x = l'.flatMap nsD1 := by rw [h]; simp
theorem sD1_one (s : Tx) : sD1 s = [sC s] := rfl
theorem flat1_at {α : Type} {f : α → List Dat} {g : α → Dat} (hf : ∀ a, f a = [g a]) : ∀ {l : List α} {k : Nat} {x : α}, l[k]? = some x → (l.flatMap f)[(k : Int).toNat * 1]? = some (g x)
  | [], _, _, h => by simp at h
  | y :: l, 0, x, h => by
    obtain rfl : y = x := by simpa using h
    rw [List.flatMap_cons, hf]
    rfl
  | y :: l, k + 1, x, h => by
    have := flat1_at hf (l := l) (k := k) (x := x) (by simpa using h)
    rw [List.flatMap_cons, hf]
    simpa using this
set_option maxRecDepth 100000 in
set_option maxHeartbeats 1000000 in
theorem refNum_ef (L : List (List Tx)) (hL : Few L) : EF Try.prog [] 7 [.one (txsD L)] (.part (.one (nssD (numA [] L)))) := by
  have hLn := hL.n
  refine ef_enter 59 Try.func7 rfl rfl rfl fun w D => ?_
  try refine e_fl ?_
  refine e_plain (w_as rfl rfl rfl rfl rfl .nil) ?_
  try refine e_fl ?_
  refine e_list ?_
  refine e_made 100 rfl rfl rfl rfl sl_22 ap_22 rfl rfl ?_
  refine l_as ?_
  refine e_nil ?_
  try refine e_fl ?_
  refine e_list ?_
  refine e_made 101 rfl rfl rfl rfl sl_25 ap_25 rfl rfl ?_
  refine l_as ?_
  refine e_nil ?_
  try refine e_fl ?_
  refine e_plain (w_mv rfl rfl rfl rfl rfl (w_op rfl rfl rfl (s_len rfl (kn rfl) sle_28) (w_mv rfl rfl rfl rfl rfl .nil))) ?_
  try refine e_fl ?_
  refine e_loop (ι := { i : Nat // i ≤ L.length })
    (fun i => [(3, .own 100), (4, .own 101), (13, .part (.one (txsD L))), (14, inti (L.length : Int)), (15, inti (i.1 : Int))])
    (fun _ => []) (fun i => [(100, ⟨9, 1, (knowA [] (L.take i.1)).length, (knowA [] (L.take i.1)).flatMap sD1, false⟩), (101, ⟨31, 1, (numA [] (L.take i.1)).length, (numA [] (L.take i.1)).flatMap nsD1, false⟩)]) (fun i => L.length - i.1) ⟨0, by omega⟩
    (fun K => e_sub ⟨s_t, s_t, s_t, s_t, s_t, trivial⟩ trivial ⟨rfl, rfl, trivial⟩) ?_
  rintro ⟨i, hi⟩
  dsimp only at hi ⊢
  try refine e_fl ?_
  refine e_plain (w_op rfl rfl rfl (s_bin rfl (kn rfl) (kn rfl) v_lss) .nil) ?_
  try refine e_fl ?_
  refine e_cond rfl (fun h => ?_) (fun h => ?_)
  · have hlt : i < L.length := by have := of_decide_eq_true h; omega
    obtain ⟨m, hm⟩ : ∃ m, L[i]? = some m := ⟨_, List.getElem?_eq_getElem hlt⟩
    have hmn := hL.each m (List.mem_of_getElem? hm)
    have hnl : (numA [] (L.take i)).length = i := by rw [numA_len, List.length_take]; omega
    have hns := numA_snoc (L.take i) m []
    have hks := knowA_snoc (L.take i) m []
    rw [← take_snoc hm] at hns hks
    try refine e_fl ?_
    refine e_plain (w_op rfl rfl rfl (s_index rfl (kn rfl) (kn rfl) (by omega) hm txD1_len sle_28 esz_28 rfl) (w_op rfl rfl rfl (s_load1_ref rfl (kn rfl) one_22) (w_as rfl rfl rfl rfl rfl .nil))) ?_
    try refine e_fl ?_
    refine e_list ?_
    refine e_made 102 rfl rfl rfl rfl sl_31 ap_31 rfl rfl ?_
    refine l_as ?_
    refine e_nil ?_
    try refine e_fl ?_
    refine e_plain (w_mv rfl rfl rfl rfl rfl (w_op rfl rfl rfl (s_len rfl (kn rfl) sle_22) (w_mv rfl rfl rfl rfl rfl .nil))) ?_
    try refine e_fl ?_
    refine e_loop (ι := { j : Nat // j ≤ m.length })
      (fun j => [(3, .own 100), (4, .own 101), (7, .own 102), (13, .part (.one (txsD L))), (14, inti (L.length : Int)), (15, inti (i : Int)), (20, .part (.one (txD m))), (21, inti (m.length : Int)), (22, inti (j.1 : Int))])
      (fun _ => []) (fun j => [(100, ⟨9, 1, (knowL (knowA [] (L.take i)) (m.take j.1)).length, (knowL (knowA [] (L.take i)) (m.take j.1)).flatMap sD1, false⟩), (101, ⟨31, 1, (numA [] (L.take i)).length, (numA [] (L.take i)).flatMap nsD1, false⟩), (102, ⟨3, 1, (nums (knowA [] (L.take i)) (m.take j.1)).length, (nums (knowA [] (L.take i)) (m.take j.1)).flatMap iD1, false⟩)]) (fun j => m.length - j.1) ⟨0, by omega⟩
      (fun K => e_sub ⟨s_t, s_t, s_t, s_t, s_t, s_t, s_t, s_t, s_t, trivial⟩ trivial ⟨rfl, rfl, rfl, trivial⟩) ?_
    rintro ⟨j, hj⟩
    dsimp only at hj ⊢
    try refine e_fl ?_
    refine e_plain (w_op rfl rfl rfl (s_bin rfl (kn rfl) (kn rfl) v_lss) .nil) ?_
    try refine e_fl ?_
    refine e_cond rfl (fun h => ?_) (fun h => ?_)
    · have hjl : j < m.length := by have := of_decide_eq_true h; omega
      obtain ⟨s, hs⟩ : ∃ s, m[j]? = some s := ⟨_, List.getElem?_eq_getElem hjl⟩
      have hkn := hL.known (j := j) hi hmn
      have hk1 := knowL_snoc (m.take j) s (knowA [] (L.take i))
      have hn1 := nums_snoc (m.take j) s (knowA [] (L.take i))
      rw [← take_snoc hs] at hk1 hn1
      have hnl : (nums (knowA [] (L.take i)) (m.take j)).length ≤ 1000 := by rw [nums_len, List.length_take]; omega
      generalize hK : knowL (knowA [] (L.take i)) (m.take j) = kw at hkn hk1 hn1 ⊢
      generalize nums (knowA [] (L.take i)) (m.take j) = ns at hn1 hnl ⊢
      have hpl := pos_le s kw
      try refine e_fl ?_
      refine e_plain (w_op rfl rfl rfl (s_index rfl (kn rfl) (kn rfl) (by omega) hs sD1_len sle_22 esz_22 rfl) (w_op rfl rfl rfl (s_load1_ref rfl (kn rfl) one_9) (w_as rfl rfl rfl rfl rfl .nil))) ?_
      try refine e_fl ?_
      refine e_plain (w_as rfl rfl rfl rfl rfl .nil) ?_
      try refine e_fl ?_
      refine e_loop (ι := { k : Nat // k ≤ pos s kw })
        (fun k => [(3, .own 100), (4, .own 101), (7, .own 102), (9, .part (sP s)), (10, inti (k.1 : Int)), (13, .part (.one (txsD L))), (14, inti (L.length : Int)), (15, inti (i : Int)), (20, .part (.one (txD m))), (21, inti (m.length : Int)), (22, inti (j : Int))])
        (fun _ => []) (fun _ => [(100, ⟨9, 1, kw.length, kw.flatMap sD1, false⟩), (101, ⟨31, 1, (numA [] (L.take i)).length, (numA [] (L.take i)).flatMap nsD1, false⟩), (102, ⟨3, 1, ns.length, ns.flatMap iD1, false⟩)]) (fun k => kw.length - k.1) ⟨0, by omega⟩
        (fun K => e_sub ⟨s_t, s_t, s_t, s_t, s_t, s_t, s_t, s_t, s_t, s_t, s_t, trivial⟩ trivial ⟨rfl, rfl, rfl, trivial⟩) ?_
      rintro ⟨k, hk⟩
      dsimp only at hk ⊢
      obtain ⟨x, hx⟩ : ∃ x, k < kw.length → kw[k]? = some x := ⟨kw.getD k [], fun h => by rw [List.getD_eq_getElem?_getD, List.getElem?_eq_getElem h]; rfl⟩
      try refine e_fl ?_
      refine e_plain (w_mv rfl rfl rfl rfl rfl (w_mv rfl rfl rfl rfl rfl (w_op rfl rfl rfl (s_len_own rfl (kn rfl) rfl sle_22) (w_op rfl rfl rfl (s_bin rfl (kn rfl) (kn rfl) v_lss) (w_mv rfl rfl rfl rfl rfl (Walk.gd _ rfl rfl rfl (fun h => s_move rfl (kn rfl)) (Walk.gd _ rfl rfl rfl (fun h => s_move rfl (kn rfl)) (Walk.gd _ rfl rfl rfl (fun h => s_own_addr (z := (k : Int)) rfl (kn_opt rfl h) rfl (kn_opt rfl h) ⟨by omega, of_decide_eq_true h⟩ sle_22 esz_22) (Walk.gd _ rfl rfl rfl (fun h => s_via_load1 rfl (kn_opt rfl h) rfl (flat1_at sD1_one (hx (by have h' : (k : Int) < (kw.length : Int) := of_decide_eq_true h; omega))) one_9) (Walk.gd _ rfl rfl rfl (fun h => s_move rfl (kn rfl)) (Walk.gd _ rfl rfl rfl (fun h => s_bin rfl (kn_opt rfl h) (kn_opt rfl h) (v_sneq)) (w_op rfl rfl rfl (s_and rfl (kn rfl) (fun hb => kn_opt rfl hb)) .nil)))))))))))) ?_
      try refine e_fl ?_
      refine e_cond rfl (fun h => ?_) (fun h => ?_)
      · have hkp : k < pos s kw := by
          simp only [Bool.and_eq_true, decide_eq_true_eq, Bool.not_eq_true', decide_eq_false_iff_not] at h
          have h0 : (k : Int) < (kw.length : Int) := h.1
          have h1 := pos_get s kw k x (hx (by omega)) hk
          have h3 : ¬ k = pos s kw := fun e => h.2 (h1.2 e)
          omega
        try refine e_fl ?_
        refine e_plain (w_mv rfl rfl rfl rfl rfl (w_op rfl rfl rfl (s_bin rfl (kn rfl) (kn rfl) (v_add64 (by first | omega | (dsimp only; omega) | omega))) (w_as rfl rfl rfl rfl rfl .nil))) ?_
        try refine e_fl ?_
        refine e_again ⟨k + 1, by omega⟩ (by dsimp only; omega) (fun K => e_sub ⟨s_t, s_t, s_t, s_t, s_t, s_t, s_t, s_t, s_t, s_t, s_t, trivial⟩ trivial ⟨rfl, rfl, rfl, trivial⟩)
      have hkp : k = pos s kw := by
        rcases Nat.lt_or_ge k kw.length with h1 | h1
        · replace h : (decide ((k : Int) < (kw.length : Int)) && !decide (x = s)) = false := h
          simp only [decide_eq_true (show (k : Int) < (kw.length : Int) by omega), Bool.true_and, Bool.not_eq_false', decide_eq_true_eq] at h
          exact (pos_get s kw k x (hx h1) hk).1 h
        · omega
      subst hkp
      try refine e_fl ?_
      refine e_plain (w_mv rfl rfl rfl rfl rfl (w_mv rfl rfl rfl rfl rfl (w_op rfl rfl rfl (s_len_own rfl (kn rfl) rfl sle_22) (w_op rfl rfl rfl (s_bin rfl (kn rfl) (kn rfl) v_eql) .nil)))) ?_
      try refine e_fl ?_
      refine e_cond rfl (fun h => ?_) (fun h => ?_)
      · have hk2 : know kw s = kw ++ [s] := if_neg (by have h' : ((pos s kw : Nat) : Int) = (kw.length : Int) := of_decide_eq_true h; omega)
        rw [hk2] at hk1
        try refine e_fl ?_
        refine e_list ?_
        refine l_mv ?_
        refine l_mv ?_
        refine l_op (s_buildSlice (ds := [_]) [(0, _)] rfl ⟨rfl, (kn rfl), trivial⟩ rfl sl_22 sz_9 zr_9 (fun w D => .cons (.cell _) (.nil _ _)) rfl rfl rfl rfl rfl) ?_
        refine e_append rfl rfl rfl rfl (kn rfl) rfl (kn rfl) sl_22 ap_22 rfl rfl (by omega) (by omega) ?_
        refine e_req (len_snoc hk1) (tx_snoc hk1) ?_
        refine l_as ?_
        refine e_nil ?_
        try refine e_fl ?_
        refine e_list ?_
        refine l_mv ?_
        refine l_mv ?_
        refine l_op (s_buildSlice (ds := [_]) [(0, _)] rfl ⟨rfl, (kn rfl), trivial⟩ rfl sl_31 sz_3 zr_3 (fun w D => .cons (.cell _) (.nil _ _)) rfl rfl rfl rfl rfl) ?_
        refine e_append rfl rfl rfl rfl (kn rfl) rfl (kn rfl) sl_31 ap_31 rfl rfl (by omega) (by omega) ?_
        refine e_req (len_snoc hn1) (ns_snoc hn1) ?_
        refine l_as ?_
        refine e_nil ?_
        try refine e_fl ?_
        refine e_plain (w_op rfl rfl rfl (s_bin rfl (kn rfl) (kn rfl) (v_add64 (by first | omega | (dsimp only; omega) | omega))) (w_mv rfl rfl rfl rfl rfl .nil)) ?_
        try refine e_fl ?_
        refine e_again ⟨j + 1, by omega⟩ (by dsimp only; omega) (fun K => e_sub ⟨s_t, s_t, s_t, s_t, s_t, s_t, s_t, s_t, s_t, trivial⟩ trivial ⟨rfl, rfl, rfl, trivial⟩)
      · have hk2 : know kw s = kw := if_pos (by have h' : ¬ ((pos s kw : Nat) : Int) = (kw.length : Int) := of_decide_eq_false h; omega)
        rw [hk2] at hk1
        try refine e_fl ?_
        refine e_list ?_
        refine l_mv ?_
        refine l_mv ?_
        refine l_op (s_buildSlice (ds := [_]) [(0, _)] rfl ⟨rfl, (kn rfl), trivial⟩ rfl sl_31 sz_3 zr_3 (fun w D => .cons (.cell _) (.nil _ _)) rfl rfl rfl rfl rfl) ?_
        refine e_append rfl rfl rfl rfl (kn rfl) rfl (kn rfl) sl_31 ap_31 rfl rfl (by omega) (by omega) ?_
        refine e_req (len_snoc hn1) (ns_snoc hn1) ?_
        refine l_as ?_
        refine e_nil ?_
        try refine e_fl ?_
        refine e_plain (w_op rfl rfl rfl (s_bin rfl (kn rfl) (kn rfl) (v_add64 (by first | omega | (dsimp only; omega) | omega))) (w_mv rfl rfl rfl rfl rfl .nil)) ?_
        try refine e_fl ?_
        refine e_again ⟨j + 1, by omega⟩ (by dsimp only; omega) (fun K => e_sub ⟨s_t, s_t, s_t, s_t, s_t, s_t, s_t, s_t, s_t, trivial⟩ trivial ⟨(by dsimp only; rw [hk1]; rfl), rfl, rfl, trivial⟩)
    have hjm : m.take j = m := List.take_of_length_le (by have := of_decide_eq_false h; omega)
    rw [hjm, ← hks]
    try refine e_fl ?_
    refine e_freeze_slot 7 102 rfl rfl rfl ?_
    refine e_list ?_
    refine l_mv ?_
    refine l_mv ?_
    refine l_op (s_buildSlice (ds := [_]) [(0, _)] rfl ⟨rfl, (kn rfl), trivial⟩ rfl sl_25 sz_31 zr_31 (fun w D => .cons (.cell _) (.nil _ _)) rfl rfl rfl rfl rfl) ?_
    refine e_append rfl rfl rfl rfl (kn rfl) rfl (kn rfl) sl_25 ap_25 rfl rfl (by omega) (by omega) ?_
    refine e_req (len_snoc hns) (nss_snoc hns) ?_
    refine l_as ?_
    refine e_nil ?_
    try refine e_fl ?_
    refine e_plain (w_op rfl rfl rfl (s_bin rfl (kn rfl) (kn rfl) (v_add64 (by first | omega | (dsimp only; omega) | omega))) (w_mv rfl rfl rfl rfl rfl .nil)) ?_
    try refine e_fl ?_
    refine e_again ⟨i + 1, by omega⟩ (by dsimp only; omega) (fun K => e_sub ⟨s_t, s_t, s_t, s_t, s_t, trivial⟩ trivial ⟨rfl, rfl, trivial⟩)
  try refine e_fl ?_
  refine e_freeze_slot 4 101 rfl rfl rfl ?_
  refine e_plain (w_mv rfl rfl rfl rfl rfl (w_as rfl rfl rfl rfl rfl .nil)) ?_
  try refine e_fl ?_
  exact e_return rfl rfl (.tmp (kn rfl) (.nil)) (Imp.of_eq (by rw [List.take_of_length_le (by have := of_decide_eq_false h; omega)]; rfl)) rfl
end Go.Proofs.Ytohhbpoifidbhaa
namespace Go.Proofs.Ytohhbpoifidbhaa
open Go.RowKit
def kT (t : Tx) : Value := .string (str t)
theorem kfT : KeyF Try.prog 9 kT := keyStr str_9
theorem mapN : Try.prog.underlying 33 = some (.map 9 3) := by kernel_rfl
theorem zInt : zeroV Try.prog 3 = some (.int .i64 0) := by kernel_rfl
abbrev mN (l : List Tx) : List (Tx × Dat) := nmap 0 l
theorem mN_get (s : Tx) (l : List Tx) : mget s (mN l) = if pos s l < l.length then some (.cell (.int .i64 ((pos s l : Nat) : Int))) else none := by
  have := nmap_get s l 0
  rwa [Nat.zero_add] at this
theorem mN_new {s : Tx} {l : List Tx} (h : ¬ pos s l < l.length) : mset s (.cell (.int .i64 (l.length : Int))) (mN l) = mN (l ++ [s]) := by
  rw [mset_new (by rw [mN_get, if_neg h])]
  have := nmap_snoc s l 0
  rw [Nat.zero_add] at this
  exact this.symm
abbrev YN (v0 : Value) (l : List Tx) (s : Tx) (y : IV) (B1 : BL) (R1 : RL) : Prop := y = vpin 1003 v0 (.int .i64 ((pos s l : Nat) : Int)) ∧ B1 = [] ∧ R1 = [(1003, ⟨1000000, 1, (mN (know l s)).length, mds kT (mN (know l s)), false⟩)]
theorem YN.tidy {v0 : Value} {l : List Tx} {s : Tx} (y : IV) (B1 : BL) (R1 : RL) (h : YN v0 l s y B1 R1) : Tidy [] [(1003, ⟨1000000, 1, (mN l).length, mds kT (mN l), false⟩)] y B1 R1 := by
  obtain ⟨rfl, rfl, rfl⟩ := h
  exact ⟨rfl, rfl, rfl, rfl⟩
set_option maxRecDepth 100000 in
theorem numOf_eg (l : List Tx) (hl : l.length ≤ 2000000) (s : Tx) (v0 : Value) : EG Try.prog [] 11 [atv 1003 v0, .part (sP s)] [] [(1003, ⟨1000000, 1, (mN l).length, mds kT (mN l), false⟩)] (YN v0 l s) := by
  have hg := mN_get s l
  have hpl := pos_le s l
  refine eg_enter 21 Try.func11 rfl rfl rfl fun w D bor mb => ?_
  try refine e_fl ?_
  refine e_pin_slot 9003 (t := 0) rfl ?_
  refine e_slot 0 rfl (atv_own _ _) ?_
  refine e_plain (w_as rfl rfl rfl rfl rfl .nil) ?_
  try refine e_fl ?_
  by_cases h : pos s l < l.length
  · have e : (mget s (mN l)).getD (.cell (.int .i64 0)) = .cell (.int .i64 ((pos s l : Nat) : Int)) := by rw [hg, if_pos h]; rfl
    have e2 : (mget s (mN l)).isSome = true := by rw [hg, if_pos h]; rfl
    have hk : know l s = l := if_pos h
    refine e_plain (w_mv rfl rfl rfl rfl rfl (w_mv rfl rfl rfl rfl rfl (w_op rfl rfl rfl (s_mlook (kf := kT) rfl (kn rfl) rfl (kn rfl) kfT mapN zInt rfl) (w_mv rfl rfl rfl rfl rfl (w_op rfl rfl rfl (s_extract rfl (kn rfl) rfl) (w_op rfl rfl rfl (s_extract rfl (kn rfl) rfl) (w_as rfl rfl rfl rfl rfl (w_as rfl rfl rfl rfl rfl .nil)))))))) ?_
    try refine e_fl ?_
    rw [e, e2]
    refine e_plain (w_mv rfl rfl rfl rfl rfl (w_op rfl rfl rfl (s_not rfl (kn rfl)) .nil)) ?_
    try refine e_fl ?_
    refine c_no ?_
    try refine e_fl ?_
    refine e_plain (w_mv rfl rfl rfl rfl rfl (w_as rfl rfl rfl rfl rfl .nil)) ?_
    try refine e_fl ?_
    refine e_vpin (t := 4) (s := 9003) rfl rfl ?_
    exact e_return_iv [] [(1003, ⟨1000000, 1, (mN (know l s)).length, mds kT (mN (know l s)), false⟩)] rfl rfl trivial ⟨by rw [hk]; rfl, trivial⟩ ⟨rfl, rfl, rfl⟩
  · have e : (mget s (mN l)).getD (.cell (.int .i64 0)) = .cell (.int .i64 0) := by rw [hg, if_neg h]; rfl
    have e2 : (mget s (mN l)).isSome = false := by rw [hg, if_neg h]; rfl
    have hk : know l s = l ++ [s] := if_neg h
    have hlen : (mN l).length = l.length := nmap_len l 0
    have hp : pos s l = l.length := by omega
    refine e_plain (w_mv rfl rfl rfl rfl rfl (w_mv rfl rfl rfl rfl rfl (w_op rfl rfl rfl (s_mlook (kf := kT) rfl (kn rfl) rfl (kn rfl) kfT mapN zInt rfl) (w_mv rfl rfl rfl rfl rfl (w_op rfl rfl rfl (s_extract rfl (kn rfl) rfl) (w_op rfl rfl rfl (s_extract rfl (kn rfl) rfl) (w_as rfl rfl rfl rfl rfl (w_as rfl rfl rfl rfl rfl .nil)))))))) ?_
    try refine e_fl ?_
    rw [e, e2]
    refine e_plain (w_mv rfl rfl rfl rfl rfl (w_op rfl rfl rfl (s_not rfl (kn rfl)) .nil)) ?_
    try refine e_fl ?_
    refine c_yes ?_
    try refine e_fl ?_
    refine e_plain (w_mv rfl rfl rfl rfl rfl (w_op rfl rfl rfl (s_mlen (kf := kT) rfl (kn rfl) rfl mapN rfl) (w_as rfl rfl rfl rfl rfl .nil))) ?_
    try refine e_fl ?_
    rw [hlen]
    refine e_list ?_
    refine l_mv ?_
    refine l_mv ?_
    refine l_mv ?_
    refine e_mset (c := s) (kf := kT) rfl rfl rfl (kn rfl) rfl (kn rfl) (kn rfl) kfT mapN ?_ rfl
    refine e_nil ?_
    try refine e_fl ?_
    rw [mN_new h, ← hk]
    refine e_plain (w_mv rfl rfl rfl rfl rfl (w_as rfl rfl rfl rfl rfl .nil)) ?_
    try refine e_fl ?_
    refine e_vpin (t := 4) (s := 9003) rfl rfl ?_
    exact e_return_iv [] [(1003, ⟨1000000, 1, (mN (know l s)).length, mds kT (mN (know l s)), false⟩)] rfl rfl trivial ⟨rfl, trivial⟩ ⟨by rw [hp], rfl, rfl⟩
theorem mapS : Try.prog.underlying 35 = some (.map 9 4) := by kernel_rfl
theorem zBool : zeroV Try.prog 4 = some (.bool false) := by kernel_rfl
theorem smap_look (s : Tx) (l : List Tx) : (mget s (smap l)).getD (.cell (.bool false)) = .cell (.bool (decide (pos s l < l.length))) := by
  rw [smap_get]
  by_cases h : pos s l < l.length
  · rw [if_pos h, decide_eq_true h]; rfl
  · rw [if_neg h, decide_eq_false h]; rfl
theorem smap_new {s : Tx} {l : List Tx} (h : ¬ pos s l < l.length) : mset s (.cell (.bool true)) (smap l) = smap (l ++ [s]) := by
  rw [mset_new (by rw [smap_get, if_neg h])]
  exact (smap_snoc s l).symm
set_option maxRecDepth 100000 in
theorem unl_ef (l : List Tx) (hl : l.length ≤ 1000000) : EF Try.prog [] 8 [.one (txD l)] (.part (tP (unl [] l))) := by
  refine ef_enter 19 Try.func8 rfl rfl rfl fun w D => ?_
  try refine e_fl ?_
  refine e_plain (w_as rfl rfl rfl rfl rfl .nil) ?_
  try refine e_fl ?_
  refine e_list ?_
  refine e_mmap 1003 1000000 1 rfl rfl rfl rfl rfl rfl ?_ rfl
  refine l_as ?_
  refine e_nil ?_
  try refine e_fl ?_
  refine e_plain (w_mv rfl rfl rfl rfl rfl (w_op rfl rfl rfl (s_len rfl (kn rfl) sle_22) (w_mv rfl rfl rfl rfl rfl .nil))) ?_
  try refine e_fl ?_
  refine e_loop (ι := { k : Nat // k ≤ l.length ∧ unl [] l = unl (l.take k) (l.drop k) })
    (fun k => [(3, .own 1003), (7, .part (.one (txD l))), (8, inti (l.length : Int)), (9, inti (k.1 : Int))])
    (fun _ => []) (fun k => [(1003, ⟨1000000, 1, (smap (l.take k.1)).length, mds kT (smap (l.take k.1)), false⟩)]) (fun k => l.length - k.1) ⟨0, by omega, rfl⟩
    (fun K => e_sub ⟨s_t, s_t, s_t, s_t, trivial⟩ trivial ⟨rfl, trivial⟩) ?_
  rintro ⟨k, hk, hp⟩
  dsimp only at hk hp ⊢
  try refine e_fl ?_
  refine e_plain (w_op rfl rfl rfl (s_bin rfl (kn rfl) (kn rfl) v_lss) .nil) ?_
  try refine e_fl ?_
  refine e_cond rfl (fun h => ?_) (fun h => ?_)
  · have hlt : k < l.length := by have := of_decide_eq_true h; omega
    obtain ⟨x, hx⟩ : ∃ x, l[k]? = some x := ⟨_, List.getElem?_eq_getElem hlt⟩
    rw [unl_here hx] at hp
    try refine e_fl ?_
    refine e_plain (w_op rfl rfl rfl (s_index rfl (kn rfl) (kn rfl) (by omega) hx sD1_len sle_22 esz_22 rfl) (w_op rfl rfl rfl (s_load1_ref rfl (kn rfl) one_9) (w_as rfl rfl rfl rfl rfl .nil))) ?_
    try refine e_fl ?_
    refine e_plain (w_mv rfl rfl rfl rfl rfl (w_mv rfl rfl rfl rfl rfl (w_op rfl rfl rfl (s_mlook1 (kf := kT) rfl (kn rfl) rfl (kn rfl) kfT mapS zBool rfl) .nil))) ?_
    try refine e_fl ?_
    rw [smap_look]
    refine e_cond rfl (fun h1 => ?_) (fun h1 => ?_)
    · try refine e_fl ?_
      refine e_plain (w_as rfl rfl rfl rfl rfl .nil) ?_
      try refine e_fl ?_
      exact e_return rfl rfl (.tmp (kn rfl) (.nil)) (tP_eq (by rw [hp, if_pos (of_decide_eq_true h1)])) rfl
    have h2 := of_decide_eq_false h1
    rw [if_neg h2] at hp
    have hm := smap_new h2
    rw [← take_snoc hx] at hm
    try refine e_fl ?_
    refine e_list ?_
    refine l_mv ?_
    refine l_mv ?_
    refine e_mset (c := x) (kf := kT) rfl rfl rfl (kn rfl) rfl (kn rfl) (kn rfl) kfT mapS ?_ rfl
    refine e_nil ?_
    try refine e_fl ?_
    rw [hm]
    refine e_plain (w_op rfl rfl rfl (s_bin rfl (kn rfl) (kn rfl) (v_add64 (by first | omega | (dsimp only; omega) | omega))) (w_mv rfl rfl rfl rfl rfl .nil)) ?_
    try refine e_fl ?_
    refine e_again ⟨k + 1, by omega, hp⟩ (by dsimp only; omega) (fun K => e_sub ⟨s_t, s_t, s_t, s_t, trivial⟩ trivial ⟨rfl, trivial⟩)
  have hn : l.length ≤ k := by have := of_decide_eq_false h; omega
  try refine e_fl ?_
  refine e_plain (w_as rfl rfl rfl rfl rfl .nil) ?_
  try refine e_fl ?_
  exact e_return rfl rfl (.tmp (kn rfl) (.nil)) (tP_eq (by rw [hp, unl_end hn])) rfl
end Go.Proofs.Ytohhbpoifidbhaa
