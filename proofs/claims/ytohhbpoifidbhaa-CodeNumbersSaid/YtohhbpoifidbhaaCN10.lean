/- Part 10 of what the last text of this claim is proved by: walks over the program, and the math behind them. Conditions: as each theorem says. -/
import Derived.Test.YtohhbpoifidbhaaCN09
import Derived.Test.YtohhbpoifidbhaaProg
namespace Go.Proofs.Ytohhbpoifidbhaa
open Go.RowKit
abbrev nilC : Dat := .cell (.slice none 0 0)
abbrev intC (z : Nat) : Dat := .cell (.int .i64 (z : Int))
def outN (n : Nat) (L : List (List Nat)) : List Dat := L.flatMap nsD1 ++ List.replicate (n - L.length) nilC
def rowN (n : Nat) (l : List Nat) : List Dat := l.flatMap iD1 ++ List.replicate (n - l.length) (intC 0)
theorem flat_one {α : Type} {f : α → List Dat} {g : α → Dat} (hf : ∀ a, f a = [g a]) (l : List α) : l.flatMap f = l.map g := by
  induction l with
  | nil => rfl
  | cons x l ih => rw [List.flatMap_cons, hf, ih]; rfl
theorem set_fill {α : Type} (l : List α) (n : Nat) (z x : α) (h : l.length < n) : (l ++ List.replicate (n - l.length) z).set l.length x = l ++ [x] ++ List.replicate (n - (l ++ [x]).length) z := by
  rw [List.set_append, if_neg (Nat.lt_irrefl _), Nat.sub_self, show n - l.length = (n - (l ++ [x]).length) + 1 by simp; omega, List.replicate_succ, List.set_cons_zero, List.append_assoc]
  rfl
theorem outN_len (n : Nat) (L : List (List Nat)) (h : L.length ≤ n) : (outN n L).length = n := by
  unfold outN
  rw [List.length_append, flat_len nsD1_len, List.length_replicate]
  omega
theorem rowN_len (n : Nat) (l : List Nat) (h : l.length ≤ n) : (rowN n l).length = n := by
  unfold rowN
  rw [List.length_append, flat_len iD1_len, List.length_replicate]
  omega
theorem rowN_set {n : Nat} {l l' : List Nat} {x : Nat} (h : l.length < n) (hl : l' = l ++ [x]) : (rowN n l).set l.length (intC x) = rowN n l' := by
  subst hl
  have h0 := set_fill (l.map intC) n (intC 0) (intC x) (by simpa using h)
  unfold rowN
  rw [flat_one (f := iD1) (g := intC) (fun _ => rfl), flat_one (f := iD1) (g := intC) (fun _ => rfl)]
  simpa using h0
theorem outN_set {n : Nat} {l l' : List (List Nat)} {x : List Nat} (h : l.length < n) (hl : l' = l ++ [x]) : (outN n l).set l.length (nsD x) = outN n l' := by
  subst hl
  have h0 := set_fill (l.map nsD) n nilC (nsD x) (by simpa using h)
  unfold outN
  rw [flat_one (f := nsD1) (g := nsD) (fun _ => rfl), flat_one (f := nsD1) (g := nsD) (fun _ => rfl)]
  simpa using h0
theorem rowN_full (l : List Nat) : rowN l.length l = l.flatMap iD1 := by simp [rowN]
theorem outN_full (L : List (List Nat)) : outN L.length L = L.flatMap nsD1 := by simp [outN]
theorem rowN_done {n : Nat} {l : List Nat} (h : l.length = n) : Dat.row 1 n (rowN n l) = nsD l := by
  subst h
  rw [rowN_full]
theorem outN_done {n : Nat} {l : List (List Nat)} (h : l.length = n) : Dat.row 1 n (outN n l) = nssD l := by
  subst h
  rw [outN_full]
theorem set_get {α : Type} {l : List α} {i : Nat} {x : α} (h : i < l.length) : (l.set i x)[i]? = some x := by simp [h]
set_option maxRecDepth 100000 in
set_option maxHeartbeats 4000000 in
theorem num_ef (L : List (List Tx)) (hL : Few L) : EF Try.prog [] 6 [.one (txsD L)] (.part (.one (nssD (numA [] L)))) := by
  have hLn := hL.n
  refine ef_enter 45 Try.func6 rfl rfl rfl fun w D => ?_
  try refine e_fl ?_
  refine e_plain (w_as rfl rfl rfl rfl rfl .nil) ?_
  try refine e_fl ?_
  refine e_list ?_
  refine e_mmap 1003 1000000 1 rfl rfl rfl rfl rfl rfl ?_ rfl
  refine l_as ?_
  refine e_nil ?_
  try refine e_fl ?_
  refine e_unpin (t := 3) rfl fun v0 => ?_
  refine e_pin_slot 9003 (t := 3) rfl ?_
  refine e_slot 3 rfl (atv_is _ _) ?_
  refine e_list ?_
  refine l_mv ?_
  refine l_op (s_len rfl (kn rfl) sle_28) ?_
  refine e_mk 1000 rfl rfl rfl rfl (kn rfl) (kn rfl) sl_25 ap_25 zr_31 (by omega) (by omega) (show _ = outN L.length [] by simp [outN]) rfl rfl ?_
  refine l_as ?_
  refine e_nil ?_
  try refine e_fl ?_
  refine e_plain (w_mv rfl rfl rfl rfl rfl (w_op rfl rfl rfl (s_len rfl (kn rfl) sle_28) (w_mv rfl rfl rfl rfl rfl .nil))) ?_
  try refine e_fl ?_
  refine e_loop (ι := { i : Nat // i ≤ L.length })
    (fun i => [(3, .is v0), (9003, pinv 1003 v0), (4, .own 1000), (13, .part (.one (txsD L))), (14, inti (L.length : Int)), (15, inti (i.1 : Int))])
    (fun _ => []) (fun i => [(1000, ⟨31, 1, L.length, outN L.length (numA [] (L.take i.1)), false⟩), (1003, ⟨1000000, 1, (mN (knowA [] (L.take i.1))).length, mds kT (mN (knowA [] (L.take i.1))), false⟩)]) (fun i => L.length - i.1) ⟨0, by omega⟩
    (fun K => e_sub ⟨s_t, s_t, s_t, s_t, s_t, s_t, trivial⟩ trivial ⟨rfl, rfl, trivial⟩) ?_
  rintro ⟨i, hi⟩
  dsimp only at hi ⊢
  try refine e_fl ?_
  refine e_plain (w_op rfl rfl rfl (s_bin rfl (kn rfl) (kn rfl) v_lss) .nil) ?_
  try refine e_fl ?_
  refine e_cond rfl (fun h => ?_) (fun h => ?_)
  · have hlt : i < L.length := by have := of_decide_eq_true h; omega
    obtain ⟨m, hm⟩ : ∃ m, L[i]? = some m := ⟨_, List.getElem?_eq_getElem hlt⟩
    have hmn := hL.each m (List.mem_of_getElem? hm)
    have hnl : (numA [] (L.take i)).length = i := by rw [numA_len, List.length_take]; omega
    have hol := outN_len L.length (numA [] (L.take i)) (by omega)
    have hns := numA_snoc (L.take i) m []
    have hks := knowA_snoc (L.take i) m []
    rw [← take_snoc hm] at hns hks
    have hfin := outN_set (n := L.length) (by omega) hns
    rw [hnl] at hfin
    try refine e_fl ?_
    refine e_plain (w_mv rfl rfl rfl rfl rfl (w_op rfl rfl rfl (s_index rfl (kn rfl) (kn rfl) (by omega) hm txD1_len sle_28 esz_28 rfl) (w_op rfl rfl rfl (s_load1_ref rfl (kn rfl) one_22) (w_as rfl rfl rfl rfl rfl (w_as rfl rfl rfl rfl rfl .nil))))) ?_
    try refine e_fl ?_
    refine e_list ?_
    refine l_mv ?_
    refine l_mv ?_
    refine l_mv ?_
    refine l_op (s_len rfl (kn rfl) sle_22) ?_
    refine e_mk 1001 rfl rfl rfl rfl (kn rfl) (kn rfl) sl_31 ap_31 zr_3 (by omega) (by omega) (show _ = rowN m.length [] by simp [rowN]) rfl rfl ?_
    refine e_unpin1 (t := 24) rfl rfl rfl fun v1 hv1 => ?_
    refine e_pin_slot 9001 (t := 24) rfl ?_
    refine e_slot 24 rfl (atv_is _ _) ?_
    refine l_op (s_own_addr rfl (kn rfl) rfl (kn rfl) ⟨by omega, by omega⟩ sle_25 esz_25) ?_
    refine e_via_store1 (ds' := (outN L.length (numA [] (L.take i))).set i (.cell v1)) rfl rfl rfl (kn rfl) rfl (kn rfl) hv1 (by rw [hol]; omega) sz_31 (by simp) ?_ rfl
    refine e_nil ?_
    try refine e_fl ?_
    refine e_plain (w_mv rfl rfl rfl rfl rfl (w_op rfl rfl rfl (s_len rfl (kn rfl) sle_22) (w_mv rfl rfl rfl rfl rfl .nil))) ?_
    try refine e_fl ?_
    refine e_loop (ι := { j : Nat // j ≤ m.length })
      (fun j => [(3, .is v0), (9003, pinv 1003 v0), (9001, pinv 1001 v1), (4, .own 1000), (5, inti (i : Int)), (13, .part (.one (txsD L))), (14, inti (L.length : Int)), (15, inti (i : Int)), (26, .part (.one (txD m))), (27, inti (m.length : Int)), (28, inti (j.1 : Int))])
      (fun _ => []) (fun j => [(1000, ⟨31, 1, L.length, (outN L.length (numA [] (L.take i))).set i (.cell v1), false⟩), (1001, ⟨3, 1, m.length, rowN m.length (nums (knowA [] (L.take i)) (m.take j.1)), false⟩), (1003, ⟨1000000, 1, (mN (knowL (knowA [] (L.take i)) (m.take j.1))).length, mds kT (mN (knowL (knowA [] (L.take i)) (m.take j.1))), false⟩)]) (fun j => m.length - j.1) ⟨0, by omega⟩
      (fun K => e_sub ⟨s_t, s_t, s_t, s_t, s_t, s_t, s_t, s_t, s_t, s_t, s_t, trivial⟩ trivial ⟨rfl, rfl, rfl, trivial⟩) ?_
    rintro ⟨j, hj⟩
    dsimp only at hj ⊢
    try refine e_fl ?_
    refine e_plain (w_op rfl rfl rfl (s_bin rfl (kn rfl) (kn rfl) v_lss) .nil) ?_
    try refine e_fl ?_
    refine e_cond rfl (fun h => ?_) (fun h => ?_)
    · have hjl : j < m.length := by have := of_decide_eq_true h; omega
      obtain ⟨s, hs⟩ : ∃ s, m[j]? = some s := ⟨_, List.getElem?_eq_getElem hjl⟩
      have hkn := hL.known (j := j) hi hmn
      have hk1 := knowL_snoc (m.take j) s (knowA [] (L.take i))
      have hn1 := nums_snoc (m.take j) s (knowA [] (L.take i))
      rw [← take_snoc hs] at hk1 hn1
      have hnl2 : (nums (knowA [] (L.take i)) (m.take j)).length = j := by rw [nums_len, List.length_take]; omega
      have hrs := rowN_set (n := m.length) (by omega) hn1
      rw [hnl2] at hrs
      have hrl := rowN_len m.length (nums (knowA [] (L.take i)) (m.take j)) (by omega)
      have hget := set_get (l := outN L.length (numA [] (L.take i))) (x := Dat.cell v1) (i := i) (by rw [hol]; omega)
      generalize knowL (knowA [] (L.take i)) (m.take j) = kw at hkn hk1 hrs ⊢
      generalize rowN m.length (nums (knowA [] (L.take i)) (m.take j)) = rw0 at hrs hrl ⊢
      generalize (outN L.length (numA [] (L.take i))).set i (.cell v1) = ow at hget ⊢
      try refine e_fl ?_
      refine e_plain (w_mv rfl rfl rfl rfl rfl (w_op rfl rfl rfl (s_index rfl (kn rfl) (kn rfl) (by omega) hs sD1_len sle_22 esz_22 rfl) (w_op rfl rfl rfl (s_load1_ref rfl (kn rfl) one_9) (w_as rfl rfl rfl rfl rfl (w_as rfl rfl rfl rfl rfl .nil))))) ?_
      try refine e_fl ?_
      refine e_sub (T' := [(3, .is v0), (9003, pinv 1003 v0), (9001, pinv 1001 v1), (4, .own 1000), (5, inti (i : Int)), (7, inti (j : Int)), (8, .part (sP s)), (13, .part (.one (txsD L))), (14, inti (L.length : Int)), (15, inti (i : Int)), (26, .part (.one (txD m))), (27, inti (m.length : Int)), (28, inti (j : Int))]) (B' := []) (R' := [(1000, ⟨31, 1, L.length, ow, false⟩), (1001, ⟨3, 1, m.length, rw0, false⟩), (1003, ⟨1000000, 1, (mN kw).length, mds kT (mN kw), false⟩)]) ⟨s_t, s_t, s_t, s_t, s_t, s_t, s_t, s_t, s_t, s_t, s_t, s_t, s_t, trivial⟩ trivial ⟨rfl, rfl, rfl, trivial⟩ ?_
      refine e_draw_sr 10 [[], [], [0, 1], [2], [], [], [], [5, 6], [3, 4, 0, 1, 2, 3, 4, 5, 6, 7], [8, 7, 7, 0, 1, 2, 3, 4, 5, 6, 7]] [[false, false, false, false, false, false, false, false, false, false], [true, false, false, false, false, false, false, false, false, false], [false, true, false, false, false, false, false, false, false, false], [false, false, false, false, true, false, false, false, false, false], [false, false, false, false, false, true, false, false, false, false], [false, false, false, false, false, false, true, false, false, false], [true, true, false, false, false, false, false, false, false, false], [true, false, false, false, true, false, false, false, false, false], [true, false, false, false, false, true, false, false, false, false], [true, false, false, false, false, false, true, false, false, false], [false, true, false, false, true, false, false, false, false, false], [false, true, false, false, false, true, false, false, false, false], [false, true, false, false, false, false, true, false, false, false], [false, false, false, false, true, true, false, false, false, false], [false, false, false, false, true, false, true, false, false, false], [false, false, false, false, false, true, true, false, false, false], [true, true, true, false, false, false, false, false, false, false], [true, true, false, false, true, false, false, false, false, false], [true, true, false, false, false, true, false, false, false, false], [true, true, false, false, false, false, true, false, false, false], [true, false, false, false, true, true, false, false, false, false], [true, false, false, false, true, false, true, false, false, false], [true, false, false, false, false, true, true, false, false, false], [false, true, false, false, true, true, false, false, false, false], [false, true, false, false, true, false, true, false, false, false], [false, true, false, false, false, true, true, false, false, false], [false, false, false, false, true, true, true, false, false, false], [false, false, false, false, false, true, true, true, false, false], [true, true, true, true, false, false, false, false, false, false], [true, true, true, false, true, false, false, false, false, false], [true, true, true, false, false, true, false, false, false, false], [true, true, true, false, false, false, true, false, false, false], [true, true, false, false, true, true, false, false, false, false], [true, true, false, false, true, false, true, false, false, false], [true, true, false, false, false, true, true, false, false, false], [true, false, false, false, true, true, true, false, false, false], [true, false, false, false, false, true, true, true, false, false], [false, true, false, false, true, true, true, false, false, false], [false, true, false, false, false, true, true, true, false, false], [false, false, false, false, true, true, true, true, false, false], [true, true, true, true, true, false, false, false, false, false], [true, true, true, true, false, true, false, false, false, false], [true, true, true, true, false, false, true, false, false, false], [true, true, true, false, true, true, false, false, false, false], [true, true, true, false, true, false, true, false, false, false], [true, true, true, false, false, true, true, false, false, false], [true, true, false, false, true, true, true, false, false, false], [true, true, false, false, false, true, true, true, false, false], [true, false, false, false, true, true, true, true, false, false], [false, true, false, false, true, true, true, true, false, false], [true, true, true, true, true, true, false, false, false, false], [true, true, true, true, true, false, true, false, false, false], [true, true, true, true, false, true, true, false, false, false], [true, true, true, false, true, true, true, false, false, false], [true, true, true, false, false, true, true, true, false, false], [true, true, false, false, true, true, true, true, false, false], [true, true, true, true, true, true, true, false, false, false], [true, true, true, true, false, true, true, true, false, false], [true, true, true, false, true, true, true, true, false, false], [true, true, true, true, true, true, true, true, false, false], [true, true, true, true, true, true, true, true, true, false], [true, true, true, true, true, true, true, true, true, true]] [([false, false, false, false, false, false, false, false, false, false], 0), ([false, false, false, false, false, false, false, false, false, false], 1), ([false, false, false, false, false, false, false, false, false, false], 4), ([false, false, false, false, false, false, false, false, false, false], 5), ([false, false, false, false, false, false, false, false, false, false], 6), ([true, false, false, false, false, false, false, false, false, false], 1), ([true, false, false, false, false, false, false, false, false, false], 4), ([true, false, false, false, false, false, false, false, false, false], 5), ([true, false, false, false, false, false, false, false, false, false], 6), ([false, true, false, false, false, false, false, false, false, false], 0), ([false, true, false, false, false, false, false, false, false, false], 4), ([false, true, false, false, false, false, false, false, false, false], 5), ([false, true, false, false, false, false, false, false, false, false], 6), ([false, false, false, false, true, false, false, false, false, false], 0), ([false, false, false, false, true, false, false, false, false, false], 1), ([false, false, false, false, true, false, false, false, false, false], 5), ([false, false, false, false, true, false, false, false, false, false], 6), ([false, false, false, false, false, true, false, false, false, false], 0), ([false, false, false, false, false, true, false, false, false, false], 1), ([false, false, false, false, false, true, false, false, false, false], 4), ([false, false, false, false, false, true, false, false, false, false], 6), ([false, false, false, false, false, false, true, false, false, false], 0), ([false, false, false, false, false, false, true, false, false, false], 1), ([false, false, false, false, false, false, true, false, false, false], 4), ([false, false, false, false, false, false, true, false, false, false], 5), ([true, true, false, false, false, false, false, false, false, false], 2), ([true, true, false, false, false, false, false, false, false, false], 4), ([true, true, false, false, false, false, false, false, false, false], 5), ([true, true, false, false, false, false, false, false, false, false], 6), ([true, false, false, false, true, false, false, false, false, false], 1), ([true, false, false, false, true, false, false, false, false, false], 5), ([true, false, false, false, true, false, false, false, false, false], 6), ([true, false, false, false, false, true, false, false, false, false], 1), ([true, false, false, false, false, true, false, false, false, false], 4), ([true, false, false, false, false, true, false, false, false, false], 6), ([true, false, false, false, false, false, true, false, false, false], 1), ([true, false, false, false, false, false, true, false, false, false], 4), ([true, false, false, false, false, false, true, false, false, false], 5), ([false, true, false, false, true, false, false, false, false, false], 0), ([false, true, false, false, true, false, false, false, false, false], 5), ([false, true, false, false, true, false, false, false, false, false], 6), ([false, true, false, false, false, true, false, false, false, false], 0), ([false, true, false, false, false, true, false, false, false, false], 4), ([false, true, false, false, false, true, false, false, false, false], 6), ([false, true, false, false, false, false, true, false, false, false], 0), ([false, true, false, false, false, false, true, false, false, false], 4), ([false, true, false, false, false, false, true, false, false, false], 5), ([false, false, false, false, true, true, false, false, false, false], 0), ([false, false, false, false, true, true, false, false, false, false], 1), ([false, false, false, false, true, true, false, false, false, false], 6), ([false, false, false, false, true, false, true, false, false, false], 0), ([false, false, false, false, true, false, true, false, false, false], 1), ([false, false, false, false, true, false, true, false, false, false], 5), ([false, false, false, false, false, true, true, false, false, false], 0), ([false, false, false, false, false, true, true, false, false, false], 1), ([false, false, false, false, false, true, true, false, false, false], 4), ([false, false, false, false, false, true, true, false, false, false], 7), ([true, true, true, false, false, false, false, false, false, false], 3), ([true, true, true, false, false, false, false, false, false, false], 4), ([true, true, true, false, false, false, false, false, false, false], 5), ([true, true, true, false, false, false, false, false, false, false], 6), ([true, true, false, false, true, false, false, false, false, false], 2), ([true, true, false, false, true, false, false, false, false, false], 5), ([true, true, false, false, true, false, false, false, false, false], 6), ([true, true, false, false, false, true, false, false, false, false], 2), ([true, true, false, false, false, true, false, false, false, false], 4), ([true, true, false, false, false, true, false, false, false, false], 6), ([true, true, false, false, false, false, true, false, false, false], 2), ([true, true, false, false, false, false, true, false, false, false], 4), ([true, true, false, false, false, false, true, false, false, false], 5), ([true, false, false, false, true, true, false, false, false, false], 1), ([true, false, false, false, true, true, false, false, false, false], 6), ([true, false, false, false, true, false, true, false, false, false], 1), ([true, false, false, false, true, false, true, false, false, false], 5), ([true, false, false, false, false, true, true, false, false, false], 1), ([true, false, false, false, false, true, true, false, false, false], 4), ([true, false, false, false, false, true, true, false, false, false], 7), ([false, true, false, false, true, true, false, false, false, false], 0), ([false, true, false, false, true, true, false, false, false, false], 6), ([false, true, false, false, true, false, true, false, false, false], 0), ([false, true, false, false, true, false, true, false, false, false], 5), ([false, true, false, false, false, true, true, false, false, false], 0), ([false, true, false, false, false, true, true, false, false, false], 4), ([false, true, false, false, false, true, true, false, false, false], 7), ([false, false, false, false, true, true, true, false, false, false], 0), ([false, false, false, false, true, true, true, false, false, false], 1), ([false, false, false, false, true, true, true, false, false, false], 7), ([false, false, false, false, false, true, true, true, false, false], 0), ([false, false, false, false, false, true, true, true, false, false], 1), ([false, false, false, false, false, true, true, true, false, false], 4), ([true, true, true, true, false, false, false, false, false, false], 4), ([true, true, true, true, false, false, false, false, false, false], 5), ([true, true, true, true, false, false, false, false, false, false], 6), ([true, true, true, false, true, false, false, false, false, false], 3), ([true, true, true, false, true, false, false, false, false, false], 5), ([true, true, true, false, true, false, false, false, false, false], 6), ([true, true, true, false, false, true, false, false, false, false], 3), ([true, true, true, false, false, true, false, false, false, false], 4), ([true, true, true, false, false, true, false, false, false, false], 6), ([true, true, true, false, false, false, true, false, false, false], 3), ([true, true, true, false, false, false, true, false, false, false], 4), ([true, true, true, false, false, false, true, false, false, false], 5), ([true, true, false, false, true, true, false, false, false, false], 2), ([true, true, false, false, true, true, false, false, false, false], 6), ([true, true, false, false, true, false, true, false, false, false], 2), ([true, true, false, false, true, false, true, false, false, false], 5), ([true, true, false, false, false, true, true, false, false, false], 2), ([true, true, false, false, false, true, true, false, false, false], 4), ([true, true, false, false, false, true, true, false, false, false], 7), ([true, false, false, false, true, true, true, false, false, false], 1), ([true, false, false, false, true, true, true, false, false, false], 7), ([true, false, false, false, false, true, true, true, false, false], 1), ([true, false, false, false, false, true, true, true, false, false], 4), ([false, true, false, false, true, true, true, false, false, false], 0), ([false, true, false, false, true, true, true, false, false, false], 7), ([false, true, false, false, false, true, true, true, false, false], 0), ([false, true, false, false, false, true, true, true, false, false], 4), ([false, false, false, false, true, true, true, true, false, false], 0), ([false, false, false, false, true, true, true, true, false, false], 1), ([true, true, true, true, true, false, false, false, false, false], 5), ([true, true, true, true, true, false, false, false, false, false], 6), ([true, true, true, true, false, true, false, false, false, false], 4), ([true, true, true, true, false, true, false, false, false, false], 6), ([true, true, true, true, false, false, true, false, false, false], 4), ([true, true, true, true, false, false, true, false, false, false], 5), ([true, true, true, false, true, true, false, false, false, false], 3), ([true, true, true, false, true, true, false, false, false, false], 6), ([true, true, true, false, true, false, true, false, false, false], 3), ([true, true, true, false, true, false, true, false, false, false], 5), ([true, true, true, false, false, true, true, false, false, false], 3), ([true, true, true, false, false, true, true, false, false, false], 4), ([true, true, true, false, false, true, true, false, false, false], 7), ([true, true, false, false, true, true, true, false, false, false], 2), ([true, true, false, false, true, true, true, false, false, false], 7), ([true, true, false, false, false, true, true, true, false, false], 2), ([true, true, false, false, false, true, true, true, false, false], 4), ([true, false, false, false, true, true, true, true, false, false], 1), ([false, true, false, false, true, true, true, true, false, false], 0), ([true, true, true, true, true, true, false, false, false, false], 6), ([true, true, true, true, true, false, true, false, false, false], 5), ([true, true, true, true, false, true, true, false, false, false], 4), ([true, true, true, true, false, true, true, false, false, false], 7), ([true, true, true, false, true, true, true, false, false, false], 3), ([true, true, true, false, true, true, true, false, false, false], 7), ([true, true, true, false, false, true, true, true, false, false], 3), ([true, true, true, false, false, true, true, true, false, false], 4), ([true, true, false, false, true, true, true, true, false, false], 2), ([true, true, true, true, true, true, true, false, false, false], 7), ([true, true, true, true, false, true, true, true, false, false], 4), ([true, true, true, false, true, true, true, true, false, false], 3), ([true, true, true, true, true, true, true, true, false, false], 8), ([true, true, true, true, true, true, true, true, true, false], 9)] [(0, 33, .own 1000), (1, 34, inti (i : Int)), (2, 35, .via 1000 (AtV ((i : Int).toNat * 1))), (3, 36, .is v1), (4, 37, inti (j : Int)), (5, 38, .is v0), (6, 39, .part (sP s)), (7, 40, inti ((pos s kw : Nat) : Int)), (8, 41, .via 1001 (AtV ((j : Int).toNat * 1)))] [] [(9, 1001, ⟨3, 1, m.length, rw0.set j (intC (pos s kw)), false⟩), (7, 1003, ⟨1000000, 1, (mN (know kw s)).length, mds kT (mN (know kw s)), false⟩)] [(3, .is v0), (9003, pinv 1003 v0), (9001, pinv 1001 v1), (4, .own 1000), (5, inti (i : Int)), (7, inti (j : Int)), (8, .part (sP s)), (13, .part (.one (txsD L))), (14, inti (L.length : Int)), (15, inti (i : Int)), (26, .part (.one (txD m))), (27, inti (m.length : Int)), (28, inti (j : Int))] [] [(1000, ⟨31, 1, L.length, ow, false⟩), (1001, ⟨3, 1, m.length, rw0, false⟩), (1003, ⟨1000000, 1, (mN kw).length, mds kT (mN kw), false⟩)] (by kernel_rfl) rfl mixed (by kernel_rfl) (by decide) (fun K h => h) ?_ ?_
      · repeat' first
          | exact trivial
          | refine And.intro ?_ ?_
        all_goals
          intro K hK
          replace hK := e_ddR (e_dd hK)
          first
            | (refine e_opi (i := 0) rfl (fun h => h) ?_; refine l_mv ?_; refine e_nil ?_; refine e_fl ?_; exact e_subR hK (by repeat' first | exact trivial | refine And.intro s_t ?_) (by repeat' first | exact trivial | refine And.intro s_b ?_) (by repeat' first | exact trivial | refine And.intro rfl ?_))
            | (refine e_opi (i := 1) rfl (fun h => h) ?_; refine l_mv ?_; refine e_nil ?_; refine e_fl ?_; exact e_subR hK (by repeat' first | exact trivial | refine And.intro s_t ?_) (by repeat' first | exact trivial | refine And.intro s_b ?_) (by repeat' first | exact trivial | refine And.intro rfl ?_))
            | (refine e_opi (i := 2) rfl (fun h => h) ?_; refine l_op (s_own_addr rfl (kn rfl) rfl (kn rfl) ⟨by omega, by omega⟩ sle_25 esz_25) ?_; refine e_nil ?_; refine e_fl ?_; exact e_subR hK (by repeat' first | exact trivial | refine And.intro s_t ?_) (by repeat' first | exact trivial | refine And.intro s_b ?_) (by repeat' first | exact trivial | refine And.intro rfl ?_))
            | (refine e_opi (i := 3) rfl (fun h => h) ?_; refine l_op (s_via_load1 rfl (kn rfl) rfl (by simpa using hget) one_31) ?_; refine e_nil ?_; refine e_fl ?_; exact e_subR hK (by repeat' first | exact trivial | refine And.intro s_t ?_) (by repeat' first | exact trivial | refine And.intro s_b ?_) (by repeat' first | exact trivial | refine And.intro rfl ?_))
            | (refine e_opi (i := 4) rfl (fun h => h) ?_; refine l_mv ?_; refine e_nil ?_; refine e_fl ?_; exact e_subR hK (by repeat' first | exact trivial | refine And.intro s_t ?_) (by repeat' first | exact trivial | refine And.intro s_b ?_) (by repeat' first | exact trivial | refine And.intro rfl ?_))
            | (refine e_opi (i := 5) rfl (fun h => h) ?_; refine l_mv ?_; refine e_nil ?_; refine e_fl ?_; exact e_subR hK (by repeat' first | exact trivial | refine And.intro s_t ?_) (by repeat' first | exact trivial | refine And.intro s_b ?_) (by repeat' first | exact trivial | refine And.intro rfl ?_))
            | (refine e_opi (i := 6) rfl (fun h => h) ?_; refine l_mv ?_; refine e_nil ?_; refine e_fl ?_; exact e_subR hK (by repeat' first | exact trivial | refine And.intro s_t ?_) (by repeat' first | exact trivial | refine And.intro s_b ?_) (by repeat' first | exact trivial | refine And.intro rfl ?_))
            | (refine e_opi (i := 7) rfl (fun h => h) ?_; refine e_callw rfl rfl rfl rfl (by kernel_rfl) (numOf_eg kw (by omega) s v0) trivial ⟨rfl, trivial⟩ (fun w D M V a hT => ⟨(hT 38 _ rfl).atv_of (hT 9003 _ rfl), hT 39 _ rfl, trivial⟩) YN.tidy ?_; rintro _ _ _ ⟨rfl, rfl, rfl⟩; refine e_unvpin 9003 (t := 40) rfl ?_; refine e_nil ?_; refine e_fl ?_; exact e_subR hK (by repeat' first | exact trivial | refine And.intro s_t ?_) (by repeat' first | exact trivial | refine And.intro s_b ?_) (by repeat' first | exact trivial | refine And.intro rfl ?_))
            | (refine e_opi (i := 8) rfl (fun h => h) ?_; refine e_reatv (t := 36) (s := 9001) rfl rfl ?_; refine l_op (s_own_addr rfl (kn_imp (kn rfl) (atv_own _ _)) rfl (kn rfl) ⟨by omega, by omega⟩ sle_31 esz_31) ?_; refine e_slot 36 rfl (atv_is _ _) ?_; refine e_nil ?_; refine e_fl ?_; exact e_subR hK (by repeat' first | exact trivial | refine And.intro s_t ?_) (by repeat' first | exact trivial | refine And.intro s_b ?_) (by repeat' first | exact trivial | refine And.intro rfl ?_))
            | (refine e_opi (i := 9) rfl (fun h => h) ?_; refine e_via_store1 (ds' := rw0.set j (intC (pos s kw))) rfl rfl rfl (kn rfl) rfl (kn rfl) rfl (by rw [hrl]; omega) sz_3 (by simp) ?_ rfl; refine e_nil ?_; refine e_fl ?_; exact e_subR hK (by repeat' first | exact trivial | refine And.intro s_t ?_) (by repeat' first | exact trivial | refine And.intro s_b ?_) (by repeat' first | exact trivial | refine And.intro rfl ?_))
      try refine e_fl ?_
      refine e_plain (w_op rfl rfl rfl (s_bin rfl (kn rfl) (kn rfl) (v_add64 (by first | omega | (dsimp only; omega) | omega))) (w_mv rfl rfl rfl rfl rfl .nil)) ?_
      try refine e_fl ?_
      refine e_again ⟨j + 1, by omega⟩ (by dsimp only; omega) (fun K => e_sub ⟨s_t, s_t, s_t, s_t, s_t, s_t, s_t, s_t, s_t, s_t, s_t, trivial⟩ trivial ⟨rfl, (by dsimp only; rw [← hrs]; rfl), (by dsimp only; rw [hk1]; rfl), trivial⟩)
    have hjm : m.take j = m := List.take_of_length_le (by have := of_decide_eq_false h; omega)
    rw [hjm, ← hks]
    try refine e_fl ?_
    refine e_freeze 1001 rfl rfl ?_
    refine e_hang i (s := 9001) (r := 1000) (q := 1001) rfl rfl rfl rfl (set_get (by rw [hol]; omega)) (show _ = outN L.length (numA [] (L.take (i + 1))) by rw [List.set_set, ← hfin, ← rowN_done (nums_len m _)]; rfl) ?_
    refine e_plain (w_op rfl rfl rfl (s_bin rfl (kn rfl) (kn rfl) (v_add64 (by first | omega | (dsimp only; omega) | omega))) (w_mv rfl rfl rfl rfl rfl .nil)) ?_
    try refine e_fl ?_
    refine e_again ⟨i + 1, by omega⟩ (by dsimp only; omega) (fun K => e_sub ⟨s_t, s_t, s_t, s_t, s_t, s_t, trivial⟩ trivial ⟨rfl, rfl, trivial⟩)
  try refine e_fl ?_
  refine e_freeze_slot 4 1000 rfl rfl rfl ?_
  refine e_plain (w_mv rfl rfl rfl rfl rfl (w_as rfl rfl rfl rfl rfl .nil)) ?_
  try refine e_fl ?_
  exact e_return rfl rfl (.tmp (kn rfl) (.nil)) (Imp.of_eq (by rw [List.take_of_length_le (by have := of_decide_eq_false h; omega)]; show IV.part (.one (.row 1 L.length (outN L.length (numA [] L)))) = _; rw [outN_done (numA_len L [])])) rfl
end Go.Proofs.Ytohhbpoifidbhaa
namespace Go.Proofs.Ytohhbpoifidbhaa
open Go.RowKit
set_option maxRecDepth 100000 in
theorem cnAlive_ef : EF Try.prog [] 4 [] (.part (tP true)) := by
  have hn := num_ef [[[97], [98], [97]], [[98], [99]]] ⟨by decide, by decide⟩
  rw [show numA [] [[[97], [98], [97]], [[98], [99]]] = [[0, 1, 0], [1, 2]] by decide +kernel] at hn
  have hu := unl_ef [[97], [98]] (by decide)
  rw [show unl [] [[97], [98]] = true by decide +kernel] at hu
  refine ef_enter 27 Try.func4 rfl rfl rfl fun w D => ?_
  try refine e_fl ?_
  refine e_plain (w_as rfl rfl rfl rfl rfl .nil) ?_
  try refine e_fl ?_
  refine e_plain (w_op rfl rfl rfl (s_buildSlice (ds := [_, _, _]) [(0, _), (1, _), (2, _)] rfl ⟨rfl, (kn rfl), ⟨rfl, (kn rfl), ⟨rfl, (kn rfl), trivial⟩⟩⟩ rfl sl_22 sz_9 zr_9 (fun w D => .cons (.cell _) (.cons (.cell _) (.cons (.cell _) (.nil _ _)))) rfl rfl rfl rfl rfl) (w_op rfl rfl rfl (s_buildSlice (ds := [_, _]) [(0, _), (1, _)] rfl ⟨rfl, (kn rfl), ⟨rfl, (kn rfl), trivial⟩⟩ rfl sl_22 sz_9 zr_9 (fun w D => .cons (.cell _) (.cons (.cell _) (.nil _ _))) rfl rfl rfl rfl rfl) (w_op rfl rfl rfl (s_buildSlice (ds := [_, _]) [(0, _), (1, _)] rfl ⟨rfl, (kn rfl), ⟨rfl, (kn rfl), trivial⟩⟩ rfl sl_28 sz_22 zr_22 (fun w D => .cons (.cell _) (.cons (.cell _) (.nil _ _))) rfl rfl rfl rfl rfl) (w_op rfl rfl rfl (s_call rfl (by kernel_rfl) (hn) ⟨(kn rfl), trivial⟩) (w_as rfl rfl rfl rfl rfl .nil))))) ?_
  try refine e_fl ?_
  refine e_plain (w_mv rfl rfl rfl rfl rfl (w_op rfl rfl rfl (s_len rfl (kn rfl) sle_25) (w_op rfl rfl rfl (s_bin rfl (kn rfl) (kn rfl) v_eql) (w_mv rfl rfl rfl rfl rfl (Walk.gd _ rfl rfl rfl (fun h => s_move rfl (kn rfl)) (Walk.gd _ rfl rfl rfl (fun h => s_index (f := nsD1) (qs := [[0, 1, 0], [1, 2]]) rfl (kn_opt rfl h) (kn rfl) (by omega) rfl nsD1_len sle_25 esz_25 rfl) (Walk.gd _ rfl rfl rfl (fun h => s_load1_ref rfl (kn_opt rfl h) one_31) (Walk.gd _ rfl rfl rfl (fun h => s_buildSlice (ds := [_, _, _]) [(0, _), (1, _), (2, _)] rfl ⟨rfl, (kn rfl), ⟨rfl, (kn rfl), ⟨rfl, (kn rfl), trivial⟩⟩⟩ rfl sl_31 sz_3 zr_3 (fun w D => .cons (.cell _) (.cons (.cell _) (.cons (.cell _) (.nil _ _)))) rfl rfl rfl rfl rfl) (Walk.gd _ rfl rfl rfl (fun h => s_call rfl (by kernel_rfl) (ints_self [0, 1, 0] (by decide)) ⟨(kn_opt rfl h), ⟨(kn_opt rfl h), trivial⟩⟩) (w_op rfl rfl rfl (s_and rfl (kn rfl) (fun hb => kn_opt rfl hb)) (w_mv rfl rfl rfl rfl rfl (Walk.gd _ rfl rfl rfl (fun h => s_move rfl (kn rfl)) (Walk.gd _ rfl rfl rfl (fun h => s_index (f := nsD1) (qs := [[0, 1, 0], [1, 2]]) rfl (kn_opt rfl h) (kn rfl) (by omega) rfl nsD1_len sle_25 esz_25 rfl) (Walk.gd _ rfl rfl rfl (fun h => s_load1_ref rfl (kn_opt rfl h) one_31) (Walk.gd _ rfl rfl rfl (fun h => s_buildSlice (ds := [_, _]) [(0, _), (1, _)] rfl ⟨rfl, (kn rfl), ⟨rfl, (kn rfl), trivial⟩⟩ rfl sl_31 sz_3 zr_3 (fun w D => .cons (.cell _) (.cons (.cell _) (.nil _ _))) rfl rfl rfl rfl rfl) (Walk.gd _ rfl rfl rfl (fun h => s_call rfl (by kernel_rfl) (ints_self [1, 2] (by decide)) ⟨(kn_opt rfl h), ⟨(kn_opt rfl h), trivial⟩⟩) (w_op rfl rfl rfl (s_and rfl (kn rfl) (fun hb => kn_opt rfl hb)) (w_mv rfl rfl rfl rfl rfl (Walk.gd _ rfl rfl rfl (fun h => s_buildSlice (ds := [_, _]) [(0, _), (1, _)] rfl ⟨rfl, (kn rfl), ⟨rfl, (kn rfl), trivial⟩⟩ rfl sl_22 sz_9 zr_9 (fun w D => .cons (.cell _) (.cons (.cell _) (.nil _ _))) rfl rfl rfl rfl rfl) (Walk.gd _ rfl rfl rfl (fun h => s_call rfl (by kernel_rfl) (hu) ⟨(kn_opt rfl h), trivial⟩) (w_op rfl rfl rfl (s_and rfl (kn rfl) (fun hb => kn_opt rfl hb)) (w_as rfl rfl rfl rfl rfl .nil)))))))))))))))))))))) ?_
  try refine e_fl ?_
  exact e_return rfl rfl (.tmp (kn rfl) (.nil)) (tP_eq rfl) rfl
theorem longB_no {l : List Tx} {m n : Nat} (h : longB l m n = false) : l.length ≤ m := by
  unfold longB at h
  simp only [Bool.or_eq_false_iff, decide_eq_false_iff_not] at h
  omega
set_option maxRecDepth 100000 in
set_option maxHeartbeats 1000000 in
theorem cnums_ef (a b c : List Tx) : EF Try.prog [] 3 [.one (txD a), .one (txD b), .one (txD c)] (.part (tP true)) := by
  refine ef_enter 63 Try.func3 rfl rfl rfl fun w D => ?_
  try refine e_fl ?_
  refine e_plain (w_as rfl rfl rfl rfl rfl .nil) ?_
  try refine e_fl ?_
  refine e_plain (w_op rfl rfl rfl (s_call rfl (by kernel_rfl) (cnAlive_ef) trivial) (w_op rfl rfl rfl (s_not rfl (kn rfl)) .nil)) ?_
  try refine e_fl ?_
  refine c_no ?_
  try refine e_fl ?_
  refine e_plain (w_mv rfl rfl rfl rfl rfl (w_op rfl rfl rfl (s_call rfl (by kernel_rfl) (long_ef a 40 40 (by decide)) ⟨(kn rfl), ⟨(kn rfl), ⟨(kn rfl), trivial⟩⟩⟩) (w_mv rfl rfl rfl rfl rfl (Walk.gd _ rfl rfl rfl (fun h => s_move rfl (kn rfl)) (Walk.gd _ rfl rfl rfl (fun h => s_call rfl (by kernel_rfl) (long_ef b 40 40 (by decide)) ⟨(kn_opt rfl h), ⟨(kn rfl), ⟨(kn rfl), trivial⟩⟩⟩) (w_op rfl rfl rfl (s_or rfl (kn rfl) (fun hb => kn_opt rfl hb)) (w_mv rfl rfl rfl rfl rfl (Walk.gd _ rfl rfl rfl (fun h => s_move rfl (kn rfl)) (Walk.gd _ rfl rfl rfl (fun h => s_call rfl (by kernel_rfl) (long_ef c 40 40 (by decide)) ⟨(kn_opt rfl h), ⟨(kn rfl), ⟨(kn rfl), trivial⟩⟩⟩) (w_op rfl rfl rfl (s_or rfl (kn rfl) (fun hb => kn_opt rfl hb)) .nil)))))))))) ?_
  try refine e_fl ?_
  refine e_cond rfl (fun h1 => ?_) (fun h1 => ?_)
  · try refine e_fl ?_
    refine e_plain (w_as rfl rfl rfl rfl rfl .nil) ?_
    try refine e_fl ?_
    exact e_return rfl rfl (.tmp (kn rfl) (.nil)) (tP_eq rfl) rfl
  simp only [Bool.or_eq_false_iff] at h1
  have ha := longB_no h1.1.1
  have hb := longB_no h1.1.2
  have hc := longB_no h1.2
  have hF : Few [a, b, c] := ⟨by simp, by
    intro m hm
    simp only [List.mem_cons, List.not_mem_nil, or_false] at hm
    rcases hm with rfl | rfl | rfl <;> omega⟩
  have hlen : (numA [] [a, b, c]).length = 3 := numA_len _ _
  have hrow : ∀ x ∈ numA [] [a, b, c], x.length ≤ 1000000 := by
    intro x hx
    simp only [numA, List.mem_cons, List.not_mem_nil, or_false] at hx
    rcases hx with rfl | rfl | rfl <;> rw [nums_len] <;> omega
  have hn := num_ef [a, b, c] hF
  have hr := refNum_ef [a, b, c] hF
  generalize numA [] [a, b, c] = N at hlen hrow hn hr
  try refine e_fl ?_
  refine e_plain (w_mv rfl rfl rfl rfl rfl (w_mv rfl rfl rfl rfl rfl (w_mv rfl rfl rfl rfl rfl (w_op rfl rfl rfl (s_buildSlice (ds := [_, _, _]) [(0, _), (1, _), (2, _)] rfl ⟨rfl, (kn rfl), ⟨rfl, (kn rfl), ⟨rfl, (kn rfl), trivial⟩⟩⟩ rfl sl_28 sz_22 zr_22 (fun w D => .cons (.cell _) (.cons (.cell _) (.cons (.cell _) (.nil _ _)))) rfl rfl rfl rfl rfl) (w_op rfl rfl rfl (s_call rfl (by kernel_rfl) (hn) ⟨(kn rfl), trivial⟩) (w_as rfl rfl rfl rfl rfl .nil)))))) ?_
  try refine e_fl ?_
  refine e_plain (w_mv rfl rfl rfl rfl rfl (w_mv rfl rfl rfl rfl rfl (w_mv rfl rfl rfl rfl rfl (w_op rfl rfl rfl (s_buildSlice (ds := [_, _, _]) [(0, _), (1, _), (2, _)] rfl ⟨rfl, (kn rfl), ⟨rfl, (kn rfl), ⟨rfl, (kn rfl), trivial⟩⟩⟩ rfl sl_28 sz_22 zr_22 (fun w D => .cons (.cell _) (.cons (.cell _) (.cons (.cell _) (.nil _ _)))) rfl rfl rfl rfl rfl) (w_op rfl rfl rfl (s_call rfl (by kernel_rfl) (hr) ⟨(kn rfl), trivial⟩) (w_as rfl rfl rfl rfl rfl .nil)))))) ?_
  try refine e_fl ?_
  refine e_plain (w_mv rfl rfl rfl rfl rfl (w_op rfl rfl rfl (s_len rfl (kn rfl) sle_25) (w_op rfl rfl rfl (s_bin rfl (kn rfl) (kn rfl) v_neq) (w_mv rfl rfl rfl rfl rfl (Walk.gd _ rfl rfl rfl (fun h => s_call rfl (by kernel_rfl) (num_ef [] ⟨by decide, fun _ h => absurd h List.not_mem_nil⟩) ⟨kn_imp (kn rfl) (Imp.nil 1), trivial⟩) (Walk.gd _ rfl rfl rfl (fun h => s_len rfl (kn_opt rfl h) sle_25) (Walk.gd _ rfl rfl rfl (fun h => s_bin rfl (kn_opt rfl h) (kn rfl) v_neq) (w_op rfl rfl rfl (s_or rfl (kn rfl) (fun hb => kn_opt rfl hb)) (w_mv rfl rfl rfl rfl rfl (Walk.gd _ rfl rfl rfl (fun h => s_move rfl (kn rfl)) (Walk.gd _ rfl rfl rfl (fun h => s_call rfl (by kernel_rfl) (unl_ef a (by omega)) ⟨(kn_opt rfl h), trivial⟩) (Walk.gd _ rfl rfl rfl (fun h => s_move rfl (kn rfl)) (Walk.gd _ rfl rfl rfl (fun h => s_call rfl (by kernel_rfl) (refUnl_ef a (by omega)) ⟨(kn_opt rfl h), trivial⟩) (Walk.gd _ rfl rfl rfl (fun h => s_bin rfl (kn_opt rfl h) (kn_opt rfl h) (v_bne bool_4)) (w_op rfl rfl rfl (s_or rfl (kn rfl) (fun hb => kn_opt rfl hb)) .nil))))))))))))))) ?_
  try refine e_fl ?_
  refine e_cond rfl (fun h => absurd h (by rw [hlen]; simp [numA])) (fun _ => ?_)
  try refine e_fl ?_
  refine e_plain (w_mv rfl rfl rfl rfl rfl (w_op rfl rfl rfl (s_len rfl (kn rfl) sle_25) (w_mv rfl rfl rfl rfl rfl .nil))) ?_
  try refine e_fl ?_
  refine e_loop (ι := { k : Nat // k ≤ N.length })
    (fun k => [(7, .part (.one (nssD N))), (8, .part (.one (nssD N))), (48, inti (N.length : Int)), (49, inti (k.1 : Int))])
    (fun _ => []) (fun _ => []) (fun k => N.length - k.1) ⟨0, by omega⟩
    (fun K => e_sub ⟨s_t, s_t, s_t, s_t, trivial⟩ trivial trivial) ?_
  rintro ⟨k, hk⟩
  dsimp only at hk ⊢
  try refine e_fl ?_
  refine e_plain (w_op rfl rfl rfl (s_bin rfl (kn rfl) (kn rfl) v_lss) .nil) ?_
  try refine e_fl ?_
  refine e_cond rfl (fun h => ?_) (fun h => ?_)
  · have hlt : k < N.length := by have := of_decide_eq_true h; omega
    obtain ⟨x, hx⟩ : ∃ x, N[k]? = some x := ⟨_, List.getElem?_eq_getElem hlt⟩
    try refine e_fl ?_
    refine e_plain (w_mv rfl rfl rfl rfl rfl (w_as rfl rfl rfl rfl rfl .nil)) ?_
    try refine e_fl ?_
    refine e_draw mixed (by kernel_rfl) (w_mv rfl rfl rfl rfl rfl (w_mv rfl rfl rfl rfl rfl (w_op rfl rfl rfl (s_index rfl (kn rfl) (kn rfl) (by omega) hx nsD1_len sle_25 esz_25 rfl) (w_op rfl rfl rfl (s_load1_ref rfl (kn rfl) one_31) (w_mv rfl rfl rfl rfl rfl (w_mv rfl rfl rfl rfl rfl (w_op rfl rfl rfl (s_index rfl (kn rfl) (kn rfl) (by omega) hx nsD1_len sle_25 esz_25 rfl) (w_op rfl rfl rfl (s_load1_ref rfl (kn rfl) one_31) (w_op rfl rfl rfl (s_call rfl (by kernel_rfl) (ints_self x (hrow x (List.mem_of_getElem? hx))) ⟨(kn rfl), ⟨(kn rfl), trivial⟩⟩) (w_op rfl rfl rfl (s_not rfl (kn rfl)) .nil)))))))))) ?_
    try refine e_fl ?_
    refine c_no ?_
    try refine e_fl ?_
    refine e_plain (w_op rfl rfl rfl (s_bin rfl (kn rfl) (kn rfl) (v_add64 (by first | omega | (dsimp only; omega) | omega))) (w_mv rfl rfl rfl rfl rfl .nil)) ?_
    try refine e_fl ?_
    refine e_again ⟨k + 1, by omega⟩ (by dsimp only; omega) (fun K => e_sub ⟨s_t, s_t, s_t, s_t, trivial⟩ trivial trivial)
  try refine e_fl ?_
  refine e_plain (w_as rfl rfl rfl rfl rfl .nil) ?_
  try refine e_fl ?_
  exact e_return rfl rfl (.tmp (kn rfl) (.nil)) (tP_eq rfl) rfl
end Go.Proofs.Ytohhbpoifidbhaa
