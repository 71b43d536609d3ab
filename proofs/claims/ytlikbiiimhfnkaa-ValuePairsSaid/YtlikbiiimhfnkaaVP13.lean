/- Part 13 of what the last text of this claim is proved by: walks over the program, and the math behind them. Conditions: as each theorem says. -/
import Derived.Test.YtlikbiiimhfnkaaVP12
import Derived.Test.YtlikbiiimhfnkaaProg
import Derived.Laws.Entries
import Derived.Laws.Small
namespace Go.Proofs.Ytlikbiiimhfnkaa
open Go
def wgo (n : Int) (x : Vl) : Bool → List (Int × Vl) → List (Int × Vl)
  | d, [] => if d then [] else [(n, x)]
  | d, f :: fs => if d = false ∧ n ≤ f.1 then (n, x) :: (if f.1 = n then wgo n x true fs else f :: wgo n x true fs) else if f.1 = n then wgo n x d fs else f :: wgo n x d fs
theorem wgo_fold (n : Int) (x : Vl) : ∀ (fs : List (Int × Vl)) (d : Bool) (acc : List (Int × Vl)),
    (if (fs.foldl (fun s f => wtwo n (wone n x s f) f) (d, acc)).1 then (fs.foldl (fun s f => wtwo n (wone n x s f) f) (d, acc)).2 else (fs.foldl (fun s f => wtwo n (wone n x s f) f) (d, acc)).2 ++ [(n, x)]) = acc ++ wgo n x d fs
  | [], d, acc => by cases d <;> simp [wgo]
  | f :: fs, d, acc => by
    rw [List.foldl_cons, wgo]
    by_cases h : d = false ∧ n ≤ f.1
    · have e : wone n x (d, acc) f = (true, acc ++ [(n, x)]) := if_pos h
      rw [e, if_pos h]
      by_cases h2 : f.1 = n
      · rw [show wtwo n (true, acc ++ [(n, x)]) f = (true, acc ++ [(n, x)]) from if_pos h2, if_pos h2, wgo_fold n x fs]
        simp
      · rw [show wtwo n (true, acc ++ [(n, x)]) f = (true, acc ++ [(n, x)] ++ [f]) from if_neg h2, if_neg h2, wgo_fold n x fs]
        simp
    · have e : wone n x (d, acc) f = (d, acc) := if_neg h
      rw [e, if_neg h]
      by_cases h2 : f.1 = n
      · rw [show wtwo n (d, acc) f = (d, acc) from if_pos h2, if_pos h2, wgo_fold n x fs]
      · rw [show wtwo n (d, acc) f = (d, acc ++ [f]) from if_neg h2, if_neg h2, wgo_fold n x fs]
        simp
theorem wfields_go (n : Int) (x : Vl) (fs : List (Int × Vl)) : wfields n x fs = wgo n x (decide (x.kind = 0)) fs := by
  have h := wgo_fold n x fs (decide (x.kind = 0)) []
  rw [List.nil_append] at h
  exact h
theorem fright_iff (p : Int) (f : Int × Vl) (fs : List (Int × Vl)) : fright p (f :: fs) = true ↔ 1 ≤ f.1 ∧ f.1 ≤ 536870911 ∧ p < f.1 ∧ f.2.kind ≠ 0 ∧ vright f.2 = true ∧ fright f.1 fs = true := by
  obtain ⟨n, x⟩ := f
  rw [fright]
  simp only [Bool.and_eq_true, decide_eq_true_eq, and_assoc]
end Go.Proofs.Ytlikbiiimhfnkaa
namespace Go.Proofs.Ytlikbiiimhfnkaa
open Go.RowKit
theorem nor {a b : Bool} (h : (!(a || b)) = true) : a = false ∧ b = false := by cases a <;> cases b <;> simp_all
theorem nor2 {a b : Bool} (h : (a || b) = false) : a = false ∧ b = false := by cases a <;> cases b <;> simp_all
end Go.Proofs.Ytlikbiiimhfnkaa
namespace Go.Proofs.Ytlikbiiimhfnkaa
open Go
theorem ptwo_mem {key : Vl} {s : Bool × List (Vl × Vl)} {f p : Vl × Vl} (h : p ∈ (ptwo key s f).2) : p ∈ s.2 ∨ p = f := by
  unfold ptwo at h
  split at h
  · exact .inl h
  · simpa using h
theorem pone_mem {key x : Vl} {s : Bool × List (Vl × Vl)} {f p : Vl × Vl} (h : p ∈ (pone key x s f).2) : p ∈ s.2 ∨ p = (key, x) := by
  unfold pone at h
  split at h
  · simpa using h
  · exact .inl h
theorem pgo_mem {key x : Vl} {p : Vl × Vl} : ∀ {fs : List (Vl × Vl)} {s : Bool × List (Vl × Vl)}, p ∈ (fs.foldl (fun s f => ptwo key (pone key x s f) f) s).2 → p ∈ s.2 ∨ p ∈ fs ∨ p = (key, x)
  | [], s, h => .inl h
  | f :: fs, s, h => by
    rw [List.foldl_cons] at h
    rcases pgo_mem h with h | h | h
    · rcases ptwo_mem h with h | h
      · rcases pone_mem h with h | h
        · exact .inl h
        · exact .inr (.inr h)
      · exact .inr (.inl (h ▸ List.mem_cons_self))
    · exact .inr (.inl (List.mem_cons_of_mem _ h))
    · exact .inr (.inr h)
theorem ppairs_mem {key x : Vl} {fs : List (Vl × Vl)} {p : Vl × Vl} (h : p ∈ ppairs key x fs) : p ∈ fs ∨ p = (key, x) := by
  unfold ppairs at h
  have k : p ∈ (pfold key x fs).2 → p ∈ fs ∨ p = (key, x) := fun h => by
    rcases pgo_mem h with h | h
    · cases h
    · exact h
  split at h
  · exact k h
  · rcases List.mem_append.1 h with h | h
    · exact k h
    · exact .inr (by simpa using h)
theorem pnodes_append : ∀ a b : List (Vl × Vl), pnodes (a ++ b) = pnodes a + pnodes b
  | [], b => by simp [pnodes]
  | (k, x) :: a, b => by rw [List.cons_append, pnodes, pnodes, pnodes_append a b]; omega
theorem pnodes_one (p : Vl × Vl) : pnodes [p] = vnodes p.1 + vnodes p.2 := by
  obtain ⟨k, x⟩ := p
  rw [pnodes, pnodes]
  rfl
def pdue (key x : Vl) (s : Bool × List (Vl × Vl)) : Nat := pnodes s.2 + if s.1 then 0 else vnodes key + vnodes x
theorem pone_due (key x : Vl) (s : Bool × List (Vl × Vl)) (f : Vl × Vl) : pdue key x (pone key x s f) ≤ pdue key x s := by
  unfold pone
  split
  · rename_i h
    unfold pdue
    rw [h.1, if_pos rfl, if_neg Bool.false_ne_true, pnodes_append, pnodes_one]
    dsimp only
    omega
  · exact Nat.le_refl _
theorem ptwo_due (key x : Vl) (s : Bool × List (Vl × Vl)) (f : Vl × Vl) : pdue key x (ptwo key s f) ≤ pdue key x s + vnodes f.1 + vnodes f.2 := by
  unfold ptwo
  split
  · omega
  · unfold pdue
    rw [pnodes_append, pnodes_one]
    dsimp only
    omega
theorem pgo_due (key x : Vl) : ∀ (fs : List (Vl × Vl)) (s : Bool × List (Vl × Vl)), pdue key x (fs.foldl (fun s f => ptwo key (pone key x s f) f) s) ≤ pdue key x s + pnodes fs
  | [], s => by simp [pnodes]
  | (k, y) :: fs, s => by
    rw [List.foldl_cons, pnodes]
    have h1 := pgo_due key x fs (ptwo key (pone key x s (k, y)) (k, y))
    have h2 := ptwo_due key x (pone key x s (k, y)) (k, y)
    have h3 := pone_due key x s (k, y)
    dsimp only at h2
    omega
theorem ppairs_nodes (key x : Vl) (fs : List (Vl × Vl)) : pnodes (ppairs key x fs) ≤ pnodes fs + (vnodes key + vnodes x) := by
  have h := pgo_due key x fs (decide (x.kind = 0), [])
  have h0 : pdue key x (decide (x.kind = 0), []) ≤ vnodes key + vnodes x := by
    unfold pdue
    rw [pnodes]
    split <;> omega
  unfold ppairs pfold
  unfold pdue at h h0
  split
  · rename_i hd
    rw [if_pos hd] at h
    omega
  · rename_i hd
    rw [if_neg hd] at h
    rw [pnodes_append, pnodes_one]
    dsimp only
    omega
theorem put_nodes (v key x : Vl) : vnodes (vput v key x) ≤ vnodes v + (vnodes key + vnodes x) := by
  unfold vput
  split
  · have h := ppairs_nodes key x v.pairs
    rw [vnodes_eq, vnodes_eq v, Vl.fields_mk, Vl.list_mk, Vl.pairs_mk, lnodes, fnodes]
    omega
  · omega
theorem tx_pair {v : Vl} (h : v.Tx) {p : Vl × Vl} (hp : p ∈ v.pairs) : p.1.Tx ∧ p.2.Tx := ⟨h.kid (kids_mem.2 (gkids_pair hp).1), h.kid (kids_mem.2 (gkids_pair hp).2)⟩
theorem put_good {v key x : Vl} (hv : v.Good) (hk : key.Good) (hx : x.Good) (hn : vnodes v + (vnodes key + vnodes x) ≤ 1000) : (vput v key x).Good := by
  have hN := put_nodes v key x
  refine ⟨?_, ?_, by omega⟩
  · unfold vput
    split
    · have hl : (ppairs key x v.pairs).length ≤ maxLen := by
        have h1 := pnodes_len (ppairs key x v.pairs)
        have h2 := ppairs_nodes key x v.pairs
        have h3 := vnodes_eq v
        have : (1000000 : Nat) ≤ maxLen := by decide
        omega
      have hkd : ∀ b : Int, b = 5 ∨ b = 0 → -9223372036854775808 ≤ b ∧ b < 9223372036854775808 := fun b h => by omega
      have hkk := hkd (if 0 < (ppairs key x v.pairs).length then 5 else 0) (by split <;> simp)
      exact .mk _ hkk.1 hkk.2 (by simp [Vl.num_mk]) (Nat.zero_le _) (Nat.zero_le _) (Nat.zero_le _) (Nat.zero_le _) hl (fun _ h => by cases h) (fun _ h => by cases h) (fun _ h => by cases h) (fun p hp => by
        rcases ppairs_mem hp with h | h
        · exact (hv.fine.pair h).1
        · rw [h]; exact hk.fine) (fun p hp => by
        rcases ppairs_mem hp with h | h
        · exact (hv.fine.pair h).2
        · rw [h]; exact hx.fine)
    · exact hv.fine
  · unfold vput
    split
    · refine .mk _ (Nat.zero_le _) (Nat.zero_le _) fun y hy => ?_
      unfold rkids gpairs at hy
      simp only [Vl.list_mk, Vl.fields_mk, Vl.pairs_mk, List.nil_append, List.map_nil] at hy
      obtain ⟨p, hp, hy⟩ := List.mem_flatMap.1 hy
      have hq : p.1.Tx ∧ p.2.Tx := by
        rcases ppairs_mem hp with h | h
        · exact tx_pair hv.tx h
        · rw [h]; exact ⟨hk.tx, hx.tx⟩
      simp only [List.mem_cons, List.not_mem_nil, or_false] at hy
      rcases hy with rfl | rfl
      · exact hq.1
      · exact hq.2
    · exact hv.tx
theorem good_find {v : Vl} (key : Vl) (h : v.Good) : (vfind v key).Good := by
  have h0 : Vl.zero.Good := good_zero 0 0 (by decide) (by decide) (by decide)
  unfold vfind
  split
  · cases hf : v.pairs.find? fun p => vcmp p.1 key == 0 with
    | none => exact h0
    | some f =>
      have hm := List.mem_of_find?_eq_some hf
      have hn := lnodes_mem (gkids_pair hm).2
      have hg := gnodes v
      have hv := h.nodes
      exact ⟨(h.fine.pair hm).2, (tx_pair h.tx hm).2, show vnodes f.2 ≤ 1000 by omega⟩
  · exact h0
theorem str_cmp (s : List UInt8) (key : Vl) : decide (vcmp (vstr s) key = 0) = (decide (key.kind = 2) && decide (key.text = s)) := by
  have e : vcmp (vstr s) key = lex (icmp 2 key.kind) (tcmp s key.text) := by rw [vcmp_eq]; rfl
  rw [e]
  by_cases h1 : key.kind = 2
  · rw [h1, lex_eq (icmp_eq rfl), decide_eq_true (rfl : (2 : Int) = 2), Bool.true_and]
    by_cases h2 : key.text = s
    · rw [h2, decide_eq_true (rfl : s = s)]
      exact decide_eq_true (by have := tcmp_neg s s; omega)
    · rw [decide_eq_false h2]
      exact decide_eq_false fun h => h2 (tcmp_zero h).symm
  · rw [decide_eq_false h1, Bool.false_and]
    refine decide_eq_false fun h => h1 ?_
    exact (icmp_zero (lex_zero h).1).symm
end Go.Proofs.Ytlikbiiimhfnkaa
namespace Go.Proofs.Ytlikbiiimhfnkaa
open Go.RowKit
set_option maxRecDepth 100000 in
set_option maxHeartbeats 4000000 in
theorem pairs_ef (hP : ProgE) (v key x : Vl) (hv : v.Fine) (hk : key.Fine) (hx : x.Fine) : EF Try.prog [] 6 [.many (vd v), .many (vd key), .many (vd x)] (.part (tP true)) := by
  refine ef_enter 92 Try.func6 rfl rfl rfl fun w D => ?_
  try refine e_fl ?_
  refine e_list ?_
  refine e_box 3 rfl rfl rfl rfl (kn rfl) rfl rfl rfl rfl ?_
  refine e_box 4 rfl rfl rfl rfl (kn rfl) rfl rfl rfl rfl ?_
  refine e_box 5 rfl rfl rfl rfl (kn rfl) rfl rfl rfl rfl ?_
  refine l_as ?_
  refine e_nil ?_
  try refine e_fl ?_
  refine e_plain (w_op rfl rfl rfl (s_call rfl (by kernel_rfl) (alive_ef hP) trivial) (w_op rfl rfl rfl (s_not rfl (kn rfl)) .nil)) ?_
  try refine e_fl ?_
  refine c_no ?_
  try refine e_fl ?_
  refine e_plain (w_op rfl rfl rfl (s_loadn_box (ds := [_, _, _, _, _, _, _]) 7 rfl (kn rfl) rfl rfl agg_27 sz_27 rfl) (w_op rfl rfl rfl (s_call rfl (by kernel_rfl) (big_ef v 100 hv (by decide) (by decide)) ⟨(kn rfl), ⟨(kn rfl), trivial⟩⟩) (w_mv rfl rfl rfl rfl rfl (Walk.gd _ rfl rfl rfl (fun h => s_loadn_box (ds := [_, _, _, _, _, _, _]) 7 rfl (kn rfl) rfl rfl agg_27 sz_27 rfl) (Walk.gd _ rfl rfl rfl (fun h => s_call rfl (by kernel_rfl) (big_ef x 100 hx (by decide) (by decide)) ⟨(kn_opt rfl h), ⟨(kn rfl), trivial⟩⟩) (w_op rfl rfl rfl (s_or rfl (kn rfl) (fun hb => kn_opt rfl hb)) (w_mv rfl rfl rfl rfl rfl (Walk.gd _ rfl rfl rfl (fun h => s_loadn_box (ds := [_, _, _, _, _, _, _]) 7 rfl (kn rfl) rfl rfl agg_27 sz_27 rfl) (Walk.gd _ rfl rfl rfl (fun h => s_call rfl (by kernel_rfl) (big_ef key 100 hk (by decide) (by decide)) ⟨(kn_opt rfl h), ⟨(kn rfl), trivial⟩⟩) (w_op rfl rfl rfl (s_or rfl (kn rfl) (fun hb => kn_opt rfl hb)) (w_mv rfl rfl rfl rfl rfl (Walk.gd _ rfl rfl rfl (fun h => s_loadn_box (ds := [_, _, _, _, _, _, _]) 7 rfl (kn rfl) rfl rfl agg_27 sz_27 rfl) (Walk.gd _ rfl rfl rfl (fun h => s_call rfl (by kernel_rfl) (hP.right v (good_of hv (by decide) (by decide) (nor2 (nor h).1).1)) ⟨(kn_opt rfl h), trivial⟩) (Walk.gd _ rfl rfl rfl (fun h => s_not rfl (kn_opt rfl h)) (w_op rfl rfl rfl (s_or rfl (kn rfl) (fun hb => kn_opt rfl hb)) (w_mv rfl rfl rfl rfl rfl (Walk.gd _ rfl rfl rfl (fun h => s_loadn_box (ds := [_, _, _, _, _, _, _]) 7 rfl (kn rfl) rfl rfl agg_27 sz_27 rfl) (Walk.gd _ rfl rfl rfl (fun h => s_call rfl (by kernel_rfl) (hP.right x (good_of hx (by decide) (by decide) (nor2 (nor2 (nor h).1).1).2)) ⟨(kn_opt rfl h), trivial⟩) (Walk.gd _ rfl rfl rfl (fun h => s_not rfl (kn_opt rfl h)) (w_op rfl rfl rfl (s_or rfl (kn rfl) (fun hb => kn_opt rfl hb)) (w_mv rfl rfl rfl rfl rfl (Walk.gd _ rfl rfl rfl (fun h => s_loadn_box (ds := [_, _, _, _, _, _, _]) 7 rfl (kn rfl) rfl rfl agg_27 sz_27 rfl) (Walk.gd _ rfl rfl rfl (fun h => s_call rfl (by kernel_rfl) (hP.right key (good_of hk (by decide) (by decide) (nor2 (nor2 (nor h).1).1).2)) ⟨(kn_opt rfl h), trivial⟩) (Walk.gd _ rfl rfl rfl (fun h => s_not rfl (kn_opt rfl h)) (w_op rfl rfl rfl (s_or rfl (kn rfl) (fun hb => kn_opt rfl hb)) .nil))))))))))))))))))))))))) ?_
  try refine e_fl ?_
  refine e_cond rfl (fun h => ?_) (fun h => ?_)
  · try refine e_fl ?_
    refine e_plain (w_as rfl rfl rfl rfl rfl .nil) ?_
    try refine e_fl ?_
    exact e_return rfl rfl (.tmp (kn rfl) (.nil)) (Imp.of_eq rfl) rfl
  simp only [Bool.or_eq_false_iff, Bool.not_eq_false'] at h
  obtain ⟨⟨⟨⟨⟨g1, g2⟩, g3⟩, g4⟩, g5⟩, g6⟩ := h
  have qv := good_of hv (by decide) (by decide) g1
  have qx := good_of hx (by decide) (by decide) g2
  have qk := good_of hk (by decide) (by decide) g3
  have nv := (vbig_no (by decide) g1).1
  have nx := (vbig_no (by decide) g2).1
  have nk := (vbig_no (by decide) g3).1
  have qw := put_good qv qk qx (by omega)
  have hvl : v.pairs.length ≤ 1000000 := by have := pnodes_len v.pairs; have := vnodes_eq v; omega
  have ov := of_ef v (by omega)
  have ox := of_ef x (by omega)
  have ok := of_ef key (by omega)
  have ow := of_ef (vput v key x) (by have := qw.nodes; omega)
  have qf := good_find key qv
  have of_ := of_ef (vfind v key) (by have := qf.nodes; omega)
  clear g1 g2 g3
  try refine e_fl ?_
  refine e_list ?_
  refine l_op (s_loadn_box (ds := [_, _, _, _, _, _, _]) 7 rfl (kn rfl) rfl rfl agg_27 sz_27 rfl) ?_
  refine l_op (s_call rfl (by kernel_rfl) (ov) ⟨(kn rfl), trivial⟩) ?_
  refine e_alloc 7 [.is (.int .i64 0), .is (.int .u64 0), .is (.string ⟨#[]⟩), .is (.slice none 0 0), .is (.string ⟨#[]⟩), .is (.slice none 0 0), .is (.slice none 0 0)] rfl rfl rfl rfl zr_34 (fun w D M V => ⟨rfl, fun j x v h1 h2 => cfit_is _ h1 h2 rfl⟩) rfl rfl rfl rfl ?_
  refine e_storew rfl rfl rfl (kn rfl) rfl (kn rfl) rfl rfl sz_34 ?_
  refine e_nil ?_
  try refine e_fl ?_
  refine e_list ?_
  refine l_op (s_loadn_box (ds := [_, _, _, _, _, _, _]) 7 rfl (kn rfl) rfl rfl agg_27 sz_27 rfl) ?_
  refine l_op (s_loadn_box (ds := [_, _, _, _, _, _, _]) 7 rfl (kn rfl) rfl rfl agg_27 sz_27 rfl) ?_
  refine l_op (s_loadn_box (ds := [_, _, _, _, _, _, _]) 7 rfl (kn rfl) rfl rfl agg_27 sz_27 rfl) ?_
  refine l_op (s_call rfl (by kernel_rfl) (hP.put v key x qv qk qx g4) ⟨(kn rfl), ⟨(kn rfl), ⟨(kn rfl), trivial⟩⟩⟩) ?_
  refine e_alloc 8 [.is (.int .i64 0), .is (.int .u64 0), .is (.string ⟨#[]⟩), .is (.slice none 0 0), .is (.string ⟨#[]⟩), .is (.slice none 0 0), .is (.slice none 0 0)] rfl rfl rfl rfl zr_27 (fun w D M V => ⟨rfl, fun j x v h1 h2 => cfit_is _ h1 h2 rfl⟩) rfl rfl rfl rfl ?_
  refine e_storew rfl rfl rfl (kn rfl) rfl (kn rfl) rfl rfl sz_27 ?_
  refine e_nil ?_
  try refine e_fl ?_
  refine e_draw mixed (by kernel_rfl) (w_op rfl rfl rfl (s_loadn_box (ds := [_, _, _, _, _, _, _]) 7 rfl (kn rfl) rfl rfl agg_27 sz_27 rfl) (w_op rfl rfl rfl (s_call rfl (by kernel_rfl) (ow) ⟨(kn rfl), trivial⟩) (w_op rfl rfl rfl (s_loadn_box (ds := [_, _, _, _, _, _, _]) 7 rfl (kn rfl) rfl rfl agg_34 sz_34 rfl) (w_op rfl rfl rfl (s_loadn_box (ds := [_, _, _, _, _, _, _]) 7 rfl (kn rfl) rfl rfl agg_27 sz_27 rfl) (w_op rfl rfl rfl (s_call rfl (by kernel_rfl) (ok) ⟨(kn rfl), trivial⟩) (w_op rfl rfl rfl (s_loadn_box (ds := [_, _, _, _, _, _, _]) 7 rfl (kn rfl) rfl rfl agg_27 sz_27 rfl) (w_op rfl rfl rfl (s_call rfl (by kernel_rfl) (ox) ⟨(kn rfl), trivial⟩) (w_op rfl rfl rfl (s_call rfl (by kernel_rfl) (put_ef v key x hv hk hvl) ⟨(kn rfl), ⟨(kn rfl), ⟨(kn rfl), trivial⟩⟩⟩) (w_op rfl rfl rfl (s_call rfl (by kernel_rfl) (same_ef (vput v key x) (vput v key x) qw.fine qw.fine) ⟨(kn rfl), ⟨(kn rfl), trivial⟩⟩) (w_mv rfl rfl rfl rfl rfl (Walk.gd _ rfl rfl rfl (fun h => s_loadn_box (ds := [_, _, _, _, _, _, _]) 7 rfl (kn rfl) rfl rfl agg_27 sz_27 rfl) (Walk.gd _ rfl rfl rfl (fun h => s_loadn_box (ds := [_, _, _, _, _, _, _]) 7 rfl (kn rfl) rfl rfl agg_27 sz_27 rfl) (Walk.gd _ rfl rfl rfl (fun h => s_call rfl (by kernel_rfl) (hP.find v key qv qk g4) ⟨(kn_opt rfl h), ⟨(kn_opt rfl h), trivial⟩⟩) (Walk.gd _ rfl rfl rfl (fun h => s_call rfl (by kernel_rfl) (of_) ⟨(kn_opt rfl h), trivial⟩) (Walk.gd _ rfl rfl rfl (fun h => s_loadn_box (ds := [_, _, _, _, _, _, _]) 7 rfl (kn rfl) rfl rfl agg_34 sz_34 rfl) (Walk.gd _ rfl rfl rfl (fun h => s_loadn_box (ds := [_, _, _, _, _, _, _]) 7 rfl (kn rfl) rfl rfl agg_27 sz_27 rfl) (Walk.gd _ rfl rfl rfl (fun h => s_call rfl (by kernel_rfl) (ok) ⟨(kn_opt rfl h), trivial⟩) (Walk.gd _ rfl rfl rfl (fun h => s_call rfl (by kernel_rfl) (find_ef v key hv hk) ⟨(kn_opt rfl h), ⟨(kn_opt rfl h), trivial⟩⟩) (Walk.gd _ rfl rfl rfl (fun h => s_call rfl (by kernel_rfl) (same_ef (vfind v key) (vfind v key) qf.fine qf.fine) ⟨(kn_opt rfl h), ⟨(kn_opt rfl h), trivial⟩⟩) (w_op rfl rfl rfl (s_and rfl (kn rfl) (fun hb => kn_opt rfl hb)) (w_mv rfl rfl rfl rfl rfl (Walk.gd _ rfl rfl rfl (fun h => s_loadn_box (ds := [_, _, _, _, _, _, _]) 7 rfl (kn rfl) rfl rfl agg_27 sz_27 rfl) (Walk.gd _ rfl rfl rfl (fun h => s_call rfl (by kernel_rfl) (ov) ⟨(kn_opt rfl h), trivial⟩) (Walk.gd _ rfl rfl rfl (fun h => s_loadn_box (ds := [_, _, _, _, _, _, _]) 7 rfl (kn rfl) rfl rfl agg_34 sz_34 rfl) (Walk.gd _ rfl rfl rfl (fun h => s_call rfl (by kernel_rfl) (same_ef v v hv hv) ⟨(kn_opt rfl h), ⟨(kn_opt rfl h), trivial⟩⟩) (w_op rfl rfl rfl (s_and rfl (kn rfl) (fun hb => kn_opt rfl hb)) (w_mv rfl rfl rfl rfl rfl (Walk.gd _ rfl rfl rfl (fun h => s_call rfl (by kernel_rfl) (hP.num 3) ⟨(kn rfl), trivial⟩) (Walk.gd _ rfl rfl rfl (fun h => s_loadn_box (ds := [_, _, _, _, _, _, _]) 7 rfl (kn rfl) rfl rfl agg_27 sz_27 rfl) (Walk.gd _ rfl rfl rfl (fun h => s_call rfl (by kernel_rfl) (hP.same (vnum 3) (vput v key x) (good_zero 1 3 (by decide) (by decide) (by decide)) qw) ⟨(kn_opt rfl h), ⟨(kn_opt rfl h), trivial⟩⟩) (Walk.gd _ rfl rfl rfl (fun h => s_build (ds := [_, _, _, .row 8 0 [], _, .row 7 0 [], .row 14 0 []]) [(0, _), (1, _)] rfl ⟨rfl, (kn rfl), ⟨rfl, (kn rfl), trivial⟩⟩ rfl pl_34 zr_34 (fun w D => .cons (.cell _) (.cons (.cell _) (.cons (.cell _) (.cons (.none _ _ _) (.cons (.cell _) (.cons (.none _ _ _) (.cons (.none _ _ _) (.nil _ _)))))))) rfl) (Walk.gd _ rfl rfl rfl (fun h => s_loadn_box (ds := [_, _, _, _, _, _, _]) 7 rfl (kn rfl) rfl rfl agg_27 sz_27 rfl) (Walk.gd _ rfl rfl rfl (fun h => s_call rfl (by kernel_rfl) (ow) ⟨(kn_opt rfl h), trivial⟩) (Walk.gd _ rfl rfl rfl (fun h => s_call rfl (by kernel_rfl) (same_ef (vnum 3) (vput v key x) (fine_zero 1 3 (by decide) (by decide) (by decide)) qw.fine) ⟨(kn_opt rfl h), ⟨(kn_opt rfl h), trivial⟩⟩) (Walk.gd _ rfl rfl rfl (fun h => s_bin rfl (kn_opt rfl h) (kn_opt rfl h) (v_beq bool_4)) (w_op rfl rfl rfl (s_and rfl (kn rfl) (fun hb => kn_opt rfl hb)) (w_mv rfl rfl rfl rfl rfl (Walk.gd _ rfl rfl rfl (fun h => s_call rfl (by kernel_rfl) (hP.str [97]) ⟨(kn rfl), trivial⟩) (Walk.gd _ rfl rfl rfl (fun h => s_loadn_box (ds := [_, _, _, _, _, _, _]) 7 rfl (kn rfl) rfl rfl agg_27 sz_27 rfl) (Walk.gd _ rfl rfl rfl (fun h => s_call rfl (by kernel_rfl) (hP.same (vstr [97]) key ⟨.mk _ (by decide) (by decide) (by decide) (show 1 ≤ maxLen by decide) (Nat.zero_le _) (Nat.zero_le _) (Nat.zero_le _) (Nat.zero_le _) (fun _ h => by cases h) (fun _ h => by cases h) (fun _ h => by cases h) (fun _ h => by cases h) (fun _ h => by cases h), .mk _ (show 1 ≤ 400 by decide) (Nat.zero_le _) (fun _ h => by cases h), by rw [vnodes_eq]; simp [vstr, Vl.list, Vl.fields, Vl.pairs, lnodes, fnodes, pnodes]⟩ qk) ⟨(kn_opt rfl h), ⟨(kn_opt rfl h), trivial⟩⟩) (Walk.gd _ rfl rfl rfl (fun h => s_faddr_box rfl (kn rfl) off_27_0) (Walk.gd _ rfl rfl rfl (fun h => s_load1_box rfl (kn_opt rfl h) rfl rfl one_3) (Walk.gd _ rfl rfl rfl (fun h => s_bin rfl (kn_opt rfl h) (kn rfl) v_eql) (Walk.gd _ rfl rfl rfl (fun h => s_move rfl (kn_opt rfl h)) (Walk.gd _ rfl rfl rfl (fun h => s_faddr_box rfl (kn rfl) off_27_2) (Walk.gd _ rfl rfl rfl (fun h => s_load1_box rfl (kn_opt rfl h) rfl rfl one_9) (Walk.gd _ rfl rfl rfl (fun h => s_bin rfl (kn_opt rfl h) (kn rfl) (v_seql (b := [97]))) (Walk.gd _ rfl rfl rfl (fun h => s_and rfl (kn_opt rfl h) (fun hb => kn_opt rfl (gb h hb))) (Walk.gd _ rfl rfl rfl (fun h => s_bin rfl (kn_opt rfl h) (kn_opt rfl h) (v_beq bool_4)) (w_op rfl rfl rfl (s_and rfl (kn rfl) (fun hb => kn_opt rfl hb)) (w_as rfl rfl rfl rfl rfl .nil))))))))))))))))))))))))))))))))))))))))))))))))))) ?_
  try refine e_fl ?_
  exact e_return rfl rfl (.tmp (kn rfl) (.nil)) (Imp.of_eq (by rw [vcmp_self, vcmp_self, vcmp_self, str_cmp]; simp; rfl)) rfl
end Go.Proofs.Ytlikbiiimhfnkaa
namespace Go.Proofs.Ytlikbiiimhfnkaa
open Go.RowKit
theorem gl_none {w : World} : GlOK ([] : List (Nat × List Value)) w := fun g cs h => by cases h
theorem fits_vd {w : World} {D : Nat → Prop} {v : Vl} {xs : List Value} (h : Fits w D v.dats xs) : PFit w D (.many (vd v)) (.agg xs.toArray) := ⟨xs, rfl, by rw [← dats_vd]; exact h⟩
theorem true_of {f : FuncId} {ps : List Part} {w : World} {D : Nat → Prop} {vs : List Value} (h : EF Try.prog [] f ps (.part (tP true))) (hD : ∀ g, D g → g < w.heap.size) (hp : PsFit w D ps vs) :
    Calls Try.prog f vs.toArray w fun e w' => e = .returned (.bool true) ∧ Below w.heap.size w w' := by
  refine (h w D vs hD gl_none hp).mono ?_
  rintro e w' ⟨v, y, rfl, rfl, hb, hv⟩
  have hv1 : Lies w' _ (.cell (.bool true)) v := hv (fun _ => 0) (fun _ => undef)
  exact ⟨by rw [hv1.cell_eq], hb⟩
theorem pairs_any (hP : ProgE) (w : World) (D : Nat → Prop) (hD : ∀ g, D g → g < w.heap.size) {v k x : Vl} {xs ks ys : List Value} (hv : Fits w D v.dats xs) (hk : Fits w D k.dats ks) (hx : Fits w D x.dats ys) (fv : v.Fine) (fk : k.Fine) (fx : x.Fine) :
    Calls Try.prog 6 #[.agg xs.toArray, .agg ks.toArray, .agg ys.toArray] w fun e w' => e = .returned (.bool true) ∧ Below w.heap.size w w' :=
  true_of (pairs_ef hP v k x fv fk fx) hD ⟨fits_vd hv, fits_vd hk, fits_vd hx, trivial⟩
end Go.Proofs.Ytlikbiiimhfnkaa
namespace Go.Proofs.Ytlikbiiimhfnkaa
open Go.RowKit
section
variable {P : Program} {cx : Cx} {T : TL} {B : BL} {R : RL} {o : Oper}
theorem v_shr1 {t : TypeId} {n : Int} : BinV P .shr t (.int .u64 n) (.int .u64 1) (.int .u64 (n / 2)) := fun _ _ w => by
  simp only [eqGuard_shr, binOp_shr]
  rw [Sem.run_bind, Sem.run_pure, Result.andThen_ok, shift_shr_u64 .u64 n 1 (by decide) (by decide)]
  simp
theorem s_max {x y : Operand} {ts : Array TypeId} {k k' : IntKind} {m n : Int} (ho : o.op = .call { callee := .builtin .max, args := #[x, y], argTypes := ts }) (hx : Kn T x (.is (.int k m))) (hy : Kn T y (.is (.int k' n))) : LStep P cx B R o T (.is (.int k (max m n))) := LStep.same fun M V w a _ hk => by
  have h1 := (hk x _ (by simp [ho, Op.operands, Call.operands]) hx).is_eq
  have h2 := (hk y _ (by simp [ho, Op.operands, Call.operands]) hy).is_eq
  have h3 : (if n > m then n else m) = max m n := by
    split <;> omega
  refine ⟨_, ?_, .cell _⟩
  simp [execOp, ho, h1, h2, resolve, invoke, builtin, run_max_int2, h3]
theorem s_fieldn {x : Operand} {t fty : TypeId} {f off k : Nat} {ds : List Dat} (ho : o.op = .field t x f) (hx : Kn T x (.part (.many ds))) (hf : fieldT P t f = some (fty, off)) (ha : aggT P fty = true) (hs : sizeT P fty = some k) : LStep P cx B R o T (.part (.many ((ds.drop off).take k))) := LStep.same fun M V w a _ hk => by
  obtain ⟨xs, h1, h2⟩ := hk x _ (by simp [ho, Op.operands]) hx
  unfold fieldT at hf
  cases hu : P.underlying t with
  | none => rw [hu] at hf; cases hf
  | some d =>
    cases d <;> rw [hu] at hf <;> try (cases hf; done)
    rename_i fs
    obtain ⟨g, hg, hg2⟩ := Option.map_eq_some_iff.1 hf
    injection hg2 with e1 e2
    subst e1 e2
    have h3 : (part g.type xs.toArray g.offset).run P w = .ok (.agg (xs.toArray.extract g.offset (g.offset + k))) w := by
      unfold part
      rw [Sem.run_bind, agg_isAgg ha, Result.andThen_ok, if_pos rfl, Sem.run_bind, run_sizeT hs, Result.andThen_ok, Sem.run_pure]
    have h4 : xs.toArray.extract g.offset (g.offset + k) = ((xs.drop g.offset).take k).toArray := by simp
    rw [h4] at h3
    refine ⟨.agg ((xs.drop g.offset).take k).toArray, ?_, ?_⟩
    · unfold execOp
      simp only [ho, h1]
      simp [Instr.field, run_underlying hu, hg, asAgg, h3]
    · have h5 : Fits w (Dc cx B R M V w) ((ds.drop g.offset).take k) ((xs.drop g.offset).take k) := by
        refine ⟨by simp [h2.1], fun j d v hd hv => ?_⟩
        rw [List.getElem?_take] at hd hv
        split at hd
        · rename_i hj
          rw [if_pos hj] at hv
          rw [List.getElem?_drop] at hd hv
          exact h2.2 _ _ _ hd hv
        · cases hd
      exact (⟨_, rfl, h5⟩ : PFit _ _ (.many _) _)
theorem s_ext2 {f : FuncId} {x y : Operand} {ts : Array TypeId} {u v r : Value} (ho : o.op = .call { callee := .value (.func f), args := #[x, y], argTypes := ts }) (hf : ∀ w : World, (callFunc f #[u, v]).run P w = .ok (.value r) w) (hx : Kn T x (.is u)) (hy : Kn T y (.is v)) : LStep P cx B R o T (.is r) := LStep.same fun M V w a _ hk => by
  have h1 := (hk x _ (by simp [ho, Op.operands, Call.operands]) hx).is_eq
  have h2 := (hk y _ (by simp [ho, Op.operands, Call.operands]) hy).is_eq
  have he : a.eval (.func f) = .func (.func f) #[] #[] := rfl
  exact ⟨_, by simp [execOp, ho, resolve, he, Deferred.ofValue, invoke, h1, h2, hf], .cell _⟩
variable {M : Nat → Nat} {V : Nat → Value}
theorem e_call_row {ops : Array Oper} {Q : Exit → Act → World → Prop} (r : Nat) {l : List Oper} {d : Nat} {f : FuncId} {xs : List Operand} {ts : Array TypeId} {ps : List Part} {ty k n : Nat} {cs : List Value}
    (hg : o.guard = none) (hd : o.dst = some d) (hn : Nat.blt d cx.n = true) (ho : o.op = .call { callee := .value (.func f), args := xs.toArray, argTypes := ts }) (hc : callable P f = true) (hx : KnA T xs ps)
    (hf : ∀ (w : World) (D : Nat → Prop) (vs : List Value), PsFit w D ps vs → Calls P f vs.toArray w fun e w' => ∃ v, e = .returned v ∧ Below w.heap.size w w' ∧ w'.ownsRow w.heap.size ty k v n cs)
    (hT : norT r T = true) (hB : norB r B = true)
    (hE : E cx ((d, .own r) :: T) B ((r, ⟨ty, k, n, cs.map .cell, false⟩) :: R) (wpList P ops Q l)) : E cx T B R (wpList P ops Q (o :: l)) := fun M V a w hrel => by
  refine wpList_plain hg fun K hK => ?_
  have hrun : (execOp a.eval o).run P w = .ok (.enter f (xs.map a.eval).toArray) w := by
    have he : a.eval (.func f) = .func (.func f) #[] #[] := rfl
    simp [execOp, ho, resolve, he, Deferred.ofValue, invoke, run_callable hc]
  unfold Oper.wp
  rw [hrun]
  simp only [Oper.upon, hd]
  refine (hf w (Dc cx B R M V w) _ (hx.fit fun x z _ hkx => hkx w _ M V a fun t z' _ hz => hrel.tmp t z' hz)).mono ?_
  rintro e w' ⟨v, rfl, hb, hown⟩
  refine hK _ _ ?_
  obtain ⟨V', hVr, hr0⟩ := hrel.own_new hb hown r hT hB
  exact hE M V' _ _ (hr0.put (Below.refl _ _) (blt_lt hn) hVr.symm)
end
end Go.Proofs.Ytlikbiiimhfnkaa
