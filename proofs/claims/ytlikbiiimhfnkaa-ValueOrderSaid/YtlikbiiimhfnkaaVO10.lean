/- Part 10 of what the last text of this claim is proved by: walks over the program, and the math behind them. Conditions: as each theorem says. -/
import Derived.Test.YtlikbiiimhfnkaaVO09
import Derived.Test.YtlikbiiimhfnkaaProg
import Derived.Laws.Entries
import Derived.Laws.Small
namespace Go.Proofs.Ytlikbiiimhfnkaa
open Go.RowKit
structure Vl.Good (v : Vl) : Prop where
  fine : v.Fine
  tx : v.Tx
  nodes : vnodes v ≤ 1000
def vnum (n : Nat) : Vl := .mk 1 n [] [] [] [] []
def vstr (s : List UInt8) : Vl := .mk 2 0 s [] [] [] []
structure ProgE : Prop where
  right : ∀ v : Vl, v.Good → EF Try.prog [] 10 [.many (vd v)] (.part (tP (vright v)))
  size : ∀ v : Vl, v.Good → EF Try.prog [] 12 [.many (vd v)] (.part (iP (vsize v)))
  depth : ∀ v : Vl, v.Good → EF Try.prog [] 14 [.many (vd v)] (.part (iP (vdepth v)))
  cmp : ∀ a b : Vl, a.Good → b.Good → EF Try.prog [] 16 [.many (vd a), .many (vd b)] (.part (iP (vcmp a b)))
  same : ∀ a b : Vl, a.Good → b.Good → EF Try.prog [] 18 [.many (vd a), .many (vd b)] (.part (tP (decide (vcmp a b = 0))))
  with_ : ∀ (v : Vl) (n : Int) (x : Vl), v.Good → x.Good → vright v = true → EF Try.prog [] 20 [.many (vd v), iP n, .many (vd x)] (.part (.many (vd (vwith v n x))))
  get : ∀ (v : Vl) (n : Int), v.Good → vright v = true → EF Try.prog [] 22 [.many (vd v), iP n] (.part (.many (vd (vget v n))))
  put : ∀ v k x : Vl, v.Good → k.Good → x.Good → vright v = true → EF Try.prog [] 24 [.many (vd v), .many (vd k), .many (vd x)] (.part (.many (vd (vput v k x))))
  find : ∀ v k : Vl, v.Good → k.Good → vright v = true → EF Try.prog [] 26 [.many (vd v), .many (vd k)] (.part (.many (vd (vfind v k))))
  num : ∀ n : Nat, EF Try.prog [] 28 [uP n] (.part (.many (vd (vnum n))))
  str : ∀ s : List UInt8, EF Try.prog [] 29 [sP s] (.part (.many (vd (vstr s))))
theorem fine_zero (k : Int) (n : Nat) (h1 : -9223372036854775808 ≤ k) (h2 : k < 9223372036854775808) (h3 : n < 18446744073709551616) : (Vl.mk k n [] [] [] [] []).Fine :=
  .mk _ h1 h2 h3 (Nat.zero_le _) (Nat.zero_le _) (Nat.zero_le _) (Nat.zero_le _) (Nat.zero_le _) (fun _ h => by cases h) (fun _ h => by cases h) (fun _ h => by cases h) (fun _ h => by cases h) (fun _ h => by cases h)
theorem good_zero (k : Int) (n : Nat) (h1 : -9223372036854775808 ≤ k) (h2 : k < 9223372036854775808) (h3 : n < 18446744073709551616) : (Vl.mk k n [] [] [] [] []).Good :=
  ⟨fine_zero k n h1 h2 h3, .mk _ (Nat.zero_le _) (Nat.zero_le _) (fun _ h => by cases h), by rw [vnodes_eq]; simp [Vl.list, Vl.fields, Vl.pairs, lnodes, fnodes, pnodes]⟩
def exV : Vl := .mk 3 0 [] [(1, vnum 7)] [] [] []
theorem exV_with : vwith (.mk 3 0 [] [] [] [] []) 1 (vnum 7) = exV := rfl
theorem good_exV : exV.Good := by
  have h := good_zero 1 7 (by decide) (by decide) (by decide)
  refine ⟨.mk _ (by decide) (by decide) (by decide) (Nat.zero_le _) (Nat.zero_le _) (show 1 ≤ maxLen by decide) (Nat.zero_le _) (Nat.zero_le _) (fun f hf => ?_) (fun f hf => ?_) (fun _ h => by cases h) (fun _ h => by cases h) (fun _ h => by cases h), .mk _ (Nat.zero_le _) (Nat.zero_le _) (fun x hx => ?_), by rw [vnodes_eq]; simp [exV, vnum, vnodes, Vl.list, Vl.fields, Vl.pairs, lnodes, fnodes, pnodes]⟩
  · obtain rfl : f = (1, vnum 7) := by simpa [exV, Vl.fields] using hf
    exact ⟨by decide, by decide⟩
  · obtain rfl : f = (1, vnum 7) := by simpa [exV, Vl.fields] using hf
    exact h.fine
  · obtain rfl : x = vnum 7 := by simpa [exV, rkids, Vl.list, Vl.fields, Vl.pairs, gpairs] using hx
    exact h.tx
theorem exE_right : vright (.mk 3 0 [] [] [] [] []) = true := by simp [vright, fright, lright, pright, vplain, Vl.kind, Vl.num, Vl.text, Vl.fields, Vl.rest, Vl.list, Vl.pairs]
theorem exV_right : vright exV = true := by simp [exV, vnum, vright, fright, lright, pright, vplain, Vl.kind, Vl.num, Vl.text, Vl.fields, Vl.rest, Vl.list, Vl.pairs]
theorem exV_ok : (vright exV && decide ((vsize exV : Int) = 2) && decide ((vdepth exV : Int) = 1) && decide (vcmp (vget exV 1) (vnum 7) = 0)) = true := by
  have h1 := exV_right
  have h2 : vsize exV = 2 := by simp [exV, vnum, vsize, fsize, lsize, psize]
  have h3 : vdepth exV = 1 := by simp [exV, vnum, vdepth, fdepth, ldepth, pdepth]
  have h4 : vget exV 1 = vnum 7 := rfl
  rw [h1, h2, h3, h4, vcmp_self]
  rfl
set_option maxRecDepth 100000 in
theorem alive_ef (hP : ProgE) : EF Try.prog [] 7 [] (.part (tP true)) := by
  refine ef_enter 23 Try.func7 rfl rfl rfl fun w D => ?_
  try refine e_fl ?_
  refine e_plain (w_as rfl rfl rfl rfl rfl .nil) ?_
  try refine e_fl ?_
  refine e_list ?_
  refine l_op (s_build (ds := [_, _, _, .row 8 0 [], _, .row 7 0 [], .row 14 0 []]) [(0, _)] rfl ⟨rfl, (kn rfl), trivial⟩ rfl pl_27 zr_27 (fun w D => .cons (.cell _) (.cons (.cell _) (.cons (.cell _) (.cons (.none _ _ _) (.cons (.cell _) (.cons (.none _ _ _) (.cons (.none _ _ _) (.nil _ _)))))))) rfl) ?_
  refine l_op (s_call rfl (by kernel_rfl) (hP.num 7) ⟨(kn rfl), trivial⟩) ?_
  refine l_op (s_call rfl (by kernel_rfl) (hP.with_ (.mk 3 0 [] [] [] [] []) 1 (vnum 7) (good_zero 3 0 (by decide) (by decide) (by decide)) (good_zero 1 7 (by decide) (by decide) (by decide)) exE_right) ⟨(kn rfl), ⟨(kn rfl), ⟨(kn rfl), trivial⟩⟩⟩) ?_
  refine e_alloc 1 [.is (.int .i64 0), .is (.int .u64 0), .is (.string ⟨#[]⟩), .is (.slice none 0 0), .is (.string ⟨#[]⟩), .is (.slice none 0 0), .is (.slice none 0 0)] rfl rfl rfl rfl zr_27 (fun w D M V => ⟨rfl, fun j x v h1 h2 => cfit_is _ h1 h2 rfl⟩) rfl rfl rfl rfl ?_
  refine e_storew rfl rfl rfl (kn rfl) rfl (kn rfl) rfl rfl sz_27 ?_
  refine e_nil ?_
  try refine e_fl ?_
  rw [exV_with]
  refine e_plain (w_op rfl rfl rfl (s_loadn_box (ds := [_, _, _, _, _, _, _]) 7 rfl (kn rfl) rfl rfl agg_27 sz_27 rfl) (w_op rfl rfl rfl (s_call rfl (by kernel_rfl) (hP.right exV good_exV) ⟨(kn rfl), trivial⟩) (w_mv rfl rfl rfl rfl rfl (Walk.gd _ rfl rfl rfl (fun h => s_loadn_box (ds := [_, _, _, _, _, _, _]) 7 rfl (kn rfl) rfl rfl agg_27 sz_27 rfl) (Walk.gd _ rfl rfl rfl (fun h => s_call rfl (by kernel_rfl) (hP.size exV good_exV) ⟨(kn_opt rfl h), trivial⟩) (Walk.gd _ rfl rfl rfl (fun h => s_bin rfl (kn_opt rfl h) (kn rfl) v_eql) (w_op rfl rfl rfl (s_and rfl (kn rfl) (fun hb => kn_opt rfl hb)) (w_mv rfl rfl rfl rfl rfl (Walk.gd _ rfl rfl rfl (fun h => s_loadn_box (ds := [_, _, _, _, _, _, _]) 7 rfl (kn rfl) rfl rfl agg_27 sz_27 rfl) (Walk.gd _ rfl rfl rfl (fun h => s_call rfl (by kernel_rfl) (hP.depth exV good_exV) ⟨(kn_opt rfl h), trivial⟩) (Walk.gd _ rfl rfl rfl (fun h => s_bin rfl (kn_opt rfl h) (kn rfl) v_eql) (w_op rfl rfl rfl (s_and rfl (kn rfl) (fun hb => kn_opt rfl hb)) (w_mv rfl rfl rfl rfl rfl (Walk.gd _ rfl rfl rfl (fun h => s_loadn_box (ds := [_, _, _, _, _, _, _]) 7 rfl (kn rfl) rfl rfl agg_27 sz_27 rfl) (Walk.gd _ rfl rfl rfl (fun h => s_call rfl (by kernel_rfl) (hP.get exV 1 good_exV exV_right) ⟨(kn_opt rfl h), ⟨(kn rfl), trivial⟩⟩) (Walk.gd _ rfl rfl rfl (fun h => s_call rfl (by kernel_rfl) (hP.num 7) ⟨(kn rfl), trivial⟩) (Walk.gd _ rfl rfl rfl (fun h => s_call rfl (by kernel_rfl) (hP.same (vget exV 1) (vnum 7) (good_zero 1 7 (by decide) (by decide) (by decide)) (good_zero 1 7 (by decide) (by decide) (by decide))) ⟨(kn_opt rfl h), ⟨(kn_opt rfl h), trivial⟩⟩) (w_op rfl rfl rfl (s_and rfl (kn rfl) (fun hb => kn_opt rfl hb)) (w_as rfl rfl rfl rfl rfl .nil))))))))))))))))))) ?_
  try refine e_fl ?_
  exact e_return rfl rfl (.tmp (kn rfl) (.nil)) (Imp.of_eq (by rw [exV_ok]; rfl)) rfl
end Go.Proofs.Ytlikbiiimhfnkaa
namespace Go.Proofs.Ytlikbiiimhfnkaa
open Go.RowKit
abbrev In3 (x : Int) : Prop := x = -1 ∨ x = 0 ∨ x = 1
theorem fcmp_in : ∀ a b : List (Int × Vl), (∀ f ∈ a, ∀ y, In3 (vcmp f.2 y)) → In3 (fcmp a b)
  | [], [], _ => by simp [fcmp, In3]
  | [], _ :: _, _ => by simp [fcmp, In3]
  | _ :: _, [], _ => by simp [fcmp, In3]
  | x :: a, y :: b, h => by
    rw [fcmp_cons]
    exact lex_in (icmp_in _ _) (lex_in (h x List.mem_cons_self y.2) (fcmp_in a b fun f hf => h f (List.mem_cons_of_mem _ hf)))
theorem lcmp_in : ∀ a b : List Vl, (∀ x ∈ a, ∀ y, In3 (vcmp x y)) → In3 (lcmp a b)
  | [], [], _ => by simp [lcmp, In3]
  | [], _ :: _, _ => by simp [lcmp, In3]
  | _ :: _, [], _ => by simp [lcmp, In3]
  | x :: a, y :: b, h => by
    rw [lcmp_cons]
    exact lex_in (h x List.mem_cons_self y) (lcmp_in a b fun f hf => h f (List.mem_cons_of_mem _ hf))
theorem pcmp_in : ∀ a b : List (Vl × Vl), (∀ p ∈ a, ∀ y, In3 (vcmp p.1 y) ∧ In3 (vcmp p.2 y)) → In3 (pcmp a b)
  | [], [], _ => by simp [pcmp, In3]
  | [], _ :: _, _ => by simp [pcmp, In3]
  | _ :: _, [], _ => by simp [pcmp, In3]
  | x :: a, y :: b, h => by
    rw [pcmp_cons]
    exact lex_in (h x List.mem_cons_self y.1).1 (lex_in (h x List.mem_cons_self y.2).2 (pcmp_in a b fun f hf => h f (List.mem_cons_of_mem _ hf)))
theorem vcmp_in (a b : Vl) : In3 (vcmp a b) := by
  refine Vl.parts (P := fun a => ∀ b, In3 (vcmp a b)) (fun a hf hl hp b => ?_) a b
  rw [vcmp_eq]
  refine lex_in (icmp_in _ _) ?_
  unfold body
  split
  · exact ncmp_in _ _
  split
  · exact tcmp_in _ _
  split
  · exact lex_in (fcmp_in _ _ hf) (tcmp_in _ _)
  split
  · exact lcmp_in _ _ hl
  split
  · exact pcmp_in _ _ fun p h y => ⟨(hp p h).1 y, (hp p h).2 y⟩
  · exact .inr (.inl rfl)
theorem good_of {v : Vl} {most : Int} (hv : v.Fine) (h0 : 0 ≤ most) (h1 : most ≤ 1000) (h : vbig v most = false) : v.Good := by
  obtain ⟨h2, h3⟩ := vbig_no h0 h
  exact ⟨hv, h3, by omega⟩
set_option maxRecDepth 100000 in
set_option maxHeartbeats 4000000 in
theorem order_ef (hP : ProgE) (a b c : Vl) (ha : a.Fine) (hb : b.Fine) (hc : c.Fine) : EF Try.prog [] 4 [.many (vd a), .many (vd b), .many (vd c)] (.part (tP true)) := by
  refine ef_enter 89 Try.func4 rfl rfl rfl fun w D => ?_
  try refine e_fl ?_
  refine e_list ?_
  refine e_box 3 rfl rfl rfl rfl (kn rfl) rfl rfl rfl rfl ?_
  refine e_box 4 rfl rfl rfl rfl (kn rfl) rfl rfl rfl rfl ?_
  refine e_box 5 rfl rfl rfl rfl (kn rfl) rfl rfl rfl rfl ?_
  refine l_as ?_
  refine e_nil ?_
  try refine e_fl ?_
  refine e_plain (w_op rfl rfl rfl (s_call rfl (by kernel_rfl) (alive_ef hP) trivial) (w_op rfl rfl rfl (s_not rfl (kn rfl)) .nil)) ?_
  try refine e_fl ?_
  refine c_no ?_
  try refine e_fl ?_
  refine e_plain (w_op rfl rfl rfl (s_loadn_box (ds := [_, _, _, _, _, _, _]) 7 rfl (kn rfl) rfl rfl agg_27 sz_27 rfl) (w_op rfl rfl rfl (s_call rfl (by kernel_rfl) (big_ef a 100 ha (by decide) (by decide)) ⟨(kn rfl), ⟨(kn rfl), trivial⟩⟩) (w_mv rfl rfl rfl rfl rfl (Walk.gd _ rfl rfl rfl (fun h => s_loadn_box (ds := [_, _, _, _, _, _, _]) 7 rfl (kn rfl) rfl rfl agg_27 sz_27 rfl) (Walk.gd _ rfl rfl rfl (fun h => s_call rfl (by kernel_rfl) (big_ef b 100 hb (by decide) (by decide)) ⟨(kn_opt rfl h), ⟨(kn rfl), trivial⟩⟩) (w_op rfl rfl rfl (s_or rfl (kn rfl) (fun hb => kn_opt rfl hb)) (w_mv rfl rfl rfl rfl rfl (Walk.gd _ rfl rfl rfl (fun h => s_loadn_box (ds := [_, _, _, _, _, _, _]) 7 rfl (kn rfl) rfl rfl agg_27 sz_27 rfl) (Walk.gd _ rfl rfl rfl (fun h => s_call rfl (by kernel_rfl) (big_ef c 100 hc (by decide) (by decide)) ⟨(kn_opt rfl h), ⟨(kn rfl), trivial⟩⟩) (w_op rfl rfl rfl (s_or rfl (kn rfl) (fun hb => kn_opt rfl hb)) .nil)))))))))) ?_
  try refine e_fl ?_
  refine e_cond rfl (fun h => ?_) (fun h => ?_)
  · try refine e_fl ?_
    refine e_plain (w_as rfl rfl rfl rfl rfl .nil) ?_
    try refine e_fl ?_
    exact e_return rfl rfl (.tmp (kn rfl) (.nil)) (Imp.of_eq rfl) rfl
  simp only [Bool.or_eq_false_iff] at h
  obtain ⟨⟨g1, g2⟩, g3⟩ := h
  have qa := good_of ha (by decide) (by decide) g1
  have qb := good_of hb (by decide) (by decide) g2
  have qc := good_of hc (by decide) (by decide) g3
  clear g1 g2 g3
  have t := vcmp_tri a b c
  have n := vcmp_neg a b
  have s := vcmp_self a
  have i1 := vcmp_in b a
  have hw : IntKind.i64.wrap (0 - vcmp b a) = vcmp a b := by
    rw [wrap_in _ (by omega) (by omega)]
    omega
  try refine e_fl ?_
  refine e_draw mixed (by kernel_rfl) (w_op rfl rfl rfl (s_loadn_box (ds := [_, _, _, _, _, _, _]) 7 rfl (kn rfl) rfl rfl agg_27 sz_27 rfl) (w_op rfl rfl rfl (s_loadn_box (ds := [_, _, _, _, _, _, _]) 7 rfl (kn rfl) rfl rfl agg_27 sz_27 rfl) (w_op rfl rfl rfl (s_call rfl (by kernel_rfl) (hP.cmp a b qa qb) ⟨(kn rfl), ⟨(kn rfl), trivial⟩⟩) (w_op rfl rfl rfl (s_loadn_box (ds := [_, _, _, _, _, _, _]) 7 rfl (kn rfl) rfl rfl agg_27 sz_27 rfl) (w_op rfl rfl rfl (s_loadn_box (ds := [_, _, _, _, _, _, _]) 7 rfl (kn rfl) rfl rfl agg_27 sz_27 rfl) (w_op rfl rfl rfl (s_call rfl (by kernel_rfl) (hP.cmp b c qb qc) ⟨(kn rfl), ⟨(kn rfl), trivial⟩⟩) (w_op rfl rfl rfl (s_loadn_box (ds := [_, _, _, _, _, _, _]) 7 rfl (kn rfl) rfl rfl agg_27 sz_27 rfl) (w_op rfl rfl rfl (s_loadn_box (ds := [_, _, _, _, _, _, _]) 7 rfl (kn rfl) rfl rfl agg_27 sz_27 rfl) (w_op rfl rfl rfl (s_call rfl (by kernel_rfl) (hP.cmp a c qa qc) ⟨(kn rfl), ⟨(kn rfl), trivial⟩⟩) (w_as rfl rfl rfl rfl rfl (w_as rfl rfl rfl rfl rfl (w_as rfl rfl rfl rfl rfl .nil)))))))))))) ?_
  try refine e_fl ?_
  refine e_plain (w_mv rfl rfl rfl rfl rfl (w_op rfl rfl rfl (s_loadn_box (ds := [_, _, _, _, _, _, _]) 7 rfl (kn rfl) rfl rfl agg_27 sz_27 rfl) (w_op rfl rfl rfl (s_loadn_box (ds := [_, _, _, _, _, _, _]) 7 rfl (kn rfl) rfl rfl agg_27 sz_27 rfl) (w_op rfl rfl rfl (s_call rfl (by kernel_rfl) (hP.cmp b a qb qa) ⟨(kn rfl), ⟨(kn rfl), trivial⟩⟩) (w_op rfl rfl rfl (s_neg rfl (kn rfl)) (w_op rfl rfl rfl (s_bin rfl (kn rfl) (kn rfl) v_neq) (w_mv rfl rfl rfl rfl rfl (Walk.gd _ rfl rfl rfl (fun h => s_loadn_box (ds := [_, _, _, _, _, _, _]) 7 rfl (kn rfl) rfl rfl agg_27 sz_27 rfl) (Walk.gd _ rfl rfl rfl (fun h => s_loadn_box (ds := [_, _, _, _, _, _, _]) 7 rfl (kn rfl) rfl rfl agg_27 sz_27 rfl) (Walk.gd _ rfl rfl rfl (fun h => s_call rfl (by kernel_rfl) (hP.cmp a a qa qa) ⟨(kn_opt rfl h), ⟨(kn_opt rfl h), trivial⟩⟩) (Walk.gd _ rfl rfl rfl (fun h => s_bin rfl (kn_opt rfl h) (kn rfl) v_neq) (w_op rfl rfl rfl (s_or rfl (kn rfl) (fun hb => kn_opt rfl hb)) (w_mv rfl rfl rfl rfl rfl (Walk.gd _ rfl rfl rfl (fun h => s_move rfl (kn rfl)) (Walk.gd _ rfl rfl rfl (fun h => s_bin rfl (kn_opt rfl h) (kn rfl) v_leq) (Walk.gd _ rfl rfl rfl (fun h => s_move rfl (kn_opt rfl h)) (Walk.gd _ rfl rfl rfl (fun h => s_move rfl (kn rfl)) (Walk.gd _ rfl rfl rfl (fun h => s_bin rfl (kn_opt rfl h) (kn rfl) v_leq) (Walk.gd _ rfl rfl rfl (fun h => s_and rfl (kn_opt rfl h) (fun hb => kn_opt rfl (gb h hb))) (Walk.gd _ rfl rfl rfl (fun h => s_move rfl (kn_opt rfl h)) (Walk.gd _ rfl rfl rfl (fun h => s_move rfl (kn rfl)) (Walk.gd _ rfl rfl rfl (fun h => s_bin rfl (kn_opt rfl h) (kn rfl) v_gtr) (Walk.gd _ rfl rfl rfl (fun h => s_and rfl (kn_opt rfl h) (fun hb => kn_opt rfl (gb h hb))) (w_op rfl rfl rfl (s_or rfl (kn rfl) (fun hb => kn_opt rfl hb)) (w_mv rfl rfl rfl rfl rfl (Walk.gd _ rfl rfl rfl (fun h => s_move rfl (kn rfl)) (Walk.gd _ rfl rfl rfl (fun h => s_bin rfl (kn_opt rfl h) (kn rfl) v_lss) (Walk.gd _ rfl rfl rfl (fun h => s_move rfl (kn_opt rfl h)) (Walk.gd _ rfl rfl rfl (fun h => s_move rfl (kn rfl)) (Walk.gd _ rfl rfl rfl (fun h => s_bin rfl (kn_opt rfl h) (kn rfl) v_leq) (Walk.gd _ rfl rfl rfl (fun h => s_and rfl (kn_opt rfl h) (fun hb => kn_opt rfl (gb h hb))) (Walk.gd _ rfl rfl rfl (fun h => s_move rfl (kn_opt rfl h)) (Walk.gd _ rfl rfl rfl (fun h => s_move rfl (kn rfl)) (Walk.gd _ rfl rfl rfl (fun h => s_bin rfl (kn_opt rfl h) (kn rfl) v_geq) (Walk.gd _ rfl rfl rfl (fun h => s_and rfl (kn_opt rfl h) (fun hb => kn_opt rfl (gb h hb))) (w_op rfl rfl rfl (s_or rfl (kn rfl) (fun hb => kn_opt rfl hb)) .nil)))))))))))))))))))))))))))))))))))) ?_
  try refine e_fl ?_
  refine e_cond rfl (fun h => ?_) (fun h => ?_)
  · exfalso
    rw [hw, s] at h
    simp only [Bool.or_eq_true, Bool.and_eq_true, Bool.not_eq_true', decide_eq_true_eq, decide_eq_false_iff_not] at h
    rcases h with (h | ⟨⟨h1, h2⟩, h3⟩) | ⟨⟨h1, h2⟩, h3⟩
    · simp at h
    · have := t.1 h1 h2
      omega
    · have := t.2.1 h1 h2
      omega
  clear h
  try refine e_fl ?_
  refine e_plain (w_mv rfl rfl rfl rfl rfl (w_op rfl rfl rfl (s_bin rfl (kn rfl) (kn rfl) v_eql) (w_mv rfl rfl rfl rfl rfl (Walk.gd _ rfl rfl rfl (fun h => s_loadn_box (ds := [_, _, _, _, _, _, _]) 7 rfl (kn rfl) rfl rfl agg_27 sz_27 rfl) (Walk.gd _ rfl rfl rfl (fun h => s_call rfl (by kernel_rfl) (hP.right a qa) ⟨(kn_opt rfl h), trivial⟩) (w_op rfl rfl rfl (s_and rfl (kn rfl) (fun hb => kn_opt rfl hb)) (w_mv rfl rfl rfl rfl rfl (Walk.gd _ rfl rfl rfl (fun h => s_loadn_box (ds := [_, _, _, _, _, _, _]) 7 rfl (kn rfl) rfl rfl agg_27 sz_27 rfl) (Walk.gd _ rfl rfl rfl (fun h => s_call rfl (by kernel_rfl) (hP.right b qb) ⟨(kn_opt rfl h), trivial⟩) (w_op rfl rfl rfl (s_and rfl (kn rfl) (fun hb => kn_opt rfl hb)) .nil)))))))))) ?_
  try refine e_fl ?_
  refine e_cond rfl (fun h => ?_) (fun h => ?_)
  · simp only [Bool.and_eq_true, decide_eq_true_eq] at h
    obtain rfl : a = b := vright_same a b h.1.2 h.2 h.1.1
    try refine e_fl ?_
    refine e_draw mixed (by kernel_rfl) (w_op rfl rfl rfl (s_loadn_box (ds := [_, _, _, _, _, _, _]) 7 rfl (kn rfl) rfl rfl agg_27 sz_27 rfl) (w_op rfl rfl rfl (s_call rfl (by kernel_rfl) (hP.size a qa) ⟨(kn rfl), trivial⟩) (w_op rfl rfl rfl (s_loadn_box (ds := [_, _, _, _, _, _, _]) 7 rfl (kn rfl) rfl rfl agg_27 sz_27 rfl) (w_op rfl rfl rfl (s_call rfl (by kernel_rfl) (hP.size a qa) ⟨(kn rfl), trivial⟩) (w_op rfl rfl rfl (s_bin rfl (kn rfl) (kn rfl) v_eql) (w_mv rfl rfl rfl rfl rfl (Walk.gd _ rfl rfl rfl (fun h => s_loadn_box (ds := [_, _, _, _, _, _, _]) 7 rfl (kn rfl) rfl rfl agg_27 sz_27 rfl) (Walk.gd _ rfl rfl rfl (fun h => s_call rfl (by kernel_rfl) (hP.depth a qa) ⟨(kn_opt rfl h), trivial⟩) (Walk.gd _ rfl rfl rfl (fun h => s_loadn_box (ds := [_, _, _, _, _, _, _]) 7 rfl (kn rfl) rfl rfl agg_27 sz_27 rfl) (Walk.gd _ rfl rfl rfl (fun h => s_call rfl (by kernel_rfl) (hP.depth a qa) ⟨(kn_opt rfl h), trivial⟩) (Walk.gd _ rfl rfl rfl (fun h => s_bin rfl (kn_opt rfl h) (kn_opt rfl h) v_eql) (w_op rfl rfl rfl (s_and rfl (kn rfl) (fun hb => kn_opt rfl hb)) (w_as rfl rfl rfl rfl rfl .nil))))))))))))) ?_
    try refine e_fl ?_
    exact e_return rfl rfl (.tmp (kn rfl) (.nil)) (Imp.of_eq (by simp; rfl)) rfl
  try refine e_fl ?_
  refine e_plain (w_as rfl rfl rfl rfl rfl .nil) ?_
  try refine e_fl ?_
  exact e_return rfl rfl (.tmp (kn rfl) (.nil)) (Imp.of_eq rfl) rfl
end Go.Proofs.Ytlikbiiimhfnkaa
namespace Go.Proofs.Ytlikbiiimhfnkaa
open Go.RowKit
theorem Cap.ren_id (c : Cap) : c.ren (fun b => b) = c := by cases c <;> rfl
theorem caps_ren_id (l : List Cap) : l.map (Cap.ren fun b => b) = l := by
  induction l with
  | nil => rfl
  | cons c l ih => rw [List.map_cons, ih, Cap.ren_id]
theorem IV.ren_id (x : IV) : x.ren (fun b => b) (fun r => r) = x := by
  induction x with
  | opt g x ih => unfold IV.ren; rw [ih]
  | clo fn fs cs => unfold IV.ren; rw [caps_ren_id, caps_ren_id]
  | _ => rfl
theorem ivs_ren_id (l : List IV) : l.map (·.ren (fun b => b) (fun r => r)) = l := by
  induction l with
  | nil => rfl
  | cons c l ih => rw [List.map_cons, ih, IV.ren_id]
theorem renB_id (B : BL) : renB (fun b => b) (fun r => r) B = B := by
  unfold renB
  induction B with
  | nil => rfl
  | cons x B ih => rw [List.map_cons, ih, ivs_ren_id]
theorem renR_id (R : RL) : renR (fun r => r) R = R := by
  unfold renR
  induction R with
  | nil => rfl
  | cons x B ih => rw [List.map_cons, ih]
def LentI (B : BL) (R : RL) (B0 : BL) (R0 : RL) : Prop := (∀ b x, lk b B0 = some x → lk b B = some x) ∧ ∀ r x, lk r R0 = some x → lk r R = some x
theorem LentI.lent {B : BL} {R : RL} {B0 : BL} {R0 : RL} (h : LentI B R B0 R0) : Lent B R (fun b => b) (fun r => r) B0 R0 := ⟨fun b x hx => by rw [ivs_ren_id]; exact h.1 b x hx, h.2, fun _ _ _ _ e => e, fun _ _ _ _ e => e⟩
def LentB (B : BL) : BL → Prop
  | [] => True
  | (b, x) :: l => lk b B = some x ∧ LentB B l
def LentR (R : RL) : RL → Prop
  | [] => True
  | (r, x) :: l => lk r R = some x ∧ LentR R l
theorem LentB.get {B : BL} : ∀ {B0 : BL} (_ : LentB B B0) {b : Nat} {x : Bx}, lk b B0 = some x → lk b B = some x
  | (c, y) :: l, h, b, x, hx => by
    rcases lk_cons hx with ⟨rfl, rfl⟩ | ⟨_, hx⟩
    · exact h.1
    · exact LentB.get h.2 hx
  | [], _, _, _, hx => by cases hx
theorem LentR.get {R : RL} : ∀ {R0 : RL} (_ : LentR R R0) {b : Nat} {x : Rw}, lk b R0 = some x → lk b R = some x
  | (c, y) :: l, h, b, x, hx => by
    rcases lk_cons hx with ⟨rfl, rfl⟩ | ⟨_, hx⟩
    · exact h.1
    · exact LentR.get h.2 hx
  | [], _, _, _, hx => by cases hx
section
variable {P : Program} {cx : Cx} {T : TL} {B : BL} {R : RL} {o : Oper}
def Tidy (B0 : BL) (R0 : RL) (y : IV) (B1 : BL) (R1 : RL) : Prop := names B1 = names B0 ∧ names R1 = names R0 ∧ binB (names B0) (names R0) B1 = true ∧ y.bin (names B0) (names R0) = true
theorem e_calli {ops : Array Oper} {Q : Exit → Act → World → Prop} {l : List Oper} {d : Nat} {f : FuncId} {xs : List Operand} {ts : Array TypeId} {ys : List IV} {B0 : BL} {R0 : RL} {Y : IV → BL → RL → Prop} (hg : o.guard = none) (hd : o.dst = some d) (hn : Nat.blt d cx.n = true) (ho : o.op = .call { callee := .value (.func f), args := xs.toArray, argTypes := ts }) (hc : callable P f = true)
    (hf : EG P cx.gl f ys B0 R0 Y) (hB : LentB B B0) (hR : LentR R R0) (hx : KnX T xs ys) (hY : ∀ y B1 R1, Y y B1 R1 → Tidy B0 R0 y B1 R1)
    (hE : ∀ y B1 R1, Y y B1 R1 → E cx ((d, y) :: killTL (names R0) T) (B1 ++ killBL (names R0) B) (R1 ++ R) (wpList P ops Q l)) : E cx T B R (wpList P ops Q (o :: l)) :=
  e_callx (fun b => b) (fun r => r) hg hd hn ho hc (LentI.lent ⟨fun _ _ h => hB.get h, fun _ _ h => hR.get h⟩) (by rw [ivs_ren_id]; exact hx) hf hY fun y B1 R1 hy => by
    rw [IV.ren_id, renB_id, renR_id, List.map_id']
    exact hE y B1 R1 hy
theorem e_callci {ops : Array Oper} {Q : Exit → Act → World → Prop} {l : List Oper} {d : Nat} {f : FuncId} {x : Operand} {xs : List Operand} {ts : Array TypeId} {fs cs : List Cap} {zs ys : List IV} {B0 : BL} {R0 : RL} {Y : IV → BL → RL → Prop} (hg : o.guard = none) (hd : o.dst = some d) (hn : Nat.blt d cx.n = true) (ho : o.op = .call { callee := .value x, args := xs.toArray, argTypes := ts }) (hc : callable P f = true)
    (hf : EG P cx.gl f ys B0 R0 Y) (hB : LentB B B0) (hR : LentR R R0) (hx : Kn T x (.clo (.func f) fs cs)) (hxs : KnX T xs zs) (hys : ys = fs.map Cap.iv ++ zs ++ cs.map Cap.iv) (hY : ∀ y B1 R1, Y y B1 R1 → Tidy B0 R0 y B1 R1)
    (hE : ∀ y B1 R1, Y y B1 R1 → E cx ((d, y) :: killTL (names R0) T) (B1 ++ killBL (names R0) B) (R1 ++ R) (wpList P ops Q l)) : E cx T B R (wpList P ops Q (o :: l)) :=
  e_callc (fun b => b) (fun r => r) hg hd hn ho hc (LentI.lent ⟨fun _ _ h => hB.get h, fun _ _ h => hR.get h⟩) hx hxs (by rw [ivs_ren_id]; exact hys) hf hY fun y B1 R1 hy => by
    rw [IV.ren_id, renB_id, renR_id, List.map_id']
    exact hE y B1 R1 hy
theorem fits_cells (w : World) (D : Nat → Prop) (cs : List Value) : Fits w D (cs.map .cell) cs := by
  induction cs with
  | nil => exact Fits.nil _ _
  | cons c cs ih => exact .cons (.cell c) ih
end
end Go.Proofs.Ytlikbiiimhfnkaa
namespace Go.Proofs.Ytlikbiiimhfnkaa
open Go.RowKit
def off (d : Nat) : TL → TL
  | [] => []
  | (j, x) :: l => bif Nat.beq j d then off d l else (j, x) :: off d l
section
variable {P : Program} {cx : Cx} {T T' T2 : TL} {B : BL} {R : RL}
end
end Go.Proofs.Ytlikbiiimhfnkaa
namespace Go.Proofs.Ytlikbiiimhfnkaa
open Go.RowKit
section
variable {P : Program} {cx : Cx} {T : TL} {B : BL} {R : RL} {o : Oper}
def fieldT (P : Program) (t : TypeId) (f : Nat) : Option (TypeId × Nat) :=
  match P.underlying t with
  | some (.struct fs) => (fs[f]?).map fun g => (g.type, g.offset)
  | _ => none
end
end Go.Proofs.Ytlikbiiimhfnkaa
namespace Go.Proofs.Ytlikbiiimhfnkaa
open Go.RowKit
section
variable {P : Program} {cx : Cx} {T : TL} {B : BL} {R : RL}
def LentBr (ρ σ : Nat → Nat) (B : BL) : BL → Prop
  | [] => True
  | (b, x) :: l => lk (ρ b) B = some ⟨x.ty, x.cs.map (·.ren ρ σ)⟩ ∧ LentBr ρ σ B l
def LentRr (σ : Nat → Nat) (R : RL) : RL → Prop
  | [] => True
  | (r, x) :: l => lk (σ r) R = some x ∧ LentRr σ R l
theorem LentBr.get {ρ σ : Nat → Nat} : ∀ {B0 : BL} (_ : LentBr ρ σ B B0) {b : Nat} {x : Bx}, lk b B0 = some x → lk (ρ b) B = some ⟨x.ty, x.cs.map (·.ren ρ σ)⟩
  | (c, y) :: l, h, b, x, hx => by
    rcases lk_cons hx with ⟨rfl, rfl⟩ | ⟨_, hx⟩
    · exact h.1
    · exact LentBr.get h.2 hx
  | [], _, _, _, hx => by cases hx
theorem LentRr.get {σ : Nat → Nat} : ∀ {R0 : RL} (_ : LentRr σ R R0) {b : Nat} {x : Rw}, lk b R0 = some x → lk (σ b) R = some x
  | (c, y) :: l, h, b, x, hx => by
    rcases lk_cons hx with ⟨rfl, rfl⟩ | ⟨_, hx⟩
    · exact h.1
    · exact LentRr.get h.2 hx
  | [], _, _, _, hx => by cases hx
end
end Go.Proofs.Ytlikbiiimhfnkaa
namespace Go.Proofs.Ytlikbiiimhfnkaa
open Go.RowKit
section
variable {P : Program} {cx : Cx} {T : TL} {B : BL} {R : RL} {M : Nat → Nat} {V : Nat → Value} {o : Oper}
theorem EFx.more {gls gls' : List (Nat × List Value)} {f : FuncId} {ps : List Part} {Y : IV → Prop} (h : EFx P gls f ps Y) (hs : ∀ x, x ∈ gls → x ∈ gls') : EFx P gls' f ps Y := fun w D vs hD hG hp => h w D vs hD (fun g cs hg => hG g cs (hs _ hg)) hp
end
end Go.Proofs.Ytlikbiiimhfnkaa
namespace Go.Proofs.Ytlikbiiimhfnkaa
open Go.RowKit
section
variable {P : Program} {cx : Cx} {T : TL} {B : BL} {R : RL} {o : Oper}
theorem s_callf {f : FuncId} {x : Operand} {xs : List Operand} {ts : Array TypeId} {ps : List Part} {y : IV} (ho : o.op = .call { callee := .value x, args := xs.toArray, argTypes := ts }) (hc : callable P f = true) (hxf : Kn T x (.is (.func (.func f) #[] #[]))) (hf : EF P cx.gl f ps y) (hx : KnA T xs ps) : LStep P cx B R o T y := fun M V w a hh ht => by
  have hkk : ∀ y z, y ∈ x :: xs → Kn T y z → VR w (Dc cx B R M V w) M V z (a.eval y) := fun y z hm hkx => hkx w _ M V a fun t z' e hz => ht t z' (by
    subst e
    rw [ho]
    simpa [Op.operands, Call.operands] using hm) hz
  have he : a.eval x = .func (.func f) #[] #[] := (hkk x _ (by simp) hxf).is_eq
  have hrun : (execOp a.eval o).run P w = .ok (.enter f (xs.map a.eval).toArray) w := by
    simp [execOp, ho, resolve, he, Deferred.ofValue, invoke, run_callable hc]
  rw [hrun]
  refine ⟨rfl, (calls_at hh (fun x z hm hkx => hkk x z (by simp [hm]) hkx) hx hf).mono fun _ _ ⟨v, y', h1, h2, h3, h4⟩ => ⟨v, h1, h3, h2 ▸ h4⟩⟩
end
end Go.Proofs.Ytlikbiiimhfnkaa
namespace Go.Proofs.Ytlikbiiimhfnkaa
open Go.RowKit
section
variable {P : Program} {cx : Cx} {T : TL} {B : BL} {R : RL} {M : Nat → Nat} {V : Nat → Value}
theorem Rel.own_new {a : Act} {w w' : World} (hrel : Rel cx T B R M V a w) (hb : Below w.heap.size w w') {ty k n : Nat} {v : Value} {cs : List Value} (hown : w'.ownsRow w.heap.size ty k v n cs) (r : Nat) (hT : norT r T = true) (hB : norB r B = true) : ∃ V', V' r = v ∧ Rel cx T B ((r, ⟨ty, k, n, cs.map .cell, false⟩) :: R) M V' a w' := by
  have hh := hrel.heap
  have hsz := hh.below.size
  let V' : Nat → Value := fun q => if q = r then v else V q
  have hVr : V' r = v := if_pos rfl
  have hV : ∀ q, q ≠ r → V' q = V q := fun q h => if_neg h
  have hlt : ∀ g, v.ownBlock = some g → w.heap.size ≤ g ∧ g < w'.heap.size := fun g hg => hown.lt g hg
  have hown0 : w'.ownsRow 0 ty k v n cs := by
    refine ⟨hown.1, ?_⟩
    rcases hown.2 with h | ⟨g, cap, cur, h1, _, h3⟩
    · exact .inl h
    · exact .inr ⟨g, cap, cur, h1, Nat.zero_le _, h3⟩
  have hold : ∀ q x g, lk q R = some x → x.fz = false → (V q).ownBlock = some g → g < w.heap.size := fun q x g hx hf hg => by
    have h1 := hh.row q x hx
    rw [hf] at h1
    obtain ⟨ys, a2, _⟩ := h1
    exact (a2.lt g hg).2
  have hoB : ∀ b x, lk b B = some x → M b < w.heap.size := fun b x hx => by
    obtain ⟨_, cs, h2, _⟩ := hh.box b x hx
    exact h2.lt
  have hk := hh.keeps hb
  have hD : ∀ g, Dc cx B R M V w g → Dc cx B ((r, ⟨ty, k, n, cs.map .cell, false⟩) :: R) M V' w' g := fun g hg => by
    have hgl := hh.dlt hg
    rcases hg with hg | ⟨a1, a2, a3, a4⟩
    · exact .inl hg
    · refine .inr ⟨a1, by have := hb.size; omega, a3, fun q x hx hf e => ?_⟩
      rcases lk_cons hx with ⟨rfl, _⟩ | ⟨hne, hx⟩
      · rw [hVr] at e
        have := (hlt g e).1
        omega
      · rw [hV q (Ne.symm hne)] at e
        exact a4 q x hx hf e
  refine ⟨V', hVr, hrel.size, hrel.defers, ⟨hh.below.step hb, hh.d0, hh.bl, hh.gl, fun b x hx => ?_, fun q x hx => ?_, fun q x g hx hf hg => ?_, hh.pin, hh.bb, fun b q x y g hx hy hf hg => ?_, fun q p x y g hx hy hf hf' hg hg' => ?_⟩, fun t x hx => ?_⟩
  · obtain ⟨a1, cs, a2, a3⟩ := hh.box b x hx
    have hn := List.all_eq_true.1 hB _ (lk_mem hx)
    have a4 : CFit w (Dc cx B R M V w) M V' x.cs cs := ⟨a3.1, fun j y v h1 h2 => ⟨(a3.2 j y v h1 h2).1.newV hV (List.all_eq_true.1 hn _ (List.mem_of_getElem? h1)), (a3.2 j y v h1 h2).2⟩⟩
    exact ⟨a1, cs, a2.kept hb, a4.stay hk hD⟩
  · rcases lk_cons hx with ⟨rfl, rfl⟩ | ⟨hne, hx⟩
    · rw [hVr]
      exact (⟨cs, hown0, fits_cells _ _ _⟩ : Gr _ _ _ _ _ _ _ _)
    · rw [hV q (Ne.symm hne)]
      have h1 := hh.row q x hx
      split
      · rename_i hf
        rw [if_pos hf] at h1
        exact h1.stay hk hD
      · rename_i hf
        rw [if_neg hf] at h1
        obtain ⟨xs, a2, a3⟩ := h1
        exact ⟨xs, ownsRow.stay a2 fun g hg => hb.block g (a2.lt g hg).2, a3.stay hk hD⟩
  · rcases lk_cons hx with ⟨rfl, rfl⟩ | ⟨hne, hx⟩
    · rw [hVr] at hg
      have := (hlt g hg).1
      exact .inl (by omega)
    · rw [hV q (Ne.symm hne)] at hg
      exact hh.ro q x g hx hf hg
  · rcases lk_cons hy with ⟨rfl, rfl⟩ | ⟨hne, hy⟩
    · rw [hVr] at hg
      have := (hlt g hg).1
      have := hoB b x hx
      omega
    · rw [hV q (Ne.symm hne)] at hg
      exact hh.br b q x y g hx hy hf hg
  · rcases lk_cons hx with ⟨rfl, rfl⟩ | ⟨hne, hx⟩
    · rcases lk_cons hy with ⟨rfl, rfl⟩ | ⟨hne', hy⟩
      · rfl
      · rw [hVr] at hg
        rw [hV p (Ne.symm hne')] at hg'
        have := (hlt g hg).1
        have := hold p y g hy hf' hg'
        omega
    · rcases lk_cons hy with ⟨rfl, rfl⟩ | ⟨hne', hy⟩
      · rw [hVr] at hg'
        rw [hV q (Ne.symm hne)] at hg
        have := (hlt g hg').1
        have := hold q x g hx hf hg
        omega
      · rw [hV q (Ne.symm hne)] at hg
        rw [hV p (Ne.symm hne')] at hg'
        exact hh.rr q p x y g hx hy hf hf' hg hg'
  · exact ((hrel.tmp t x hx).newV hV (List.all_eq_true.1 hT _ (lk_mem hx))).stay hk hD
end
end Go.Proofs.Ytlikbiiimhfnkaa
namespace Go.Proofs.Ytlikbiiimhfnkaa
open Go.RowKit
section
variable {P : Program} {cx : Cx} {T : TL} {B : BL} {R : RL} {ops : Array Oper} {Q : Exit → Act → World → Prop} {deps : List (List Nat)}
def AnyE (P : Program) (cx : Cx) (T : TL) (B : BL) (R : RL) (ops : Array Oper) (Q : Exit → Act → World → Prop) (fuel : Nat) (L : List Bool) : List Nat → Prop
  | [] => True
  | i :: is => E cx T B R (wpOp P ops Q i (wpAny P .any ops Q fuel (L.set i true).toArray)) ∧ AnyE P cx T B R ops Q fuel L is
theorem AnyE.get {fuel : Nat} {L : List Bool} : ∀ {is : List Nat} (_ : AnyE P cx T B R ops Q fuel L is) {i : Nat}, i ∈ is → E cx T B R (wpOp P ops Q i (wpAny P .any ops Q fuel (L.set i true).toArray))
  | j :: is, h, i, hi => by
    rcases List.mem_cons.1 hi with rfl | hi
    · exact h.1
    · exact AnyE.get h.2 hi
  | [], _, _, hi => by cases hi
end
end Go.Proofs.Ytlikbiiimhfnkaa
namespace Go.Proofs.Ytlikbiiimhfnkaa
open Go.RowKit
def pickT (L : List Bool) : List (Nat × Nat × IV) → TL
  | [] => []
  | (i, s, y) :: es => bif L.getD i false then (s, y) :: pickT L es else pickT L es
def pickS (L : List Bool) : List Nat → List (Nat × Nat × Bx) → BL
  | _, [] => []
  | sn, (i, s, y) :: es => bif L.getD i false && !(sn.any fun c => Nat.beq c s) then (s, y) :: pickS L (s :: sn) es else pickS L sn es
def pickB (L : List Bool) (es : List (Nat × Nat × Bx)) : BL := pickS L [] es
section
variable {P : Program} {cx : Cx} {T0 : TL} {B0 : BL} {R : RL} {ops : Array Oper} {Q : Exit → Act → World → Prop} {deps : List (List Nat)} {es : List (Nat × Nat × IV)} {bs : List (Nat × Nat × Bx)}
def AllSteps (P : Program) (cx : Cx) (T0 : TL) (B0 : BL) (R : RL) (ops : Array Oper) (Q : Exit → Act → World → Prop) (es : List (Nat × Nat × IV)) (bs : List (Nat × Nat × Bx)) : List (List Bool × Nat) → Prop
  | [] => True
  | (L, i) :: r => (∀ K, E cx (T0 ++ pickT (L.set i true) es) (pickB (L.set i true) bs ++ B0) R K → E cx (T0 ++ pickT L es) (pickB L bs ++ B0) R (wpOp P ops Q i K)) ∧ AllSteps P cx T0 B0 R ops Q es bs r
theorem AllSteps.get : ∀ {st : List (List Bool × Nat)} (_ : AllSteps P cx T0 B0 R ops Q es bs st) {L : List Bool} {i : Nat}, (L, i) ∈ st → ∀ K, E cx (T0 ++ pickT (L.set i true) es) (pickB (L.set i true) bs ++ B0) R K → E cx (T0 ++ pickT L es) (pickB L bs ++ B0) R (wpOp P ops Q i K)
  | (L', j) :: r, h, L, i, hm => by
    rcases List.mem_cons.1 hm with e | hm
    · injection e with e1 e2
      subst e1 e2
      exact h.1
    · exact AllSteps.get h.2 hm
  | [], _, _, _, hm => by cases hm
theorem AnyE.of {T : TL} {B : BL} {fuel : Nat} {L : List Bool} : ∀ {is : List Nat}, (∀ i ∈ is, E cx T B R (wpOp P ops Q i (wpAny P .any ops Q fuel (L.set i true).toArray))) → AnyE P cx T B R ops Q fuel L is
  | [], _ => trivial
  | i :: is, h => ⟨h i List.mem_cons_self, AnyE.of fun j hj => h j (List.mem_cons_of_mem _ hj)⟩
end
end Go.Proofs.Ytlikbiiimhfnkaa
namespace Go.Proofs.Ytlikbiiimhfnkaa
open Go
def wgo (n : Int) (x : Vl) : Bool → List (Int × Vl) → List (Int × Vl)
  | d, [] => if d then [] else [(n, x)]
  | d, f :: fs => if d = false ∧ n ≤ f.1 then (n, x) :: (if f.1 = n then wgo n x true fs else f :: wgo n x true fs) else if f.1 = n then wgo n x d fs else f :: wgo n x d fs
theorem wgo_fold (n : Int) (x : Vl) : ∀ (fs : List (Int × Vl)) (d : Bool) (acc : List (Int × Vl)),
    (if (fs.foldl (fun s f => wtwo n (wone n x s f) f) (d, acc)).1 then (fs.foldl (fun s f => wtwo n (wone n x s f) f) (d, acc)).2 else (fs.foldl (fun s f => wtwo n (wone n x s f) f) (d, acc)).2 ++ [(n, x)]) = acc ++ wgo n x d fs
  | [], d, acc => by cases d <;> simp [wgo]
  | f :: fs, d, acc => by
    rw [List.foldl_cons, wgo]
    by_cases h : d = false ∧ n ≤ f.1
    · have e : wone n x (d, acc) f = (true, acc ++ [(n, x)]) := if_pos h
      rw [e, if_pos h]
      by_cases h2 : f.1 = n
      · rw [show wtwo n (true, acc ++ [(n, x)]) f = (true, acc ++ [(n, x)]) from if_pos h2, if_pos h2, wgo_fold n x fs]
        simp
      · rw [show wtwo n (true, acc ++ [(n, x)]) f = (true, acc ++ [(n, x)] ++ [f]) from if_neg h2, if_neg h2, wgo_fold n x fs]
        simp
    · have e : wone n x (d, acc) f = (d, acc) := if_neg h
      rw [e, if_neg h]
      by_cases h2 : f.1 = n
      · rw [show wtwo n (d, acc) f = (d, acc) from if_pos h2, if_pos h2, wgo_fold n x fs]
      · rw [show wtwo n (d, acc) f = (d, acc ++ [f]) from if_neg h2, if_neg h2, wgo_fold n x fs]
        simp
theorem wfields_go (n : Int) (x : Vl) (fs : List (Int × Vl)) : wfields n x fs = wgo n x (decide (x.kind = 0)) fs := by
  have h := wgo_fold n x fs (decide (x.kind = 0)) []
  rw [List.nil_append] at h
  exact h
theorem fright_iff (p : Int) (f : Int × Vl) (fs : List (Int × Vl)) : fright p (f :: fs) = true ↔ 1 ≤ f.1 ∧ f.1 ≤ 536870911 ∧ p < f.1 ∧ f.2.kind ≠ 0 ∧ vright f.2 = true ∧ fright f.1 fs = true := by
  obtain ⟨n, x⟩ := f
  rw [fright]
  simp only [Bool.and_eq_true, decide_eq_true_eq, and_assoc]
end Go.Proofs.Ytlikbiiimhfnkaa
namespace Go.Proofs.Ytlikbiiimhfnkaa
open Go.RowKit
theorem nor {a b : Bool} (h : (!(a || b)) = true) : a = false ∧ b = false := by cases a <;> cases b <;> simp_all
end Go.Proofs.Ytlikbiiimhfnkaa
namespace Go.Proofs.Ytlikbiiimhfnkaa
open Go.RowKit
theorem gl_none {w : World} : GlOK ([] : List (Nat × List Value)) w := fun g cs h => by cases h
theorem fits_vd {w : World} {D : Nat → Prop} {v : Vl} {xs : List Value} (h : Fits w D v.dats xs) : PFit w D (.many (vd v)) (.agg xs.toArray) := ⟨xs, rfl, by rw [← dats_vd]; exact h⟩
theorem true_of {f : FuncId} {ps : List Part} {w : World} {D : Nat → Prop} {vs : List Value} (h : EF Try.prog [] f ps (.part (tP true))) (hD : ∀ g, D g → g < w.heap.size) (hp : PsFit w D ps vs) :
    Calls Try.prog f vs.toArray w fun e w' => e = .returned (.bool true) ∧ Below w.heap.size w w' := by
  refine (h w D vs hD gl_none hp).mono ?_
  rintro e w' ⟨v, y, rfl, rfl, hb, hv⟩
  have hv1 : Lies w' _ (.cell (.bool true)) v := hv (fun _ => 0) (fun _ => undef)
  exact ⟨by rw [hv1.cell_eq], hb⟩
theorem order_any (hP : ProgE) (w : World) (D : Nat → Prop) (hD : ∀ g, D g → g < w.heap.size) {a b c : Vl} {xs ys zs : List Value} (ha : Fits w D a.dats xs) (hb : Fits w D b.dats ys) (hc : Fits w D c.dats zs) (fa : a.Fine) (fb : b.Fine) (fc : c.Fine) :
    Calls Try.prog 4 #[.agg xs.toArray, .agg ys.toArray, .agg zs.toArray] w fun e w' => e = .returned (.bool true) ∧ Below w.heap.size w w' :=
  true_of (order_ef hP a b c fa fb fc) hD ⟨fits_vd ha, fits_vd hb, fits_vd hc, trivial⟩
end Go.Proofs.Ytlikbiiimhfnkaa
namespace Go.Proofs.Ytlikbiiimhfnkaa
open Go.RowKit
section
variable {P : Program} {cx : Cx} {T : TL} {B : BL} {R : RL} {o : Oper}
theorem v_shr1 {t : TypeId} {n : Int} : BinV P .shr t (.int .u64 n) (.int .u64 1) (.int .u64 (n / 2)) := fun _ _ w => by
  simp only [eqGuard_shr, binOp_shr]
  rw [Sem.run_bind, Sem.run_pure, Result.andThen_ok, shift_shr_u64 .u64 n 1 (by decide) (by decide)]
  simp
theorem s_max {x y : Operand} {ts : Array TypeId} {k k' : IntKind} {m n : Int} (ho : o.op = .call { callee := .builtin .max, args := #[x, y], argTypes := ts }) (hx : Kn T x (.is (.int k m))) (hy : Kn T y (.is (.int k' n))) : LStep P cx B R o T (.is (.int k (max m n))) := LStep.same fun M V w a _ hk => by
  have h1 := (hk x _ (by simp [ho, Op.operands, Call.operands]) hx).is_eq
  have h2 := (hk y _ (by simp [ho, Op.operands, Call.operands]) hy).is_eq
  have h3 : (if n > m then n else m) = max m n := by
    split <;> omega
  refine ⟨_, ?_, .cell _⟩
  simp [execOp, ho, h1, h2, resolve, invoke, builtin, run_max_int2, h3]
theorem s_fieldn {x : Operand} {t fty : TypeId} {f off k : Nat} {ds : List Dat} (ho : o.op = .field t x f) (hx : Kn T x (.part (.many ds))) (hf : fieldT P t f = some (fty, off)) (ha : aggT P fty = true) (hs : sizeT P fty = some k) : LStep P cx B R o T (.part (.many ((ds.drop off).take k))) := LStep.same fun M V w a _ hk => by
  obtain ⟨xs, h1, h2⟩ := hk x _ (by simp [ho, Op.operands]) hx
  unfold fieldT at hf
  cases hu : P.underlying t with
  | none => rw [hu] at hf; cases hf
  | some d =>
    cases d <;> rw [hu] at hf <;> try (cases hf; done)
    rename_i fs
    obtain ⟨g, hg, hg2⟩ := Option.map_eq_some_iff.1 hf
    injection hg2 with e1 e2
    subst e1 e2
    have h3 : (part g.type xs.toArray g.offset).run P w = .ok (.agg (xs.toArray.extract g.offset (g.offset + k))) w := by
      unfold part
      rw [Sem.run_bind, agg_isAgg ha, Result.andThen_ok, if_pos rfl, Sem.run_bind, run_sizeT hs, Result.andThen_ok, Sem.run_pure]
    have h4 : xs.toArray.extract g.offset (g.offset + k) = ((xs.drop g.offset).take k).toArray := by simp
    rw [h4] at h3
    refine ⟨.agg ((xs.drop g.offset).take k).toArray, ?_, ?_⟩
    · unfold execOp
      simp only [ho, h1]
      simp [Instr.field, run_underlying hu, hg, asAgg, h3]
    · have h5 : Fits w (Dc cx B R M V w) ((ds.drop g.offset).take k) ((xs.drop g.offset).take k) := by
        refine ⟨by simp [h2.1], fun j d v hd hv => ?_⟩
        rw [List.getElem?_take] at hd hv
        split at hd
        · rename_i hj
          rw [if_pos hj] at hv
          rw [List.getElem?_drop] at hd hv
          exact h2.2 _ _ _ hd hv
        · cases hd
      exact (⟨_, rfl, h5⟩ : PFit _ _ (.many _) _)
theorem s_ext2 {f : FuncId} {x y : Operand} {ts : Array TypeId} {u v r : Value} (ho : o.op = .call { callee := .value (.func f), args := #[x, y], argTypes := ts }) (hf : ∀ w : World, (callFunc f #[u, v]).run P w = .ok (.value r) w) (hx : Kn T x (.is u)) (hy : Kn T y (.is v)) : LStep P cx B R o T (.is r) := LStep.same fun M V w a _ hk => by
  have h1 := (hk x _ (by simp [ho, Op.operands, Call.operands]) hx).is_eq
  have h2 := (hk y _ (by simp [ho, Op.operands, Call.operands]) hy).is_eq
  have he : a.eval (.func f) = .func (.func f) #[] #[] := rfl
  exact ⟨_, by simp [execOp, ho, resolve, he, Deferred.ofValue, invoke, h1, h2, hf], .cell _⟩
variable {M : Nat → Nat} {V : Nat → Value}
theorem e_call_row {ops : Array Oper} {Q : Exit → Act → World → Prop} (r : Nat) {l : List Oper} {d : Nat} {f : FuncId} {xs : List Operand} {ts : Array TypeId} {ps : List Part} {ty k n : Nat} {cs : List Value}
    (hg : o.guard = none) (hd : o.dst = some d) (hn : Nat.blt d cx.n = true) (ho : o.op = .call { callee := .value (.func f), args := xs.toArray, argTypes := ts }) (hc : callable P f = true) (hx : KnA T xs ps)
    (hf : ∀ (w : World) (D : Nat → Prop) (vs : List Value), PsFit w D ps vs → Calls P f vs.toArray w fun e w' => ∃ v, e = .returned v ∧ Below w.heap.size w w' ∧ w'.ownsRow w.heap.size ty k v n cs)
    (hT : norT r T = true) (hB : norB r B = true)
    (hE : E cx ((d, .own r) :: T) B ((r, ⟨ty, k, n, cs.map .cell, false⟩) :: R) (wpList P ops Q l)) : E cx T B R (wpList P ops Q (o :: l)) := fun M V a w hrel => by
  refine wpList_plain hg fun K hK => ?_
  have hrun : (execOp a.eval o).run P w = .ok (.enter f (xs.map a.eval).toArray) w := by
    have he : a.eval (.func f) = .func (.func f) #[] #[] := rfl
    simp [execOp, ho, resolve, he, Deferred.ofValue, invoke, run_callable hc]
  unfold Oper.wp
  rw [hrun]
  simp only [Oper.upon, hd]
  refine (hf w (Dc cx B R M V w) _ (hx.fit fun x z _ hkx => hkx w _ M V a fun t z' _ hz => hrel.tmp t z' hz)).mono ?_
  rintro e w' ⟨v, rfl, hb, hown⟩
  refine hK _ _ ?_
  obtain ⟨V', hVr, hr0⟩ := hrel.own_new hb hown r hT hB
  exact hE M V' _ _ (hr0.put (Below.refl _ _) (blt_lt hn) hVr.symm)
end
end Go.Proofs.Ytlikbiiimhfnkaa
