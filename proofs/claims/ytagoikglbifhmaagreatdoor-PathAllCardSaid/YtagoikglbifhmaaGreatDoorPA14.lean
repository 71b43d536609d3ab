/- Part 14 of what the last text of this claim is proved by: walks over the program, and the math behind them. Conditions: as each theorem says. -/
import Derived.Test.YtagoikglbifhmaaGreatDoorPA13
import Derived.Test.YtagoikglbifhmaaGreatDoorProg
namespace Go.Proofs.YtagoikglbifhmaaGreatDoor
open Go.RowKit
set_option maxRecDepth 100000 in
theorem byNumber_ef (f g : Int × Vl) : EF Tryz.prog [] 29 [.many (fd f), .many (fd g)] (.part (iP (icmp f.1 g.1))) := by
  refine ef_enter 10 Tryz.func29 rfl rfl rfl fun w D => ?_
  try refine e_fl ?_
  refine e_list ?_
  refine e_box 2 rfl rfl rfl rfl (kn rfl) rfl rfl rfl rfl ?_
  refine e_box 3 rfl rfl rfl rfl (kn rfl) rfl rfl rfl rfl ?_
  refine l_as ?_
  refine e_nil ?_
  try refine e_fl ?_
  refine e_plain (w_op rfl rfl rfl (s_faddr_box rfl (kn rfl) off_66_0) (w_op rfl rfl rfl (s_load1_box rfl (kn rfl) rfl rfl one_3) (w_op rfl rfl rfl (s_faddr_box rfl (kn rfl) off_66_0) (w_op rfl rfl rfl (s_load1_box rfl (kn rfl) rfl rfl one_3) (w_op rfl rfl rfl (s_call rfl (by kernel_rfl) (cmp_int_ef f.1 g.1) ⟨(kn rfl), ⟨(kn rfl), trivial⟩⟩) (w_as rfl rfl rfl rfl rfl .nil)))))) ?_
  try refine e_fl ?_
  exact e_return rfl rfl (.tmp (kn rfl) (.nil)) (Imp.of_eq rfl) rfl
set_option maxRecDepth 100000 in
theorem fcompare_ef (f g : Int × Vl) (h : EF Tryz.prog [] 79 [.many (vd f.2), .many (vd g.2)] (.part (iP (vcmp f.2 g.2)))) : EF Tryz.prog [] 101 [.many (fd f), .many (fd g)] (.part (iP (fcomp f g))) := by
  refine ef_enter 17 Tryz.func101 rfl rfl rfl fun w D => ?_
  try refine e_fl ?_
  refine e_list ?_
  refine e_box 2 rfl rfl rfl rfl (kn rfl) rfl rfl rfl rfl ?_
  refine e_box 3 rfl rfl rfl rfl (kn rfl) rfl rfl rfl rfl ?_
  refine l_as ?_
  refine e_nil ?_
  try refine e_fl ?_
  refine e_plain (w_op rfl rfl rfl (s_loadn_box (ds := [_, _, _, _, _, _, _, _]) 8 rfl (kn rfl) rfl rfl agg_66 sz_66 rfl) (w_op rfl rfl rfl (s_loadn_box (ds := [_, _, _, _, _, _, _, _]) 8 rfl (kn rfl) rfl rfl agg_66 sz_66 rfl) (w_op rfl rfl rfl (s_call rfl (by kernel_rfl) (byNumber_ef f g) ⟨(kn rfl), ⟨(kn rfl), trivial⟩⟩) (w_as rfl rfl rfl rfl rfl .nil)))) ?_
  try refine e_fl ?_
  refine e_plain (w_mv rfl rfl rfl rfl rfl (w_op rfl rfl rfl (s_bin rfl (kn rfl) (kn rfl) v_neq) .nil)) ?_
  try refine e_fl ?_
  refine e_cond rfl (fun h1 => ?_) (fun h1 => ?_)
  · have e : fcomp f g = icmp f.1 g.1 := lex_ne (by simpa using h1)
    try refine e_fl ?_
    refine e_plain (w_mv rfl rfl rfl rfl rfl (w_as rfl rfl rfl rfl rfl .nil)) ?_
    try refine e_fl ?_
    exact e_return rfl rfl (.tmp (kn rfl) (.nil)) (Imp.of_eq (by rw [e]; rfl)) rfl
  have e : fcomp f g = vcmp f.2 g.2 := lex_eq (by simpa using h1)
  try refine e_fl ?_
  refine e_plain (w_op rfl rfl rfl (s_faddr_box rfl (kn rfl) off_66_1) (w_op rfl rfl rfl (s_loadn_box (ds := [_, _, _, _, _, _, _]) 7 rfl (kn rfl) rfl rfl agg_27 sz_27 rfl) (w_op rfl rfl rfl (s_faddr_box rfl (kn rfl) off_66_1) (w_op rfl rfl rfl (s_loadn_box (ds := [_, _, _, _, _, _, _]) 7 rfl (kn rfl) rfl rfl agg_27 sz_27 rfl) (w_op rfl rfl rfl (s_call rfl (by kernel_rfl) (h) ⟨(kn rfl), ⟨(kn rfl), trivial⟩⟩) (w_as rfl rfl rfl rfl rfl .nil)))))) ?_
  try refine e_fl ?_
  exact e_return rfl rfl (.tmp (kn rfl) (.nil)) (Imp.of_eq (by rw [e]; rfl)) rfl
set_option maxRecDepth 100000 in
theorem byKey_ef (p q : Vl × Vl) (h : EF Tryz.prog [] 79 [.many (vd p.1), .many (vd q.1)] (.part (iP (vcmp p.1 q.1)))) : EF Tryz.prog [] 55 [.many (pd p), .many (pd q)] (.part (iP (vcmp p.1 q.1))) := by
  refine ef_enter 10 Tryz.func55 rfl rfl rfl fun w D => ?_
  try refine e_fl ?_
  refine e_list ?_
  refine e_box 2 rfl rfl rfl rfl (kn rfl) rfl rfl rfl rfl ?_
  refine e_box 3 rfl rfl rfl rfl (kn rfl) rfl rfl rfl rfl ?_
  refine l_as ?_
  refine e_nil ?_
  try refine e_fl ?_
  refine e_plain (w_op rfl rfl rfl (s_faddr_box rfl (kn rfl) off_82_0) (w_op rfl rfl rfl (s_loadn_box (ds := [_, _, _, _, _, _, _]) 7 rfl (kn rfl) rfl rfl agg_27 sz_27 rfl) (w_op rfl rfl rfl (s_faddr_box rfl (kn rfl) off_82_0) (w_op rfl rfl rfl (s_loadn_box (ds := [_, _, _, _, _, _, _]) 7 rfl (kn rfl) rfl rfl agg_27 sz_27 rfl) (w_op rfl rfl rfl (s_call rfl (by kernel_rfl) (h) ⟨(kn rfl), ⟨(kn rfl), trivial⟩⟩) (w_as rfl rfl rfl rfl rfl .nil)))))) ?_
  try refine e_fl ?_
  exact e_return rfl rfl (.tmp (kn rfl) (.nil)) (Imp.of_eq rfl) rfl
set_option maxRecDepth 100000 in
theorem pcompare_ef (p q : Vl × Vl) (hk : EF Tryz.prog [] 79 [.many (vd p.1), .many (vd q.1)] (.part (iP (vcmp p.1 q.1)))) (h : EF Tryz.prog [] 79 [.many (vd p.2), .many (vd q.2)] (.part (iP (vcmp p.2 q.2)))) : EF Tryz.prog [] 104 [.many (pd p), .many (pd q)] (.part (iP (pcomp p q))) := by
  refine ef_enter 17 Tryz.func104 rfl rfl rfl fun w D => ?_
  try refine e_fl ?_
  refine e_list ?_
  refine e_box 2 rfl rfl rfl rfl (kn rfl) rfl rfl rfl rfl ?_
  refine e_box 3 rfl rfl rfl rfl (kn rfl) rfl rfl rfl rfl ?_
  refine l_as ?_
  refine e_nil ?_
  try refine e_fl ?_
  refine e_plain (w_op rfl rfl rfl (s_loadn_box (ds := [_, _, _, _, _, _, _, _, _, _, _, _, _, _]) 14 rfl (kn rfl) rfl rfl agg_82 sz_82 rfl) (w_op rfl rfl rfl (s_loadn_box (ds := [_, _, _, _, _, _, _, _, _, _, _, _, _, _]) 14 rfl (kn rfl) rfl rfl agg_82 sz_82 rfl) (w_op rfl rfl rfl (s_call rfl (by kernel_rfl) (byKey_ef p q hk) ⟨(kn rfl), ⟨(kn rfl), trivial⟩⟩) (w_as rfl rfl rfl rfl rfl .nil)))) ?_
  try refine e_fl ?_
  refine e_plain (w_mv rfl rfl rfl rfl rfl (w_op rfl rfl rfl (s_bin rfl (kn rfl) (kn rfl) v_neq) .nil)) ?_
  try refine e_fl ?_
  refine e_cond rfl (fun h1 => ?_) (fun h1 => ?_)
  · have e : pcomp p q = vcmp p.1 q.1 := lex_ne (by simpa using h1)
    try refine e_fl ?_
    refine e_plain (w_mv rfl rfl rfl rfl rfl (w_as rfl rfl rfl rfl rfl .nil)) ?_
    try refine e_fl ?_
    exact e_return rfl rfl (.tmp (kn rfl) (.nil)) (Imp.of_eq (by rw [e]; rfl)) rfl
  have e : pcomp p q = vcmp p.2 q.2 := lex_eq (by simpa using h1)
  try refine e_fl ?_
  refine e_plain (w_op rfl rfl rfl (s_faddr_box rfl (kn rfl) off_82_1) (w_op rfl rfl rfl (s_loadn_box (ds := [_, _, _, _, _, _, _]) 7 rfl (kn rfl) rfl rfl agg_27 sz_27 rfl) (w_op rfl rfl rfl (s_faddr_box rfl (kn rfl) off_82_1) (w_op rfl rfl rfl (s_loadn_box (ds := [_, _, _, _, _, _, _]) 7 rfl (kn rfl) rfl rfl agg_27 sz_27 rfl) (w_op rfl rfl rfl (s_call rfl (by kernel_rfl) (h) ⟨(kn rfl), ⟨(kn rfl), trivial⟩⟩) (w_as rfl rfl rfl rfl rfl .nil)))))) ?_
  try refine e_fl ?_
  exact e_return rfl rfl (.tmp (kn rfl) (.nil)) (Imp.of_eq (by rw [e]; rfl)) rfl
def Short (v : Vl) : Prop := vnodes v ≤ 1000000
theorem short_len {v : Vl} (h : Short v) : v.fields.length ≤ 1000000 ∧ v.list.length ≤ 1000000 ∧ v.pairs.length ≤ 1000000 := by
  have h0 : vnodes v ≤ 1000000 := h
  have h1 := fnodes_len v.fields
  have h2 := lnodes_len v.list
  have h3 := pnodes_len v.pairs
  have h4 := vnodes_eq v
  omega
theorem short_field {v : Vl} (h : Short v) {f : Int × Vl} (hf : f ∈ v.fields) : Short f.2 := by
  have h0 : vnodes v ≤ 1000000 := h
  have h1 := fnodes_mem hf
  have h4 := vnodes_eq v
  show vnodes f.2 ≤ 1000000
  omega
theorem short_elem {v : Vl} (h : Short v) {x : Vl} (hf : x ∈ v.list) : Short x := by
  have h0 : vnodes v ≤ 1000000 := h
  have h1 := lnodes_mem hf
  have h4 := vnodes_eq v
  show vnodes x ≤ 1000000
  omega
theorem short_pair {v : Vl} (h : Short v) {p : Vl × Vl} (hf : p ∈ v.pairs) : Short p.1 ∧ Short p.2 := by
  have h0 : vnodes v ≤ 1000000 := h
  have h1 := pnodes_mem hf
  have h4 := vnodes_eq v
  exact ⟨show vnodes p.1 ≤ 1000000 by omega, show vnodes p.2 ≤ 1000000 by omega⟩
def PCmp (a : Vl) : Prop := ∀ b : Vl, Short b → EF Tryz.prog [] 79 [.many (vd a), .many (vd b)] (.part (iP (vcmp a b)))
set_option maxRecDepth 100000 in
set_option maxHeartbeats 1000000 in
theorem vcompare_step (a : Vl) (ha : Short a) (hf : ∀ f ∈ a.fields, PCmp f.2) (hl : ∀ x ∈ a.list, PCmp x) (hp : ∀ p ∈ a.pairs, PCmp p.1 ∧ PCmp p.2) : PCmp a := by
  intro b hb
  obtain ⟨a1, a2, a3⟩ := short_len ha
  obtain ⟨b1, b2, b3⟩ := short_len hb
  have hF := compf_fields_ef 101 (by kernel_rfl) fcomp a.fields b.fields a1 b1 fun x hx y hy => fcompare_ef x y (hf x hx y.2 (short_field hb hy))
  have hL := compf_list_ef 79 (by kernel_rfl) vcmp a.list b.list a2 b2 fun x hx y hy => hl x hx y (short_elem hb hy)
  have hP := compf_pairs_ef 104 (by kernel_rfl) pcomp a.pairs b.pairs a3 b3 fun x hx y hy => pcompare_ef x y ((hp x hx).1 y.1 (short_pair hb hy).1) ((hp x hx).2 y.2 (short_pair hb hy).2)
  rw [gcmp_fields] at hF
  rw [gcmp_list] at hL
  rw [gcmp_pairs] at hP
  refine ef_enter 59 Tryz.func79 rfl rfl rfl fun w D => ?_
  try refine e_fl ?_
  refine e_list ?_
  refine e_box 2 rfl rfl rfl rfl (kn rfl) rfl rfl rfl rfl ?_
  refine e_box 3 rfl rfl rfl rfl (kn rfl) rfl rfl rfl rfl ?_
  refine l_as ?_
  refine e_nil ?_
  try refine e_fl ?_
  refine e_plain (w_op rfl rfl rfl (s_faddr_box rfl (kn rfl) off_27_0) (w_op rfl rfl rfl (s_load1_box rfl (kn rfl) rfl rfl one_3) (w_op rfl rfl rfl (s_faddr_box rfl (kn rfl) off_27_0) (w_op rfl rfl rfl (s_load1_box rfl (kn rfl) rfl rfl one_3) (w_op rfl rfl rfl (s_bin rfl (kn rfl) (kn rfl) v_neq) .nil))))) ?_
  try refine e_fl ?_
  refine e_cond rfl (fun h => ?_) (fun h => ?_)
  · have hne : a.kind ≠ b.kind := by simpa using h
    have e : vcmp a b = icmp a.kind b.kind := by rw [vcmp_eq, lex_ne (fun h0 => hne (icmp_zero h0))]
    try refine e_fl ?_
    refine e_plain (w_op rfl rfl rfl (s_faddr_box rfl (kn rfl) off_27_0) (w_op rfl rfl rfl (s_load1_box rfl (kn rfl) rfl rfl one_3) (w_op rfl rfl rfl (s_faddr_box rfl (kn rfl) off_27_0) (w_op rfl rfl rfl (s_load1_box rfl (kn rfl) rfl rfl one_3) (w_op rfl rfl rfl (s_call rfl (by kernel_rfl) (cmp_int_ef a.kind b.kind) ⟨(kn rfl), ⟨(kn rfl), trivial⟩⟩) (w_as rfl rfl rfl rfl rfl .nil)))))) ?_
    try refine e_fl ?_
    exact e_return rfl rfl (.tmp (kn rfl) (.nil)) (Imp.of_eq (by rw [e]; rfl)) rfl
  have he : vcmp a b = body a.kind a b := by rw [vcmp_eq, lex_eq (icmp_eq (by simpa using h))]
  clear h
  try refine e_fl ?_
  refine e_plain (w_op rfl rfl rfl (s_faddr_box rfl (kn rfl) off_27_0) (w_op rfl rfl rfl (s_load1_box rfl (kn rfl) rfl rfl one_3) .nil)) ?_
  try refine e_fl ?_
  try refine e_fl ?_
  refine e_plain (w_op rfl rfl rfl (s_bin rfl (kn rfl) (kn rfl) v_eql) (w_as rfl rfl rfl rfl rfl .nil)) ?_
  try refine e_fl ?_
  refine e_cond rfl (fun q1 => ?_) (fun q1 => ?_)
  · have e : vcmp a b = ncmp a.num b.num := by rw [he]; exact if_pos (of_decide_eq_true q1)
    try refine e_fl ?_
    refine e_plain (w_op rfl rfl rfl (s_faddr_box rfl (kn rfl) off_27_1) (w_op rfl rfl rfl (s_load1_box rfl (kn rfl) rfl rfl one_22) (w_op rfl rfl rfl (s_faddr_box rfl (kn rfl) off_27_1) (w_op rfl rfl rfl (s_load1_box rfl (kn rfl) rfl rfl one_22) (w_op rfl rfl rfl (s_call rfl (by kernel_rfl) (cmp_u64_ef a.num b.num) ⟨(kn rfl), ⟨(kn rfl), trivial⟩⟩) (w_as rfl rfl rfl rfl rfl .nil)))))) ?_
    try refine e_fl ?_
    exact e_return rfl rfl (.tmp (kn rfl) (.nil)) (Imp.of_eq (by rw [e]; rfl)) rfl
  have n1 := of_decide_eq_false q1
  try refine e_fl ?_
  refine e_plain (w_op rfl rfl rfl (s_bin rfl (kn rfl) (kn rfl) v_eql) (w_as rfl rfl rfl rfl rfl .nil)) ?_
  try refine e_fl ?_
  refine e_cond rfl (fun q2 => ?_) (fun q2 => ?_)
  · have e : vcmp a b = tcmp a.text b.text := by rw [he]; exact (if_neg n1).trans (if_pos (of_decide_eq_true q2))
    try refine e_fl ?_
    refine e_plain (w_op rfl rfl rfl (s_faddr_box rfl (kn rfl) off_27_2) (w_op rfl rfl rfl (s_load1_box rfl (kn rfl) rfl rfl one_9) (w_op rfl rfl rfl (s_faddr_box rfl (kn rfl) off_27_2) (w_op rfl rfl rfl (s_load1_box rfl (kn rfl) rfl rfl one_9) (w_op rfl rfl rfl (s_call rfl (by kernel_rfl) (strcmp_ef a.text b.text) ⟨(kn rfl), ⟨(kn rfl), trivial⟩⟩) (w_as rfl rfl rfl rfl rfl .nil)))))) ?_
    try refine e_fl ?_
    exact e_return rfl rfl (.tmp (kn rfl) (.nil)) (Imp.of_eq (by rw [e]; rfl)) rfl
  have n2 := of_decide_eq_false q2
  try refine e_fl ?_
  refine e_plain (w_op rfl rfl rfl (s_bin rfl (kn rfl) (kn rfl) v_eql) (w_as rfl rfl rfl rfl rfl .nil)) ?_
  try refine e_fl ?_
  refine e_cond rfl (fun q3 => ?_) (fun q3 => ?_)
  · have e : vcmp a b = lex (fcmp a.fields b.fields) (tcmp a.rest b.rest) := by rw [he]; exact (if_neg n1).trans ((if_neg n2).trans (if_pos (of_decide_eq_true q3)))
    try refine e_fl ?_
    refine e_draw mixed (by kernel_rfl) (w_op rfl rfl rfl (s_faddr_box rfl (kn rfl) off_27_3) (w_op rfl rfl rfl (s_load1_box rfl (kn rfl) rfl rfl one_23) (w_op rfl rfl rfl (s_faddr_box rfl (kn rfl) off_27_3) (w_op rfl rfl rfl (s_load1_box rfl (kn rfl) rfl rfl one_23) (w_op rfl rfl rfl (s_call rfl (by kernel_rfl) (hF) ⟨(kn rfl), ⟨(kn rfl), ⟨(kn rfl), trivial⟩⟩⟩) (w_op rfl rfl rfl (s_faddr_box rfl (kn rfl) off_27_4) (w_op rfl rfl rfl (s_load1_box rfl (kn rfl) rfl rfl one_9) (w_op rfl rfl rfl (s_faddr_box rfl (kn rfl) off_27_4) (w_op rfl rfl rfl (s_load1_box rfl (kn rfl) rfl rfl one_9) (w_op rfl rfl rfl (s_call rfl (by kernel_rfl) (strcmp_ef a.rest b.rest) ⟨(kn rfl), ⟨(kn rfl), trivial⟩⟩) (w_op rfl rfl rfl (s_buildSlice (ds := [_, _]) [(0, _), (1, _)] rfl ⟨rfl, (kn rfl), ⟨rfl, (kn rfl), trivial⟩⟩ rfl sl_156 sz_3 zr_3 (fun w D => .cons (.cell _) (.cons (.cell _) (.nil _ _))) rfl rfl rfl rfl rfl) (w_op rfl rfl rfl (s_call rfl (by kernel_rfl) (or_ef (fcmp a.fields b.fields) (tcmp a.rest b.rest)) ⟨(kn rfl), trivial⟩) (w_as rfl rfl rfl rfl rfl .nil))))))))))))) ?_
    try refine e_fl ?_
    exact e_return rfl rfl (.tmp (kn rfl) (.nil)) (Imp.of_eq (by rw [e]; rfl)) rfl
  have n3 := of_decide_eq_false q3
  try refine e_fl ?_
  refine e_plain (w_op rfl rfl rfl (s_bin rfl (kn rfl) (kn rfl) v_eql) (w_as rfl rfl rfl rfl rfl .nil)) ?_
  try refine e_fl ?_
  refine e_cond rfl (fun q4 => ?_) (fun q4 => ?_)
  · have e : vcmp a b = lcmp a.list b.list := by rw [he]; exact (if_neg n1).trans ((if_neg n2).trans ((if_neg n3).trans (if_pos (of_decide_eq_true q4))))
    try refine e_fl ?_
    refine e_plain (w_op rfl rfl rfl (s_faddr_box rfl (kn rfl) off_27_5) (w_op rfl rfl rfl (s_load1_box rfl (kn rfl) rfl rfl one_24) (w_op rfl rfl rfl (s_faddr_box rfl (kn rfl) off_27_5) (w_op rfl rfl rfl (s_load1_box rfl (kn rfl) rfl rfl one_24) (w_op rfl rfl rfl (s_call rfl (by kernel_rfl) (hL) ⟨(kn rfl), ⟨(kn rfl), ⟨(kn rfl), trivial⟩⟩⟩) (w_as rfl rfl rfl rfl rfl .nil)))))) ?_
    try refine e_fl ?_
    exact e_return rfl rfl (.tmp (kn rfl) (.nil)) (Imp.of_eq (by rw [e]; rfl)) rfl
  have n4 := of_decide_eq_false q4
  try refine e_fl ?_
  refine e_plain (w_op rfl rfl rfl (s_bin rfl (kn rfl) (kn rfl) v_eql) (w_as rfl rfl rfl rfl rfl .nil)) ?_
  try refine e_fl ?_
  refine e_cond rfl (fun q5 => ?_) (fun q5 => ?_)
  · have e : vcmp a b = pcmp a.pairs b.pairs := by rw [he]; exact (if_neg n1).trans ((if_neg n2).trans ((if_neg n3).trans ((if_neg n4).trans (if_pos (of_decide_eq_true q5)))))
    try refine e_fl ?_
    refine e_plain (w_op rfl rfl rfl (s_faddr_box rfl (kn rfl) off_27_6) (w_op rfl rfl rfl (s_load1_box rfl (kn rfl) rfl rfl one_25) (w_op rfl rfl rfl (s_faddr_box rfl (kn rfl) off_27_6) (w_op rfl rfl rfl (s_load1_box rfl (kn rfl) rfl rfl one_25) (w_op rfl rfl rfl (s_call rfl (by kernel_rfl) (hP) ⟨(kn rfl), ⟨(kn rfl), ⟨(kn rfl), trivial⟩⟩⟩) (w_as rfl rfl rfl rfl rfl .nil)))))) ?_
    try refine e_fl ?_
    exact e_return rfl rfl (.tmp (kn rfl) (.nil)) (Imp.of_eq (by rw [e]; rfl)) rfl
  have n5 := of_decide_eq_false q5
  have e : vcmp a b = 0 := by rw [he]; exact (if_neg n1).trans ((if_neg n2).trans ((if_neg n3).trans ((if_neg n4).trans (if_neg n5))))
  try refine e_fl ?_
  refine e_plain (w_as rfl rfl rfl rfl rfl .nil) ?_
  try refine e_fl ?_
  exact e_return rfl rfl (.tmp (kn rfl) (.nil)) (Imp.of_eq (by rw [e]; rfl)) rfl
theorem vcompare_ef (a : Vl) (ha : Short a) : PCmp a := by
  revert ha
  exact Vl.parts (P := fun a => Short a → PCmp a) (fun v hf hl hp ha => vcompare_step v ha (fun f h => hf f h (short_field ha h)) (fun x h => hl x h (short_elem ha h)) (fun p h => ⟨(hp p h).1 (short_pair ha h).1, (hp p h).2 (short_pair ha h).2⟩)) a
set_option maxRecDepth 100000 in
theorem vsame_ef (a b : Vl) (ha : Short a) (hb : Short b) : EF Tryz.prog [] 71 [.many (vd a), .many (vd b)] (.part (tP (decide (vcmp a b = 0)))) := by
  refine ef_enter 9 Tryz.func71 rfl rfl rfl fun w D => ?_
  try refine e_fl ?_
  refine e_list ?_
  refine e_box 2 rfl rfl rfl rfl (kn rfl) rfl rfl rfl rfl ?_
  refine e_box 3 rfl rfl rfl rfl (kn rfl) rfl rfl rfl rfl ?_
  refine l_as ?_
  refine e_nil ?_
  try refine e_fl ?_
  refine e_plain (w_op rfl rfl rfl (s_loadn_box (ds := [_, _, _, _, _, _, _]) 7 rfl (kn rfl) rfl rfl agg_27 sz_27 rfl) (w_op rfl rfl rfl (s_loadn_box (ds := [_, _, _, _, _, _, _]) 7 rfl (kn rfl) rfl rfl agg_27 sz_27 rfl) (w_op rfl rfl rfl (s_call rfl (by kernel_rfl) (vcompare_ef a ha b hb) ⟨(kn rfl), ⟨(kn rfl), trivial⟩⟩) (w_op rfl rfl rfl (s_bin rfl (kn rfl) (kn rfl) v_eql) (w_as rfl rfl rfl rfl rfl .nil))))) ?_
  try refine e_fl ?_
  exact e_return rfl rfl (.tmp (kn rfl) (.nil)) (Imp.of_eq rfl) rfl
end Go.Proofs.YtagoikglbifhmaaGreatDoor
namespace Go.Proofs.YtagoikglbifhmaaGreatDoor
open Go
def grises {α : Type} (c : α → α → Int) : List α → Bool
  | [] => true
  | [_] => true
  | x :: y :: l => decide (c x y < 0) && grises c (y :: l)
def vbare (v : Vl) : Bool :=
  (decide (v.kind = 1) || decide (v.num = 0)) && (decide (v.kind = 2) || decide (v.text = [])) && (decide (v.kind = 3) || decide (v.fields = [])) && (decide (v.kind = 3) || decide (v.rest = [])) && (decide (v.kind = 4) || decide (v.list = [])) && (decide (v.kind = 5) || decide (v.pairs = []))
def fnum (n : Int) : Bool := decide (1 ≤ n) && decide (n ≤ 536870911)
def fok (f : Int × Vl) : Bool := fnum f.1 && !decide (f.2.kind = 0) && vright f.2
def vsing (x : Vl) : Bool := decide (1 ≤ x.kind) && decide (x.kind ≤ 3) && vright x
def pok (k : Int) (p : Vl × Vl) : Bool := decide (p.1.kind = k) && (vright p.1 && vsing p.2)
def fnumc (f g : Int × Vl) : Int := icmp f.1 g.1
def pkeyc (p q : Vl × Vl) : Int := vcmp p.1 q.1
def prights : List (Vl × Vl) → Bool
  | [] => false
  | p :: ps => (decide (p.1.kind = 1) || decide (p.1.kind = 2)) && ((p :: ps).all (pok p.1.kind) && grises pkeyc (p :: ps))
theorem icmp_neg_iff (a b : Int) : icmp a b < 0 ↔ a < b := by
  unfold icmp
  repeat' split
  all_goals omega
theorem fright_prog : ∀ (fs : List (Int × Vl)) (p : Int), fright p fs = (fs.all fok && (match fs with | [] => true | f :: _ => decide (p < f.1)) && grises fnumc fs)
  | [], p => by simp [fright, grises]
  | [(n, x)], p => by
    rw [fright, fright_prog [] n, Bool.eq_iff_iff]
    simp only [List.all_cons, List.all_nil, grises, fok, fnum, Bool.and_eq_true, Bool.not_eq_true', decide_eq_true_eq, decide_eq_false_iff_not, and_true, ne_eq, true_and]
    constructor
    · rintro ⟨⟨⟨⟨a, b⟩, c⟩, d⟩, e⟩
      exact ⟨⟨⟨⟨a, b⟩, d⟩, e⟩, c⟩
    · rintro ⟨⟨⟨⟨a, b⟩, d⟩, e⟩, c⟩
      exact ⟨⟨⟨⟨a, b⟩, c⟩, d⟩, e⟩
  | (n, x) :: (m, y) :: fs, p => by
    rw [fright, fright_prog ((m, y) :: fs) n, Bool.eq_iff_iff, grises, show ((n, x) :: (m, y) :: fs).all fok = (fok (n, x) && ((m, y) :: fs).all fok) from rfl, show fnumc (n, x) (m, y) = icmp n m from rfl]
    generalize ((m, y) :: fs).all fok = A
    generalize grises fnumc ((m, y) :: fs) = G
    simp only [fok, fnum, icmp_neg_iff, Bool.and_eq_true, Bool.not_eq_true', decide_eq_true_eq, decide_eq_false_iff_not, ne_eq]
    constructor
    · rintro ⟨⟨⟨⟨⟨a, b⟩, c⟩, d⟩, e⟩, ⟨f, g⟩, h⟩
      exact ⟨⟨⟨⟨⟨⟨a, b⟩, d⟩, e⟩, f⟩, c⟩, g, h⟩
    · rintro ⟨⟨⟨⟨⟨⟨a, b⟩, d⟩, e⟩, f⟩, c⟩, g, h⟩
      exact ⟨⟨⟨⟨⟨a, b⟩, c⟩, d⟩, e⟩, ⟨f, g⟩, h⟩
theorem vone_iff (x : Vl) : vone x = (decide (1 ≤ x.kind) && decide (x.kind ≤ 3)) := by
  rw [Bool.eq_iff_iff]
  unfold vone
  simp only [Bool.or_eq_true, Bool.and_eq_true, decide_eq_true_eq]
  omega
theorem lright_prog : ∀ ls : List Vl, lright ls = ls.all vsing
  | [] => by simp [lright]
  | x :: ls => by rw [lright, lright_prog ls, List.all_cons, vone_iff]; rfl
theorem pright_some (k : Int) (hk : k = 1 ∨ k = 2) : ∀ (ps : List (Vl × Vl)) (q : Vl × Vl), q.1.kind = k → pright (some q.1) ps = (ps.all (pok k) && grises pkeyc (q :: ps))
  | [], q, _ => by simp [pright, grises]
  | (a, x) :: ps, q, hq => by
    rw [pright, grises, List.all_cons, Bool.eq_iff_iff, show pkeyc q (a, x) = vcmp q.1 a from rfl]
    simp only [vone_iff, pok, vsing, Bool.and_eq_true, decide_eq_true_eq]
    constructor
    · rintro ⟨⟨⟨⟨⟨⟨_, _⟩, c⟩, d⟩, e⟩, f, g⟩, h⟩
      have hak : a.kind = k := by omega
      rw [pright_some k hk ps (a, x) hak] at h
      simp only [Bool.and_eq_true] at h
      exact ⟨⟨⟨hak, c, d, e⟩, h.1⟩, g, h.2⟩
    · rintro ⟨⟨⟨hak, c, d, e⟩, h⟩, g, i⟩
      rw [pright_some k hk ps (a, x) hak]
      simp only [Bool.and_eq_true]
      exact ⟨⟨⟨⟨⟨⟨by omega, by omega, by omega⟩, c⟩, d⟩, e⟩, by omega, g⟩, h, i⟩
theorem pright_prog : ∀ ps : List (Vl × Vl), pright none ps = (decide (ps = []) || prights ps)
  | [] => by simp [pright]
  | (a, x) :: ps => by
    rw [pright, prights, List.all_cons, Bool.eq_iff_iff]
    simp only [vone_iff, pok, vsing, Bool.and_eq_true, Bool.or_eq_true, decide_eq_true_eq, and_true, true_and, reduceCtorEq, false_or]
    constructor
    · rintro ⟨⟨⟨⟨⟨a1, a2, a3⟩, c⟩, d⟩, e⟩, h⟩
      have hk : a.kind = 1 ∨ a.kind = 2 := by omega
      rw [pright_some a.kind hk ps (a, x) rfl] at h
      simp only [Bool.and_eq_true] at h
      exact ⟨hk, ⟨⟨c, d, e⟩, h.1⟩, h.2⟩
    · rintro ⟨hk, ⟨⟨c, d, e⟩, h⟩, i⟩
      rw [pright_some a.kind hk ps (a, x) rfl]
      simp only [Bool.and_eq_true]
      exact ⟨⟨⟨⟨⟨by omega, by omega, by omega⟩, c⟩, d⟩, e⟩, h, i⟩
def vrightP (v : Vl) : Bool :=
  vbare v && (if v.kind = 0 ∨ v.kind = 1 ∨ v.kind = 2 then true else if v.kind = 3 then v.fields.all fok && grises fnumc v.fields else if v.kind = 4 then decide (v.list ≠ []) && v.list.all vsing else if v.kind = 5 then prights v.pairs else false)
theorem vright_prog (v : Vl) : vright v = vrightP v := by
  rw [vright_eq, fright_prog, lright_prog, pright_prog, Bool.eq_iff_iff]
  have hf : (v.fields.all fok = true) → (match v.fields with | [] => true | f :: _ => decide (0 < f.1)) = true := fun h => by
    revert h
    cases v.fields with
    | nil => exact fun _ => rfl
    | cons f fs =>
      intro h
      simp only [List.all_cons, fok, fnum, Bool.and_eq_true, decide_eq_true_eq] at h ⊢
      omega
  simp only [Bool.and_eq_true, vplain_iff, Bool.or_eq_true, decide_eq_true_eq]
  unfold vrightP vbare
  simp only [Bool.and_eq_true, Bool.or_eq_true, decide_eq_true_eq]
  constructor
  · rintro ⟨⟨⟨⟨h0, h5, hn, ht, hfr, hl, hp⟩, ⟨f1, f2⟩, f3⟩, l1⟩, p1⟩
    refine ⟨⟨⟨⟨⟨⟨?_, ?_⟩, ?_⟩, ?_⟩, ?_⟩, ?_⟩, ?_⟩
    · by_cases h : v.kind = 1
      · exact .inl h
      · exact .inr (hn h)
    · by_cases h : v.kind = 2
      · exact .inl h
      · exact .inr (ht h)
    · by_cases h : v.kind = 3
      · exact .inl h
      · exact .inr (hfr h).1
    · by_cases h : v.kind = 3
      · exact .inl h
      · exact .inr (hfr h).2
    · by_cases h : v.kind = 4
      · exact .inl h
      · exact .inr (Decidable.not_not.1 fun q => h (hl.2 q))
    · by_cases h : v.kind = 5
      · exact .inl h
      · exact .inr (Decidable.not_not.1 fun q => h (hp.2 q))
    · rcases (show v.kind = 0 ∨ v.kind = 1 ∨ v.kind = 2 ∨ v.kind = 3 ∨ v.kind = 4 ∨ v.kind = 5 by omega) with h | h | h | h | h | h
      · rw [if_pos (by omega)]
      · rw [if_pos (by omega)]
      · rw [if_pos (by omega)]
      · rw [if_neg (by omega), if_pos h, f1, f3]; rfl
      · rw [if_neg (by omega), if_neg (by omega), if_pos h, l1, Bool.and_true]
        exact decide_eq_true (hl.1 h)
      · rw [if_neg (by omega), if_neg (by omega), if_neg (by omega), if_pos h]
        exact p1.resolve_left (hp.1 h)
  · rintro ⟨⟨⟨⟨⟨⟨b1, b2⟩, b3⟩, b4⟩, b5⟩, b6⟩, hs⟩
    have hk : v.kind = 0 ∨ v.kind = 1 ∨ v.kind = 2 ∨ v.kind = 3 ∨ v.kind = 4 ∨ v.kind = 5 := Decidable.byContradiction fun hno => by
      rw [if_neg (by omega), if_neg (by omega), if_neg (by omega), if_neg (by omega)] at hs
      cases hs
    have hl : v.kind = 4 ↔ v.list ≠ [] := ⟨fun h => by
      rw [if_neg (by omega), if_neg (by omega), if_pos h] at hs
      simp only [Bool.and_eq_true, decide_eq_true_eq] at hs
      exact hs.1, fun h => b5.resolve_right h⟩
    have hp : v.kind = 5 ↔ v.pairs ≠ [] := ⟨fun h e => by
      rw [if_neg (by omega), if_neg (by omega), if_neg (by omega), if_pos h, e] at hs
      exact absurd hs (by decide), fun h => b6.resolve_right h⟩
    have h3 : v.kind = 3 → v.fields.all fok = true ∧ grises fnumc v.fields = true := fun h => by
      rw [if_neg (by omega), if_pos h] at hs
      simpa only [Bool.and_eq_true] using hs
    have hff : v.fields.all fok = true ∧ grises fnumc v.fields = true := by
      by_cases h : v.kind = 3
      · exact h3 h
      · rw [b3.resolve_left h]; exact ⟨rfl, rfl⟩
    have hll : v.list.all vsing = true := by
      by_cases h : v.kind = 4
      · rw [if_neg (by omega), if_neg (by omega), if_pos h] at hs
        simp only [Bool.and_eq_true] at hs
        exact hs.2
      · rw [b5.resolve_left h]; rfl
    have hpp : v.pairs = [] ∨ prights v.pairs = true := by
      by_cases h : v.kind = 5
      · rw [if_neg (by omega), if_neg (by omega), if_neg (by omega), if_pos h] at hs
        exact .inr hs
      · exact .inl (b6.resolve_left h)
    exact ⟨⟨⟨⟨by omega, by omega, fun h => b1.resolve_left h, fun h => b2.resolve_left h, fun h => ⟨b3.resolve_left h, b4.resolve_left h⟩, hl, hp⟩, ⟨hff.1, hf hff.1⟩, hff.2⟩, hll⟩, hpp⟩
end Go.Proofs.YtagoikglbifhmaaGreatDoor
