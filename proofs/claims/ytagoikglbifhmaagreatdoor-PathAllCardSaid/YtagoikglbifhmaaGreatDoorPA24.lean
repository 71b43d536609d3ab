/- Part 24 of what the last text of this claim is proved by: walks over the program, and the math behind them. Conditions: as each theorem says. -/
import Derived.Test.YtagoikglbifhmaaGreatDoorPA23
import Derived.Test.YtagoikglbifhmaaGreatDoorProg
namespace Go.Proofs.YtagoikglbifhmaaGreatDoor
open Go.RowKit
section
variable {P : Program} {cx : Cx} {T : TL} {B : BL} {R : RL} {o : Oper}
theorem lies_cap {w : World} {D : Nat → Prop} {k n c c' : Nat} {ds : List Dat} {p : Option Addr} (h : Lies w D (.row k n ds) (.slice p n c)) (hc : n ≤ c') : Lies w D (.row k n ds) (.slice p n c') := by
  generalize hv : Value.slice p n c = v at h
  cases h with
  | none k q c2 =>
    exact .none _ _ _
  | row k n b o c2 ds X h1 h2 h3 h4 h5 h6 =>
    injection hv with e1 e2 e3
    subst e1
    exact .row _ _ _ _ _ _ X h1 hc h3 h4 h5 h6
theorem s_rslice_max {x lo hi mx : Operand} {t : TypeId} {k : Nat} {α : Type} {f : α → List Dat} {qs : List α} {kk kh km : IntKind} {y z : Int} (ho : o.op = .slice t x (some lo) (some hi) (some mx)) (hx : Kn T x (.part (.one (.row k qs.length (qs.flatMap f))))) (hl : Kn T lo (.is (.int kk y))) (hh : Kn T hi (.is (.int kh z))) (hm : Kn T mx (.is (.int km z))) (hy : 0 ≤ y ∧ y ≤ z) (hz : z ≤ (qs.length : Int)) (hk : ∀ a, (f a).length = k) (ht : P.underlying t = some (.slice (P.elem t))) (hs : sizeT P (P.elem t) = some k) :
    LStep P cx B R o T (.part (.one (.row k ((qs.take z.toNat).drop y.toNat).length (((qs.take z.toNat).drop y.toNat).flatMap f)))) := LStep.same fun M V w a _ hkk => by
  have h1 := (hkk lo _ (by simp [ho, Op.operands]) hl).is_eq
  have h1' := (hkk hi _ (by simp [ho, Op.operands]) hh).is_eq
  have h1'' := (hkk mx _ (by simp [ho, Op.operands]) hm).is_eq
  have hv := hkk x _ (by simp [ho, Op.operands]) hx
  obtain ⟨p, c, h2, h3⟩ := row_cap hv
  rw [h2] at hv
  have h4 := lies_part hk hv (lo := 0) (hi := z.toNat) (by omega) (by omega) h3
  have hlen : ((qs.take z.toNat).drop 0).length = z.toNat := by rw [List.drop_zero, List.length_take]; omega
  have e0 : (if c = 0 then p else p.map (·.add (0 * k))) = p := by
    split
    · rfl
    · cases p with
      | none => rfl
      | some a => simp [Addr.add]
  rw [e0, List.drop_zero, Nat.sub_zero, Nat.sub_zero] at h4
  rw [List.drop_zero] at hlen
  have h4' : Lies w (Dc cx B R M V w) (.row k (qs.take z.toNat).length ((qs.take z.toNat).flatMap f)) (.slice p (qs.take z.toNat).length c) := by
    rw [hlen] at h4 ⊢
    exact h4
  have h6 := lies_cap (c' := z.toNat) h4' (by rw [hlen]; exact Nat.le_refl _)
  have h7 := lies_part hk h6 (lo := y.toNat) (hi := z.toNat) (by omega) (by rw [hlen]; exact Nat.le_refl _) (by rw [hlen]; exact Nat.le_refl _)
  have e1 : (qs.take z.toNat).take z.toNat = qs.take z.toNat := List.take_of_length_le (by rw [hlen]; exact Nat.le_refl _)
  rw [e1] at h7
  have h5 := run_slice_lhm (P := P) (w := w) t p qs.length c ht kk kh km y z z hy.1 hy.2 (Int.le_refl _) (by omega)
  rw [run_sizeT hs, Result.andThen_ok, ← run_sliceAt_slice _ _ _ _ _ _ ht] at h5
  exact ⟨sliced _ _ _ _ _, by simp [execOp, ho, h1, h1', h1'', h2, h5], h7⟩
end
theorem right_all {v : Vl} (h : vright v = true) : vplain v = true ∧ fright 0 v.fields = true ∧ lright v.list = true ∧ pright none v.pairs = true := by
  rw [vright_eq] at h
  simp only [Bool.and_eq_true] at h
  exact ⟨h.1.1.1, h.1.1.2, h.1.2, h.2⟩
theorem fright_mem {f : Int × Vl} : ∀ {fs : List (Int × Vl)} {p : Int}, fright p fs = true → f ∈ fs → vright f.2 = true ∧ f.2.kind ≠ 0
  | (n, x) :: fs, p, h, hf => by
    unfold fright at h
    simp only [Bool.and_eq_true, decide_eq_true_eq] at h
    rcases List.mem_cons.1 hf with rfl | hf
    · exact ⟨h.1.2, h.1.1.2⟩
    · exact fright_mem h.2 hf
theorem lright_mem {x : Vl} : ∀ {l : List Vl}, lright l = true → x ∈ l → vright x = true ∧ vone x = true
  | y :: l, h, hx => by
    unfold lright at h
    simp only [Bool.and_eq_true] at h
    rcases List.mem_cons.1 hx with rfl | hx
    · exact ⟨h.1.2, h.1.1⟩
    · exact lright_mem h.2 hx
theorem lright_of {l : List Vl} (h : ∀ x ∈ l, vright x = true ∧ vone x = true) : lright l = true := by
  induction l with
  | nil => unfold lright; rfl
  | cons x l ih =>
    unfold lright
    rw [(h x List.mem_cons_self).1, (h x List.mem_cons_self).2, ih fun y hy => h y (List.mem_cons_of_mem _ hy)]
    rfl
theorem pright_mem {q : Vl × Vl} : ∀ {ps : List (Vl × Vl)} {o : Option Vl}, pright o ps = true → q ∈ ps → vright q.2 = true ∧ vone q.2 = true ∧ vright q.1 = true
  | (k, x) :: ps, o, h, hq => by
    unfold pright at h
    simp only [Bool.and_eq_true] at h
    rcases List.mem_cons.1 hq with rfl | hq
    · exact ⟨h.1.1.2, h.1.1.1.2, h.1.1.1.1.2⟩
    · exact pright_mem h.2 hq
theorem vone_kind {x : Vl} (h : vone x = true) : x.kind ≠ 0 := by
  rw [vone_iff] at h
  simp only [Bool.and_eq_true, decide_eq_true_eq] at h
  omega
structure Gd (v : Vl) : Prop where
  r : vright v = true
  s : Short v
  f : v.Fine
def fAt (s : St) (v : Vl) : Int := if v.kind = 3 then (if gfound (fto s.num) v.fields then (gidx (fto s.num) v.fields : Int) else -1) else -1
def pAt (s : St) (v : Vl) : Int := if v.kind = 5 then (if gfound (pto s.key) v.pairs then (gidx (pto s.key) v.pairs : Int) else -1) else -1
theorem fno {n : Int} {fs : List (Int × Vl)} {p : Int} (h : fright p fs = true) (hf : gfound (fto n) fs = false) : ∀ x ∈ fs, fto n x ≠ 0 := fun x hx e => by
  have h1 := find_found n h
  rw [hf, if_neg (by decide), List.find?_eq_none] at h1
  have := h1 x hx
  have e2 : x.1 = n := icmp_zero e
  simp [e2] at this
theorem pno {k : Vl} {ps : List (Vl × Vl)} (h : Rises ps) (hf : gfound (pto k) ps = false) : ∀ x ∈ ps, pto k x ≠ 0 := fun x hx e => by
  have h1 := findp_found k h
  rw [hf, if_neg (by decide), List.find?_eq_none] at h1
  have := h1 x hx
  have e2 : vcmp x.1 k = 0 := e
  simp [e2] at this
set_option maxRecDepth 100000 in
set_option maxHeartbeats 1000000 in
theorem fieldAt_ef (s : St) (v : Vl) (hv : Gd v) : EF Tryz.prog [] 69 [.many (sd s), .many (vd v)] (.part (iP (fAt s v))) := by
  obtain ⟨_, h1, _, _⟩ := right_all hv.r
  have hl := (short_len hv.s).1
  refine ef_enter 12 Tryz.func69 rfl rfl rfl fun w D => ?_
  try refine e_fl ?_
  refine e_list ?_
  refine e_box 50 rfl rfl rfl rfl (kn rfl) rfl rfl rfl rfl ?_
  refine e_box 3 rfl rfl rfl rfl (kn rfl) rfl rfl rfl rfl ?_
  refine l_as ?_
  refine e_nil ?_
  try refine e_fl ?_
  refine e_plain (w_op rfl rfl rfl (s_faddr_box rfl (kn rfl) off_27_0) (w_op rfl rfl rfl (s_load1_box rfl (kn rfl) rfl rfl one_3) (w_op rfl rfl rfl (s_bin rfl (kn rfl) (kn rfl) v_neq) .nil))) ?_
  try refine e_fl ?_
  refine e_cond rfl (fun h => ?_) (fun h => ?_)
  · have e : fAt s v = -1 := if_neg (by simpa using h)
    try refine e_fl ?_
    refine e_plain (w_as rfl rfl rfl rfl rfl .nil) ?_
    try refine e_fl ?_
    exact e_return rfl rfl (.tmp (kn rfl) (.nil)) (Imp.of_eq (by rw [e]; rfl)) rfl
  have e : fAt s v = if gfound (fto s.num) v.fields then (gidx (fto s.num) v.fields : Int) else -1 := if_pos (by simpa using h)
  try refine e_fl ?_
  refine e_list ?_
  refine l_op (s_faddr_box rfl (kn rfl) off_27_3) ?_
  refine l_op (s_load1_box rfl (kn rfl) rfl rfl one_23) ?_
  refine l_op (s_func (fs := []) (cs := [.box 50 0]) rfl trivial ⟨kn rfl, trivial⟩) ?_
  refine e_calli rfl rfl rfl rfl (by kernel_rfl) (place_fields_eg s v.fields hl (fto s.num) (fright_mono h1) (fno h1) (fun x _ => fclo_eg s x)) ⟨rfl, trivial⟩ trivial ⟨(kn rfl), ⟨(kn rfl), trivial⟩⟩ (YI.tidy) ?_
  rintro _ _ _ ⟨rfl, rfl, rfl⟩
  refine l_as ?_
  refine e_nil ?_
  try refine e_fl ?_
  exact e_return rfl rfl (.tmp (kn rfl) (.nil)) (Imp.of_eq (by rw [e]; rfl)) rfl
set_option maxRecDepth 100000 in
set_option maxHeartbeats 1000000 in
theorem pairAt_ef (s : St) (hs : Short s.key) (v : Vl) (hv : Gd v) : EF Tryz.prog [] 70 [.many (sd s), .many (vd v)] (.part (iP (pAt s v))) := by
  have h1 := rises_right hv.r
  have hl := (short_len hv.s).2.2
  refine ef_enter 12 Tryz.func70 rfl rfl rfl fun w D => ?_
  try refine e_fl ?_
  refine e_list ?_
  refine e_box 50 rfl rfl rfl rfl (kn rfl) rfl rfl rfl rfl ?_
  refine e_box 3 rfl rfl rfl rfl (kn rfl) rfl rfl rfl rfl ?_
  refine l_as ?_
  refine e_nil ?_
  try refine e_fl ?_
  refine e_plain (w_op rfl rfl rfl (s_faddr_box rfl (kn rfl) off_27_0) (w_op rfl rfl rfl (s_load1_box rfl (kn rfl) rfl rfl one_3) (w_op rfl rfl rfl (s_bin rfl (kn rfl) (kn rfl) v_neq) .nil))) ?_
  try refine e_fl ?_
  refine e_cond rfl (fun h => ?_) (fun h => ?_)
  · have e : pAt s v = -1 := if_neg (by simpa using h)
    try refine e_fl ?_
    refine e_plain (w_as rfl rfl rfl rfl rfl .nil) ?_
    try refine e_fl ?_
    exact e_return rfl rfl (.tmp (kn rfl) (.nil)) (Imp.of_eq (by rw [e]; rfl)) rfl
  have e : pAt s v = if gfound (pto s.key) v.pairs then (gidx (pto s.key) v.pairs : Int) else -1 := if_pos (by simpa using h)
  try refine e_fl ?_
  refine e_list ?_
  refine l_op (s_faddr_box rfl (kn rfl) off_27_6) ?_
  refine l_op (s_load1_box rfl (kn rfl) rfl rfl one_25) ?_
  refine l_op (s_func (fs := []) (cs := [.box 50 0]) rfl trivial ⟨kn rfl, trivial⟩) ?_
  refine e_calli rfl rfl rfl rfl (by kernel_rfl) (place_pairs_eg s v.pairs hl (pto s.key) (pto_mono h1) (pno h1) (fun x hx => pclo_eg s hs x (short_pair hv.s hx).1)) ⟨rfl, trivial⟩ trivial ⟨(kn rfl), ⟨(kn rfl), trivial⟩⟩ (YI.tidy) ?_
  rintro _ _ _ ⟨rfl, rfl, rfl⟩
  refine l_as ?_
  refine e_nil ?_
  try refine e_fl ?_
  exact e_return rfl rfl (.tmp (kn rfl) (.nil)) (Imp.of_eq (by rw [e]; rfl)) rfl
theorem fAt_case (s : St) {v : Vl} (hv : Gd v) : (∃ (k : Nat) (x : Int × Vl), fAt s v = (k : Int) ∧ v.fields[k]? = some x ∧ vget v s.num = x.2 ∧ x ∈ v.fields) ∨ (fAt s v = -1 ∧ vget v s.num = vnone) := by
  obtain ⟨_, h1, _, _⟩ := right_all hv.r
  by_cases hk : v.kind = 3
  · have hf := find_found s.num h1
    unfold fAt vget
    rw [if_pos hk, if_pos hk, hf]
    cases hg : gfound (fto s.num) v.fields
    · exact .inr ⟨by rw [if_neg (by decide)], by rw [if_neg (by decide)]; rfl⟩
    · have hlt : gidx (fto s.num) v.fields < v.fields.length := by
        have h2 := hg
        unfold gfound at h2
        simp only [Bool.and_eq_true, decide_eq_true_eq] at h2
        exact h2.1
      have hx := getD_some' hlt
      rw [Int.toNat_natCast] at hx
      exact .inl ⟨_, v.fields.getD (gidx (fto s.num) v.fields) default, by rw [if_pos rfl], hx, by rw [if_pos rfl]; rfl, List.mem_of_getElem? hx⟩
  · exact .inr ⟨if_neg hk, if_neg hk⟩
theorem pAt_case (s : St) {v : Vl} (hv : Gd v) : (∃ (k : Nat) (x : Vl × Vl), pAt s v = (k : Int) ∧ v.pairs[k]? = some x ∧ vfind v s.key = x.2 ∧ x ∈ v.pairs) ∨ (pAt s v = -1 ∧ vfind v s.key = vnone) := by
  have h1 := rises_right hv.r
  by_cases hk : v.kind = 5
  · have hf := findp_found s.key h1
    unfold pAt vfind
    rw [if_pos hk, if_pos hk, hf]
    cases hg : gfound (pto s.key) v.pairs
    · exact .inr ⟨by rw [if_neg (by decide)], by rw [if_neg (by decide)]; rfl⟩
    · have hlt : gidx (pto s.key) v.pairs < v.pairs.length := by
        have h2 := hg
        unfold gfound at h2
        simp only [Bool.and_eq_true, decide_eq_true_eq] at h2
        exact h2.1
      have hx := getD_some' hlt
      rw [Int.toNat_natCast] at hx
      exact .inl ⟨_, v.pairs.getD (gidx (pto s.key) v.pairs) default, by rw [if_pos rfl], hx, by rw [if_pos rfl]; rfl, List.mem_of_getElem? hx⟩
  · exact .inr ⟨if_neg hk, if_neg hk⟩
abbrev gR (x : Vl) (b : Bool) : IV := .tup [.many (vd x), tP b]
set_option maxRecDepth 100000 in
theorem there_ef (v : Vl) (hr : vright v = true) : EF Tryz.prog [] 33 [.many (vd v)] (gR v (!decide (v.kind = 0))) := by
  refine ef_enter 9 Tryz.func33 rfl rfl rfl fun w D => ?_
  try refine e_fl ?_
  refine e_list ?_
  refine e_box 1 rfl rfl rfl rfl (kn rfl) rfl rfl rfl rfl ?_
  refine e_alloc 2 [.is (.int .i64 0), .is (.int .u64 0), .is (.string ⟨#[]⟩), .is (.slice none 0 0), .is (.string ⟨#[]⟩), .is (.slice none 0 0), .is (.slice none 0 0)] rfl rfl rfl rfl zr_27 (fun w D M V => ⟨rfl, fun j x v h1 h2 => cfit_is _ h1 h2 rfl⟩) rfl rfl rfl rfl ?_
  refine l_as ?_
  refine e_nil ?_
  try refine e_fl ?_
  refine e_plain (w_op rfl rfl rfl (s_faddr_box rfl (kn rfl) off_27_0) (w_op rfl rfl rfl (s_load1_box rfl (kn rfl) rfl rfl one_3) (w_op rfl rfl rfl (s_bin rfl (kn rfl) (kn rfl) v_eql) .nil))) ?_
  try refine e_fl ?_
  refine e_cond rfl (fun h => ?_) (fun h => ?_)
  · have e := plain_none hr (of_decide_eq_true h)
    subst e
    try refine e_fl ?_
    refine e_list ?_
    refine l_op (s_build (ds := [_, _, _, .row 8 0 [], _, .row 7 0 [], .row 14 0 []]) [] rfl trivial rfl pl_27 zr_27 (fun w D => .cons (.cell _) (.cons (.cell _) (.cons (.cell _) (.cons (.none _ _ _) (.cons (.cell _) (.cons (.none _ _ _) (.cons (.none _ _ _) (.nil _ _)))))))) rfl) ?_
    refine e_storew rfl rfl rfl (kn rfl) rfl (kn rfl) rfl rfl sz_27 ?_
    refine l_as ?_
    refine e_nil ?_
    try refine e_fl ?_
    exact e_return rfl rfl (.cell rfl rfl rfl agg_27 sz_27 rfl (.tmp (kn rfl) (.nil))) (Imp.of_eq rfl) rfl
  · try refine e_fl ?_
    refine e_list ?_
    refine l_op (s_loadn_box (ds := [_, _, _, _, _, _, _]) 7 rfl (kn rfl) rfl rfl agg_27 sz_27 rfl) ?_
    refine e_storew rfl rfl rfl (kn rfl) rfl (kn rfl) rfl rfl sz_27 ?_
    refine l_as ?_
    refine e_nil ?_
    try refine e_fl ?_
    exact e_return rfl rfl (.cell rfl rfl rfl agg_27 sz_27 rfl (.tmp (kn rfl) (.nil))) (Imp.of_eq (by rw [h]; rfl)) rfl
set_option maxRecDepth 100000 in
theorem nothing_ef (s : St) (v : Vl) : EF Tryz.prog [] 61 [.many (sd s), .many (vd v)] (gR vnone false) := by
  refine ef_enter 7 Tryz.func61 rfl rfl rfl fun w D => ?_
  try refine e_fl ?_
  refine e_list ?_
  refine e_box 2 rfl rfl rfl rfl (kn rfl) rfl rfl rfl rfl ?_
  refine e_box 3 rfl rfl rfl rfl (kn rfl) rfl rfl rfl rfl ?_
  refine e_alloc 4 [.is (.int .i64 0), .is (.int .u64 0), .is (.string ⟨#[]⟩), .is (.slice none 0 0), .is (.string ⟨#[]⟩), .is (.slice none 0 0), .is (.slice none 0 0)] rfl rfl rfl rfl zr_27 (fun w D M V => ⟨rfl, fun j x v h1 h2 => cfit_is _ h1 h2 rfl⟩) rfl rfl rfl rfl ?_
  refine l_as ?_
  refine e_nil ?_
  try refine e_fl ?_
  refine e_list ?_
  refine l_op (s_build (ds := [_, _, _, .row 8 0 [], _, .row 7 0 [], .row 14 0 []]) [] rfl trivial rfl pl_27 zr_27 (fun w D => .cons (.cell _) (.cons (.cell _) (.cons (.cell _) (.cons (.none _ _ _) (.cons (.cell _) (.cons (.none _ _ _) (.cons (.none _ _ _) (.nil _ _)))))))) rfl) ?_
  refine e_storew rfl rfl rfl (kn rfl) rfl (kn rfl) rfl rfl sz_27 ?_
  refine l_as ?_
  refine e_nil ?_
  try refine e_fl ?_
  exact e_return rfl rfl (.cell rfl rfl rfl agg_27 sz_27 rfl (.tmp (kn rfl) (.nil))) (Imp.of_eq rfl) rfl
theorem knd_t {x : Vl} (h : x.kind ≠ 0) : (!decide (x.kind = 0)) = true := by simp [h]
set_option maxRecDepth 100000 in
set_option maxHeartbeats 1000000 in
theorem field_ef (s : St) (v : Vl) (hv : Gd v) : EF Tryz.prog [] 56 [.many (sd s), .many (vd v)] (gR (vget v s.num) (!decide ((vget v s.num).kind = 0))) := by
  obtain ⟨_, h1, _, _⟩ := right_all hv.r
  have hat := fieldAt_ef s v hv
  rcases fAt_case s hv with ⟨k, x, e1, hx, e2, hxm⟩ | ⟨e1, e2⟩
  · rw [e1] at hat
    rw [e2]
    have hx' : v.fields[((k : Nat) : Int).toNat]? = some x := by rw [Int.toNat_natCast]; exact hx
    refine ef_enter 26 Tryz.func56 rfl rfl rfl fun w D => ?_
    try refine e_fl ?_
    refine e_list ?_
    refine e_box 2 rfl rfl rfl rfl (kn rfl) rfl rfl rfl rfl ?_
    refine e_box 3 rfl rfl rfl rfl (kn rfl) rfl rfl rfl rfl ?_
    refine e_alloc 4 [.is (.int .i64 0), .is (.int .u64 0), .is (.string ⟨#[]⟩), .is (.slice none 0 0), .is (.string ⟨#[]⟩), .is (.slice none 0 0), .is (.slice none 0 0)] rfl rfl rfl rfl zr_27 (fun w D M V => ⟨rfl, fun j x v h1 h2 => cfit_is _ h1 h2 rfl⟩) rfl rfl rfl rfl ?_
    refine l_as ?_
    refine e_nil ?_
    try refine e_fl ?_
    refine e_plain (w_op rfl rfl rfl (s_loadn_box (ds := [_, _, _, _, _, _, _, _, _, _]) 10 rfl (kn rfl) rfl rfl agg_62 sz_62 rfl) (w_op rfl rfl rfl (s_loadn_box (ds := [_, _, _, _, _, _, _]) 7 rfl (kn rfl) rfl rfl agg_27 sz_27 rfl) (w_op rfl rfl rfl (s_call rfl (by kernel_rfl) (hat) ⟨(kn rfl), ⟨(kn rfl), trivial⟩⟩) (w_as rfl rfl rfl rfl rfl .nil)))) ?_
    try refine e_fl ?_
    refine e_plain (w_mv rfl rfl rfl rfl rfl (w_op rfl rfl rfl (s_bin rfl (kn rfl) (kn rfl) v_lss) .nil)) ?_
    try refine e_fl ?_
    refine e_cond rfl (fun h => ?_) (fun h => ?_)
    · exact absurd (of_decide_eq_true h) (by omega)
    try refine e_fl ?_
    refine e_list ?_
    refine l_op (s_faddr_box rfl (kn rfl) off_27_3) ?_
    refine l_op (s_load1_box rfl (kn rfl) rfl rfl one_23) ?_
    refine l_mv ?_
    refine l_op (s_index rfl (kn rfl) (kn rfl) (by omega) hx' fieldDats_len sle_23 esz_23 (fieldDats_vd x)) ?_
    refine l_op (s_faddr_ref rfl (kn rfl) off_66_1) ?_
    refine l_op (s_loadn_ref rfl (kn rfl) agg_27 sz_27) ?_
    refine l_op (s_call rfl (by kernel_rfl) (there_ef x.2 (fright_mem h1 hxm).1) ⟨(kn rfl), trivial⟩) ?_
    refine l_ex ?_
    refine l_ex ?_
    refine e_storew rfl rfl rfl (kn rfl) rfl (kn rfl) rfl rfl sz_27 ?_
    refine l_as ?_
    refine e_nil ?_
    try refine e_fl ?_
    exact e_return rfl rfl (.cell rfl rfl rfl agg_27 sz_27 rfl (.tmp (kn rfl) (.nil))) (Imp.of_eq rfl) rfl
  · rw [e1] at hat
    rw [e2]
    refine ef_enter 26 Tryz.func56 rfl rfl rfl fun w D => ?_
    try refine e_fl ?_
    refine e_list ?_
    refine e_box 2 rfl rfl rfl rfl (kn rfl) rfl rfl rfl rfl ?_
    refine e_box 3 rfl rfl rfl rfl (kn rfl) rfl rfl rfl rfl ?_
    refine e_alloc 4 [.is (.int .i64 0), .is (.int .u64 0), .is (.string ⟨#[]⟩), .is (.slice none 0 0), .is (.string ⟨#[]⟩), .is (.slice none 0 0), .is (.slice none 0 0)] rfl rfl rfl rfl zr_27 (fun w D M V => ⟨rfl, fun j x v h1 h2 => cfit_is _ h1 h2 rfl⟩) rfl rfl rfl rfl ?_
    refine l_as ?_
    refine e_nil ?_
    try refine e_fl ?_
    refine e_plain (w_op rfl rfl rfl (s_loadn_box (ds := [_, _, _, _, _, _, _, _, _, _]) 10 rfl (kn rfl) rfl rfl agg_62 sz_62 rfl) (w_op rfl rfl rfl (s_loadn_box (ds := [_, _, _, _, _, _, _]) 7 rfl (kn rfl) rfl rfl agg_27 sz_27 rfl) (w_op rfl rfl rfl (s_call rfl (by kernel_rfl) (hat) ⟨(kn rfl), ⟨(kn rfl), trivial⟩⟩) (w_as rfl rfl rfl rfl rfl .nil)))) ?_
    try refine e_fl ?_
    refine e_plain (w_mv rfl rfl rfl rfl rfl (w_op rfl rfl rfl (s_bin rfl (kn rfl) (kn rfl) v_lss) .nil)) ?_
    try refine e_fl ?_
    refine e_cond rfl (fun h => ?_) (fun h => ?_)
    · try refine e_fl ?_
      refine e_list ?_
      refine l_op (s_loadn_box (ds := [_, _, _, _, _, _, _, _, _, _]) 10 rfl (kn rfl) rfl rfl agg_62 sz_62 rfl) ?_
      refine l_op (s_loadn_box (ds := [_, _, _, _, _, _, _]) 7 rfl (kn rfl) rfl rfl agg_27 sz_27 rfl) ?_
      refine l_op (s_call rfl (by kernel_rfl) (nothing_ef s v) ⟨(kn rfl), ⟨(kn rfl), trivial⟩⟩) ?_
      refine l_ex ?_
      refine l_ex ?_
      refine e_storew rfl rfl rfl (kn rfl) rfl (kn rfl) rfl rfl sz_27 ?_
      refine l_as ?_
      refine e_nil ?_
      try refine e_fl ?_
      exact e_return rfl rfl (.cell rfl rfl rfl agg_27 sz_27 rfl (.tmp (kn rfl) (.nil))) (Imp.of_eq rfl) rfl
    · exact absurd (of_decide_eq_false h) (by decide)
set_option maxRecDepth 100000 in
set_option maxHeartbeats 1000000 in
theorem pair_ef (s : St) (hs : Short s.key) (v : Vl) (hv : Gd v) : EF Tryz.prog [] 57 [.many (sd s), .many (vd v)] (gR (vfind v s.key) (!decide ((vfind v s.key).kind = 0))) := by
  obtain ⟨_, _, _, h1⟩ := right_all hv.r
  have hat := pairAt_ef s hs v hv
  rcases pAt_case s hv with ⟨k, x, e1, hx, e2, hxm⟩ | ⟨e1, e2⟩
  · rw [e1] at hat
    rw [e2]
    have hx' : v.pairs[((k : Nat) : Int).toNat]? = some x := by rw [Int.toNat_natCast]; exact hx
    refine ef_enter 26 Tryz.func57 rfl rfl rfl fun w D => ?_
    try refine e_fl ?_
    refine e_list ?_
    refine e_box 2 rfl rfl rfl rfl (kn rfl) rfl rfl rfl rfl ?_
    refine e_box 3 rfl rfl rfl rfl (kn rfl) rfl rfl rfl rfl ?_
    refine e_alloc 4 [.is (.int .i64 0), .is (.int .u64 0), .is (.string ⟨#[]⟩), .is (.slice none 0 0), .is (.string ⟨#[]⟩), .is (.slice none 0 0), .is (.slice none 0 0)] rfl rfl rfl rfl zr_27 (fun w D M V => ⟨rfl, fun j x v h1 h2 => cfit_is _ h1 h2 rfl⟩) rfl rfl rfl rfl ?_
    refine l_as ?_
    refine e_nil ?_
    try refine e_fl ?_
    refine e_plain (w_op rfl rfl rfl (s_loadn_box (ds := [_, _, _, _, _, _, _, _, _, _]) 10 rfl (kn rfl) rfl rfl agg_62 sz_62 rfl) (w_op rfl rfl rfl (s_loadn_box (ds := [_, _, _, _, _, _, _]) 7 rfl (kn rfl) rfl rfl agg_27 sz_27 rfl) (w_op rfl rfl rfl (s_call rfl (by kernel_rfl) (hat) ⟨(kn rfl), ⟨(kn rfl), trivial⟩⟩) (w_as rfl rfl rfl rfl rfl .nil)))) ?_
    try refine e_fl ?_
    refine e_plain (w_mv rfl rfl rfl rfl rfl (w_op rfl rfl rfl (s_bin rfl (kn rfl) (kn rfl) v_lss) .nil)) ?_
    try refine e_fl ?_
    refine e_cond rfl (fun h => ?_) (fun h => ?_)
    · exact absurd (of_decide_eq_true h) (by omega)
    try refine e_fl ?_
    refine e_list ?_
    refine l_op (s_faddr_box rfl (kn rfl) off_27_6) ?_
    refine l_op (s_load1_box rfl (kn rfl) rfl rfl one_25) ?_
    refine l_mv ?_
    refine l_op (s_index rfl (kn rfl) (kn rfl) (by omega) hx' pairDats_len sle_25 esz_25 (pairDats_vd x)) ?_
    refine l_op (s_faddr_ref rfl (kn rfl) off_82_1) ?_
    refine l_op (s_loadn_ref rfl (kn rfl) agg_27 sz_27) ?_
    refine l_op (s_call rfl (by kernel_rfl) (there_ef x.2 (pright_mem h1 hxm).1) ⟨(kn rfl), trivial⟩) ?_
    refine l_ex ?_
    refine l_ex ?_
    refine e_storew rfl rfl rfl (kn rfl) rfl (kn rfl) rfl rfl sz_27 ?_
    refine l_as ?_
    refine e_nil ?_
    try refine e_fl ?_
    exact e_return rfl rfl (.cell rfl rfl rfl agg_27 sz_27 rfl (.tmp (kn rfl) (.nil))) (Imp.of_eq rfl) rfl
  · rw [e1] at hat
    rw [e2]
    refine ef_enter 26 Tryz.func57 rfl rfl rfl fun w D => ?_
    try refine e_fl ?_
    refine e_list ?_
    refine e_box 2 rfl rfl rfl rfl (kn rfl) rfl rfl rfl rfl ?_
    refine e_box 3 rfl rfl rfl rfl (kn rfl) rfl rfl rfl rfl ?_
    refine e_alloc 4 [.is (.int .i64 0), .is (.int .u64 0), .is (.string ⟨#[]⟩), .is (.slice none 0 0), .is (.string ⟨#[]⟩), .is (.slice none 0 0), .is (.slice none 0 0)] rfl rfl rfl rfl zr_27 (fun w D M V => ⟨rfl, fun j x v h1 h2 => cfit_is _ h1 h2 rfl⟩) rfl rfl rfl rfl ?_
    refine l_as ?_
    refine e_nil ?_
    try refine e_fl ?_
    refine e_plain (w_op rfl rfl rfl (s_loadn_box (ds := [_, _, _, _, _, _, _, _, _, _]) 10 rfl (kn rfl) rfl rfl agg_62 sz_62 rfl) (w_op rfl rfl rfl (s_loadn_box (ds := [_, _, _, _, _, _, _]) 7 rfl (kn rfl) rfl rfl agg_27 sz_27 rfl) (w_op rfl rfl rfl (s_call rfl (by kernel_rfl) (hat) ⟨(kn rfl), ⟨(kn rfl), trivial⟩⟩) (w_as rfl rfl rfl rfl rfl .nil)))) ?_
    try refine e_fl ?_
    refine e_plain (w_mv rfl rfl rfl rfl rfl (w_op rfl rfl rfl (s_bin rfl (kn rfl) (kn rfl) v_lss) .nil)) ?_
    try refine e_fl ?_
    refine e_cond rfl (fun h => ?_) (fun h => ?_)
    · try refine e_fl ?_
      refine e_list ?_
      refine l_op (s_loadn_box (ds := [_, _, _, _, _, _, _, _, _, _]) 10 rfl (kn rfl) rfl rfl agg_62 sz_62 rfl) ?_
      refine l_op (s_loadn_box (ds := [_, _, _, _, _, _, _]) 7 rfl (kn rfl) rfl rfl agg_27 sz_27 rfl) ?_
      refine l_op (s_call rfl (by kernel_rfl) (nothing_ef s v) ⟨(kn rfl), ⟨(kn rfl), trivial⟩⟩) ?_
      refine l_ex ?_
      refine l_ex ?_
      refine e_storew rfl rfl rfl (kn rfl) rfl (kn rfl) rfl rfl sz_27 ?_
      refine l_as ?_
      refine e_nil ?_
      try refine e_fl ?_
      exact e_return rfl rfl (.cell rfl rfl rfl agg_27 sz_27 rfl (.tmp (kn rfl) (.nil))) (Imp.of_eq rfl) rfl
    · exact absurd (of_decide_eq_false h) (by decide)
def sidx (s : St) (v : Vl) : Vl × Bool := if v.kind = 4 ∧ 0 ≤ s.num ∧ s.num < (v.list.length : Int) then (v.list.getD s.num.toNat default, true) else (vnone, false)
def srest (v : Vl) : Vl × Bool := if v.kind = 3 then (ktxt v.rest, true) else (vnone, false)
def vlst (l : List Vl) : Vl := .mk 4 0 [] [] [] l []
def sspan (s : St) (v : Vl) : Vl × Bool :=
  if v.kind = 4 ∧ 0 ≤ s.num ∧ s.num ≤ s.to ∧ s.to ≤ (v.list.length : Int) then (if s.num < s.to then (vlst ((v.list.take s.to.toNat).drop s.num.toNat), true) else (vnone, true)) else (vnone, false)
set_option maxRecDepth 100000 in
set_option maxHeartbeats 1000000 in
theorem element_ef (s : St) (v : Vl) (hv : Gd v) : EF Tryz.prog [] 58 [.many (sd s), .many (vd v)] (gR (sidx s v).1 (sidx s v).2) := by
  obtain ⟨_, _, h1, _⟩ := right_all hv.r
  refine ef_enter 36 Tryz.func58 rfl rfl rfl fun w D => ?_
  try refine e_fl ?_
  refine e_list ?_
  refine e_box 2 rfl rfl rfl rfl (kn rfl) rfl rfl rfl rfl ?_
  refine e_box 3 rfl rfl rfl rfl (kn rfl) rfl rfl rfl rfl ?_
  refine e_alloc 4 [.is (.int .i64 0), .is (.int .u64 0), .is (.string ⟨#[]⟩), .is (.slice none 0 0), .is (.string ⟨#[]⟩), .is (.slice none 0 0), .is (.slice none 0 0)] rfl rfl rfl rfl zr_27 (fun w D M V => ⟨rfl, fun j x v h1 h2 => cfit_is _ h1 h2 rfl⟩) rfl rfl rfl rfl ?_
  refine l_as ?_
  refine e_nil ?_
  try refine e_fl ?_
  refine e_plain (w_op rfl rfl rfl (s_faddr_box rfl (kn rfl) off_27_0) (w_op rfl rfl rfl (s_load1_box rfl (kn rfl) rfl rfl one_3) (w_op rfl rfl rfl (s_bin rfl (kn rfl) (kn rfl) v_neq) (w_mv rfl rfl rfl rfl rfl (Walk.gd _ rfl rfl rfl (fun h => s_faddr_box rfl (kn rfl) off_62_1) (Walk.gd _ rfl rfl rfl (fun h => s_load1_box rfl (kn_opt rfl h) rfl rfl one_3) (Walk.gd _ rfl rfl rfl (fun h => s_bin rfl (kn_opt rfl h) (kn rfl) v_lss) (w_op rfl rfl rfl (s_or rfl (kn rfl) (fun hb => kn_opt rfl hb)) (w_mv rfl rfl rfl rfl rfl (Walk.gd _ rfl rfl rfl (fun h => s_faddr_box rfl (kn rfl) off_62_1) (Walk.gd _ rfl rfl rfl (fun h => s_load1_box rfl (kn_opt rfl h) rfl rfl one_3) (Walk.gd _ rfl rfl rfl (fun h => s_faddr_box rfl (kn rfl) off_27_5) (Walk.gd _ rfl rfl rfl (fun h => s_load1_box rfl (kn_opt rfl h) rfl rfl one_24) (Walk.gd _ rfl rfl rfl (fun h => s_len rfl (kn_opt rfl h) sle_24) (Walk.gd _ rfl rfl rfl (fun h => s_bin rfl (kn_opt rfl h) (kn_opt rfl h) v_geq) (w_op rfl rfl rfl (s_or rfl (kn rfl) (fun hb => kn_opt rfl hb)) .nil)))))))))))))))) ?_
  try refine e_fl ?_
  refine e_cond rfl (fun h => ?_) (fun h => ?_)
  · have e : sidx s v = (vnone, false) := if_neg (by
      simp only [Bool.or_eq_true, Bool.not_eq_true', decide_eq_true_eq, decide_eq_false_iff_not] at h
      omega)
    try refine e_fl ?_
    refine e_list ?_
    refine l_op (s_loadn_box (ds := [_, _, _, _, _, _, _, _, _, _]) 10 rfl (kn rfl) rfl rfl agg_62 sz_62 rfl) ?_
    refine l_op (s_loadn_box (ds := [_, _, _, _, _, _, _]) 7 rfl (kn rfl) rfl rfl agg_27 sz_27 rfl) ?_
    refine l_op (s_call rfl (by kernel_rfl) (nothing_ef s v) ⟨(kn rfl), ⟨(kn rfl), trivial⟩⟩) ?_
    refine l_ex ?_
    refine l_ex ?_
    refine e_storew rfl rfl rfl (kn rfl) rfl (kn rfl) rfl rfl sz_27 ?_
    refine l_as ?_
    refine e_nil ?_
    try refine e_fl ?_
    exact e_return rfl rfl (.cell rfl rfl rfl agg_27 sz_27 rfl (.tmp (kn rfl) (.nil))) (Imp.of_eq (by rw [e]; rfl)) rfl
  have hc : v.kind = 4 ∧ 0 ≤ s.num ∧ s.num < (v.list.length : Int) := by
    simp only [Bool.or_eq_false_iff, Bool.not_eq_false', decide_eq_true_eq, decide_eq_false_iff_not] at h
    omega
  obtain ⟨x, hx⟩ : ∃ x, v.list[s.num.toNat]? = some x := ⟨_, List.getElem?_eq_getElem (by omega)⟩
  have e : sidx s v = (x, true) := by
    unfold sidx
    rw [if_pos hc, List.getD_eq_getElem?_getD, hx]
    rfl
  have hxr := lright_mem h1 (List.mem_of_getElem? hx)
  clear h
  try refine e_fl ?_
  refine e_list ?_
  refine l_op (s_faddr_box rfl (kn rfl) off_27_5) ?_
  refine l_op (s_load1_box rfl (kn rfl) rfl rfl one_24) ?_
  refine l_op (s_faddr_box rfl (kn rfl) off_62_1) ?_
  refine l_op (s_load1_box rfl (kn rfl) rfl rfl one_3) ?_
  refine l_op (s_index rfl (kn rfl) (kn rfl) (by omega) hx Vl.dats_len sle_24 esz_24 (dats_vd x)) ?_
  refine l_op (s_loadn_ref rfl (kn rfl) agg_27 sz_27) ?_
  refine l_op (s_call rfl (by kernel_rfl) (there_ef x hxr.1) ⟨(kn rfl), trivial⟩) ?_
  refine l_ex ?_
  refine l_ex ?_
  refine e_storew rfl rfl rfl (kn rfl) rfl (kn rfl) rfl rfl sz_27 ?_
  refine l_as ?_
  refine e_nil ?_
  try refine e_fl ?_
  exact e_return rfl rfl (.cell rfl rfl rfl agg_27 sz_27 rfl (.tmp (kn rfl) (.nil))) (Imp.of_eq (by rw [e, knd_t (vone_kind hxr.2)]; rfl)) rfl
set_option maxRecDepth 100000 in
theorem rest_ef (s : St) (v : Vl) : EF Tryz.prog [] 59 [.many (sd s), .many (vd v)] (gR (srest v).1 (srest v).2) := by
  refine ef_enter 17 Tryz.func59 rfl rfl rfl fun w D => ?_
  try refine e_fl ?_
  refine e_list ?_
  refine e_box 2 rfl rfl rfl rfl (kn rfl) rfl rfl rfl rfl ?_
  refine e_box 3 rfl rfl rfl rfl (kn rfl) rfl rfl rfl rfl ?_
  refine e_alloc 4 [.is (.int .i64 0), .is (.int .u64 0), .is (.string ⟨#[]⟩), .is (.slice none 0 0), .is (.string ⟨#[]⟩), .is (.slice none 0 0), .is (.slice none 0 0)] rfl rfl rfl rfl zr_27 (fun w D M V => ⟨rfl, fun j x v h1 h2 => cfit_is _ h1 h2 rfl⟩) rfl rfl rfl rfl ?_
  refine l_as ?_
  refine e_nil ?_
  try refine e_fl ?_
  refine e_plain (w_op rfl rfl rfl (s_faddr_box rfl (kn rfl) off_27_0) (w_op rfl rfl rfl (s_load1_box rfl (kn rfl) rfl rfl one_3) (w_op rfl rfl rfl (s_bin rfl (kn rfl) (kn rfl) v_neq) .nil))) ?_
  try refine e_fl ?_
  refine e_cond rfl (fun h => ?_) (fun h => ?_)
  · have e : srest v = (vnone, false) := if_neg (by simpa using h)
    try refine e_fl ?_
    refine e_list ?_
    refine l_op (s_loadn_box (ds := [_, _, _, _, _, _, _, _, _, _]) 10 rfl (kn rfl) rfl rfl agg_62 sz_62 rfl) ?_
    refine l_op (s_loadn_box (ds := [_, _, _, _, _, _, _]) 7 rfl (kn rfl) rfl rfl agg_27 sz_27 rfl) ?_
    refine l_op (s_call rfl (by kernel_rfl) (nothing_ef s v) ⟨(kn rfl), ⟨(kn rfl), trivial⟩⟩) ?_
    refine l_ex ?_
    refine l_ex ?_
    refine e_storew rfl rfl rfl (kn rfl) rfl (kn rfl) rfl rfl sz_27 ?_
    refine l_as ?_
    refine e_nil ?_
    try refine e_fl ?_
    exact e_return rfl rfl (.cell rfl rfl rfl agg_27 sz_27 rfl (.tmp (kn rfl) (.nil))) (Imp.of_eq (by rw [e]; rfl)) rfl
  · have e : srest v = (ktxt v.rest, true) := if_pos (by simpa using h)
    try refine e_fl ?_
    refine e_list ?_
    refine l_op (s_faddr_box rfl (kn rfl) off_27_4) ?_
    refine l_op (s_load1_box rfl (kn rfl) rfl rfl one_9) ?_
    refine l_op (s_call rfl (by kernel_rfl) (kstr_ef [] v.rest) ⟨(kn rfl), trivial⟩) ?_
    refine e_storew rfl rfl rfl (kn rfl) rfl (kn rfl) rfl rfl sz_27 ?_
    refine l_as ?_
    refine e_nil ?_
    try refine e_fl ?_
    exact e_return rfl rfl (.cell rfl rfl rfl agg_27 sz_27 rfl (.tmp (kn rfl) (.nil))) (Imp.of_eq (by rw [e]; rfl)) rfl
set_option maxRecDepth 100000 in
set_option maxHeartbeats 1000000 in
theorem span_ef (s : St) (v : Vl) : EF Tryz.prog [] 60 [.many (sd s), .many (vd v)] (gR (sspan s v).1 (sspan s v).2) := by
  refine ef_enter 50 Tryz.func60 rfl rfl rfl fun w D => ?_
  try refine e_fl ?_
  refine e_list ?_
  refine e_box 2 rfl rfl rfl rfl (kn rfl) rfl rfl rfl rfl ?_
  refine e_box 3 rfl rfl rfl rfl (kn rfl) rfl rfl rfl rfl ?_
  refine e_alloc 4 [.is (.int .i64 0), .is (.int .u64 0), .is (.string ⟨#[]⟩), .is (.slice none 0 0), .is (.string ⟨#[]⟩), .is (.slice none 0 0), .is (.slice none 0 0)] rfl rfl rfl rfl zr_27 (fun w D M V => ⟨rfl, fun j x v h1 h2 => cfit_is _ h1 h2 rfl⟩) rfl rfl rfl rfl ?_
  refine l_as ?_
  refine e_nil ?_
  try refine e_fl ?_
  refine e_plain (w_op rfl rfl rfl (s_faddr_box rfl (kn rfl) off_27_0) (w_op rfl rfl rfl (s_load1_box rfl (kn rfl) rfl rfl one_3) (w_op rfl rfl rfl (s_bin rfl (kn rfl) (kn rfl) v_neq) (w_mv rfl rfl rfl rfl rfl (Walk.gd _ rfl rfl rfl (fun h => s_faddr_box rfl (kn rfl) off_62_1) (Walk.gd _ rfl rfl rfl (fun h => s_load1_box rfl (kn_opt rfl h) rfl rfl one_3) (Walk.gd _ rfl rfl rfl (fun h => s_bin rfl (kn_opt rfl h) (kn rfl) v_lss) (w_op rfl rfl rfl (s_or rfl (kn rfl) (fun hb => kn_opt rfl hb)) (w_mv rfl rfl rfl rfl rfl (Walk.gd _ rfl rfl rfl (fun h => s_faddr_box rfl (kn rfl) off_62_1) (Walk.gd _ rfl rfl rfl (fun h => s_load1_box rfl (kn_opt rfl h) rfl rfl one_3) (Walk.gd _ rfl rfl rfl (fun h => s_faddr_box rfl (kn rfl) off_62_2) (Walk.gd _ rfl rfl rfl (fun h => s_load1_box rfl (kn_opt rfl h) rfl rfl one_3) (Walk.gd _ rfl rfl rfl (fun h => s_bin rfl (kn_opt rfl h) (kn_opt rfl h) v_gtr) (w_op rfl rfl rfl (s_or rfl (kn rfl) (fun hb => kn_opt rfl hb)) (w_mv rfl rfl rfl rfl rfl (Walk.gd _ rfl rfl rfl (fun h => s_faddr_box rfl (kn rfl) off_62_2) (Walk.gd _ rfl rfl rfl (fun h => s_load1_box rfl (kn_opt rfl h) rfl rfl one_3) (Walk.gd _ rfl rfl rfl (fun h => s_faddr_box rfl (kn rfl) off_27_5) (Walk.gd _ rfl rfl rfl (fun h => s_load1_box rfl (kn_opt rfl h) rfl rfl one_24) (Walk.gd _ rfl rfl rfl (fun h => s_len rfl (kn_opt rfl h) sle_24) (Walk.gd _ rfl rfl rfl (fun h => s_bin rfl (kn_opt rfl h) (kn_opt rfl h) v_gtr) (w_op rfl rfl rfl (s_or rfl (kn rfl) (fun hb => kn_opt rfl hb)) .nil))))))))))))))))))))))) ?_
  try refine e_fl ?_
  refine e_cond rfl (fun h => ?_) (fun h => ?_)
  · have e : sspan s v = (vnone, false) := if_neg (by
      simp only [Bool.or_eq_true, Bool.not_eq_true', decide_eq_true_eq, decide_eq_false_iff_not] at h
      omega)
    try refine e_fl ?_
    refine e_list ?_
    refine l_op (s_loadn_box (ds := [_, _, _, _, _, _, _, _, _, _]) 10 rfl (kn rfl) rfl rfl agg_62 sz_62 rfl) ?_
    refine l_op (s_loadn_box (ds := [_, _, _, _, _, _, _]) 7 rfl (kn rfl) rfl rfl agg_27 sz_27 rfl) ?_
    refine l_op (s_call rfl (by kernel_rfl) (nothing_ef s v) ⟨(kn rfl), ⟨(kn rfl), trivial⟩⟩) ?_
    refine l_ex ?_
    refine l_ex ?_
    refine e_storew rfl rfl rfl (kn rfl) rfl (kn rfl) rfl rfl sz_27 ?_
    refine l_as ?_
    refine e_nil ?_
    try refine e_fl ?_
    exact e_return rfl rfl (.cell rfl rfl rfl agg_27 sz_27 rfl (.tmp (kn rfl) (.nil))) (Imp.of_eq (by rw [e]; rfl)) rfl
  have hc : v.kind = 4 ∧ 0 ≤ s.num ∧ s.num ≤ s.to ∧ s.to ≤ (v.list.length : Int) := by
    simp only [Bool.or_eq_false_iff, Bool.not_eq_false', decide_eq_true_eq, decide_eq_false_iff_not] at h
    omega
  have e0 : sspan s v = if s.num < s.to then (vlst ((v.list.take s.to.toNat).drop s.num.toNat), true) else (vnone, true) := if_pos hc
  clear h
  try refine e_fl ?_
  refine e_plain (w_op rfl rfl rfl (s_faddr_box rfl (kn rfl) off_62_1) (w_op rfl rfl rfl (s_load1_box rfl (kn rfl) rfl rfl one_3) (w_op rfl rfl rfl (s_faddr_box rfl (kn rfl) off_62_2) (w_op rfl rfl rfl (s_load1_box rfl (kn rfl) rfl rfl one_3) (w_op rfl rfl rfl (s_bin rfl (kn rfl) (kn rfl) v_eql) .nil))))) ?_
  try refine e_fl ?_
  refine e_cond rfl (fun h => ?_) (fun h => ?_)
  · have e : sspan s v = (vnone, true) := by rw [e0, if_neg (by have := of_decide_eq_true h; omega)]
    try refine e_fl ?_
    refine e_list ?_
    refine l_op (s_build (ds := [_, _, _, .row 8 0 [], _, .row 7 0 [], .row 14 0 []]) [] rfl trivial rfl pl_27 zr_27 (fun w D => .cons (.cell _) (.cons (.cell _) (.cons (.cell _) (.cons (.none _ _ _) (.cons (.cell _) (.cons (.none _ _ _) (.cons (.none _ _ _) (.nil _ _)))))))) rfl) ?_
    refine e_storew rfl rfl rfl (kn rfl) rfl (kn rfl) rfl rfl sz_27 ?_
    refine l_as ?_
    refine e_nil ?_
    try refine e_fl ?_
    exact e_return rfl rfl (.cell rfl rfl rfl agg_27 sz_27 rfl (.tmp (kn rfl) (.nil))) (Imp.of_eq (by rw [e]; rfl)) rfl
  · have e : sspan s v = (vlst ((v.list.take s.to.toNat).drop s.num.toNat), true) := by rw [e0, if_pos (by have := of_decide_eq_false h; omega)]
    try refine e_fl ?_
    refine e_list ?_
    refine l_op (s_faddr_box rfl (kn rfl) off_27_5) ?_
    refine l_op (s_load1_box rfl (kn rfl) rfl rfl one_24) ?_
    refine l_op (s_faddr_box rfl (kn rfl) off_62_1) ?_
    refine l_op (s_load1_box rfl (kn rfl) rfl rfl one_3) ?_
    refine l_op (s_faddr_box rfl (kn rfl) off_62_2) ?_
    refine l_op (s_load1_box rfl (kn rfl) rfl rfl one_3) ?_
    refine l_op (s_faddr_box rfl (kn rfl) off_62_2) ?_
    refine l_op (s_load1_box rfl (kn rfl) rfl rfl one_3) ?_
    refine l_op (s_rslice_max rfl (kn rfl) (kn rfl) (kn rfl) (kn rfl) ⟨hc.2.1, hc.2.2.1⟩ hc.2.2.2 Vl.dats_len sle_24 esz_24) ?_
    refine l_op (s_build (ds := [_, _, _, .row 8 0 [], _, _, .row 14 0 []]) [(0, _), (5, _)] rfl ⟨rfl, (kn rfl), ⟨rfl, (kn rfl), trivial⟩⟩ rfl pl_27 zr_27 (fun w D => .cons (.cell _) (.cons (.cell _) (.cons (.cell _) (.cons (.none _ _ _) (.cons (.cell _) (.cons (.cell _) (.cons (.none _ _ _) (.nil _ _)))))))) rfl) ?_
    refine e_storew rfl rfl rfl (kn rfl) rfl (kn rfl) rfl rfl sz_27 ?_
    refine l_as ?_
    refine e_nil ?_
    try refine e_fl ?_
    exact e_return rfl rfl (.cell rfl rfl rfl agg_27 sz_27 rfl (.tmp (kn rfl) (.nil))) (Imp.of_eq (by rw [e]; rfl)) rfl
def fsel (k : Int) : FuncId :=
  if k = 1 then 56 else if k = 2 then 57 else if k = 3 then 58 else if k = 4 then 59 else if k = 5 then 60 else 61
theorem fsel_call (k : Int) : callable Tryz.prog (fsel k) = true := by
  unfold fsel
  repeat' split
  all_goals kernel_rfl
set_option maxRecDepth 100000 in
theorem finder_ef (k : Int) : EF Tryz.prog [] 34 [iP k] (.part (fP (fsel k))) := by
  refine ef_enter 14 Tryz.func34 rfl rfl rfl fun w D => ?_
  try refine e_fl ?_
  refine e_plain (w_as rfl rfl rfl rfl rfl .nil) ?_
  try refine e_fl ?_
  refine e_plain (w_mv rfl rfl rfl rfl rfl .nil) ?_
  try refine e_fl ?_
  try refine e_fl ?_
  refine e_plain (w_op rfl rfl rfl (s_bin rfl (kn rfl) (kn rfl) v_eql) (w_as rfl rfl rfl rfl rfl .nil)) ?_
  try refine e_fl ?_
  refine e_cond rfl (fun q1 => ?_) (fun q1 => ?_)
  · try refine e_fl ?_
    refine e_plain (w_as rfl rfl rfl rfl rfl .nil) ?_
    try refine e_fl ?_
    exact e_return rfl rfl (.tmp (kn rfl) (.nil)) (Imp.of_eq (by rw [fsel, if_pos (of_decide_eq_true q1)]; rfl)) rfl
  have n1 := of_decide_eq_false q1
  try refine e_fl ?_
  refine e_plain (w_op rfl rfl rfl (s_bin rfl (kn rfl) (kn rfl) v_eql) (w_as rfl rfl rfl rfl rfl .nil)) ?_
  try refine e_fl ?_
  refine e_cond rfl (fun q2 => ?_) (fun q2 => ?_)
  · try refine e_fl ?_
    refine e_plain (w_as rfl rfl rfl rfl rfl .nil) ?_
    try refine e_fl ?_
    exact e_return rfl rfl (.tmp (kn rfl) (.nil)) (Imp.of_eq (by rw [fsel, if_neg n1, if_pos (of_decide_eq_true q2)]; rfl)) rfl
  have n2 := of_decide_eq_false q2
  try refine e_fl ?_
  refine e_plain (w_op rfl rfl rfl (s_bin rfl (kn rfl) (kn rfl) v_eql) (w_as rfl rfl rfl rfl rfl .nil)) ?_
  try refine e_fl ?_
  refine e_cond rfl (fun q3 => ?_) (fun q3 => ?_)
  · try refine e_fl ?_
    refine e_plain (w_as rfl rfl rfl rfl rfl .nil) ?_
    try refine e_fl ?_
    exact e_return rfl rfl (.tmp (kn rfl) (.nil)) (Imp.of_eq (by rw [fsel, if_neg n1, if_neg n2, if_pos (of_decide_eq_true q3)]; rfl)) rfl
  have n3 := of_decide_eq_false q3
  try refine e_fl ?_
  refine e_plain (w_op rfl rfl rfl (s_bin rfl (kn rfl) (kn rfl) v_eql) (w_as rfl rfl rfl rfl rfl .nil)) ?_
  try refine e_fl ?_
  refine e_cond rfl (fun q4 => ?_) (fun q4 => ?_)
  · try refine e_fl ?_
    refine e_plain (w_as rfl rfl rfl rfl rfl .nil) ?_
    try refine e_fl ?_
    exact e_return rfl rfl (.tmp (kn rfl) (.nil)) (Imp.of_eq (by rw [fsel, if_neg n1, if_neg n2, if_neg n3, if_pos (of_decide_eq_true q4)]; rfl)) rfl
  have n4 := of_decide_eq_false q4
  try refine e_fl ?_
  refine e_plain (w_op rfl rfl rfl (s_bin rfl (kn rfl) (kn rfl) v_eql) (w_as rfl rfl rfl rfl rfl .nil)) ?_
  try refine e_fl ?_
  refine e_cond rfl (fun q5 => ?_) (fun q5 => ?_)
  · try refine e_fl ?_
    refine e_plain (w_as rfl rfl rfl rfl rfl .nil) ?_
    try refine e_fl ?_
    exact e_return rfl rfl (.tmp (kn rfl) (.nil)) (Imp.of_eq (by rw [fsel, if_neg n1, if_neg n2, if_neg n3, if_neg n4, if_pos (of_decide_eq_true q5)]; rfl)) rfl
  have n5 := of_decide_eq_false q5
  try refine e_fl ?_
  refine e_plain (w_as rfl rfl rfl rfl rfl .nil) ?_
  try refine e_fl ?_
  exact e_return rfl rfl (.tmp (kn rfl) (.nil)) (Imp.of_eq (by rw [fsel, if_neg n1, if_neg n2, if_neg n3, if_neg n4, if_neg n5]; rfl)) rfl
def sget (s : St) (v : Vl) : Vl × Bool :=
  if s.kind = 1 then (vget v s.num, !decide ((vget v s.num).kind = 0)) else if s.kind = 2 then (vfind v s.key, !decide ((vfind v s.key).kind = 0)) else if s.kind = 3 then sidx s v else if s.kind = 4 then srest v else if s.kind = 5 then sspan s v else (vnone, false)
theorem sget_ef (s : St) (hs : Short s.key) (v : Vl) (hv : Gd v) : EF Tryz.prog [] (fsel s.kind) [.many (sd s), .many (vd v)] (gR (sget s v).1 (sget s v).2) := by
  unfold fsel sget
  split
  · exact field_ef s v hv
  split
  · exact pair_ef s hs v hv
  split
  · exact element_ef s v hv
  split
  · exact rest_ef s v
  split
  · exact span_ef s v
  · exact nothing_ef s v
theorem lnodes_sub {a b : List Vl} (h : a.Sublist b) : lnodes a ≤ lnodes b := by
  induction h with
  | slnil => exact Nat.le_refl _
  | cons x _ ih => simp only [lnodes]; omega
  | cons_cons x _ ih => simp only [lnodes]; omega
theorem vright_vlst {l : List Vl} (hne : l ≠ []) (h : ∀ x ∈ l, vright x = true ∧ vone x = true) : vright (vlst l) = true := by
  rw [vright_eq]
  have h1 : vplain (vlst l) = true := (vplain_iff _).2 ⟨(by show (0 : Int) ≤ 4; decide), (by show (4 : Int) ≤ 5; decide), fun _ => rfl, fun _ => rfl, fun _ => ⟨rfl, rfl⟩, ⟨fun _ => hne, fun _ => rfl⟩, ⟨fun e => absurd (show (4 : Int) = 5 from e) (by decide), fun e => absurd rfl e⟩⟩
  have h2 : lright (vlst l).list = true := lright_of h
  have h3 : fright 0 (vlst l).fields = true := by unfold vlst; simp [Vl.fields, fright]
  have h4 : pright none (vlst l).pairs = true := by unfold vlst; simp [Vl.pairs, pright]
  rw [h1, h2, h3, h4]
  rfl
theorem fine_mk {k : Int} {n : Nat} {t : List UInt8} {l : List Vl} (h1 : -9223372036854775808 ≤ k) (h2 : k < 9223372036854775808) (h3 : n < 18446744073709551616) (h4 : t.length ≤ maxLen) (h5 : l.length ≤ maxLen) (h6 : ∀ x ∈ l, x.Fine) : (Vl.mk k n t [] [] l []).Fine :=
  .mk _ h1 h2 h3 h4 (Nat.zero_le _) (Nat.zero_le _) h5 (Nat.zero_le _) (fun _ h => by cases h) (fun _ h => by cases h) h6 (fun _ h => by cases h) (fun _ h => by cases h)
theorem gd_none : Gd vnone := ⟨vright_none, short_leaf _ _ _, fine_mk (by decide) (by decide) (by decide) (Nat.zero_le _) (Nat.zero_le _) (fun _ h => by cases h)⟩
theorem sget_gd (s : St) {v : Vl} (hv : Gd v) : Gd (sget s v).1 ∧ ((sget s v).2 = false → (sget s v).1 = vnone) := by
  obtain ⟨h0, h1, h2, h3⟩ := right_all hv.r
  unfold sget
  split
  · rcases fAt_case s hv with ⟨k, x, _, _, e, hm⟩ | ⟨_, e⟩
    · have hx := fright_mem h1 hm
      exact ⟨by rw [e]; exact ⟨hx.1, short_field hv.s hm, (hv.f.field hm).2⟩, fun h => absurd h (by rw [e]; simp [hx.2])⟩
    · exact ⟨by rw [e]; exact gd_none, fun _ => e⟩
  split
  · rcases pAt_case s hv with ⟨k, x, _, _, e, hm⟩ | ⟨_, e⟩
    · have hx := pright_mem h3 hm
      exact ⟨by rw [e]; exact ⟨hx.1, (short_pair hv.s hm).2, (hv.f.pair hm).2⟩, fun h => absurd h (by rw [e]; simp [vone_kind hx.2.1])⟩
    · exact ⟨by rw [e]; exact gd_none, fun _ => e⟩
  split
  · unfold sidx
    split
    · rename_i hc
      have hm : v.list.getD s.num.toNat default ∈ v.list := by
        have : s.num.toNat < v.list.length := by omega
        rw [List.getD_eq_getElem?_getD, List.getElem?_eq_getElem this]
        exact List.getElem_mem this
      exact ⟨⟨(lright_mem h2 hm).1, short_elem hv.s hm, hv.f.elem hm⟩, fun h => by cases h⟩
    · exact ⟨gd_none, fun _ => rfl⟩
  split
  · unfold srest
    split
    · have hb := hv.f.bounds
      exact ⟨⟨vright_txt _, short_leaf _ _ _, fine_mk (by decide) (by decide) (by decide) hb.2.2.1 (Nat.zero_le _) (fun _ h => by cases h)⟩, fun h => by cases h⟩
    · exact ⟨gd_none, fun _ => rfl⟩
  split
  · unfold sspan
    split
    · rename_i hc
      split
      · have hsub : ((v.list.take s.to.toNat).drop s.num.toNat).Sublist v.list := (List.drop_sublist _ _).trans (List.take_sublist _ _)
        have hmem : ∀ x, x ∈ (v.list.take s.to.toNat).drop s.num.toNat → x ∈ v.list := fun x hx => hsub.subset hx
        have hne : (v.list.take s.to.toNat).drop s.num.toNat ≠ [] := fun e => by
          have := congrArg List.length e
          rw [List.length_drop, List.length_take] at this
          simp at this
          omega
        have hb := hv.f.bounds
        refine ⟨⟨vright_vlst hne fun x hx => lright_mem h2 (hmem x hx), ?_, fine_mk (by decide) (by decide) (by decide) (Nat.zero_le _) (Nat.le_trans hsub.length_le hb.2.2.2.2.1) (fun x hx => hv.f.elem (hmem x hx))⟩, fun h => by cases h⟩
        have hs := hv.s
        unfold Short at hs ⊢
        rw [vnodes_eq] at hs ⊢
        have := lnodes_sub hsub
        show 1 + lnodes ((v.list.take s.to.toNat).drop s.num.toNat) + fnodes [] + pnodes [] ≤ 1000000
        simp only [fnodes, pnodes]
        omega
      · exact ⟨gd_none, fun h => by cases h⟩
    · exact ⟨gd_none, fun _ => rfl⟩
  · exact ⟨gd_none, fun _ => rfl⟩
def pgo : Vl × Bool → List St → Vl × Bool
  | r, [] => r
  | r, s :: p => pgo (sget s r.1) p
def pget (v : Vl) (p : List St) : Vl × Bool := pgo (v, !decide (v.kind = 0)) p
set_option maxRecDepth 100000 in
set_option maxHeartbeats 1000000 in
theorem pget_ef (v : Vl) (hv : Gd v) (p : List St) (hl : p.length ≤ 1000000) (hk : KeysShort p) : EF Tryz.prog [] 10 [.many (vd v), stD p] (gR (pget v p).1 (pget v p).2) := by
  refine ef_enter 32 Tryz.func10 rfl rfl rfl fun w D => ?_
  try refine e_fl ?_
  refine e_list ?_
  refine e_box 2 rfl rfl rfl rfl (kn rfl) rfl rfl rfl rfl ?_
  refine e_alloc 4 [.is (.int .i64 0), .is (.int .u64 0), .is (.string ⟨#[]⟩), .is (.slice none 0 0), .is (.string ⟨#[]⟩), .is (.slice none 0 0), .is (.slice none 0 0)] rfl rfl rfl rfl zr_27 (fun w D M V => ⟨rfl, fun j x v h1 h2 => cfit_is _ h1 h2 rfl⟩) rfl rfl rfl rfl ?_
  refine l_as ?_
  refine e_nil ?_
  try refine e_fl ?_
  refine e_list ?_
  refine l_op (s_loadn_box (ds := [_, _, _, _, _, _, _]) 7 rfl (kn rfl) rfl rfl agg_27 sz_27 rfl) ?_
  refine l_op (s_call rfl (by kernel_rfl) (there_ef v hv.r) ⟨(kn rfl), trivial⟩) ?_
  refine l_mv ?_
  refine l_ex ?_
  refine l_ex ?_
  refine e_storew rfl rfl rfl (kn rfl) rfl (kn rfl) rfl rfl sz_27 ?_
  refine l_as ?_
  refine e_nil ?_
  try refine e_fl ?_
  refine e_plain (w_mv rfl rfl rfl rfl rfl (w_op rfl rfl rfl (s_len rfl (kn rfl) sle_29) (w_mv rfl rfl rfl rfl rfl .nil))) ?_
  try refine e_fl ?_
  refine e_loop (ι := { i : Nat × (Vl × Bool) // i.1 ≤ p.length ∧ pget v p = pgo i.2 (p.drop i.1) ∧ Gd i.2.1 })
    (fun i => [(2, .box 2 0), (4, .box 4 0), (6, .part (tP i.1.2.2)), (14, .part (stD p)), (15, .is (.int .i64 (p.length : Int))), (16, .is (.int .i64 (i.1.1 : Int)))])
    (fun i => [(4, ⟨27, zB⟩), (2, ⟨27, bcs (vd i.1.2.1)⟩)]) (fun _ => []) (fun i => p.length - i.1.1) ⟨(0, (v, !decide (v.kind = 0))), by simp, rfl, hv⟩
    (fun K => e_sub ⟨s_t, s_t, s_t, s_t, s_t, s_t, trivial⟩ ⟨s_b, s_b, trivial⟩ trivial) ?_
  rintro ⟨⟨k, x, b⟩, hkl, hw, hx⟩
  dsimp only at hkl hw hx ⊢
  try refine e_fl ?_
  refine e_plain (w_op rfl rfl rfl (s_bin rfl (kn rfl) (kn rfl) v_lss) .nil) ?_
  try refine e_fl ?_
  refine e_cond rfl (fun h => ?_) (fun h => ?_)
  · have hlt : k < p.length := by have := of_decide_eq_true h; omega
    obtain ⟨s, hs⟩ : ∃ s, p[k]? = some s := ⟨_, List.getElem?_eq_getElem hlt⟩
    have hsm := List.mem_of_getElem? hs
    have hg := sget_ef s (hk s hsm) x hx
    try refine e_fl ?_
    refine e_list ?_
    refine l_op (s_index rfl (kn rfl) (kn rfl) (by omega) hs stDats_len sle_29 esz_29 (stDats_sd s)) ?_
    refine l_op (s_loadn_ref rfl (kn rfl) agg_62 sz_62) ?_
    refine e_alloc 8 [.is (.int .i64 0), .is (.int .i64 0), .is (.int .i64 0), .is (.int .i64 0), .is (.int .u64 0), .is (.string ⟨#[]⟩), .is (.slice none 0 0), .is (.string ⟨#[]⟩), .is (.slice none 0 0), .is (.slice none 0 0)] rfl rfl rfl rfl zr_62 (fun w D M V => ⟨rfl, fun j x v h1 h2 => cfit_is _ h1 h2 rfl⟩) rfl rfl rfl rfl ?_
    refine e_storew rfl rfl rfl (kn rfl) rfl (kn rfl) rfl rfl sz_62 ?_
    refine e_nil ?_
    try refine e_fl ?_
    refine e_sub (T' := [(2, .box 2 0), (4, .box 4 0), (8, .box 8 0), (14, .part (stD p)), (15, .is (.int .i64 (p.length : Int))), (16, .is (.int .i64 (k : Int)))]) (B' := [(8, sBx s), (4, ⟨27, zB⟩), (2, ⟨27, bcs (vd x)⟩)]) (R' := []) ⟨s_t, s_t, s_t, s_t, s_t, s_t, trivial⟩ ⟨s_b, s_b, s_b, trivial⟩ trivial ?_
    refine e_draw_st 11 [[], [0], [1], [], [], [2, 3, 4, 2], [5], [6], [6], [7, 5, 0, 1, 2, 3, 4, 5, 6, 7], [8, 9, 0, 1, 2, 3, 4, 5, 6, 7, 8, 9]] [[false, false, false, false, false, false, false, false, false, false, false], [true, false, false, false, false, false, false, false, false, false, false], [false, false, false, true, false, false, false, false, false, false, false], [false, false, false, false, true, false, false, false, false, false, false], [true, true, false, false, false, false, false, false, false, false, false], [true, false, false, true, false, false, false, false, false, false, false], [true, false, false, false, true, false, false, false, false, false, false], [false, false, false, true, true, false, false, false, false, false, false], [true, true, true, false, false, false, false, false, false, false, false], [true, true, false, true, false, false, false, false, false, false, false], [true, true, false, false, true, false, false, false, false, false, false], [true, false, false, true, true, false, false, false, false, false, false], [true, true, true, true, false, false, false, false, false, false, false], [true, true, true, false, true, false, false, false, false, false, false], [true, true, false, true, true, false, false, false, false, false, false], [true, true, true, true, true, false, false, false, false, false, false], [true, true, true, true, true, true, false, false, false, false, false], [true, true, true, true, true, true, true, false, false, false, false], [true, true, true, true, true, true, true, true, false, false, false], [true, true, true, true, true, true, true, false, true, false, false], [true, true, true, true, true, true, true, true, true, false, false], [true, true, true, true, true, true, true, true, false, true, false], [true, true, true, true, true, true, true, true, true, true, false], [true, true, true, true, true, true, true, true, true, true, true]] [([false, false, false, false, false, false, false, false, false, false, false], 0), ([false, false, false, false, false, false, false, false, false, false, false], 3), ([false, false, false, false, false, false, false, false, false, false, false], 4), ([true, false, false, false, false, false, false, false, false, false, false], 1), ([true, false, false, false, false, false, false, false, false, false, false], 3), ([true, false, false, false, false, false, false, false, false, false, false], 4), ([false, false, false, true, false, false, false, false, false, false, false], 0), ([false, false, false, true, false, false, false, false, false, false, false], 4), ([false, false, false, false, true, false, false, false, false, false, false], 0), ([false, false, false, false, true, false, false, false, false, false, false], 3), ([true, true, false, false, false, false, false, false, false, false, false], 2), ([true, true, false, false, false, false, false, false, false, false, false], 3), ([true, true, false, false, false, false, false, false, false, false, false], 4), ([true, false, false, true, false, false, false, false, false, false, false], 1), ([true, false, false, true, false, false, false, false, false, false, false], 4), ([true, false, false, false, true, false, false, false, false, false, false], 1), ([true, false, false, false, true, false, false, false, false, false, false], 3), ([false, false, false, true, true, false, false, false, false, false, false], 0), ([true, true, true, false, false, false, false, false, false, false, false], 3), ([true, true, true, false, false, false, false, false, false, false, false], 4), ([true, true, false, true, false, false, false, false, false, false, false], 2), ([true, true, false, true, false, false, false, false, false, false, false], 4), ([true, true, false, false, true, false, false, false, false, false, false], 2), ([true, true, false, false, true, false, false, false, false, false, false], 3), ([true, false, false, true, true, false, false, false, false, false, false], 1), ([true, true, true, true, false, false, false, false, false, false, false], 4), ([true, true, true, false, true, false, false, false, false, false, false], 3), ([true, true, false, true, true, false, false, false, false, false, false], 2), ([true, true, true, true, true, false, false, false, false, false, false], 5), ([true, true, true, true, true, true, false, false, false, false, false], 6), ([true, true, true, true, true, true, true, false, false, false, false], 7), ([true, true, true, true, true, true, true, false, false, false, false], 8), ([true, true, true, true, true, true, true, true, false, false, false], 8), ([true, true, true, true, true, true, true, true, false, false, false], 9), ([true, true, true, true, true, true, true, false, true, false, false], 7), ([true, true, true, true, true, true, true, true, true, false, false], 9), ([true, true, true, true, true, true, true, true, false, true, false], 8), ([true, true, true, true, true, true, true, true, true, true, false], 10)] [(0, 21, .box 8 0), (1, 22, .part (iP s.kind)), (2, 23, .part (fP (fsel s.kind))), (3, 24, .part (.many (sd s))), (4, 25, .part (.many (vd x))), (5, 26, gR (sget s x).1 (sget s x).2), (6, 20, gR (sget s x).1 (sget s x).2), (7, 27, .part (.many (vd (sget s x).1))), (8, 28, .part (tP (sget s x).2)), (10, 6, .part (tP (sget s x).2))] [(9, 2, ⟨27, bcs (vd (sget s x).1)⟩)] [(2, .box 2 0), (4, .box 4 0), (8, .box 8 0), (14, .part (stD p)), (15, .is (.int .i64 (p.length : Int))), (16, .is (.int .i64 (k : Int)))] [(8, sBx s), (4, ⟨27, zB⟩), (2, ⟨27, bcs (vd x)⟩)] (by kernel_rfl) rfl mixed (by kernel_rfl) (by decide) (fun K h => h) ?_ ?_
    · repeat' first
        | exact trivial
        | refine And.intro ?_ ?_
      all_goals
        intro K hK
        replace hK := e_dd hK
        first
          | (refine e_opi (i := 0) rfl (fun h => h) ?_; refine l_op (s_faddr_box rfl (kn rfl) off_62_0) ?_; refine e_nil ?_; refine e_fl ?_; exact e_subK hK (by repeat' first | exact trivial | refine And.intro s_t ?_) (by repeat' first | exact trivial | refine And.intro s_b ?_))
          | (refine e_opi (i := 1) rfl (fun h => h) ?_; refine l_op (s_load1_box rfl (kn rfl) rfl rfl one_3) ?_; refine e_nil ?_; refine e_fl ?_; exact e_subK hK (by repeat' first | exact trivial | refine And.intro s_t ?_) (by repeat' first | exact trivial | refine And.intro s_b ?_))
          | (refine e_opi (i := 2) rfl (fun h => h) ?_; refine l_op (s_call rfl (by kernel_rfl) (finder_ef s.kind) ⟨(kn rfl), trivial⟩) ?_; refine e_nil ?_; refine e_fl ?_; exact e_subK hK (by repeat' first | exact trivial | refine And.intro s_t ?_) (by repeat' first | exact trivial | refine And.intro s_b ?_))
          | (refine e_opi (i := 3) rfl (fun h => h) ?_; refine l_op (s_loadn_box (ds := [_, _, _, _, _, _, _, _, _, _]) 10 rfl (kn rfl) rfl rfl agg_62 sz_62 rfl) ?_; refine e_nil ?_; refine e_fl ?_; exact e_subK hK (by repeat' first | exact trivial | refine And.intro s_t ?_) (by repeat' first | exact trivial | refine And.intro s_b ?_))
          | (refine e_opi (i := 4) rfl (fun h => h) ?_; refine l_op (s_loadn_box (ds := [_, _, _, _, _, _, _]) 7 rfl (kn rfl) rfl rfl agg_27 sz_27 rfl) ?_; refine e_nil ?_; refine e_fl ?_; exact e_subK hK (by repeat' first | exact trivial | refine And.intro s_t ?_) (by repeat' first | exact trivial | refine And.intro s_b ?_))
          | (refine e_opi (i := 5) rfl (fun h => h) ?_; refine l_op (s_callf rfl (fsel_call s.kind) (kn rfl) hg ⟨kn rfl, kn rfl, trivial⟩) ?_; refine e_nil ?_; refine e_fl ?_; exact e_subK hK (by repeat' first | exact trivial | refine And.intro s_t ?_) (by repeat' first | exact trivial | refine And.intro s_b ?_))
          | (refine e_opi (i := 6) rfl (fun h => h) ?_; refine l_mv ?_; refine e_nil ?_; refine e_fl ?_; exact e_subK hK (by repeat' first | exact trivial | refine And.intro s_t ?_) (by repeat' first | exact trivial | refine And.intro s_b ?_))
          | (refine e_opi (i := 7) rfl (fun h => h) ?_; refine l_ex ?_; refine e_nil ?_; refine e_fl ?_; exact e_subK hK (by repeat' first | exact trivial | refine And.intro s_t ?_) (by repeat' first | exact trivial | refine And.intro s_b ?_))
          | (refine e_opi (i := 8) rfl (fun h => h) ?_; refine l_ex ?_; refine e_nil ?_; refine e_fl ?_; exact e_subK hK (by repeat' first | exact trivial | refine And.intro s_t ?_) (by repeat' first | exact trivial | refine And.intro s_b ?_))
          | (refine e_opi (i := 9) rfl (fun h => h) ?_; refine e_storew rfl rfl rfl (kn rfl) rfl (kn rfl) rfl rfl sz_27 ?_; refine e_nil ?_; refine e_fl ?_; exact e_subK hK (by repeat' first | exact trivial | refine And.intro s_t ?_) (by repeat' first | exact trivial | refine And.intro s_b ?_))
          | (refine e_opi (i := 10) rfl (fun h => h) ?_; refine l_as ?_; refine e_nil ?_; refine e_fl ?_; exact e_subK hK (by repeat' first | exact trivial | refine And.intro s_t ?_) (by repeat' first | exact trivial | refine And.intro s_b ?_))
    try refine e_fl ?_
    refine e_plain (w_op rfl rfl rfl (s_bin rfl (kn rfl) (kn rfl) (v_add64 (by first | omega | (dsimp only; omega) | omega))) (w_mv rfl rfl rfl rfl rfl .nil)) ?_
    try refine e_fl ?_
    refine e_again ⟨(k + 1, sget s x), by dsimp only; omega, by rw [hw, drop_cons hs]; rfl, (sget_gd s hx).1⟩ (by dsimp only; omega) (fun K => e_sub ⟨s_t, s_t, s_t, s_t, s_t, s_t, trivial⟩ ⟨s_b, s_b, trivial⟩ trivial)
  have e : pget v p = (x, b) := by rw [hw, List.drop_eq_nil_of_le (by have := of_decide_eq_false h; omega)]; rfl
  try refine e_fl ?_
  refine e_list ?_
  refine l_op (s_loadn_box (ds := [_, _, _, _, _, _, _]) 7 rfl (kn rfl) rfl rfl agg_27 sz_27 rfl) ?_
  refine l_mv ?_
  refine e_storew rfl rfl rfl (kn rfl) rfl (kn rfl) rfl rfl sz_27 ?_
  refine l_as ?_
  refine e_nil ?_
  try refine e_fl ?_
  exact e_return rfl rfl (.cell rfl rfl rfl agg_27 sz_27 rfl (.tmp (kn rfl) (.nil))) (Imp.of_eq (by rw [e]; rfl)) rfl
end Go.Proofs.YtagoikglbifhmaaGreatDoor
