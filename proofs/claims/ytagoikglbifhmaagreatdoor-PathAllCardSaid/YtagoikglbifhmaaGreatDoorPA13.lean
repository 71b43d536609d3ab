/- Part 13 of what the last text of this claim is proved by: walks over the program, and the math behind them. Conditions: as each theorem says. -/
import Derived.Test.YtagoikglbifhmaaGreatDoorPA12
import Derived.Test.YtagoikglbifhmaaGreatDoorProg
import Derived.Lib.Bytealg
import Derived.Laws.Externs
namespace Go.Proofs.YtagoikglbifhmaaGreatDoor
open Go.RowKit
set_option maxRecDepth 100000 in
theorem isnan_int_ef (a : Int) : EF Tryz.prog [] 78 [iP a] (.part (tP false)) := by
  refine ef_enter 6 Tryz.func78 rfl rfl rfl fun w D => ?_
  try refine e_fl ?_
  refine e_plain (w_as rfl rfl rfl rfl rfl .nil) ?_
  try refine e_fl ?_
  refine e_plain (w_mv rfl rfl rfl rfl rfl (w_mv rfl rfl rfl rfl rfl (w_op rfl rfl rfl (s_bin rfl (kn rfl) (kn rfl) v_neq) (w_as rfl rfl rfl rfl rfl .nil)))) ?_
  try refine e_fl ?_
  exact e_return rfl rfl (.tmp (kn rfl) (.nil)) (Imp.of_eq (by simp; rfl)) rfl
set_option maxRecDepth 100000 in
theorem cmp_int_ef (a b : Int) : EF Tryz.prog [] 50 [iP a, iP b] (.part (iP (icmp a b))) := by
  refine ef_enter 20 Tryz.func50 rfl rfl rfl fun w D => ?_
  try refine e_fl ?_
  refine e_plain (w_as rfl rfl rfl rfl rfl .nil) ?_
  try refine e_fl ?_
  refine e_plain (w_mv rfl rfl rfl rfl rfl (w_op rfl rfl rfl (s_call rfl (by kernel_rfl) (isnan_int_ef a) ⟨(kn rfl), trivial⟩) (w_as rfl rfl rfl rfl rfl .nil))) ?_
  try refine e_fl ?_
  refine e_plain (w_mv rfl rfl rfl rfl rfl (w_op rfl rfl rfl (s_call rfl (by kernel_rfl) (isnan_int_ef b) ⟨(kn rfl), trivial⟩) (w_as rfl rfl rfl rfl rfl .nil))) ?_
  try refine e_fl ?_
  refine e_plain (w_mv rfl rfl rfl rfl rfl .nil) ?_
  try refine e_fl ?_
  refine c_no ?_
  try refine e_fl ?_
  refine e_plain (w_mv rfl rfl rfl rfl rfl .nil) ?_
  try refine e_fl ?_
  refine c_no ?_
  try refine e_fl ?_
  refine e_plain (w_mv rfl rfl rfl rfl rfl (w_mv rfl rfl rfl rfl rfl (w_op rfl rfl rfl (s_bin rfl (kn rfl) (kn rfl) v_lss) .nil))) ?_
  try refine e_fl ?_
  refine e_cond rfl (fun h => ?_) (fun h => ?_)
  · have e : icmp a b = -1 := icmp_lt (by have := of_decide_eq_true h; omega)
    try refine e_fl ?_
    refine e_plain (w_as rfl rfl rfl rfl rfl .nil) ?_
    try refine e_fl ?_
    exact e_return rfl rfl (.tmp (kn rfl) (.nil)) (Imp.of_eq (by rw [e]; rfl)) rfl
  try refine e_fl ?_
  refine e_plain (w_mv rfl rfl rfl rfl rfl (w_mv rfl rfl rfl rfl rfl (w_op rfl rfl rfl (s_bin rfl (kn rfl) (kn rfl) v_gtr) .nil))) ?_
  try refine e_fl ?_
  refine e_cond rfl (fun h2 => ?_) (fun h2 => ?_)
  · have e : icmp a b = 1 := icmp_gt (by have := of_decide_eq_true h2; omega)
    try refine e_fl ?_
    refine e_plain (w_as rfl rfl rfl rfl rfl .nil) ?_
    try refine e_fl ?_
    exact e_return rfl rfl (.tmp (kn rfl) (.nil)) (Imp.of_eq (by rw [e]; rfl)) rfl
  have e : icmp a b = 0 := icmp_eq (by have := of_decide_eq_false h; have := of_decide_eq_false h2; omega)
  try refine e_fl ?_
  refine e_plain (w_as rfl rfl rfl rfl rfl .nil) ?_
  try refine e_fl ?_
  exact e_return rfl rfl (.tmp (kn rfl) (.nil)) (Imp.of_eq (by rw [e]; rfl)) rfl
set_option maxRecDepth 100000 in
theorem isnan_u64_ef (a : Nat) : EF Tryz.prog [] 126 [uP a] (.part (tP false)) := by
  refine ef_enter 6 Tryz.func126 rfl rfl rfl fun w D => ?_
  try refine e_fl ?_
  refine e_plain (w_as rfl rfl rfl rfl rfl .nil) ?_
  try refine e_fl ?_
  refine e_plain (w_mv rfl rfl rfl rfl rfl (w_mv rfl rfl rfl rfl rfl (w_op rfl rfl rfl (s_bin rfl (kn rfl) (kn rfl) v_neq) (w_as rfl rfl rfl rfl rfl .nil)))) ?_
  try refine e_fl ?_
  exact e_return rfl rfl (.tmp (kn rfl) (.nil)) (Imp.of_eq (by simp; rfl)) rfl
set_option maxRecDepth 100000 in
theorem cmp_u64_ef (a b : Nat) : EF Tryz.prog [] 97 [uP a, uP b] (.part (iP (ncmp a b))) := by
  refine ef_enter 20 Tryz.func97 rfl rfl rfl fun w D => ?_
  try refine e_fl ?_
  refine e_plain (w_as rfl rfl rfl rfl rfl .nil) ?_
  try refine e_fl ?_
  refine e_plain (w_mv rfl rfl rfl rfl rfl (w_op rfl rfl rfl (s_call rfl (by kernel_rfl) (isnan_u64_ef a) ⟨(kn rfl), trivial⟩) (w_as rfl rfl rfl rfl rfl .nil))) ?_
  try refine e_fl ?_
  refine e_plain (w_mv rfl rfl rfl rfl rfl (w_op rfl rfl rfl (s_call rfl (by kernel_rfl) (isnan_u64_ef b) ⟨(kn rfl), trivial⟩) (w_as rfl rfl rfl rfl rfl .nil))) ?_
  try refine e_fl ?_
  refine e_plain (w_mv rfl rfl rfl rfl rfl .nil) ?_
  try refine e_fl ?_
  refine c_no ?_
  try refine e_fl ?_
  refine e_plain (w_mv rfl rfl rfl rfl rfl .nil) ?_
  try refine e_fl ?_
  refine c_no ?_
  try refine e_fl ?_
  refine e_plain (w_mv rfl rfl rfl rfl rfl (w_mv rfl rfl rfl rfl rfl (w_op rfl rfl rfl (s_bin rfl (kn rfl) (kn rfl) v_lss) .nil))) ?_
  try refine e_fl ?_
  refine e_cond rfl (fun h => ?_) (fun h => ?_)
  · have e : ncmp a b = -1 := ncmp_lt (by have := of_decide_eq_true h; omega)
    try refine e_fl ?_
    refine e_plain (w_as rfl rfl rfl rfl rfl .nil) ?_
    try refine e_fl ?_
    exact e_return rfl rfl (.tmp (kn rfl) (.nil)) (Imp.of_eq (by rw [e]; rfl)) rfl
  try refine e_fl ?_
  refine e_plain (w_mv rfl rfl rfl rfl rfl (w_mv rfl rfl rfl rfl rfl (w_op rfl rfl rfl (s_bin rfl (kn rfl) (kn rfl) v_gtr) .nil))) ?_
  try refine e_fl ?_
  refine e_cond rfl (fun h2 => ?_) (fun h2 => ?_)
  · have e : ncmp a b = 1 := ncmp_gt (by have := of_decide_eq_true h2; omega)
    try refine e_fl ?_
    refine e_plain (w_as rfl rfl rfl rfl rfl .nil) ?_
    try refine e_fl ?_
    exact e_return rfl rfl (.tmp (kn rfl) (.nil)) (Imp.of_eq (by rw [e]; rfl)) rfl
  have e : ncmp a b = 0 := ncmp_eq (by have := of_decide_eq_false h; have := of_decide_eq_false h2; omega)
  try refine e_fl ?_
  refine e_plain (w_as rfl rfl rfl rfl rfl .nil) ?_
  try refine e_fl ?_
  exact e_return rfl rfl (.tmp (kn rfl) (.nil)) (Imp.of_eq (by rw [e]; rfl)) rfl
theorem bytes_tcmp : ∀ a b : List UInt8, Lib.compareBytes a b = tcmp a b
  | [], [] => rfl
  | [], _ :: _ => rfl
  | _ :: _, [] => rfl
  | x :: a, y :: b => by
    rw [Lib.compareBytes, tcmp, bytes_tcmp a b]
    simp only [UInt8.lt_iff_toNat_lt]
theorem cmpstring_run (a b : List UInt8) (w : World) : (callFunc 148 #[.string (str a), .string (str b)]).run Tryz.prog w = .ok (.value (.int .i64 (tcmp a b))) w := by
  rw [run_callFunc_extern (e := Extern.BytealgCompare.compare) Tryz.func148 (by kernel_rfl) (by kernel_rfl) (by rfl) (by rfl), Lib.run_compareString]
  show Result.ok _ w = _
  rw [show Lib.compareBytes (str a).data.toList (str b).data.toList = tcmp a b from bytes_tcmp a b]
set_option maxRecDepth 100000 in
theorem cmpstr_ef (a b : List UInt8) : EF Tryz.prog [] 127 [sP a, sP b] (.part (iP (tcmp a b))) := by
  refine ef_enter 8 Tryz.func127 rfl rfl rfl fun w D => ?_
  try refine e_fl ?_
  refine e_plain (w_as rfl rfl rfl rfl rfl .nil) ?_
  try refine e_fl ?_
  refine e_plain (w_mv rfl rfl rfl rfl rfl (w_mv rfl rfl rfl rfl rfl (w_op rfl rfl rfl (s_ext2 rfl (cmpstring_run a b) (kn rfl) (kn rfl)) (w_as rfl rfl rfl rfl rfl .nil)))) ?_
  try refine e_fl ?_
  exact e_return rfl rfl (.tmp (kn rfl) (.nil)) (Imp.of_eq rfl) rfl
set_option maxRecDepth 100000 in
theorem strcmp_ef (a b : List UInt8) : EF Tryz.prog [] 98 [sP a, sP b] (.part (iP (tcmp a b))) := by
  refine ef_enter 8 Tryz.func98 rfl rfl rfl fun w D => ?_
  try refine e_fl ?_
  refine e_plain (w_as rfl rfl rfl rfl rfl .nil) ?_
  try refine e_fl ?_
  refine e_plain (w_mv rfl rfl rfl rfl rfl (w_mv rfl rfl rfl rfl rfl (w_op rfl rfl rfl (s_call rfl (by kernel_rfl) (cmpstr_ef a b) ⟨(kn rfl), ⟨(kn rfl), trivial⟩⟩) (w_as rfl rfl rfl rfl rfl .nil)))) ?_
  try refine e_fl ?_
  exact e_return rfl rfl (.tmp (kn rfl) (.nil)) (Imp.of_eq rfl) rfl
set_option maxRecDepth 100000 in
theorem or_ef (x y : Int) : EF Tryz.prog [] 99 [.one (.row 1 2 [.cell (.int .i64 x), .cell (.int .i64 y)])] (.part (iP (lex x y))) := by
  refine ef_enter 18 Tryz.func99 rfl rfl rfl fun w D => ?_
  try refine e_fl ?_
  refine e_plain (w_as rfl rfl rfl rfl rfl .nil) ?_
  try refine e_fl ?_
  refine e_plain (w_as rfl rfl rfl rfl rfl .nil) ?_
  try refine e_fl ?_
  refine e_plain (w_mv rfl rfl rfl rfl rfl (w_op rfl rfl rfl (s_len rfl (kn rfl) sle_156) (w_mv rfl rfl rfl rfl rfl .nil))) ?_
  try refine e_fl ?_
  refine e_loop (ι := { k : Nat // k ≤ 2 ∧ (1 ≤ k → x = 0) ∧ (2 ≤ k → y = 0) })
    (fun k => [(3, .is (.int .i64 0)), (6, .part (.one (.row 1 [x, y].length ([x, y].flatMap fun z => [.cell (.int .i64 z)])))), (7, .is (.int .i64 2)), (8, .is (.int .i64 (k.1 : Int)))])
    (fun _ => []) (fun _ => []) (fun k => 2 - k.1) ⟨0, by omega, by omega, by omega⟩
    (fun K => e_sub ⟨s_t, s_t, s_t, s_t, trivial⟩ trivial trivial) ?_
  rintro ⟨k, hk, h1, h2⟩
  dsimp only at hk h1 h2 ⊢
  try refine e_fl ?_
  refine e_plain (w_op rfl rfl rfl (s_bin rfl (kn rfl) (kn rfl) v_lss) .nil) ?_
  try refine e_fl ?_
  refine e_cond rfl (fun h => ?_) (fun h => ?_)
  · have hlt : k < 2 := by have := of_decide_eq_true h; omega
    obtain ⟨z, hz⟩ : ∃ z, [x, y][k]? = some z := ⟨_, List.getElem?_eq_getElem hlt⟩
    try refine e_fl ?_
    refine e_plain (w_op rfl rfl rfl (s_index rfl (kn rfl) (kn rfl) (by omega) hz (fun _ => rfl) sle_156 esz_156 rfl) (w_op rfl rfl rfl (s_load1_ref rfl (kn rfl) one_3) (w_as rfl rfl rfl rfl rfl .nil))) ?_
    try refine e_fl ?_
    refine e_plain (w_mv rfl rfl rfl rfl rfl (w_mv rfl rfl rfl rfl rfl (w_op rfl rfl rfl (s_bin rfl (kn rfl) (kn rfl) v_neq) .nil))) ?_
    try refine e_fl ?_
    refine e_cond rfl (fun h3 => ?_) (fun h3 => ?_)
    · have hne : z ≠ 0 := by simpa using h3
      have e : lex x y = z := by
        rcases (show k = 0 ∨ k = 1 by omega) with rfl | rfl
        · obtain rfl : x = z := by simpa using hz
          exact lex_ne hne
        · obtain rfl : y = z := by simpa using hz
          exact lex_eq (h1 (by omega))
      try refine e_fl ?_
      refine e_plain (w_mv rfl rfl rfl rfl rfl (w_as rfl rfl rfl rfl rfl .nil)) ?_
      try refine e_fl ?_
      exact e_return rfl rfl (.tmp (kn rfl) (.nil)) (Imp.of_eq (by rw [e]; rfl)) rfl
    have he : z = 0 := by simpa using h3
    try refine e_fl ?_
    refine e_plain (w_op rfl rfl rfl (s_bin rfl (kn rfl) (kn rfl) (v_add64 (by first | omega | (dsimp only; omega) | omega))) (w_mv rfl rfl rfl rfl rfl .nil)) ?_
    try refine e_fl ?_
    refine e_again ⟨k + 1, by omega, fun _ => ?_, fun _ => ?_⟩ (by dsimp only; omega) (fun K => e_sub ⟨s_t, s_t, s_t, s_t, trivial⟩ trivial trivial)
    · rcases (show k = 0 ∨ k = 1 by omega) with rfl | rfl
      · obtain rfl : x = z := by simpa using hz
        exact he
      · exact h1 (by omega)
    · obtain rfl : k = 1 := by omega
      obtain rfl : y = z := by simpa using hz
      exact he
  obtain rfl : k = 2 := by have := of_decide_eq_false h; omega
  have e : lex x y = 0 := by rw [lex_eq (h1 (by omega)), h2 (by omega)]
  try refine e_fl ?_
  refine e_plain (w_mv rfl rfl rfl rfl rfl (w_as rfl rfl rfl rfl rfl .nil)) ?_
  try refine e_fl ?_
  exact e_return rfl rfl (.tmp (kn rfl) (.nil)) (Imp.of_eq (by rw [e]; rfl)) rfl
abbrev fP (f : FuncId) : Part := .one (.cell (.func (.func f) #[] #[]))
def gcmp {α : Type} (c : α → α → Int) : List α → List α → Int
  | [], [] => 0
  | [], _ :: _ => -1
  | _ :: _, [] => 1
  | x :: a, y :: b => lex (c x y) (gcmp c a b)
theorem gcmp_end {α : Type} {c : α → α → Int} : ∀ (a b : List α), (a = [] ∨ b = []) → gcmp c a b = ncmp a.length b.length
  | [], [], _ => rfl
  | [], _ :: _, _ => by simp [gcmp, ncmp]
  | _ :: _, [], _ => by simp [gcmp, ncmp]
  | _ :: _, _ :: _, h => by simp at h
theorem lex_assoc (x y z : Int) : lex x (lex y z) = lex (lex x y) z := by
  unfold lex
  by_cases h : x = 0
  · simp [h]
  · simp [h]
def fcomp (f g : Int × Vl) : Int := lex (icmp f.1 g.1) (vcmp f.2 g.2)
def pcomp (p q : Vl × Vl) : Int := lex (vcmp p.1 q.1) (vcmp p.2 q.2)
theorem gcmp_fields : ∀ a b : List (Int × Vl), gcmp fcomp a b = fcmp a b
  | [], [] => by simp [gcmp, fcmp]
  | [], _ :: _ => by simp [gcmp, fcmp]
  | _ :: _, [] => by simp [gcmp, fcmp]
  | x :: a, y :: b => by rw [gcmp, gcmp_fields a b, fcmp_cons, lex_assoc]; rfl
theorem gcmp_list : ∀ a b : List Vl, gcmp vcmp a b = lcmp a b
  | [], [] => by simp [gcmp, lcmp]
  | [], _ :: _ => by simp [gcmp, lcmp]
  | _ :: _, [] => by simp [gcmp, lcmp]
  | x :: a, y :: b => by rw [gcmp, gcmp_list a b, lcmp_cons]
theorem gcmp_pairs : ∀ a b : List (Vl × Vl), gcmp pcomp a b = pcmp a b
  | [], [] => by simp [gcmp, pcmp]
  | [], _ :: _ => by simp [gcmp, pcmp]
  | _ :: _, [] => by simp [gcmp, pcmp]
  | x :: a, y :: b => by rw [gcmp, gcmp_pairs a b, pcmp_cons, lex_assoc]; rfl
abbrev fd (f : Int × Vl) : List Dat := .cell (.int .i64 f.1) :: vd f.2
abbrev pd (p : Vl × Vl) : List Dat := vd p.1 ++ vd p.2
set_option maxRecDepth 100000 in
set_option maxHeartbeats 1000000 in
theorem compf_fields_ef (f : FuncId) (hfc : callable Tryz.prog f = true) (c : Int × Vl → Int × Vl → Int) (a b : List (Int × Vl)) (ha : a.length ≤ 1000000) (hb : b.length ≤ 1000000) (hc : ∀ x ∈ a, ∀ y ∈ b, EF Tryz.prog [] f [.many (fd x), .many (fd y)] (.part (iP (c x y)))) :
    EF Tryz.prog [] 100 [.one (.row 8 a.length (a.flatMap fieldDats)), .one (.row 8 b.length (b.flatMap fieldDats)), fP f] (.part (iP (gcmp c a b))) := by
  refine ef_enter 39 Tryz.func100 rfl rfl rfl fun w D => ?_
  try refine e_fl ?_
  refine e_plain (w_as rfl rfl rfl rfl rfl .nil) ?_
  try refine e_fl ?_
  refine e_plain (w_mv rfl rfl rfl rfl rfl (w_op rfl rfl rfl (s_len rfl (kn rfl) sle_23) (w_mv rfl rfl rfl rfl rfl .nil))) ?_
  try refine e_fl ?_
  refine e_loop (ι := { k : Nat // k ≤ a.length ∧ k ≤ b.length ∧ gcmp c (a.drop k) (b.drop k) = gcmp c a b })
    (fun k => [(0, .part (.one (.row 8 a.length (a.flatMap fieldDats)))), (1, .part (.one (.row 8 b.length (b.flatMap fieldDats)))), (2, .part (fP f)), (11, .part (.one (.row 8 a.length (a.flatMap fieldDats)))), (12, .is (.int .i64 (a.length : Int))), (13, .is (.int .i64 (k.1 : Int)))])
    (fun _ => []) (fun _ => []) (fun k => a.length - k.1) ⟨0, by omega, by omega, rfl⟩
    (fun K => e_sub ⟨s_t, s_t, s_t, s_t, s_t, s_t, trivial⟩ trivial trivial) ?_
  rintro ⟨k, hk, hk2, hw⟩
  dsimp only at hk hk2 hw ⊢
  try refine e_fl ?_
  refine e_plain (w_op rfl rfl rfl (s_bin rfl (kn rfl) (kn rfl) v_lss) .nil) ?_
  try refine e_fl ?_
  refine e_cond rfl (fun h => ?_) (fun h => ?_)
  · have hlt : k < a.length := by have := of_decide_eq_true h; omega
    obtain ⟨x, hx⟩ : ∃ x, a[k]? = some x := ⟨_, List.getElem?_eq_getElem hlt⟩
    try refine e_fl ?_
    refine e_list ?_
    refine l_mv ?_
    refine l_op (s_index rfl (kn rfl) (kn rfl) (by omega) hx fieldDats_len sle_23 esz_23 (fieldDats_vd x)) ?_
    refine l_op (s_loadn_ref rfl (kn rfl) agg_66 sz_66) ?_
    refine e_alloc 8 [.is (.int .i64 0), .is (.int .i64 0), .is (.int .u64 0), .is (.string ⟨#[]⟩), .is (.slice none 0 0), .is (.string ⟨#[]⟩), .is (.slice none 0 0), .is (.slice none 0 0)] rfl rfl rfl rfl zr_66 (fun w D M V => ⟨rfl, fun j x v h1 h2 => cfit_is _ h1 h2 rfl⟩) rfl rfl rfl rfl ?_
    refine l_as ?_
    refine e_storew rfl rfl rfl (kn rfl) rfl (kn rfl) rfl rfl sz_66 ?_
    refine e_nil ?_
    try refine e_fl ?_
    refine e_plain (w_mv rfl rfl rfl rfl rfl (w_mv rfl rfl rfl rfl rfl (w_op rfl rfl rfl (s_len rfl (kn rfl) sle_23) (w_op rfl rfl rfl (s_bin rfl (kn rfl) (kn rfl) v_geq) .nil)))) ?_
    try refine e_fl ?_
    refine e_cond rfl (fun h3 => ?_) (fun h3 => ?_)
    · obtain rfl : k = b.length := by have := of_decide_eq_true h3; omega
      have e : gcmp c a b = 1 := by
        rw [← hw, gcmp_end _ _ (.inr (List.drop_eq_nil_of_le (Nat.le_refl _))), List.length_drop, List.length_drop, ncmp_drop _ _ _ hk hk2]
        exact ncmp_gt hlt
      try refine e_fl ?_
      refine e_plain (w_as rfl rfl rfl rfl rfl .nil) ?_
      try refine e_fl ?_
      exact e_return rfl rfl (.tmp (kn rfl) (.nil)) (Imp.of_eq (by rw [e]; rfl)) rfl
    have hlt2 : k < b.length := by have := of_decide_eq_false h3; omega
    obtain ⟨y, hy⟩ : ∃ y, b[k]? = some y := ⟨_, List.getElem?_eq_getElem hlt2⟩
    rw [drop_cons hx, drop_cons hy, gcmp] at hw
    try refine e_fl ?_
    refine e_list ?_
    refine l_mv ?_
    refine l_mv ?_
    refine l_op (s_index rfl (kn rfl) (kn rfl) (by omega) hy fieldDats_len sle_23 esz_23 (fieldDats_vd y)) ?_
    refine l_op (s_loadn_ref rfl (kn rfl) agg_66 sz_66) ?_
    refine e_alloc 9 [.is (.int .i64 0), .is (.int .i64 0), .is (.int .u64 0), .is (.string ⟨#[]⟩), .is (.slice none 0 0), .is (.string ⟨#[]⟩), .is (.slice none 0 0), .is (.slice none 0 0)] rfl rfl rfl rfl zr_66 (fun w D M V => ⟨rfl, fun j x v h1 h2 => cfit_is _ h1 h2 rfl⟩) rfl rfl rfl rfl ?_
    refine e_storew rfl rfl rfl (kn rfl) rfl (kn rfl) rfl rfl sz_66 ?_
    refine e_nil ?_
    try refine e_fl ?_
    refine e_plain (w_mv rfl rfl rfl rfl rfl (w_op rfl rfl rfl (s_loadn_box (ds := [_, _, _, _, _, _, _, _]) 8 rfl (kn rfl) rfl rfl agg_66 sz_66 rfl) (w_op rfl rfl rfl (s_loadn_box (ds := [_, _, _, _, _, _, _, _]) 8 rfl (kn rfl) rfl rfl agg_66 sz_66 rfl) (w_op rfl rfl rfl (s_callf rfl hfc (kn rfl) (hc x (List.mem_of_getElem? hx) y (List.mem_of_getElem? hy)) ⟨kn rfl, kn rfl, trivial⟩) (w_as rfl rfl rfl rfl rfl .nil))))) ?_
    try refine e_fl ?_
    refine e_plain (w_mv rfl rfl rfl rfl rfl (w_op rfl rfl rfl (s_bin rfl (kn rfl) (kn rfl) v_neq) .nil)) ?_
    try refine e_fl ?_
    refine e_cond rfl (fun h4 => ?_) (fun h4 => ?_)
    · have e : gcmp c a b = c x y := by rw [← hw]; exact lex_ne (by simpa using h4)
      try refine e_fl ?_
      refine e_plain (w_mv rfl rfl rfl rfl rfl (w_as rfl rfl rfl rfl rfl .nil)) ?_
      try refine e_fl ?_
      exact e_return rfl rfl (.tmp (kn rfl) (.nil)) (Imp.of_eq (by rw [e]; rfl)) rfl
    rw [lex_eq (by simpa using h4)] at hw
    try refine e_fl ?_
    refine e_plain (w_op rfl rfl rfl (s_bin rfl (kn rfl) (kn rfl) (v_add64 (by first | omega | (dsimp only; omega) | omega))) (w_mv rfl rfl rfl rfl rfl .nil)) ?_
    try refine e_fl ?_
    refine e_again ⟨k + 1, by omega, by omega, hw⟩ (by dsimp only; omega) (fun K => e_sub ⟨s_t, s_t, s_t, s_t, s_t, s_t, trivial⟩ trivial trivial)
  obtain rfl : k = a.length := by have := of_decide_eq_false h; omega
  have e : gcmp c a b = ncmp a.length b.length := by
    rw [← hw, gcmp_end _ _ (.inl (List.drop_eq_nil_of_le (Nat.le_refl _))), List.length_drop, List.length_drop, ncmp_drop _ _ _ hk hk2]
  try refine e_fl ?_
  refine e_plain (w_mv rfl rfl rfl rfl rfl (w_op rfl rfl rfl (s_len rfl (kn rfl) sle_23) (w_mv rfl rfl rfl rfl rfl (w_op rfl rfl rfl (s_len rfl (kn rfl) sle_23) (w_op rfl rfl rfl (s_bin rfl (kn rfl) (kn rfl) v_lss) .nil))))) ?_
  try refine e_fl ?_
  refine e_cond rfl (fun h4 => ?_) (fun h4 => ?_)
  · have e2 : gcmp c a b = -1 := by rw [e]; exact ncmp_lt (by have := of_decide_eq_true h4; omega)
    try refine e_fl ?_
    refine e_plain (w_as rfl rfl rfl rfl rfl .nil) ?_
    try refine e_fl ?_
    exact e_return rfl rfl (.tmp (kn rfl) (.nil)) (Imp.of_eq (by rw [e2]; rfl)) rfl
  have e2 : gcmp c a b = 0 := by rw [e]; exact ncmp_eq (by have := of_decide_eq_false h4; omega)
  try refine e_fl ?_
  refine e_plain (w_as rfl rfl rfl rfl rfl .nil) ?_
  try refine e_fl ?_
  exact e_return rfl rfl (.tmp (kn rfl) (.nil)) (Imp.of_eq (by rw [e2]; rfl)) rfl
set_option maxRecDepth 100000 in
set_option maxHeartbeats 1000000 in
theorem compf_list_ef (f : FuncId) (hfc : callable Tryz.prog f = true) (c : Vl → Vl → Int) (a b : List (Vl)) (ha : a.length ≤ 1000000) (hb : b.length ≤ 1000000) (hc : ∀ x ∈ a, ∀ y ∈ b, EF Tryz.prog [] f [.many (vd x), .many (vd y)] (.part (iP (c x y)))) :
    EF Tryz.prog [] 102 [.one (.row 7 a.length (a.flatMap Vl.dats)), .one (.row 7 b.length (b.flatMap Vl.dats)), fP f] (.part (iP (gcmp c a b))) := by
  refine ef_enter 39 Tryz.func102 rfl rfl rfl fun w D => ?_
  try refine e_fl ?_
  refine e_plain (w_as rfl rfl rfl rfl rfl .nil) ?_
  try refine e_fl ?_
  refine e_plain (w_mv rfl rfl rfl rfl rfl (w_op rfl rfl rfl (s_len rfl (kn rfl) sle_24) (w_mv rfl rfl rfl rfl rfl .nil))) ?_
  try refine e_fl ?_
  refine e_loop (ι := { k : Nat // k ≤ a.length ∧ k ≤ b.length ∧ gcmp c (a.drop k) (b.drop k) = gcmp c a b })
    (fun k => [(0, .part (.one (.row 7 a.length (a.flatMap Vl.dats)))), (1, .part (.one (.row 7 b.length (b.flatMap Vl.dats)))), (2, .part (fP f)), (11, .part (.one (.row 7 a.length (a.flatMap Vl.dats)))), (12, .is (.int .i64 (a.length : Int))), (13, .is (.int .i64 (k.1 : Int)))])
    (fun _ => []) (fun _ => []) (fun k => a.length - k.1) ⟨0, by omega, by omega, rfl⟩
    (fun K => e_sub ⟨s_t, s_t, s_t, s_t, s_t, s_t, trivial⟩ trivial trivial) ?_
  rintro ⟨k, hk, hk2, hw⟩
  dsimp only at hk hk2 hw ⊢
  try refine e_fl ?_
  refine e_plain (w_op rfl rfl rfl (s_bin rfl (kn rfl) (kn rfl) v_lss) .nil) ?_
  try refine e_fl ?_
  refine e_cond rfl (fun h => ?_) (fun h => ?_)
  · have hlt : k < a.length := by have := of_decide_eq_true h; omega
    obtain ⟨x, hx⟩ : ∃ x, a[k]? = some x := ⟨_, List.getElem?_eq_getElem hlt⟩
    try refine e_fl ?_
    refine e_list ?_
    refine l_mv ?_
    refine l_op (s_index rfl (kn rfl) (kn rfl) (by omega) hx Vl.dats_len sle_24 esz_24 (dats_vd x)) ?_
    refine l_op (s_loadn_ref rfl (kn rfl) agg_27 sz_27) ?_
    refine e_alloc 8 [.is (.int .i64 0), .is (.int .u64 0), .is (.string ⟨#[]⟩), .is (.slice none 0 0), .is (.string ⟨#[]⟩), .is (.slice none 0 0), .is (.slice none 0 0)] rfl rfl rfl rfl zr_27 (fun w D M V => ⟨rfl, fun j x v h1 h2 => cfit_is _ h1 h2 rfl⟩) rfl rfl rfl rfl ?_
    refine l_as ?_
    refine e_storew rfl rfl rfl (kn rfl) rfl (kn rfl) rfl rfl sz_27 ?_
    refine e_nil ?_
    try refine e_fl ?_
    refine e_plain (w_mv rfl rfl rfl rfl rfl (w_mv rfl rfl rfl rfl rfl (w_op rfl rfl rfl (s_len rfl (kn rfl) sle_24) (w_op rfl rfl rfl (s_bin rfl (kn rfl) (kn rfl) v_geq) .nil)))) ?_
    try refine e_fl ?_
    refine e_cond rfl (fun h3 => ?_) (fun h3 => ?_)
    · obtain rfl : k = b.length := by have := of_decide_eq_true h3; omega
      have e : gcmp c a b = 1 := by
        rw [← hw, gcmp_end _ _ (.inr (List.drop_eq_nil_of_le (Nat.le_refl _))), List.length_drop, List.length_drop, ncmp_drop _ _ _ hk hk2]
        exact ncmp_gt hlt
      try refine e_fl ?_
      refine e_plain (w_as rfl rfl rfl rfl rfl .nil) ?_
      try refine e_fl ?_
      exact e_return rfl rfl (.tmp (kn rfl) (.nil)) (Imp.of_eq (by rw [e]; rfl)) rfl
    have hlt2 : k < b.length := by have := of_decide_eq_false h3; omega
    obtain ⟨y, hy⟩ : ∃ y, b[k]? = some y := ⟨_, List.getElem?_eq_getElem hlt2⟩
    rw [drop_cons hx, drop_cons hy, gcmp] at hw
    try refine e_fl ?_
    refine e_list ?_
    refine l_mv ?_
    refine l_mv ?_
    refine l_op (s_index rfl (kn rfl) (kn rfl) (by omega) hy Vl.dats_len sle_24 esz_24 (dats_vd y)) ?_
    refine l_op (s_loadn_ref rfl (kn rfl) agg_27 sz_27) ?_
    refine e_alloc 9 [.is (.int .i64 0), .is (.int .u64 0), .is (.string ⟨#[]⟩), .is (.slice none 0 0), .is (.string ⟨#[]⟩), .is (.slice none 0 0), .is (.slice none 0 0)] rfl rfl rfl rfl zr_27 (fun w D M V => ⟨rfl, fun j x v h1 h2 => cfit_is _ h1 h2 rfl⟩) rfl rfl rfl rfl ?_
    refine e_storew rfl rfl rfl (kn rfl) rfl (kn rfl) rfl rfl sz_27 ?_
    refine e_nil ?_
    try refine e_fl ?_
    refine e_plain (w_mv rfl rfl rfl rfl rfl (w_op rfl rfl rfl (s_loadn_box (ds := [_, _, _, _, _, _, _]) 7 rfl (kn rfl) rfl rfl agg_27 sz_27 rfl) (w_op rfl rfl rfl (s_loadn_box (ds := [_, _, _, _, _, _, _]) 7 rfl (kn rfl) rfl rfl agg_27 sz_27 rfl) (w_op rfl rfl rfl (s_callf rfl hfc (kn rfl) (hc x (List.mem_of_getElem? hx) y (List.mem_of_getElem? hy)) ⟨kn rfl, kn rfl, trivial⟩) (w_as rfl rfl rfl rfl rfl .nil))))) ?_
    try refine e_fl ?_
    refine e_plain (w_mv rfl rfl rfl rfl rfl (w_op rfl rfl rfl (s_bin rfl (kn rfl) (kn rfl) v_neq) .nil)) ?_
    try refine e_fl ?_
    refine e_cond rfl (fun h4 => ?_) (fun h4 => ?_)
    · have e : gcmp c a b = c x y := by rw [← hw]; exact lex_ne (by simpa using h4)
      try refine e_fl ?_
      refine e_plain (w_mv rfl rfl rfl rfl rfl (w_as rfl rfl rfl rfl rfl .nil)) ?_
      try refine e_fl ?_
      exact e_return rfl rfl (.tmp (kn rfl) (.nil)) (Imp.of_eq (by rw [e]; rfl)) rfl
    rw [lex_eq (by simpa using h4)] at hw
    try refine e_fl ?_
    refine e_plain (w_op rfl rfl rfl (s_bin rfl (kn rfl) (kn rfl) (v_add64 (by first | omega | (dsimp only; omega) | omega))) (w_mv rfl rfl rfl rfl rfl .nil)) ?_
    try refine e_fl ?_
    refine e_again ⟨k + 1, by omega, by omega, hw⟩ (by dsimp only; omega) (fun K => e_sub ⟨s_t, s_t, s_t, s_t, s_t, s_t, trivial⟩ trivial trivial)
  obtain rfl : k = a.length := by have := of_decide_eq_false h; omega
  have e : gcmp c a b = ncmp a.length b.length := by
    rw [← hw, gcmp_end _ _ (.inl (List.drop_eq_nil_of_le (Nat.le_refl _))), List.length_drop, List.length_drop, ncmp_drop _ _ _ hk hk2]
  try refine e_fl ?_
  refine e_plain (w_mv rfl rfl rfl rfl rfl (w_op rfl rfl rfl (s_len rfl (kn rfl) sle_24) (w_mv rfl rfl rfl rfl rfl (w_op rfl rfl rfl (s_len rfl (kn rfl) sle_24) (w_op rfl rfl rfl (s_bin rfl (kn rfl) (kn rfl) v_lss) .nil))))) ?_
  try refine e_fl ?_
  refine e_cond rfl (fun h4 => ?_) (fun h4 => ?_)
  · have e2 : gcmp c a b = -1 := by rw [e]; exact ncmp_lt (by have := of_decide_eq_true h4; omega)
    try refine e_fl ?_
    refine e_plain (w_as rfl rfl rfl rfl rfl .nil) ?_
    try refine e_fl ?_
    exact e_return rfl rfl (.tmp (kn rfl) (.nil)) (Imp.of_eq (by rw [e2]; rfl)) rfl
  have e2 : gcmp c a b = 0 := by rw [e]; exact ncmp_eq (by have := of_decide_eq_false h4; omega)
  try refine e_fl ?_
  refine e_plain (w_as rfl rfl rfl rfl rfl .nil) ?_
  try refine e_fl ?_
  exact e_return rfl rfl (.tmp (kn rfl) (.nil)) (Imp.of_eq (by rw [e2]; rfl)) rfl
set_option maxRecDepth 100000 in
set_option maxHeartbeats 1000000 in
theorem compf_pairs_ef (f : FuncId) (hfc : callable Tryz.prog f = true) (c : Vl × Vl → Vl × Vl → Int) (a b : List (Vl × Vl)) (ha : a.length ≤ 1000000) (hb : b.length ≤ 1000000) (hc : ∀ x ∈ a, ∀ y ∈ b, EF Tryz.prog [] f [.many (pd x), .many (pd y)] (.part (iP (c x y)))) :
    EF Tryz.prog [] 103 [.one (.row 14 a.length (a.flatMap pairDats)), .one (.row 14 b.length (b.flatMap pairDats)), fP f] (.part (iP (gcmp c a b))) := by
  refine ef_enter 39 Tryz.func103 rfl rfl rfl fun w D => ?_
  try refine e_fl ?_
  refine e_plain (w_as rfl rfl rfl rfl rfl .nil) ?_
  try refine e_fl ?_
  refine e_plain (w_mv rfl rfl rfl rfl rfl (w_op rfl rfl rfl (s_len rfl (kn rfl) sle_25) (w_mv rfl rfl rfl rfl rfl .nil))) ?_
  try refine e_fl ?_
  refine e_loop (ι := { k : Nat // k ≤ a.length ∧ k ≤ b.length ∧ gcmp c (a.drop k) (b.drop k) = gcmp c a b })
    (fun k => [(0, .part (.one (.row 14 a.length (a.flatMap pairDats)))), (1, .part (.one (.row 14 b.length (b.flatMap pairDats)))), (2, .part (fP f)), (11, .part (.one (.row 14 a.length (a.flatMap pairDats)))), (12, .is (.int .i64 (a.length : Int))), (13, .is (.int .i64 (k.1 : Int)))])
    (fun _ => []) (fun _ => []) (fun k => a.length - k.1) ⟨0, by omega, by omega, rfl⟩
    (fun K => e_sub ⟨s_t, s_t, s_t, s_t, s_t, s_t, trivial⟩ trivial trivial) ?_
  rintro ⟨k, hk, hk2, hw⟩
  dsimp only at hk hk2 hw ⊢
  try refine e_fl ?_
  refine e_plain (w_op rfl rfl rfl (s_bin rfl (kn rfl) (kn rfl) v_lss) .nil) ?_
  try refine e_fl ?_
  refine e_cond rfl (fun h => ?_) (fun h => ?_)
  · have hlt : k < a.length := by have := of_decide_eq_true h; omega
    obtain ⟨x, hx⟩ : ∃ x, a[k]? = some x := ⟨_, List.getElem?_eq_getElem hlt⟩
    try refine e_fl ?_
    refine e_list ?_
    refine l_mv ?_
    refine l_op (s_index rfl (kn rfl) (kn rfl) (by omega) hx pairDats_len sle_25 esz_25 (pairDats_vd x)) ?_
    refine l_op (s_loadn_ref rfl (kn rfl) agg_82 sz_82) ?_
    refine e_alloc 8 [.is (.int .i64 0), .is (.int .u64 0), .is (.string ⟨#[]⟩), .is (.slice none 0 0), .is (.string ⟨#[]⟩), .is (.slice none 0 0), .is (.slice none 0 0), .is (.int .i64 0), .is (.int .u64 0), .is (.string ⟨#[]⟩), .is (.slice none 0 0), .is (.string ⟨#[]⟩), .is (.slice none 0 0), .is (.slice none 0 0)] rfl rfl rfl rfl zr_82 (fun w D M V => ⟨rfl, fun j x v h1 h2 => cfit_is _ h1 h2 rfl⟩) rfl rfl rfl rfl ?_
    refine l_as ?_
    refine e_storew rfl rfl rfl (kn rfl) rfl (kn rfl) rfl rfl sz_82 ?_
    refine e_nil ?_
    try refine e_fl ?_
    refine e_plain (w_mv rfl rfl rfl rfl rfl (w_mv rfl rfl rfl rfl rfl (w_op rfl rfl rfl (s_len rfl (kn rfl) sle_25) (w_op rfl rfl rfl (s_bin rfl (kn rfl) (kn rfl) v_geq) .nil)))) ?_
    try refine e_fl ?_
    refine e_cond rfl (fun h3 => ?_) (fun h3 => ?_)
    · obtain rfl : k = b.length := by have := of_decide_eq_true h3; omega
      have e : gcmp c a b = 1 := by
        rw [← hw, gcmp_end _ _ (.inr (List.drop_eq_nil_of_le (Nat.le_refl _))), List.length_drop, List.length_drop, ncmp_drop _ _ _ hk hk2]
        exact ncmp_gt hlt
      try refine e_fl ?_
      refine e_plain (w_as rfl rfl rfl rfl rfl .nil) ?_
      try refine e_fl ?_
      exact e_return rfl rfl (.tmp (kn rfl) (.nil)) (Imp.of_eq (by rw [e]; rfl)) rfl
    have hlt2 : k < b.length := by have := of_decide_eq_false h3; omega
    obtain ⟨y, hy⟩ : ∃ y, b[k]? = some y := ⟨_, List.getElem?_eq_getElem hlt2⟩
    rw [drop_cons hx, drop_cons hy, gcmp] at hw
    try refine e_fl ?_
    refine e_list ?_
    refine l_mv ?_
    refine l_mv ?_
    refine l_op (s_index rfl (kn rfl) (kn rfl) (by omega) hy pairDats_len sle_25 esz_25 (pairDats_vd y)) ?_
    refine l_op (s_loadn_ref rfl (kn rfl) agg_82 sz_82) ?_
    refine e_alloc 9 [.is (.int .i64 0), .is (.int .u64 0), .is (.string ⟨#[]⟩), .is (.slice none 0 0), .is (.string ⟨#[]⟩), .is (.slice none 0 0), .is (.slice none 0 0), .is (.int .i64 0), .is (.int .u64 0), .is (.string ⟨#[]⟩), .is (.slice none 0 0), .is (.string ⟨#[]⟩), .is (.slice none 0 0), .is (.slice none 0 0)] rfl rfl rfl rfl zr_82 (fun w D M V => ⟨rfl, fun j x v h1 h2 => cfit_is _ h1 h2 rfl⟩) rfl rfl rfl rfl ?_
    refine e_storew rfl rfl rfl (kn rfl) rfl (kn rfl) rfl rfl sz_82 ?_
    refine e_nil ?_
    try refine e_fl ?_
    refine e_plain (w_mv rfl rfl rfl rfl rfl (w_op rfl rfl rfl (s_loadn_box (ds := [_, _, _, _, _, _, _, _, _, _, _, _, _, _]) 14 rfl (kn rfl) rfl rfl agg_82 sz_82 rfl) (w_op rfl rfl rfl (s_loadn_box (ds := [_, _, _, _, _, _, _, _, _, _, _, _, _, _]) 14 rfl (kn rfl) rfl rfl agg_82 sz_82 rfl) (w_op rfl rfl rfl (s_callf rfl hfc (kn rfl) (hc x (List.mem_of_getElem? hx) y (List.mem_of_getElem? hy)) ⟨kn rfl, kn rfl, trivial⟩) (w_as rfl rfl rfl rfl rfl .nil))))) ?_
    try refine e_fl ?_
    refine e_plain (w_mv rfl rfl rfl rfl rfl (w_op rfl rfl rfl (s_bin rfl (kn rfl) (kn rfl) v_neq) .nil)) ?_
    try refine e_fl ?_
    refine e_cond rfl (fun h4 => ?_) (fun h4 => ?_)
    · have e : gcmp c a b = c x y := by rw [← hw]; exact lex_ne (by simpa using h4)
      try refine e_fl ?_
      refine e_plain (w_mv rfl rfl rfl rfl rfl (w_as rfl rfl rfl rfl rfl .nil)) ?_
      try refine e_fl ?_
      exact e_return rfl rfl (.tmp (kn rfl) (.nil)) (Imp.of_eq (by rw [e]; rfl)) rfl
    rw [lex_eq (by simpa using h4)] at hw
    try refine e_fl ?_
    refine e_plain (w_op rfl rfl rfl (s_bin rfl (kn rfl) (kn rfl) (v_add64 (by first | omega | (dsimp only; omega) | omega))) (w_mv rfl rfl rfl rfl rfl .nil)) ?_
    try refine e_fl ?_
    refine e_again ⟨k + 1, by omega, by omega, hw⟩ (by dsimp only; omega) (fun K => e_sub ⟨s_t, s_t, s_t, s_t, s_t, s_t, trivial⟩ trivial trivial)
  obtain rfl : k = a.length := by have := of_decide_eq_false h; omega
  have e : gcmp c a b = ncmp a.length b.length := by
    rw [← hw, gcmp_end _ _ (.inl (List.drop_eq_nil_of_le (Nat.le_refl _))), List.length_drop, List.length_drop, ncmp_drop _ _ _ hk hk2]
  try refine e_fl ?_
  refine e_plain (w_mv rfl rfl rfl rfl rfl (w_op rfl rfl rfl (s_len rfl (kn rfl) sle_25) (w_mv rfl rfl rfl rfl rfl (w_op rfl rfl rfl (s_len rfl (kn rfl) sle_25) (w_op rfl rfl rfl (s_bin rfl (kn rfl) (kn rfl) v_lss) .nil))))) ?_
  try refine e_fl ?_
  refine e_cond rfl (fun h4 => ?_) (fun h4 => ?_)
  · have e2 : gcmp c a b = -1 := by rw [e]; exact ncmp_lt (by have := of_decide_eq_true h4; omega)
    try refine e_fl ?_
    refine e_plain (w_as rfl rfl rfl rfl rfl .nil) ?_
    try refine e_fl ?_
    exact e_return rfl rfl (.tmp (kn rfl) (.nil)) (Imp.of_eq (by rw [e2]; rfl)) rfl
  have e2 : gcmp c a b = 0 := by rw [e]; exact ncmp_eq (by have := of_decide_eq_false h4; omega)
  try refine e_fl ?_
  refine e_plain (w_as rfl rfl rfl rfl rfl .nil) ?_
  try refine e_fl ?_
  exact e_return rfl rfl (.tmp (kn rfl) (.nil)) (Imp.of_eq (by rw [e2]; rfl)) rfl
end Go.Proofs.YtagoikglbifhmaaGreatDoor
