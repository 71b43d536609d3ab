/- Part 32 of what the last text of this claim is proved by: walks over the program, and the math behind them. Conditions: as each theorem says. -/
import Derived.Test.YtekeanikgcpijaaDoorSO31
import Derived.Test.YtekeanikgcpijaaDoorProg
namespace Go.Proofs.YtekeanikgcpijaaDoor
open Go.RowKit
set_option maxRecDepth 100000 in
theorem neqTyS (x y : Ty) : BinV Tryd.prog .neq 39 (.agg x.vals.toArray) (.agg y.vals.toArray) (.bool (!cdec (x.vals = y.vals))) :=
  v_stneq3 (by kernel_rfl) (by kernel_rfl) (by kernel_rfl) (flat_of3 (ks := [1, 2, 0, 0, 0]) (by kernel_rfl) (.str _ _ (.bool _ _ (.int _ _ _ (.int _ _ _ (.int _ _ _ .nil))))))
theorem ptrS : Tryd.prog.underlying 33 = some (.pointer (Tryd.prog.pointee 33)) := by kernel_rfl
theorem no46 {n : List UInt8} (h : 46 ∉ n) (j : Nat) : n[j]? ≠ some 46 := fun e => h (List.mem_of_getElem? e)
theorem outM_full {N : Nat} {a n : List UInt8} (hn : NmOk N n) : outM (aheadOf a ++ n) = a := by
  by_cases e : a = []
  · subst e
    have h1 : lastI (aheadOf [] ++ n) = -1 := lastI_none fun j => no46 hn.2.2 j
    unfold outM cutI
    rw [h1]
    rfl
  · have ha : aheadOf a = a ++ [46] := if_neg e
    have h1 : lastI (aheadOf a ++ n) = (a.length : Int) := by
      rw [ha, List.append_assoc]
      refine lastI_at ?_ fun j hj => ?_
      · rw [List.getElem?_append_right (Nat.le_refl _), Nat.sub_self]
        rfl
      · obtain ⟨k, rfl⟩ : ∃ k, j = a.length + 1 + k := ⟨j - a.length - 1, by omega⟩
        rw [List.getElem?_append_right (by omega), show a.length + 1 + k - a.length = k + 1 by omega]
        show (46 :: n)[k + 1]? ≠ _
        rw [List.getElem?_cons_succ]
        exact no46 hn.2.2 k
    unfold outM cutI
    rw [h1, ha, List.append_assoc]
    have : (max (a.length : Int) 0).toNat = a.length := by omega
    rw [this, List.take_left]
theorem full_drop {a n : List UInt8} : (aheadOf a ++ n).drop a.length = if a = [] then n else 46 :: n := by
  by_cases e : a = []
  · subst e
    rfl
  · rw [if_neg e, show aheadOf a = a ++ [46] from if_neg e, List.append_assoc, List.drop_left]
    rfl
theorem look_own {N : Nat} {L : List Ty} (hL : Once L) (hp : NoPt L) {x : Ty} (hx : x ∈ L) {a n : List UInt8} (hn : NmOk N n) (hf : x.full = aheadOf a ++ n) : lookT L a n = some x := by
  have hh : headPt n = false := by
    cases n with
    | nil => rfl
    | cons c r =>
      rw [headPt_cons]
      exact decide_eq_false fun e => hn.2.2 (by rw [e]; exact List.mem_cons_self)
  have hfx := ffind_mem hL hx
  rw [lookT_cut, hh, if_neg (by decide), lookUp_eq]
  by_cases e : a = []
  · subst e
    rw [show ([] : List UInt8) ++ 46 :: n = 46 :: n from rfl, hp.find, if_pos rfl]
    rw [hf] at hfx
    exact hfx
  · have : a ++ 46 :: n = x.full := by rw [hf, show aheadOf a = a ++ [46] from if_neg e, List.append_assoc]; rfl
    rw [this, hfx]
theorem look_abs {L : List Ty} (hL : Once L) {x : Ty} (hx : x ∈ L) (s : List UInt8) : lookT L s (46 :: x.full) = some x := ffind_mem hL hx
theorem outM_pre (s : List UInt8) : s.take (outM s).length = outM s := by
  rw [outM_len]
  rfl
theorem outM_ne {s : List UInt8} (h : ¬ s = []) : ¬ s = outM s := fun e => by
  have := outM_lt h
  rw [← e] at this
  omega
theorem outM_tail {s : List UInt8} {j : Nat} (h : (outM s).length < j) : s[j]? ≠ some 46 := by
  rw [outM_len] at h
  refine lastI_last ?_
  unfold cutI at h
  omega
mutual
theorem tyM_big {N : Nat} : ∀ (d : Nat) (a : List UInt8) (m : Msg), MOk N d m → ∀ x ∈ tyM a m, x.full.length ≤ a.length + (d + 1) * (N + 1)
  | 0, a, m, hm, x, hx => hm.elim
  | d + 1, a, .mk n f o m e r s l c, hm, x, hx => by
    obtain ⟨h1, h2, h3⟩ := hm
    have hn := h1.2.1
    have hmul : (d + 1 + 1) * (N + 1) = (d + 1) * (N + 1) + (N + 1) := Nat.succ_mul _ _
    have hmul2 : (d + 1) * (N + 1) = d * (N + 1) + (N + 1) := Nat.succ_mul _ _
    simp only [tyM, List.mem_cons, List.mem_append, List.mem_map] at hx
    rcases hx with rfl | ⟨y, hy, rfl⟩ | hx
    · show (a ++ n).length ≤ _
      rw [List.length_append]
      omega
    · have hyn := (h2 y hy).2.1
      show (a ++ n ++ [46] ++ y.name).length ≤ _
      simp only [List.length_append, List.length_singleton]
      omega
    · have := tyMs_big d (a ++ n ++ [46]) m h3 x hx
      simp only [List.length_append, List.length_singleton] at this
      omega
theorem tyMs_big {N : Nat} : ∀ (d : Nat) (a : List UInt8) (m : List Msg), (∀ k ∈ m, MOk N d k) → ∀ x ∈ tyMs a m, x.full.length ≤ a.length + (d + 1) * (N + 1)
  | d, a, [], hm, x, hx => by cases hx
  | d, a, k :: m, hm, x, hx => by
    simp only [tyMs, List.mem_append] at hx
    rcases hx with hx | hx
    · exact tyM_big d a k (hm k List.mem_cons_self) x hx
    · exact tyMs_big d a m (fun k' hk => hm k' (List.mem_cons_of_mem _ hk)) x hx
end
theorem tyFile_big {f : Fil} (hf : FOk 40 f) (hp : f.package.length ≤ 5000000) : ∀ x ∈ tyFile f, x.full.length ≤ 50000000 := fun x hx => by
  have ha := ahead_len f.package
  rcases List.mem_append.1 hx with hx | hx
  · obtain ⟨y, hy, rfl⟩ := List.mem_map.1 hx
    have := (hf.en y hy).2.1
    show (aheadOf f.package ++ y.name).length ≤ _
    rw [List.length_append]
    omega
  · have := tyMs_big 8 (aheadOf f.package) f.msgs hf.ms x hx
    omega
theorem sFile_pk {l : List Tk} (hl : l.length ≤ 100000) (hw : Words 40 l) {f : Fil} (h : sFile l = .ok f) : f.package.length ≤ 5000000 := by
  rw [sFile_syn] at h
  split at h
  · cases h
  rename_i q hq
  have hq := sSyn_le hq
  split at h
  · cases h
  rename_i pk u hpk
  have hk : u ≤ l.length ∧ pk.length ≤ 5000000 := by
    unfold sPackage at hpk
    split at hpk
    · split at hpk
      · cases hpk
      rename_i hd
      have h1 := sDotted_ok hd
      unfold sDotted at hd
      rw [Bool.false_and, if_neg (by decide)] at hd
      have h2 := sDots_nm hw _ _ _ hd (by decide)
      split at hpk
      · cases hpk
      rename_i hw'
      have := sWant_ok hw'
      injection hpk with hpk
      injection hpk with h3 h4
      subst h3 h4
      have h5 := h2.2
      have h6 : (l.length + 1) * (40 + 1) ≤ 100001 * 41 := Nat.mul_le_mul (by omega) (by omega)
      simp only [List.length_nil] at h5
      exact ⟨by omega, by omega⟩
    · injection hpk with hpk
      injection hpk with h1 h2
      subst h1 h2
      exact ⟨hq, by decide⟩
  obtain ⟨_, h2⟩ := sParts_nm (b := 0) hw _ ⟨pk, [], []⟩ u ⟨fun x hx => (by cases hx), fun x hx => (by cases hx), by show 0 + 0 + 0 ≤ u; omega⟩ hk.1 h
  rw [h2]
  exact hk.2
theorem of_two {gls : List (Nat × List Value)} {A : Nat → Addr} {m : Int} (hg : OfG gls A m) (s : List UInt8) :
    (∃ f, FOk 40 f ∧ (∀ x ∈ tyFile f, x.full.length ≤ 50000000) ∧ EF Tryd.prog gls 6 [sP s] (.tup [FQ f, nilP])) ∨ ∃ f li co n, EF Tryd.prog gls 6 [sP s] (.tup [FQ f, fltR A li co n]) := by
  by_cases hs : s.length ≤ 4000
  · obtain ⟨T, b, ea, hT⟩ := lex_total s s.length 0 (by omega)
    have h1 := of_y hg s hs T b ea hT
    by_cases h0 : b = 0
    · have ha : sAns s T b ea = sParse (tksOf s T) := if_pos h0
      have hk := tksOf_ok hs hT
      rw [ha] at h1
      cases hf : sFile (tksOf s T) with
      | ok f =>
        rw [sParse_fil hf] at h1
        obtain ⟨h2, _⟩ := sFile_nm (by decide) hk.len (tksOf_words hT) hf
        exact .inl ⟨f, h2, tyFile_big h2 (sFile_pk hk.len (tksOf_words hT) hf), h1⟩
      | error e =>
        obtain ⟨hp, hc⟩ := sParse_err hf
        rw [hp] at h1
        have hne : e.2 ≠ 0 := by rcases hc with hc | hc <;> (rw [hc]; decide)
        simp only [progY, if_neg hne] at h1
        exact .inr ⟨fil0, _, _, e.2, h1⟩
    · have ha : sAns s T b ea = (fil0, b, (placeAt s ea).1, (placeAt s ea).2) := if_neg h0
      rw [ha] at h1
      simp only [progY, if_neg h0] at h1
      exact .inr ⟨fil0, _, _, b, h1⟩
  · exact .inr ⟨fil0, 0, 0, 3, of_l hg s (by omega)⟩
set_option maxRecDepth 100000 in
set_option maxHeartbeats 2000000 in
theorem own_bad {gls : List (Nat × List Value)} {A : Nat → Addr} (hsub : ∀ x, x ∈ gS (DupE A) (LongE A) → x ∈ gls) (s scope : List UInt8) (f : Fil) (li co n : Nat) (hof : EF Tryd.prog gls 6 [sP s] (.tup [FQ f, fltR A li co n])) :
    EF Tryd.prog gls 3 [sP s, sP scope] (.part (bP true)) := by
  refine ef_enter 167 Tryd.func3 rfl rfl rfl fun w D => ?_
  try refine e_fl ?_
  refine e_plain (w_as rfl rfl rfl rfl rfl .nil) ?_
  try refine e_fl ?_
  refine e_plain (w_op rfl rfl rfl (s_call rfl (by kernel_rfl) (salive_ef (DupE A) (LongE A) hsub) trivial) (w_op rfl rfl rfl (s_not rfl (kn rfl)) .nil)) ?_
  try refine e_fl ?_
  refine c_no ?_
  try refine e_fl ?_
  refine e_plain (w_mv rfl rfl rfl rfl rfl (w_op rfl rfl rfl (s_slen rfl (kn rfl) str_9) (w_op rfl rfl rfl (s_bin rfl (kn rfl) (kn rfl) v_gtr) (w_mv rfl rfl rfl rfl rfl (Walk.gd _ rfl rfl rfl (fun h => s_move rfl (kn rfl)) (Walk.gd _ rfl rfl rfl (fun h => s_slen rfl (kn_opt rfl h) str_9) (Walk.gd _ rfl rfl rfl (fun h => s_bin rfl (kn_opt rfl h) (kn rfl) v_gtr) (w_op rfl rfl rfl (s_or rfl (kn rfl) (fun hb => kn_opt rfl hb)) .nil)))))))) ?_
  try refine e_fl ?_
  refine e_cond rfl (fun h => ?_) (fun hlen => ?_)
  · try refine e_fl ?_
    refine e_plain (w_as rfl rfl rfl rfl rfl .nil) ?_
    try refine e_fl ?_
    exact e_return rfl rfl (.tmp (kn rfl) (.nil)) (Imp.refl _) rfl
  have hl2 : scope.length ≤ 300 := by simp at hlen; omega
  have hol := outM_len scope
  have hocl := cutI_le scope
  have hpre := outM_pre scope
  try refine e_fl ?_
  refine e_plain (w_mv rfl rfl rfl rfl rfl (w_op rfl rfl rfl (s_call rfl (by kernel_rfl) (outerX_ef _ scope (by omega)) ⟨(kn rfl), trivial⟩) (w_mv rfl rfl rfl rfl rfl (w_op rfl rfl rfl (s_extract rfl (kn rfl) rfl) (w_op rfl rfl rfl (s_extract rfl (kn rfl) rfl) (w_as rfl rfl rfl rfl rfl (w_as rfl rfl rfl rfl rfl .nil))))))) ?_
  try refine e_fl ?_
  refine e_plain (w_mv rfl rfl rfl rfl rfl (w_mv rfl rfl rfl rfl rfl (w_op rfl rfl rfl (s_bin rfl (kn rfl) (kn rfl) (v_sneq (b := []))) (w_op rfl rfl rfl (s_bin rfl (kn rfl) (kn rfl) (v_bne bool_4)) (w_mv rfl rfl rfl rfl rfl (Walk.gd _ rfl rfl rfl (fun h => s_move rfl (kn rfl)) (Walk.gd _ rfl rfl rfl (fun h => s_move rfl (kn_opt rfl h)) (Walk.gd _ rfl rfl rfl (fun h => s_move rfl (kn rfl)) (Walk.gd _ rfl rfl rfl (fun h => s_move rfl (kn rfl)) (Walk.gd _ rfl rfl rfl (fun h => s_bin rfl (kn_opt rfl h) (kn_opt rfl h) (v_sneq)) (Walk.gd _ rfl rfl rfl (fun h => s_and rfl (kn_opt rfl h) (fun hb => kn_opt rfl (gb h hb))) (Walk.gd _ rfl rfl rfl (fun h => s_move rfl (kn_opt rfl h)) (Walk.gd _ rfl rfl rfl (fun h => s_move rfl (kn rfl)) (Walk.gd _ rfl rfl rfl (fun h => s_slen rfl (kn_opt rfl h) str_9) (Walk.gd _ rfl rfl rfl (fun h => s_move rfl (kn rfl)) (Walk.gd _ rfl rfl rfl (fun h => s_slen rfl (kn_opt rfl h) str_9) (Walk.gd _ rfl rfl rfl (fun h => s_bin rfl (kn_opt rfl h) (kn_opt rfl h) v_leq) (Walk.gd _ rfl rfl rfl (fun h => s_move rfl (kn_opt rfl h)) (Walk.gd _ rfl rfl rfl (fun h => s_move rfl (kn rfl)) (Walk.gd _ rfl rfl rfl (fun h => s_move rfl (kn rfl)) (Walk.gd _ rfl rfl rfl (fun h => s_slen rfl (kn_opt rfl h) str_9) (Walk.gd _ rfl rfl rfl (fun h => s_sslice_to (l := scope) (z := ((outM scope).length : Int)) rfl (kn_opt rfl h) (kn_opt rfl h) (by omega) str_9) (Walk.gd _ rfl rfl rfl (fun h => s_move rfl (kn rfl)) (Walk.gd _ rfl rfl rfl (fun h => s_bin rfl (kn_opt rfl h) (kn_opt rfl h) (v_sneq)) (Walk.gd _ rfl rfl rfl (fun h => s_or rfl (kn_opt rfl h) (fun hb => kn_opt rfl (gb h hb))) (Walk.gd _ rfl rfl rfl (fun h => s_and rfl (kn_opt rfl h) (fun hb => kn_opt rfl (gb h hb))) (w_op rfl rfl rfl (s_or rfl (kn rfl) (fun hb => kn_opt rfl hb)) .nil))))))))))))))))))))))))))) ?_
  try refine e_fl ?_
  refine e_cond rfl (fun h => ?_) (fun _ => ?_)
  · exfalso
    by_cases e : scope = []
    · simp [e] at h
    · have h1 := outM_lt e
      have h2 := outM_ne e
      simp [e, h2, hpre] at h
      omega
  try refine e_fl ?_
  refine e_plain (w_mv rfl rfl rfl rfl rfl (w_op rfl rfl rfl (s_slen rfl (kn rfl) str_9) (w_op rfl rfl rfl (s_bin rfl (kn rfl) (kn rfl) (v_add64 (by first | omega | (dsimp only; omega) | omega))) (w_as rfl rfl rfl rfl rfl .nil)))) ?_
  try refine e_fl ?_
  refine e_loop (ι := { j : Nat // (outM scope).length < j ∧ j ≤ 1000 })
    (fun j => [(0, .part (sP s)), (1, .part (sP scope)), (7, .is (.int .i64 (j.1 : Int)))]) (fun _ => []) (fun _ => []) (fun j => 1000 - j.1)
    ⟨(outM scope).length + 1, by omega, by omega⟩
    (fun K => e_sub ⟨s_t, s_t, s_t, trivial⟩ trivial trivial) ?_
  rintro ⟨j, hj1, hj2⟩
  dsimp only at hj1 hj2 ⊢
  try refine e_fl ?_
  refine e_plain (w_mv rfl rfl rfl rfl rfl (w_mv rfl rfl rfl rfl rfl (w_op rfl rfl rfl (s_slen rfl (kn rfl) str_9) (w_op rfl rfl rfl (s_bin rfl (kn rfl) (kn rfl) v_lss) .nil)))) ?_
  try refine e_fl ?_
  refine e_cond rfl (fun h => ?_) (fun _ => ?_)
  · have hlt : j < scope.length := by have := of_decide_eq_true h; omega
    obtain ⟨c, hc⟩ : ∃ c, scope[j]? = some c := ⟨_, List.getElem?_eq_getElem hlt⟩
    have hc46 : ¬ c = 46 := fun e => outM_tail hj1 (by rw [hc, e])
    try refine e_fl ?_
    refine e_plain (w_mv rfl rfl rfl rfl rfl (w_mv rfl rfl rfl rfl rfl (w_op rfl rfl rfl (s_sindex rfl (kn rfl) (kn rfl) (by omega) hc str_9) (w_op rfl rfl rfl (s_bin rfl (kn rfl) (kn rfl) v_eql) .nil)))) ?_
    try refine e_fl ?_
    refine e_cond rfl (fun h1 => ?_) (fun _ => ?_)
    · exact absurd (UInt8.toNat_inj.1 (show c.toNat = 46 by have := of_decide_eq_true h1; omega)) hc46
    try refine e_fl ?_
    refine e_plain (w_mv rfl rfl rfl rfl rfl (w_op rfl rfl rfl (s_bin rfl (kn rfl) (kn rfl) (v_add64 (by first | omega | (dsimp only; omega) | omega))) (w_as rfl rfl rfl rfl rfl .nil))) ?_
    try refine e_fl ?_
    refine e_again ⟨j + 1, by omega, by omega⟩ (by dsimp only; omega) (fun K => e_sub ⟨s_t, s_t, s_t, trivial⟩ trivial trivial)
  try refine e_fl ?_
  refine e_list ?_
  refine l_mv ?_
  refine l_op (s_call rfl (by kernel_rfl) (hof) ⟨(kn rfl), trivial⟩) ?_
  refine l_mv ?_
  refine l_ex ?_
  refine l_ex ?_
  refine e_alloc 8 [.is (.string ⟨#[]⟩), .is (.slice none 0 0), .is (.slice none 0 0)] rfl rfl rfl rfl zr_28 (fun w D M V => ⟨rfl, fun j x v h1 h2 => cfit_is _ h1 h2 rfl⟩) rfl rfl rfl rfl ?_
  refine e_storew rfl rfl rfl (kn rfl) rfl (kn rfl) rfl rfl sz_28 ?_
  refine l_as ?_
  refine e_nil ?_
  try refine e_fl ?_
  refine e_plain (w_mv rfl rfl rfl rfl rfl (w_op rfl rfl rfl (s_err_neq rfl (kn rfl) rfl ifc_30) .nil)) ?_
  try refine e_fl ?_
  refine c_yes ?_
  try refine e_fl ?_
  refine e_plain (w_as rfl rfl rfl rfl rfl .nil) ?_
  try refine e_fl ?_
  exact e_return rfl rfl (.tmp (kn rfl) (.nil)) (Imp.refl _) rfl
set_option maxRecDepth 100000 in
set_option maxHeartbeats 2000000 in
theorem own_err {gls : List (Nat × List Value)} {A : Nat → Addr} (hsub : ∀ x, x ∈ gS (DupE A) (LongE A) → x ∈ gls) (s scope : List UInt8) (f : Fil) (hf : FOk 40 f) (k : Nat) (li co : Int) (htb : table f = .error (k, li, co)) (hof : EF Tryd.prog gls 6 [sP s] (.tup [FQ f, nilP])) :
    EF Tryd.prog gls 3 [sP s, sP scope] (.part (bP true)) := by
  have hso := sof_more (DupE A) (LongE A) hsub f hf
  rw [htb] at hso
  simp only [ofR] at hso
  refine ef_enter 167 Tryd.func3 rfl rfl rfl fun w D => ?_
  try refine e_fl ?_
  refine e_plain (w_as rfl rfl rfl rfl rfl .nil) ?_
  try refine e_fl ?_
  refine e_plain (w_op rfl rfl rfl (s_call rfl (by kernel_rfl) (salive_ef (DupE A) (LongE A) hsub) trivial) (w_op rfl rfl rfl (s_not rfl (kn rfl)) .nil)) ?_
  try refine e_fl ?_
  refine c_no ?_
  try refine e_fl ?_
  refine e_plain (w_mv rfl rfl rfl rfl rfl (w_op rfl rfl rfl (s_slen rfl (kn rfl) str_9) (w_op rfl rfl rfl (s_bin rfl (kn rfl) (kn rfl) v_gtr) (w_mv rfl rfl rfl rfl rfl (Walk.gd _ rfl rfl rfl (fun h => s_move rfl (kn rfl)) (Walk.gd _ rfl rfl rfl (fun h => s_slen rfl (kn_opt rfl h) str_9) (Walk.gd _ rfl rfl rfl (fun h => s_bin rfl (kn_opt rfl h) (kn rfl) v_gtr) (w_op rfl rfl rfl (s_or rfl (kn rfl) (fun hb => kn_opt rfl hb)) .nil)))))))) ?_
  try refine e_fl ?_
  refine e_cond rfl (fun h => ?_) (fun hlen => ?_)
  · try refine e_fl ?_
    refine e_plain (w_as rfl rfl rfl rfl rfl .nil) ?_
    try refine e_fl ?_
    exact e_return rfl rfl (.tmp (kn rfl) (.nil)) (Imp.refl _) rfl
  have hl2 : scope.length ≤ 300 := by simp at hlen; omega
  have hol := outM_len scope
  have hocl := cutI_le scope
  have hpre := outM_pre scope
  try refine e_fl ?_
  refine e_plain (w_mv rfl rfl rfl rfl rfl (w_op rfl rfl rfl (s_call rfl (by kernel_rfl) (outerX_ef _ scope (by omega)) ⟨(kn rfl), trivial⟩) (w_mv rfl rfl rfl rfl rfl (w_op rfl rfl rfl (s_extract rfl (kn rfl) rfl) (w_op rfl rfl rfl (s_extract rfl (kn rfl) rfl) (w_as rfl rfl rfl rfl rfl (w_as rfl rfl rfl rfl rfl .nil))))))) ?_
  try refine e_fl ?_
  refine e_plain (w_mv rfl rfl rfl rfl rfl (w_mv rfl rfl rfl rfl rfl (w_op rfl rfl rfl (s_bin rfl (kn rfl) (kn rfl) (v_sneq (b := []))) (w_op rfl rfl rfl (s_bin rfl (kn rfl) (kn rfl) (v_bne bool_4)) (w_mv rfl rfl rfl rfl rfl (Walk.gd _ rfl rfl rfl (fun h => s_move rfl (kn rfl)) (Walk.gd _ rfl rfl rfl (fun h => s_move rfl (kn_opt rfl h)) (Walk.gd _ rfl rfl rfl (fun h => s_move rfl (kn rfl)) (Walk.gd _ rfl rfl rfl (fun h => s_move rfl (kn rfl)) (Walk.gd _ rfl rfl rfl (fun h => s_bin rfl (kn_opt rfl h) (kn_opt rfl h) (v_sneq)) (Walk.gd _ rfl rfl rfl (fun h => s_and rfl (kn_opt rfl h) (fun hb => kn_opt rfl (gb h hb))) (Walk.gd _ rfl rfl rfl (fun h => s_move rfl (kn_opt rfl h)) (Walk.gd _ rfl rfl rfl (fun h => s_move rfl (kn rfl)) (Walk.gd _ rfl rfl rfl (fun h => s_slen rfl (kn_opt rfl h) str_9) (Walk.gd _ rfl rfl rfl (fun h => s_move rfl (kn rfl)) (Walk.gd _ rfl rfl rfl (fun h => s_slen rfl (kn_opt rfl h) str_9) (Walk.gd _ rfl rfl rfl (fun h => s_bin rfl (kn_opt rfl h) (kn_opt rfl h) v_leq) (Walk.gd _ rfl rfl rfl (fun h => s_move rfl (kn_opt rfl h)) (Walk.gd _ rfl rfl rfl (fun h => s_move rfl (kn rfl)) (Walk.gd _ rfl rfl rfl (fun h => s_move rfl (kn rfl)) (Walk.gd _ rfl rfl rfl (fun h => s_slen rfl (kn_opt rfl h) str_9) (Walk.gd _ rfl rfl rfl (fun h => s_sslice_to (l := scope) (z := ((outM scope).length : Int)) rfl (kn_opt rfl h) (kn_opt rfl h) (by omega) str_9) (Walk.gd _ rfl rfl rfl (fun h => s_move rfl (kn rfl)) (Walk.gd _ rfl rfl rfl (fun h => s_bin rfl (kn_opt rfl h) (kn_opt rfl h) (v_sneq)) (Walk.gd _ rfl rfl rfl (fun h => s_or rfl (kn_opt rfl h) (fun hb => kn_opt rfl (gb h hb))) (Walk.gd _ rfl rfl rfl (fun h => s_and rfl (kn_opt rfl h) (fun hb => kn_opt rfl (gb h hb))) (w_op rfl rfl rfl (s_or rfl (kn rfl) (fun hb => kn_opt rfl hb)) .nil))))))))))))))))))))))))))) ?_
  try refine e_fl ?_
  refine e_cond rfl (fun h => ?_) (fun _ => ?_)
  · exfalso
    by_cases e : scope = []
    · simp [e] at h
    · have h1 := outM_lt e
      have h2 := outM_ne e
      simp [e, h2, hpre] at h
      omega
  try refine e_fl ?_
  refine e_plain (w_mv rfl rfl rfl rfl rfl (w_op rfl rfl rfl (s_slen rfl (kn rfl) str_9) (w_op rfl rfl rfl (s_bin rfl (kn rfl) (kn rfl) (v_add64 (by first | omega | (dsimp only; omega) | omega))) (w_as rfl rfl rfl rfl rfl .nil)))) ?_
  try refine e_fl ?_
  refine e_loop (ι := { j : Nat // (outM scope).length < j ∧ j ≤ 1000 })
    (fun j => [(0, .part (sP s)), (1, .part (sP scope)), (7, .is (.int .i64 (j.1 : Int)))]) (fun _ => []) (fun _ => []) (fun j => 1000 - j.1)
    ⟨(outM scope).length + 1, by omega, by omega⟩
    (fun K => e_sub ⟨s_t, s_t, s_t, trivial⟩ trivial trivial) ?_
  rintro ⟨j, hj1, hj2⟩
  dsimp only at hj1 hj2 ⊢
  try refine e_fl ?_
  refine e_plain (w_mv rfl rfl rfl rfl rfl (w_mv rfl rfl rfl rfl rfl (w_op rfl rfl rfl (s_slen rfl (kn rfl) str_9) (w_op rfl rfl rfl (s_bin rfl (kn rfl) (kn rfl) v_lss) .nil)))) ?_
  try refine e_fl ?_
  refine e_cond rfl (fun h => ?_) (fun _ => ?_)
  · have hlt : j < scope.length := by have := of_decide_eq_true h; omega
    obtain ⟨c, hc⟩ : ∃ c, scope[j]? = some c := ⟨_, List.getElem?_eq_getElem hlt⟩
    have hc46 : ¬ c = 46 := fun e => outM_tail hj1 (by rw [hc, e])
    try refine e_fl ?_
    refine e_plain (w_mv rfl rfl rfl rfl rfl (w_mv rfl rfl rfl rfl rfl (w_op rfl rfl rfl (s_sindex rfl (kn rfl) (kn rfl) (by omega) hc str_9) (w_op rfl rfl rfl (s_bin rfl (kn rfl) (kn rfl) v_eql) .nil)))) ?_
    try refine e_fl ?_
    refine e_cond rfl (fun h1 => ?_) (fun _ => ?_)
    · exact absurd (UInt8.toNat_inj.1 (show c.toNat = 46 by have := of_decide_eq_true h1; omega)) hc46
    try refine e_fl ?_
    refine e_plain (w_mv rfl rfl rfl rfl rfl (w_op rfl rfl rfl (s_bin rfl (kn rfl) (kn rfl) (v_add64 (by first | omega | (dsimp only; omega) | omega))) (w_as rfl rfl rfl rfl rfl .nil))) ?_
    try refine e_fl ?_
    refine e_again ⟨j + 1, by omega, by omega⟩ (by dsimp only; omega) (fun K => e_sub ⟨s_t, s_t, s_t, trivial⟩ trivial trivial)
  try refine e_fl ?_
  refine e_list ?_
  refine l_mv ?_
  refine l_op (s_call rfl (by kernel_rfl) (hof) ⟨(kn rfl), trivial⟩) ?_
  refine l_mv ?_
  refine l_ex ?_
  refine l_ex ?_
  refine e_alloc 8 [.is (.string ⟨#[]⟩), .is (.slice none 0 0), .is (.slice none 0 0)] rfl rfl rfl rfl zr_28 (fun w D M V => ⟨rfl, fun j x v h1 h2 => cfit_is _ h1 h2 rfl⟩) rfl rfl rfl rfl ?_
  refine e_storew rfl rfl rfl (kn rfl) rfl (kn rfl) rfl rfl sz_28 ?_
  refine l_as ?_
  refine e_nil ?_
  try refine e_fl ?_
  refine e_plain (w_mv rfl rfl rfl rfl rfl (w_op rfl rfl rfl (s_nil_neq rfl (kn rfl) ifc_30) .nil)) ?_
  try refine e_fl ?_
  refine c_no ?_
  try refine e_fl ?_
  refine e_plain (w_op rfl rfl rfl (s_loadn_box (ds := [_, _, _]) 3 rfl (kn rfl) rfl rfl agg_28 sz_28 rfl) (w_op rfl rfl rfl (s_call rfl (by kernel_rfl) (hso) ⟨(kn rfl), trivial⟩) (w_mv rfl rfl rfl rfl rfl (w_op rfl rfl rfl (s_extract rfl (kn rfl) rfl) (w_op rfl rfl rfl (s_extract rfl (kn rfl) rfl) (w_as rfl rfl rfl rfl rfl (w_as rfl rfl rfl rfl rfl .nil))))))) ?_
  try refine e_fl ?_
  refine e_plain (w_mv rfl rfl rfl rfl rfl (w_op rfl rfl rfl (s_err_neq rfl (kn rfl) rfl ifc_30) (w_mv rfl rfl rfl rfl rfl (Walk.gd _ rfl rfl rfl (fun h => s_move rfl (kn rfl)) (Walk.gd _ rfl rfl rfl (fun h => s_ptr_nil rfl (kn_opt rfl h) ptrS) (w_op rfl rfl rfl (s_or rfl (kn rfl) (fun hb => kn_opt rfl hb)) .nil)))))) ?_
  try refine e_fl ?_
  refine c_yes ?_
  try refine e_fl ?_
  refine e_plain (w_mv rfl rfl rfl rfl rfl (w_op rfl rfl rfl (s_err_neq rfl (kn rfl) rfl ifc_30) (w_as rfl rfl rfl rfl rfl .nil))) ?_
  try refine e_fl ?_
  exact e_return rfl rfl (.tmp (kn rfl) (.nil)) (Imp.refl _) rfl
set_option maxRecDepth 100000 in
set_option maxHeartbeats 4000000 in
theorem own_ok {gls : List (Nat × List Value)} {A : Nat → Addr} (hsub : ∀ x, x ∈ gS (DupE A) (LongE A) → x ∈ gls) (s scope : List UInt8) (f : Fil) (hf : FOk 40 f) (hbig : ∀ x ∈ tyFile f, x.full.length ≤ 50000000) (L : List Ty) (htb : table f = .ok L) (hof : EF Tryd.prog gls 6 [sP s] (.tup [FQ f, nilP])) :
    EF Tryd.prog gls 3 [sP s, sP scope] (.part (bP true)) := by
  have hso := sof_more (DupE A) (LongE A) hsub f hf
  have hL : TbOk L := addAllT_ok (L := []) ⟨List.nodup_nil, by simp⟩ htb
  have hfu := table_full hf htb
  have hp := full_nopt hfu
  have h40 := hL.2
  have hlb : ∀ t ∈ L, t.full.length ≤ 50000000 := fun t ht => by
    rcases addAllT_mem (L := []) ⟨List.nodup_nil, by simp⟩ htb t ht with h1 | ⟨x, hx, h1⟩
    · cases h1
    · rw [h1]; exact hbig x hx
  rw [htb] at hso
  refine ef_enter 167 Tryd.func3 rfl rfl rfl fun w D => ?_
  try refine e_fl ?_
  refine e_plain (w_as rfl rfl rfl rfl rfl .nil) ?_
  try refine e_fl ?_
  refine e_plain (w_op rfl rfl rfl (s_call rfl (by kernel_rfl) (salive_ef (DupE A) (LongE A) hsub) trivial) (w_op rfl rfl rfl (s_not rfl (kn rfl)) .nil)) ?_
  try refine e_fl ?_
  refine c_no ?_
  try refine e_fl ?_
  refine e_plain (w_mv rfl rfl rfl rfl rfl (w_op rfl rfl rfl (s_slen rfl (kn rfl) str_9) (w_op rfl rfl rfl (s_bin rfl (kn rfl) (kn rfl) v_gtr) (w_mv rfl rfl rfl rfl rfl (Walk.gd _ rfl rfl rfl (fun h => s_move rfl (kn rfl)) (Walk.gd _ rfl rfl rfl (fun h => s_slen rfl (kn_opt rfl h) str_9) (Walk.gd _ rfl rfl rfl (fun h => s_bin rfl (kn_opt rfl h) (kn rfl) v_gtr) (w_op rfl rfl rfl (s_or rfl (kn rfl) (fun hb => kn_opt rfl hb)) .nil)))))))) ?_
  try refine e_fl ?_
  refine e_cond rfl (fun h => ?_) (fun hlen => ?_)
  · try refine e_fl ?_
    refine e_plain (w_as rfl rfl rfl rfl rfl .nil) ?_
    try refine e_fl ?_
    exact e_return rfl rfl (.tmp (kn rfl) (.nil)) (Imp.refl _) rfl
  have hl2 : scope.length ≤ 300 := by simp at hlen; omega
  have hol := outM_len scope
  have hocl := cutI_le scope
  have hpre := outM_pre scope
  try refine e_fl ?_
  refine e_plain (w_mv rfl rfl rfl rfl rfl (w_op rfl rfl rfl (s_call rfl (by kernel_rfl) (outerX_ef _ scope (by omega)) ⟨(kn rfl), trivial⟩) (w_mv rfl rfl rfl rfl rfl (w_op rfl rfl rfl (s_extract rfl (kn rfl) rfl) (w_op rfl rfl rfl (s_extract rfl (kn rfl) rfl) (w_as rfl rfl rfl rfl rfl (w_as rfl rfl rfl rfl rfl .nil))))))) ?_
  try refine e_fl ?_
  refine e_plain (w_mv rfl rfl rfl rfl rfl (w_mv rfl rfl rfl rfl rfl (w_op rfl rfl rfl (s_bin rfl (kn rfl) (kn rfl) (v_sneq (b := []))) (w_op rfl rfl rfl (s_bin rfl (kn rfl) (kn rfl) (v_bne bool_4)) (w_mv rfl rfl rfl rfl rfl (Walk.gd _ rfl rfl rfl (fun h => s_move rfl (kn rfl)) (Walk.gd _ rfl rfl rfl (fun h => s_move rfl (kn_opt rfl h)) (Walk.gd _ rfl rfl rfl (fun h => s_move rfl (kn rfl)) (Walk.gd _ rfl rfl rfl (fun h => s_move rfl (kn rfl)) (Walk.gd _ rfl rfl rfl (fun h => s_bin rfl (kn_opt rfl h) (kn_opt rfl h) (v_sneq)) (Walk.gd _ rfl rfl rfl (fun h => s_and rfl (kn_opt rfl h) (fun hb => kn_opt rfl (gb h hb))) (Walk.gd _ rfl rfl rfl (fun h => s_move rfl (kn_opt rfl h)) (Walk.gd _ rfl rfl rfl (fun h => s_move rfl (kn rfl)) (Walk.gd _ rfl rfl rfl (fun h => s_slen rfl (kn_opt rfl h) str_9) (Walk.gd _ rfl rfl rfl (fun h => s_move rfl (kn rfl)) (Walk.gd _ rfl rfl rfl (fun h => s_slen rfl (kn_opt rfl h) str_9) (Walk.gd _ rfl rfl rfl (fun h => s_bin rfl (kn_opt rfl h) (kn_opt rfl h) v_leq) (Walk.gd _ rfl rfl rfl (fun h => s_move rfl (kn_opt rfl h)) (Walk.gd _ rfl rfl rfl (fun h => s_move rfl (kn rfl)) (Walk.gd _ rfl rfl rfl (fun h => s_move rfl (kn rfl)) (Walk.gd _ rfl rfl rfl (fun h => s_slen rfl (kn_opt rfl h) str_9) (Walk.gd _ rfl rfl rfl (fun h => s_sslice_to (l := scope) (z := ((outM scope).length : Int)) rfl (kn_opt rfl h) (kn_opt rfl h) (by omega) str_9) (Walk.gd _ rfl rfl rfl (fun h => s_move rfl (kn rfl)) (Walk.gd _ rfl rfl rfl (fun h => s_bin rfl (kn_opt rfl h) (kn_opt rfl h) (v_sneq)) (Walk.gd _ rfl rfl rfl (fun h => s_or rfl (kn_opt rfl h) (fun hb => kn_opt rfl (gb h hb))) (Walk.gd _ rfl rfl rfl (fun h => s_and rfl (kn_opt rfl h) (fun hb => kn_opt rfl (gb h hb))) (w_op rfl rfl rfl (s_or rfl (kn rfl) (fun hb => kn_opt rfl hb)) .nil))))))))))))))))))))))))))) ?_
  try refine e_fl ?_
  refine e_cond rfl (fun h => ?_) (fun _ => ?_)
  · exfalso
    by_cases e : scope = []
    · simp [e] at h
    · have h1 := outM_lt e
      have h2 := outM_ne e
      simp [e, h2, hpre] at h
      omega
  try refine e_fl ?_
  refine e_plain (w_mv rfl rfl rfl rfl rfl (w_op rfl rfl rfl (s_slen rfl (kn rfl) str_9) (w_op rfl rfl rfl (s_bin rfl (kn rfl) (kn rfl) (v_add64 (by first | omega | (dsimp only; omega) | omega))) (w_as rfl rfl rfl rfl rfl .nil)))) ?_
  try refine e_fl ?_
  refine e_loop (ι := { j : Nat // (outM scope).length < j ∧ j ≤ 1000 })
    (fun j => [(0, .part (sP s)), (1, .part (sP scope)), (7, .is (.int .i64 (j.1 : Int)))]) (fun _ => []) (fun _ => []) (fun j => 1000 - j.1)
    ⟨(outM scope).length + 1, by omega, by omega⟩
    (fun K => e_sub ⟨s_t, s_t, s_t, trivial⟩ trivial trivial) ?_
  rintro ⟨j, hj1, hj2⟩
  dsimp only at hj1 hj2 ⊢
  try refine e_fl ?_
  refine e_plain (w_mv rfl rfl rfl rfl rfl (w_mv rfl rfl rfl rfl rfl (w_op rfl rfl rfl (s_slen rfl (kn rfl) str_9) (w_op rfl rfl rfl (s_bin rfl (kn rfl) (kn rfl) v_lss) .nil)))) ?_
  try refine e_fl ?_
  refine e_cond rfl (fun h => ?_) (fun _ => ?_)
  · have hlt : j < scope.length := by have := of_decide_eq_true h; omega
    obtain ⟨c, hc⟩ : ∃ c, scope[j]? = some c := ⟨_, List.getElem?_eq_getElem hlt⟩
    have hc46 : ¬ c = 46 := fun e => outM_tail hj1 (by rw [hc, e])
    try refine e_fl ?_
    refine e_plain (w_mv rfl rfl rfl rfl rfl (w_mv rfl rfl rfl rfl rfl (w_op rfl rfl rfl (s_sindex rfl (kn rfl) (kn rfl) (by omega) hc str_9) (w_op rfl rfl rfl (s_bin rfl (kn rfl) (kn rfl) v_eql) .nil)))) ?_
    try refine e_fl ?_
    refine e_cond rfl (fun h1 => ?_) (fun _ => ?_)
    · exact absurd (UInt8.toNat_inj.1 (show c.toNat = 46 by have := of_decide_eq_true h1; omega)) hc46
    try refine e_fl ?_
    refine e_plain (w_mv rfl rfl rfl rfl rfl (w_op rfl rfl rfl (s_bin rfl (kn rfl) (kn rfl) (v_add64 (by first | omega | (dsimp only; omega) | omega))) (w_as rfl rfl rfl rfl rfl .nil))) ?_
    try refine e_fl ?_
    refine e_again ⟨j + 1, by omega, by omega⟩ (by dsimp only; omega) (fun K => e_sub ⟨s_t, s_t, s_t, trivial⟩ trivial trivial)
  try refine e_fl ?_
  refine e_list ?_
  refine l_mv ?_
  refine l_op (s_call rfl (by kernel_rfl) (hof) ⟨(kn rfl), trivial⟩) ?_
  refine l_mv ?_
  refine l_ex ?_
  refine l_ex ?_
  refine e_alloc 8 [.is (.string ⟨#[]⟩), .is (.slice none 0 0), .is (.slice none 0 0)] rfl rfl rfl rfl zr_28 (fun w D M V => ⟨rfl, fun j x v h1 h2 => cfit_is _ h1 h2 rfl⟩) rfl rfl rfl rfl ?_
  refine e_storew rfl rfl rfl (kn rfl) rfl (kn rfl) rfl rfl sz_28 ?_
  refine l_as ?_
  refine e_nil ?_
  try refine e_fl ?_
  refine e_plain (w_mv rfl rfl rfl rfl rfl (w_op rfl rfl rfl (s_nil_neq rfl (kn rfl) ifc_30) .nil)) ?_
  try refine e_fl ?_
  refine c_no ?_
  try refine e_fl ?_
  refine e_plain (w_op rfl rfl rfl (s_loadn_box (ds := [_, _, _]) 3 rfl (kn rfl) rfl rfl agg_28 sz_28 rfl) (w_op rfl rfl rfl (s_call rfl (by kernel_rfl) (hso) ⟨(kn rfl), trivial⟩) (w_mv rfl rfl rfl rfl rfl (w_op rfl rfl rfl (s_extract rfl (kn rfl) rfl) (w_op rfl rfl rfl (s_extract rfl (kn rfl) rfl) (w_as rfl rfl rfl rfl rfl (w_as rfl rfl rfl rfl rfl .nil))))))) ?_
  try refine e_fl ?_
  refine e_plain (w_mv rfl rfl rfl rfl rfl (w_op rfl rfl rfl (s_nil_neq rfl (kn rfl) ifc_30) (w_mv rfl rfl rfl rfl rfl (Walk.gd _ rfl rfl rfl (fun h => s_move rfl (kn rfl)) (Walk.gd _ rfl rfl rfl (fun h => s_ptr_dat rfl (kn_opt rfl h) ptrS) (w_op rfl rfl rfl (s_or rfl (kn rfl) (fun hb => kn_opt rfl hb)) .nil)))))) ?_
  try refine e_fl ?_
  refine c_no ?_
  try refine e_fl ?_
  refine e_plain (w_mv rfl rfl rfl rfl rfl (w_op rfl rfl rfl (s_call rfl (by kernel_rfl) (types_ef _ L hL) ⟨(kn rfl), trivial⟩) (w_op rfl rfl rfl (s_len rfl (kn rfl) sle_36) (w_mv rfl rfl rfl rfl rfl .nil)))) ?_
  try refine e_fl ?_
  refine e_loop (ι := { i : Nat // i ≤ L.length })
    (fun i => [(10, .part (tabP L)), (98, .part (.one (.row 5 L.length (L.flatMap Ty.dats)))), (99, .is (.int .i64 (L.length : Int))), (100, .is (.int .i64 (i.1 : Int)))])
    (fun _ => []) (fun _ => []) (fun i => L.length - i.1)
    ⟨0, by omega⟩
    (fun K => e_sub ⟨s_t, s_t, s_t, s_t, trivial⟩ trivial trivial) ?_
  rintro ⟨i, hi⟩
  dsimp only at hi ⊢
  try refine e_fl ?_
  refine e_plain (w_op rfl rfl rfl (s_bin rfl (kn rfl) (kn rfl) v_lss) .nil) ?_
  try refine e_fl ?_
  refine e_cond rfl (fun h => ?_) (fun h => ?_)
  · have hlt : i < L.length := by have := of_decide_eq_true h; omega
    obtain ⟨x, hx⟩ : ∃ x, L[i]? = some x := ⟨_, List.getElem?_eq_getElem hlt⟩
    have hxm := List.mem_of_getElem? hx
    obtain ⟨a, n, ha, hn, hxf⟩ := hfu x hxm
    have hxl := hlb x hxm
    have hout : outM x.full = a := by rw [hxf]; exact outM_full hn
    have hdrop : x.full.drop a.length = if a = [] then n else 46 :: n := by rw [hxf]; exact full_drop
    have hal : a.length ≤ x.full.length := by rw [← hout, outM_len]; exact cutI_le _
    have hnl : n.length ≤ 40 := hn.2.1
    have hox := outerX_ef gls x.full (by omega)
    rw [hout] at hox
    have hcd : cdec True = true := cdec_true.2 trivial
    have hfx : ffind x.full L = some x := ffind_mem hL.1 hxm
    have hfind := find_ef gls L hL x.full
    have hlook := look_ef gls L hL a n (by omega) (by omega)
    have hdot := look_ef gls L hL [97, 110, 121, 46, 115, 99, 111, 112, 101] (46 :: x.full) (by decide) (by rw [List.length_cons]; omega)
    rw [look_own hL.1 hp hxm hn hxf] at hlook
    rw [look_abs hL.1 hxm] at hdot
    unfold findR at hfind
    rw [hfx] at hfind
    try refine e_fl ?_
    refine e_list ?_
    refine l_op (s_index rfl (kn rfl) (kn rfl) (by omega) hx Ty.dats_len sle_36 esz_36 rfl) ?_
    refine l_op (s_loadn_ref rfl (kn rfl) agg_39 sz_39) ?_
    refine e_alloc 12 [.is (.string ⟨#[]⟩), .is (.bool false), .is (.int .i64 0), .is (.int .i64 0), .is (.int .i64 0)] rfl rfl rfl rfl zr_39 (fun w D M V => ⟨rfl, fun j x v h1 h2 => cfit_is _ h1 h2 rfl⟩) rfl rfl rfl rfl ?_
    refine e_storew rfl rfl rfl (kn rfl) rfl (kn rfl) rfl rfl sz_39 ?_
    refine e_nil ?_
    try refine e_fl ?_
    refine e_plain (w_op rfl rfl rfl (s_faddr_box rfl (kn rfl) off_39_0) (w_op rfl rfl rfl (s_load1_box rfl (kn rfl) rfl rfl one_9) (w_op rfl rfl rfl (s_call rfl (by kernel_rfl) (hox) ⟨(kn rfl), trivial⟩) (w_mv rfl rfl rfl rfl rfl (w_op rfl rfl rfl (s_extract rfl (kn rfl) rfl) (w_op rfl rfl rfl (s_extract rfl (kn rfl) rfl) (w_as rfl rfl rfl rfl rfl (w_as rfl rfl rfl rfl rfl .nil)))))))) ?_
    try refine e_fl ?_
    refine e_plain (w_op rfl rfl rfl (s_faddr_box rfl (kn rfl) off_39_0) (w_op rfl rfl rfl (s_load1_box rfl (kn rfl) rfl rfl one_9) (w_mv rfl rfl rfl rfl rfl (w_op rfl rfl rfl (s_slen rfl (kn rfl) str_9) (w_op rfl rfl rfl (s_sslice_from (z := (a.length : Int)) rfl (kn rfl) (kn rfl) (by omega) str_9) (w_as rfl rfl rfl rfl rfl .nil)))))) ?_
    try refine e_fl ?_
    rw [show ((a.length : Nat) : Int).toNat = a.length from rfl, hdrop]
    refine e_plain (w_mv rfl rfl rfl rfl rfl (w_op rfl rfl rfl (s_bin rfl (kn rfl) (kn rfl) (v_sneq (b := []))) .nil)) ?_
    try refine e_fl ?_
    by_cases ea : a = []
    · rw [if_pos ea]
      refine e_cond rfl (fun h => by rw [ea] at h; exact absurd h (by decide)) (fun _ => ?_)
      try refine e_fl ?_
      refine e_list ?_
      refine l_mv ?_
      refine l_op (s_faddr_box rfl (kn rfl) off_39_0) ?_
      refine l_op (s_load1_box rfl (kn rfl) rfl rfl one_9) ?_
      refine l_op (s_call rfl (by kernel_rfl) (hfind) ⟨(kn rfl), ⟨(kn rfl), trivial⟩⟩) ?_
      refine l_mv ?_
      refine l_ex ?_
      refine l_ex ?_
      refine e_alloc 16 [.is (.string ⟨#[]⟩), .is (.bool false), .is (.int .i64 0), .is (.int .i64 0), .is (.int .i64 0)] rfl rfl rfl rfl zr_39 (fun w D M V => ⟨rfl, fun j x v h1 h2 => cfit_is _ h1 h2 rfl⟩) rfl rfl rfl rfl ?_
      refine e_storew rfl rfl rfl (kn rfl) rfl (kn rfl) rfl rfl sz_39 ?_
      refine l_as ?_
      refine e_nil ?_
      try refine e_fl ?_
      refine e_list ?_
      refine l_mv ?_
      refine l_mv ?_
      refine l_mv ?_
      refine l_op (s_call rfl (by kernel_rfl) (hlook) ⟨(kn rfl), ⟨(kn rfl), ⟨(kn rfl), trivial⟩⟩⟩) ?_
      refine l_mv ?_
      refine l_ex ?_
      refine l_ex ?_
      refine e_alloc 18 [.is (.string ⟨#[]⟩), .is (.bool false), .is (.int .i64 0), .is (.int .i64 0), .is (.int .i64 0)] rfl rfl rfl rfl zr_39 (fun w D M V => ⟨rfl, fun j x v h1 h2 => cfit_is _ h1 h2 rfl⟩) rfl rfl rfl rfl ?_
      refine e_storew rfl rfl rfl (kn rfl) rfl (kn rfl) rfl rfl sz_39 ?_
      refine l_as ?_
      refine e_nil ?_
      try refine e_fl ?_
      refine e_list ?_
      refine l_mv ?_
      refine l_op (s_faddr_box rfl (kn rfl) off_39_0) ?_
      refine l_op (s_load1_box rfl (kn rfl) rfl rfl one_9) ?_
      refine l_op (s_bin rfl (kn rfl) (kn rfl) (v_sadd (a := [46]) (b := x.full) (by simp only [List.length_cons, List.length_nil]; omega))) ?_
      refine l_op (s_call rfl (by kernel_rfl) (hdot) ⟨(kn rfl), ⟨(kn rfl), ⟨(kn rfl), trivial⟩⟩⟩) ?_
      refine l_mv ?_
      refine l_ex ?_
      refine l_ex ?_
      refine e_alloc 20 [.is (.string ⟨#[]⟩), .is (.bool false), .is (.int .i64 0), .is (.int .i64 0), .is (.int .i64 0)] rfl rfl rfl rfl zr_39 (fun w D M V => ⟨rfl, fun j x v h1 h2 => cfit_is _ h1 h2 rfl⟩) rfl rfl rfl rfl ?_
      refine e_storew rfl rfl rfl (kn rfl) rfl (kn rfl) rfl rfl sz_39 ?_
      refine l_as ?_
      refine e_nil ?_
      try refine e_fl ?_
      refine e_plain (w_mv rfl rfl rfl rfl rfl (w_op rfl rfl rfl (s_not rfl (kn rfl)) (w_mv rfl rfl rfl rfl rfl (Walk.gd _ rfl rfl rfl (fun h => s_move rfl (kn rfl)) (Walk.gd _ rfl rfl rfl (fun h => s_not rfl (kn_opt rfl h)) (w_op rfl rfl rfl (s_or rfl (kn rfl) (fun hb => kn_opt rfl hb)) (w_mv rfl rfl rfl rfl rfl (Walk.gd _ rfl rfl rfl (fun h => s_move rfl (kn rfl)) (Walk.gd _ rfl rfl rfl (fun h => s_not rfl (kn_opt rfl h)) (w_op rfl rfl rfl (s_or rfl (kn rfl) (fun hb => kn_opt rfl hb)) (w_mv rfl rfl rfl rfl rfl (Walk.gd _ rfl rfl rfl (fun h => s_loadn_box (ds := [_, _, _, _, _]) 5 rfl (kn rfl) rfl rfl agg_39 sz_39 rfl) (Walk.gd _ rfl rfl rfl (fun h => s_loadn_box (ds := [_, _, _, _, _]) 5 rfl (kn rfl) rfl rfl agg_39 sz_39 rfl) (Walk.gd _ rfl rfl rfl (fun h => s_binm (cs := x.vals) (ds := x.vals) rfl (kn_opt rfl h) (kn_opt rfl h) (neqTyS x x)) (w_op rfl rfl rfl (s_or rfl (kn rfl) (fun hb => kn_opt rfl hb)) (w_mv rfl rfl rfl rfl rfl (Walk.gd _ rfl rfl rfl (fun h => s_loadn_box (ds := [_, _, _, _, _]) 5 rfl (kn rfl) rfl rfl agg_39 sz_39 rfl) (Walk.gd _ rfl rfl rfl (fun h => s_loadn_box (ds := [_, _, _, _, _]) 5 rfl (kn rfl) rfl rfl agg_39 sz_39 rfl) (Walk.gd _ rfl rfl rfl (fun h => s_binm (cs := x.vals) (ds := x.vals) rfl (kn_opt rfl h) (kn_opt rfl h) (neqTyS x x)) (w_op rfl rfl rfl (s_or rfl (kn rfl) (fun hb => kn_opt rfl hb)) (w_mv rfl rfl rfl rfl rfl (Walk.gd _ rfl rfl rfl (fun h => s_loadn_box (ds := [_, _, _, _, _]) 5 rfl (kn rfl) rfl rfl agg_39 sz_39 rfl) (Walk.gd _ rfl rfl rfl (fun h => s_loadn_box (ds := [_, _, _, _, _]) 5 rfl (kn rfl) rfl rfl agg_39 sz_39 rfl) (Walk.gd _ rfl rfl rfl (fun h => s_binm (cs := x.vals) (ds := x.vals) rfl (kn_opt rfl h) (kn_opt rfl h) (neqTyS x x)) (w_op rfl rfl rfl (s_or rfl (kn rfl) (fun hb => kn_opt rfl hb)) .nil))))))))))))))))))))))))) ?_
      try refine e_fl ?_
      refine e_cond rfl (fun h => by simp [hcd] at h) (fun _ => ?_)
      try refine e_fl ?_
      refine e_plain (w_op rfl rfl rfl (s_bin rfl (kn rfl) (kn rfl) (v_add64 (by first | omega | (dsimp only; omega) | omega))) (w_mv rfl rfl rfl rfl rfl .nil)) ?_
      try refine e_fl ?_
      refine e_again ⟨i + 1, by omega⟩ (by dsimp only; omega) (fun K => e_sub ⟨s_t, s_t, s_t, s_t, trivial⟩ trivial trivial)
    · rw [if_neg ea]
      refine e_cond rfl (fun _ => ?_) (fun h => absurd h (by simpa using ea))
      try refine e_fl ?_
      refine e_plain (w_mv rfl rfl rfl rfl rfl (w_op rfl rfl rfl (s_sslice_from (l := 46 :: n) (z := 1) rfl (kn rfl) (kn rfl) (by rw [List.length_cons]; omega) str_9) (w_as rfl rfl rfl rfl rfl .nil))) ?_
      try refine e_fl ?_
      try refine e_fl ?_
      refine e_list ?_
      refine l_mv ?_
      refine l_op (s_faddr_box rfl (kn rfl) off_39_0) ?_
      refine l_op (s_load1_box rfl (kn rfl) rfl rfl one_9) ?_
      refine l_op (s_call rfl (by kernel_rfl) (hfind) ⟨(kn rfl), ⟨(kn rfl), trivial⟩⟩) ?_
      refine l_mv ?_
      refine l_ex ?_
      refine l_ex ?_
      refine e_alloc 16 [.is (.string ⟨#[]⟩), .is (.bool false), .is (.int .i64 0), .is (.int .i64 0), .is (.int .i64 0)] rfl rfl rfl rfl zr_39 (fun w D M V => ⟨rfl, fun j x v h1 h2 => cfit_is _ h1 h2 rfl⟩) rfl rfl rfl rfl ?_
      refine e_storew rfl rfl rfl (kn rfl) rfl (kn rfl) rfl rfl sz_39 ?_
      refine l_as ?_
      refine e_nil ?_
      try refine e_fl ?_
      refine e_list ?_
      refine l_mv ?_
      refine l_mv ?_
      refine l_mv ?_
      refine l_op (s_call rfl (by kernel_rfl) (hlook) ⟨(kn rfl), ⟨(kn rfl), ⟨(kn rfl), trivial⟩⟩⟩) ?_
      refine l_mv ?_
      refine l_ex ?_
      refine l_ex ?_
      refine e_alloc 18 [.is (.string ⟨#[]⟩), .is (.bool false), .is (.int .i64 0), .is (.int .i64 0), .is (.int .i64 0)] rfl rfl rfl rfl zr_39 (fun w D M V => ⟨rfl, fun j x v h1 h2 => cfit_is _ h1 h2 rfl⟩) rfl rfl rfl rfl ?_
      refine e_storew rfl rfl rfl (kn rfl) rfl (kn rfl) rfl rfl sz_39 ?_
      refine l_as ?_
      refine e_nil ?_
      try refine e_fl ?_
      refine e_list ?_
      refine l_mv ?_
      refine l_op (s_faddr_box rfl (kn rfl) off_39_0) ?_
      refine l_op (s_load1_box rfl (kn rfl) rfl rfl one_9) ?_
      refine l_op (s_bin rfl (kn rfl) (kn rfl) (v_sadd (a := [46]) (b := x.full) (by simp only [List.length_cons, List.length_nil]; omega))) ?_
      refine l_op (s_call rfl (by kernel_rfl) (hdot) ⟨(kn rfl), ⟨(kn rfl), ⟨(kn rfl), trivial⟩⟩⟩) ?_
      refine l_mv ?_
      refine l_ex ?_
      refine l_ex ?_
      refine e_alloc 20 [.is (.string ⟨#[]⟩), .is (.bool false), .is (.int .i64 0), .is (.int .i64 0), .is (.int .i64 0)] rfl rfl rfl rfl zr_39 (fun w D M V => ⟨rfl, fun j x v h1 h2 => cfit_is _ h1 h2 rfl⟩) rfl rfl rfl rfl ?_
      refine e_storew rfl rfl rfl (kn rfl) rfl (kn rfl) rfl rfl sz_39 ?_
      refine l_as ?_
      refine e_nil ?_
      try refine e_fl ?_
      refine e_plain (w_mv rfl rfl rfl rfl rfl (w_op rfl rfl rfl (s_not rfl (kn rfl)) (w_mv rfl rfl rfl rfl rfl (Walk.gd _ rfl rfl rfl (fun h => s_move rfl (kn rfl)) (Walk.gd _ rfl rfl rfl (fun h => s_not rfl (kn_opt rfl h)) (w_op rfl rfl rfl (s_or rfl (kn rfl) (fun hb => kn_opt rfl hb)) (w_mv rfl rfl rfl rfl rfl (Walk.gd _ rfl rfl rfl (fun h => s_move rfl (kn rfl)) (Walk.gd _ rfl rfl rfl (fun h => s_not rfl (kn_opt rfl h)) (w_op rfl rfl rfl (s_or rfl (kn rfl) (fun hb => kn_opt rfl hb)) (w_mv rfl rfl rfl rfl rfl (Walk.gd _ rfl rfl rfl (fun h => s_loadn_box (ds := [_, _, _, _, _]) 5 rfl (kn rfl) rfl rfl agg_39 sz_39 rfl) (Walk.gd _ rfl rfl rfl (fun h => s_loadn_box (ds := [_, _, _, _, _]) 5 rfl (kn rfl) rfl rfl agg_39 sz_39 rfl) (Walk.gd _ rfl rfl rfl (fun h => s_binm (cs := x.vals) (ds := x.vals) rfl (kn_opt rfl h) (kn_opt rfl h) (neqTyS x x)) (w_op rfl rfl rfl (s_or rfl (kn rfl) (fun hb => kn_opt rfl hb)) (w_mv rfl rfl rfl rfl rfl (Walk.gd _ rfl rfl rfl (fun h => s_loadn_box (ds := [_, _, _, _, _]) 5 rfl (kn rfl) rfl rfl agg_39 sz_39 rfl) (Walk.gd _ rfl rfl rfl (fun h => s_loadn_box (ds := [_, _, _, _, _]) 5 rfl (kn rfl) rfl rfl agg_39 sz_39 rfl) (Walk.gd _ rfl rfl rfl (fun h => s_binm (cs := x.vals) (ds := x.vals) rfl (kn_opt rfl h) (kn_opt rfl h) (neqTyS x x)) (w_op rfl rfl rfl (s_or rfl (kn rfl) (fun hb => kn_opt rfl hb)) (w_mv rfl rfl rfl rfl rfl (Walk.gd _ rfl rfl rfl (fun h => s_loadn_box (ds := [_, _, _, _, _]) 5 rfl (kn rfl) rfl rfl agg_39 sz_39 rfl) (Walk.gd _ rfl rfl rfl (fun h => s_loadn_box (ds := [_, _, _, _, _]) 5 rfl (kn rfl) rfl rfl agg_39 sz_39 rfl) (Walk.gd _ rfl rfl rfl (fun h => s_binm (cs := x.vals) (ds := x.vals) rfl (kn_opt rfl h) (kn_opt rfl h) (neqTyS x x)) (w_op rfl rfl rfl (s_or rfl (kn rfl) (fun hb => kn_opt rfl hb)) .nil))))))))))))))))))))))))) ?_
      try refine e_fl ?_
      refine e_cond rfl (fun h => by simp [hcd] at h) (fun _ => ?_)
      try refine e_fl ?_
      refine e_plain (w_op rfl rfl rfl (s_bin rfl (kn rfl) (kn rfl) (v_add64 (by first | omega | (dsimp only; omega) | omega))) (w_mv rfl rfl rfl rfl rfl .nil)) ?_
      try refine e_fl ?_
      refine e_again ⟨i + 1, by omega⟩ (by dsimp only; omega) (fun K => e_sub ⟨s_t, s_t, s_t, s_t, trivial⟩ trivial trivial)
  · try refine e_fl ?_
    refine e_plain (w_as rfl rfl rfl rfl rfl .nil) ?_
    try refine e_fl ?_
    exact e_return rfl rfl (.tmp (kn rfl) (.nil)) (Imp.refl _) rfl
theorem own_any (w : World) (A : Nat → Addr) (m : Int) (hL : Lx w A m) (hD : w.cell? ⟨5, 0, none⟩ = some (errV A 7)) (hU : w.cell? ⟨1, 0, none⟩ = some (errV A 10)) (s scope : List UInt8) : Calls Tryd.prog 3 #[.string (str s), .string (str scope)] w fun e w' => e = .returned (.bool true) ∧ Below w.heap.size w w' := by
  have hsub := glB_sub A m
  have hG := glB_ok5 hL hD hU
  have hE : EF Tryd.prog (glB A m) 3 [sP s, sP scope] (.part (bP true)) := by
    rcases of_two (glB_of A m) s with ⟨f, hf, hc, hof⟩ | ⟨f, li, co, n, hof⟩
    · cases htb : table f with
      | ok L => exact own_ok hsub s scope f hf hc L htb hof
      | error e => exact own_err hsub s scope f hf e.1 e.2.1 e.2.2 htb hof
    · exact own_bad hsub s scope f li co n hof
  refine (hE w (fun _ => False) [.string (str s), .string (str scope)] (fun g h => h.elim) hG ⟨.cell _, .cell _, trivial⟩).mono ?_
  rintro e w' ⟨v, y, rfl, rfl, hb, hv⟩
  have hv1 : Lies w' _ (.cell (.bool true)) v := hv (fun _ => 0) (fun _ => undef)
  exact ⟨by rw [hv1.cell_eq], hb⟩
end Go.Proofs.YtekeanikgcpijaaDoor
