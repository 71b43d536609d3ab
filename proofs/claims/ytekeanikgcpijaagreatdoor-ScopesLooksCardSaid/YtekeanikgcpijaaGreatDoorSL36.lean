/- Part 36 of what the last text of this claim is proved by: walks over the program, and the math behind them. Conditions: as each theorem says. -/
import Derived.Test.YtekeanikgcpijaaGreatDoorSL35
import Derived.Test.YtekeanikgcpijaaGreatDoorProg
namespace Go.Proofs.YtekeanikgcpijaaGreatDoor
open Go.RowKit
def lastT (s : List UInt8) : Nat → Nat
  | 0 => 0
  | n + 1 => if s[n]? = some 46 then n else lastT s n
theorem lastT_cut (s : List UInt8) : ∀ n, n ≤ s.length → (∀ j, n ≤ j → s[j]? ≠ some 46) → lastT s n = cutI s
  | 0, _, h => by
    have : lastI s = -1 := lastI_none fun j => h j (by omega)
    unfold cutI
    rw [this]
    rfl
  | n + 1, hn, h => by
    unfold lastT
    split
    · rename_i h1
      have : lastI s = (n : Int) := lastI_at h1 fun j hj => h j (by omega)
      unfold cutI
      rw [this]
      omega
    · rename_i h1
      refine lastT_cut s n (by omega) fun j hj => ?_
      by_cases e : j = n
      · rw [e]; exact h1
      · exact h j (by omega)
theorem lastT_all (s : List UInt8) : lastT s s.length = cutI s := lastT_cut s _ (Nat.le_refl _) fun j hj => by
  rw [List.getElem?_eq_none hj]
  simp
theorem headAt {s : List UInt8} (h : 0 < s.length) : s[0]? = some (s.headD 0) := by
  match s, h with
  | c :: r, _ => rfl
theorem headPt_dec (s : List UInt8) : headPt s = (decide ((0 : Int) < (s.length : Int)) && decide (((s.headD 0).toNat : Int) = 46)) := by
  match s with
  | [] => rfl
  | c :: r =>
    rw [headPt_cons]
    have h1 : decide ((0 : Int) < ((c :: r).length : Int)) = true := decide_eq_true (by rw [List.length_cons]; omega)
    rw [h1, Bool.true_and]
    apply decide_eq_decide.2
    constructor
    · rintro rfl
      rfl
    · intro h
      exact UInt8.toNat_inj.1 (show c.toNat = 46 by have : ((c.toNat : Nat) : Int) = 46 := h; omega)
def NoPt (L : List Ty) : Prop := ∀ t ∈ L, ∀ r, t.full ≠ 46 :: r
theorem NoPt.find {L : List Ty} (h : NoPt L) (r : List UInt8) : ffind (46 :: r) L = none := ffind_none.2 fun t ht => h t ht r
set_option maxRecDepth 100000 in
set_option maxHeartbeats 2000000 in
theorem rlook_step (gls : List (Nat × List Value)) (L : List Ty) (hL : L.length ≤ 100000000000) (hp : NoPt L) (scope name : List UInt8) (h1 : scope.length ≤ 100000000) (h2 : name.length ≤ 100000000) (hh : headPt name = false)
    (ih : scope ≠ [] → EF Tryz.prog gls 16 [.one (.row 5 L.length (L.flatMap Ty.dats)), sP (outM scope), sP name] (lookR (lookUp L name (outM scope)))) :
    EF Tryz.prog gls 16 [.one (.row 5 L.length (L.flatMap Ty.dats)), sP scope, sP name] (lookR (lookUp L name scope)) := by
  have hle := lookUp_eq L name scope
  have hahl := ahead_len scope
  have hj : ffind (aheadOf scope ++ name) L = if scope = [] then ffind name L else ffind (scope ++ 46 :: name) L := by
    unfold aheadOf
    split
    · rfl
    · rw [List.append_assoc]
      rfl
  refine ef_enter 59 Tryz.func16 rfl rfl rfl fun w D => ?_
  try refine e_fl ?_
  refine e_list ?_
  refine e_alloc 6 [.is (.string ⟨#[]⟩), .is (.bool false), .is (.int .i64 0), .is (.int .i64 0), .is (.int .i64 0)] rfl rfl rfl rfl zr_48 (fun w D M V => ⟨rfl, fun j x v h1 h2 => cfit_is _ h1 h2 rfl⟩) rfl rfl rfl rfl ?_
  refine l_as ?_
  refine e_nil ?_
  try refine e_fl ?_
  refine e_plain (w_mv rfl rfl rfl rfl rfl (w_op rfl rfl rfl (s_slen rfl (kn rfl) str_9) (w_op rfl rfl rfl (s_bin rfl (kn rfl) (kn rfl) v_gtr) (w_mv rfl rfl rfl rfl rfl (Walk.gd _ rfl rfl rfl (fun h => s_move rfl (kn rfl)) (Walk.gd _ rfl rfl rfl (fun h => s_sindex (l := name) (z := 0) rfl (kn_opt rfl h) (kn rfl) (by omega) (headAt (by have := of_decide_eq_true h; omega)) str_9) (Walk.gd _ rfl rfl rfl (fun h => s_bin rfl (kn_opt rfl h) (kn rfl) v_eql) (w_op rfl rfl rfl (s_and rfl (kn rfl) (fun hb => kn_opt rfl hb)) .nil)))))))) ?_
  try refine e_fl ?_
  refine e_cond rfl (fun h => by rw [headPt_dec] at hh; have h' : (decide ((0 : Int) < (name.length : Int)) && decide (((name.headD 0).toNat : Int) = 46)) = true := h; rw [hh] at h'; cases h') (fun _ => ?_)
  try refine e_fl ?_
  refine e_list ?_
  refine l_mv ?_
  refine l_mv ?_
  refine l_mv ?_
  refine l_op (s_call rfl (by kernel_rfl) (join_ef gls scope name (by omega) (by omega)) ⟨(kn rfl), ⟨(kn rfl), trivial⟩⟩) ?_
  refine l_op (s_call rfl (by kernel_rfl) (rfind_ef gls L hL (aheadOf scope ++ name)) ⟨(kn rfl), ⟨(kn rfl), trivial⟩⟩) ?_
  refine l_mv ?_
  refine l_ex ?_
  refine l_ex ?_
  refine e_alloc 8 [.is (.string ⟨#[]⟩), .is (.bool false), .is (.int .i64 0), .is (.int .i64 0), .is (.int .i64 0)] rfl rfl rfl rfl zr_48 (fun w D M V => ⟨rfl, fun j x v h1 h2 => cfit_is _ h1 h2 rfl⟩) rfl rfl rfl rfl ?_
  refine e_storew rfl rfl rfl (kn rfl) rfl (kn rfl) rfl rfl sz_48 ?_
  refine l_as ?_
  refine e_nil ?_
  try refine e_fl ?_
  refine e_plain (w_mv rfl rfl rfl rfl rfl .nil) ?_
  try refine e_fl ?_
  refine e_cond rfl (fun h => ?_) (fun h => ?_)
  · obtain ⟨t, ht⟩ := Option.isSome_iff_exists.1 h
    have hr : lookUp L name scope = some t := by
      rw [hle]
      by_cases e : scope = []
      · subst e
        rw [if_pos rfl] at hj
        rw [show ([] : List UInt8) ++ 46 :: name = 46 :: name from rfl, hp.find, if_pos rfl, ← hj, ht]
      · rw [if_neg e] at hj
        rw [← hj, ht]
    try refine e_fl ?_
    refine e_list ?_
    refine l_op (s_loadn_box (ds := [_, _, _, _, _]) 5 rfl (kn rfl) rfl rfl agg_48 sz_48 rfl) ?_
    refine e_storew rfl rfl rfl (kn rfl) rfl (kn rfl) rfl rfl sz_48 ?_
    refine l_as ?_
    refine e_nil ?_
    try refine e_fl ?_
    exact e_return rfl rfl (.cell rfl rfl rfl agg_48 sz_48 rfl (.tmp (kn rfl) (.nil))) (Imp.of_eq (by rw [hr]; unfold lookR; rw [ht]; rfl)) rfl
  · have hn : ffind (aheadOf scope ++ name) L = none := by simpa using h
    rw [hn] at hj
    try refine e_fl ?_
    refine e_plain (w_mv rfl rfl rfl rfl rfl (w_op rfl rfl rfl (s_slen rfl (kn rfl) str_9) (w_op rfl rfl rfl (s_bin rfl (kn rfl) (kn rfl) v_eql) .nil))) ?_
    try refine e_fl ?_
    refine e_cond rfl (fun h3 => ?_) (fun h3 => ?_)
    · have e : scope = [] := List.length_eq_zero_iff.1 (by have := of_decide_eq_true h3; omega)
      subst e
      rw [if_pos rfl] at hj
      have hr : lookUp L name [] = none := by
        rw [hle, show ([] : List UInt8) ++ 46 :: name = 46 :: name from rfl, hp.find, if_pos rfl, ← hj]
      try refine e_fl ?_
      refine e_list ?_
      refine l_op (s_build (ds := [_, _, _, _, _]) [] rfl trivial rfl pl_48 zr_48 (fun w D => .cons (.cell _) (.cons (.cell _) (.cons (.cell _) (.cons (.cell _) (.cons (.cell _) (.nil _ _)))))) rfl) ?_
      refine e_storew rfl rfl rfl (kn rfl) rfl (kn rfl) rfl rfl sz_48 ?_
      refine l_as ?_
      refine e_nil ?_
      try refine e_fl ?_
      exact e_return rfl rfl (.cell rfl rfl rfl agg_48 sz_48 rfl (.tmp (kn rfl) (.nil))) (Imp.of_eq (by rw [hr]; rfl)) rfl
    · have e : scope ≠ [] := fun e => by rw [e] at h3; exact absurd h3 (by decide)
      rw [if_neg e] at hj
      have hr : lookUp L name scope = lookUp L name (outM scope) := by
        rw [hle, ← hj, if_neg e]
      have ih' := ih e
      try refine e_fl ?_
      refine e_plain (w_as rfl rfl rfl rfl rfl .nil) ?_
      try refine e_fl ?_
      refine e_plain (w_as rfl rfl rfl rfl rfl .nil) ?_
      try refine e_fl ?_
      refine e_loop (ι := { i : Nat // i ≤ scope.length })
        (fun i => [(0, .part (.one (.row 5 L.length (L.flatMap Ty.dats)))), (1, .part (sP scope)), (2, .part (sP name)), (6, .box 6 0), (10, .is (.int .i64 (lastT scope i.1 : Int))), (11, .is (.int .i64 (i.1 : Int)))])
        (fun _ => [(6, ⟨48, [.is (.string ⟨#[]⟩), .is (.bool false), .is (.int .i64 0), .is (.int .i64 0), .is (.int .i64 0)]⟩)]) (fun _ => []) (fun i => scope.length - i.1)
        ⟨0, by omega⟩
        (fun K => e_sub ⟨s_t, s_t, s_t, s_t, s_t, s_t, trivial⟩ ⟨s_b, trivial⟩ trivial) ?_
      rintro ⟨i, hi⟩
      dsimp only at hi ⊢
      try refine e_fl ?_
      refine e_plain (w_mv rfl rfl rfl rfl rfl (w_mv rfl rfl rfl rfl rfl (w_op rfl rfl rfl (s_slen rfl (kn rfl) str_9) (w_op rfl rfl rfl (s_bin rfl (kn rfl) (kn rfl) v_lss) .nil)))) ?_
      try refine e_fl ?_
      refine e_cond rfl (fun h4 => ?_) (fun h4 => ?_)
      · have hlt : i < scope.length := by have := of_decide_eq_true h4; omega
        obtain ⟨c, hc⟩ : ∃ c, scope[i]? = some c := ⟨_, List.getElem?_eq_getElem hlt⟩
        try refine e_fl ?_
        refine e_plain (w_mv rfl rfl rfl rfl rfl (w_mv rfl rfl rfl rfl rfl (w_op rfl rfl rfl (s_sindex rfl (kn rfl) (kn rfl) (by omega) hc str_9) (w_op rfl rfl rfl (s_bin rfl (kn rfl) (kn rfl) v_eql) .nil)))) ?_
        try refine e_fl ?_
        refine e_cond rfl (fun h5 => ?_) (fun h5 => ?_)
        · have hc2 : c = 46 := by
            have := of_decide_eq_true h5
            exact UInt8.toNat_inj.1 (show c.toNat = 46 by omega)
          subst hc2
          have hls : lastT scope (i + 1) = i := by
            unfold lastT
            rw [if_pos hc]
          try refine e_fl ?_
          refine e_plain (w_mv rfl rfl rfl rfl rfl (w_as rfl rfl rfl rfl rfl .nil)) ?_
          try refine e_fl ?_
          try refine e_fl ?_
          refine e_plain (w_mv rfl rfl rfl rfl rfl (w_op rfl rfl rfl (s_bin rfl (kn rfl) (kn rfl) (v_add64 (by first | omega | (dsimp only; omega) | omega))) (w_as rfl rfl rfl rfl rfl .nil))) ?_
          try refine e_fl ?_
          refine e_again ⟨i + 1, by omega⟩ (by dsimp only; omega) (fun K => e_sub ⟨s_t, s_t, s_t, s_t, ⟨_, rfl, Imp.of_eq (by rw [hls])⟩, s_t, trivial⟩ ⟨s_b, trivial⟩ trivial)
        · have hc2 : ¬ c = 46 := fun e => by
            subst e
            exact absurd (of_decide_eq_false h5) (by decide)
          have hls : lastT scope (i + 1) = lastT scope i := by
            rw [lastT, if_neg (by rw [hc]; exact fun e => hc2 (Option.some.inj e))]
          try refine e_fl ?_
          refine e_plain (w_mv rfl rfl rfl rfl rfl (w_op rfl rfl rfl (s_bin rfl (kn rfl) (kn rfl) (v_add64 (by first | omega | (dsimp only; omega) | omega))) (w_as rfl rfl rfl rfl rfl .nil))) ?_
          try refine e_fl ?_
          refine e_again ⟨i + 1, by omega⟩ (by dsimp only; omega) (fun K => e_sub ⟨s_t, s_t, s_t, s_t, ⟨_, rfl, Imp.of_eq (by rw [hls])⟩, s_t, trivial⟩ ⟨s_b, trivial⟩ trivial)
      · obtain rfl : i = scope.length := by have := of_decide_eq_false h4; omega
        rw [lastT_all]
        have hcl := cutI_le scope
        try refine e_fl ?_
        refine e_list ?_
        refine l_mv ?_
        refine l_mv ?_
        refine l_mv ?_
        refine l_op (s_sslice_to (z := (cutI scope : Int)) rfl (kn rfl) (kn rfl) (by omega) str_9) ?_
        refine l_mv ?_
        refine l_op (s_call rfl (by kernel_rfl) (ih') ⟨(kn rfl), ⟨(kn rfl), ⟨(kn rfl), trivial⟩⟩⟩) ?_
        refine l_ex ?_
        refine l_ex ?_
        refine e_storew rfl rfl rfl (kn rfl) rfl (kn rfl) rfl rfl sz_48 ?_
        refine l_as ?_
        refine e_nil ?_
        try refine e_fl ?_
        exact e_return rfl rfl (.cell rfl rfl rfl agg_48 sz_48 rfl (.tmp (kn rfl) (.nil))) (Imp.of_eq (by rw [hr]; rfl)) rfl
theorem rlook_up (gls : List (Nat × List Value)) (L : List Ty) (hL : L.length ≤ 100000000000) (hp : NoPt L) (name : List UInt8) (h2 : name.length ≤ 100000000) (hh : headPt name = false) : ∀ (n : Nat) (scope : List UInt8), scope.length ≤ n → scope.length ≤ 100000000 →
    EF Tryz.prog gls 16 [.one (.row 5 L.length (L.flatMap Ty.dats)), sP scope, sP name] (lookR (lookUp L name scope))
  | 0, scope, hn, h1 => rlook_step gls L hL hp scope name h1 h2 hh fun e => absurd (List.length_eq_zero_iff.1 (Nat.le_zero.1 hn)) e
  | n + 1, scope, hn, h1 => rlook_step gls L hL hp scope name h1 h2 hh fun e => by
      have := outM_lt e
      exact rlook_up gls L hL hp name h2 hh n (outM scope) (by omega) (by omega)
set_option maxRecDepth 100000 in
theorem rlook_ef (gls : List (Nat × List Value)) (L : List Ty) (hL : L.length ≤ 100000000000) (hp : NoPt L) (scope name : List UInt8) (h1 : scope.length ≤ 100000000) (h2 : name.length ≤ 100000000) :
    EF Tryz.prog gls 16 [.one (.row 5 L.length (L.flatMap Ty.dats)), sP scope, sP name] (lookR (lookT L scope name)) := by
  rw [lookT_cut]
  cases hh : headPt name with
  | false =>
    rw [if_neg (by decide)]
    exact rlook_up gls L hL hp name h2 hh _ scope (Nat.le_refl _) h1
  | true =>
    rw [if_pos rfl]
    have hd := cutPt_drop hh
    refine ef_enter 59 Tryz.func16 rfl rfl rfl fun w D => ?_
    try refine e_fl ?_
    refine e_list ?_
    refine e_alloc 6 [.is (.string ⟨#[]⟩), .is (.bool false), .is (.int .i64 0), .is (.int .i64 0), .is (.int .i64 0)] rfl rfl rfl rfl zr_48 (fun w D M V => ⟨rfl, fun j x v h1 h2 => cfit_is _ h1 h2 rfl⟩) rfl rfl rfl rfl ?_
    refine l_as ?_
    refine e_nil ?_
    try refine e_fl ?_
    refine e_plain (w_mv rfl rfl rfl rfl rfl (w_op rfl rfl rfl (s_slen rfl (kn rfl) str_9) (w_op rfl rfl rfl (s_bin rfl (kn rfl) (kn rfl) v_gtr) (w_mv rfl rfl rfl rfl rfl (Walk.gd _ rfl rfl rfl (fun h => s_move rfl (kn rfl)) (Walk.gd _ rfl rfl rfl (fun h => s_sindex (l := name) (z := 0) rfl (kn_opt rfl h) (kn rfl) (by omega) (headAt (by have := of_decide_eq_true h; omega)) str_9) (Walk.gd _ rfl rfl rfl (fun h => s_bin rfl (kn_opt rfl h) (kn rfl) v_eql) (w_op rfl rfl rfl (s_and rfl (kn rfl) (fun hb => kn_opt rfl hb)) .nil)))))))) ?_
    try refine e_fl ?_
    refine e_cond rfl (fun _ => ?_) (fun h => by rw [headPt_dec] at hh; have h' : (decide ((0 : Int) < (name.length : Int)) && decide (((name.headD 0).toNat : Int) = 46)) = false := h; rw [hh] at h'; cases h')
    have hl := headPt_len hh
    try refine e_fl ?_
    refine e_list ?_
    refine l_mv ?_
    refine l_mv ?_
    refine l_op (s_sslice_from (z := 1) rfl (kn rfl) (kn rfl) (by omega) str_9) ?_
    refine l_op (s_call rfl (by kernel_rfl) (rfind_ef gls L hL (name.drop 1)) ⟨(kn rfl), ⟨(kn rfl), trivial⟩⟩) ?_
    refine l_ex ?_
    refine l_ex ?_
    refine e_storew rfl rfl rfl (kn rfl) rfl (kn rfl) rfl rfl sz_48 ?_
    refine l_as ?_
    refine e_nil ?_
    try refine e_fl ?_
    exact e_return rfl rfl (.cell rfl rfl rfl agg_48 sz_48 rfl (.tmp (kn rfl) (.nil))) (Imp.of_eq (by show findR L (name.drop 1) = _; rw [hd]; rfl)) rfl
end Go.Proofs.YtekeanikgcpijaaGreatDoor
namespace Go.Proofs.YtekeanikgcpijaaGreatDoor
open Go.RowKit
abbrev DupE (A : Nat → Addr) : Er := (tE, .pointer (some (A 10)))
abbrev LongE (A : Nat → Addr) : Er := (tE, .pointer (some (A 2)))
abbrev glB (A : Nat → Addr) (m : Int) : List (Nat × List Value) := (1, [errV A 10]) :: glA A m
theorem glB_of (A : Nat → Addr) (m : Int) : OfG (glB A m) A m := by
  have h := glA_of A m
  exact ⟨⟨List.mem_cons_of_mem _ h.lx.range, List.mem_cons_of_mem _ h.lx.long, List.mem_cons_of_mem _ h.lx.form, List.mem_cons_of_mem _ h.lx.max⟩, fun x hx => List.mem_cons_of_mem _ (h.sub x hx)⟩
theorem glB_sub (A : Nat → Addr) (m : Int) : ∀ x, x ∈ gS (DupE A) (LongE A) → x ∈ glB A m := fun x hx => by
  rcases List.mem_cons.1 hx with rfl | hx
  · exact List.mem_cons_self
  · rcases List.mem_cons.1 hx with rfl | hx
    · exact (glB_of A m).lx.long
    · cases hx
theorem of_one {gls : List (Nat × List Value)} {A : Nat → Addr} {m : Int} (hg : OfG gls A m) (s : List UInt8) :
    (∃ f, FOk 40 f ∧ (tyFile f).length ≤ 100000 ∧ EF Tryz.prog gls 6 [sP s] (.tup [FQ f, nilP])) ∨ ∃ f li co n, EF Tryz.prog gls 6 [sP s] (.tup [FQ f, fltR A li co n]) := by
  by_cases hs : s.length ≤ 4000
  · obtain ⟨T, b, ea, hT⟩ := lex_total s s.length 0 (by omega)
    have h1 := of_y hg s hs T b ea hT
    by_cases h0 : b = 0
    · have ha : sAns s T b ea = sParse (tksOf s T) := if_pos h0
      have hk := tksOf_ok hs hT
      rw [ha] at h1
      cases hf : sFile (tksOf s T) with
      | ok f =>
        rw [sParse_fil hf] at h1
        obtain ⟨h2, h3⟩ := sFile_nm (by decide) hk.len (tksOf_words hT) hf
        exact .inl ⟨f, h2, h3, h1⟩
      | error e =>
        obtain ⟨hp, hc⟩ := sParse_err hf
        rw [hp] at h1
        have hne : e.2 ≠ 0 := by rcases hc with hc | hc <;> (rw [hc]; decide)
        simp only [progY, if_neg hne] at h1
        exact .inr ⟨fil0, _, _, e.2, h1⟩
    · have ha : sAns s T b ea = (fil0, b, (placeAt s ea).1, (placeAt s ea).2) := if_neg h0
      rw [ha] at h1
      simp only [progY, if_neg h0] at h1
      exact .inr ⟨fil0, _, _, b, h1⟩
  · exact .inr ⟨fil0, 0, 0, 3, of_l hg s (by omega)⟩
abbrev alK (n : List UInt8) (m : List Msg) : Msg := .mk n [] [] m [] [] [] 0 0
abbrev alF : Fil := ⟨[112], [alK [77] [alK [78] []], alK [78] []], []⟩
abbrev alL : List Ty := [⟨[112, 46, 77], false, 0, 0, 0⟩, ⟨[112, 46, 77, 46, 78], false, 1, 0, 0⟩, ⟨[112, 46, 78], false, 2, 0, 0⟩]
theorem alT : table alF = .ok alL := by kernel_rfl
theorem alNm (c : UInt8) (h : c ≠ 46) : NmOk 40 [c] := ⟨by simp, by simp, by simp; exact Ne.symm h⟩
theorem alOk : FOk 40 alF := by
  have hN : NmOk 40 [78] := alNm 78 (by decide)
  have hM : NmOk 40 [77] := alNm 77 (by decide)
  have f1 : (alK [78] []).fine := (Msg.fine_iff _).2 ⟨Nat.zero_le _, Nat.zero_le _, Nat.zero_le _, Nat.zero_le _, Nat.zero_le _, Nat.zero_le _, fun x hx => (by cases hx), fun k hk => (by cases hk)⟩
  have f2 : (alK [77] [alK [78] []]).fine := (Msg.fine_iff _).2 ⟨Nat.zero_le _, Nat.zero_le _, by decide, Nat.zero_le _, Nat.zero_le _, Nat.zero_le _, fun x hx => (by cases hx), fun k hk => by rw [List.mem_singleton.1 hk]; exact f1⟩
  refine ⟨⟨by decide, Nat.zero_le _, fun x hx => (by cases hx), fun k hk => ?_⟩, by decide, by decide, fun x hx => (by cases hx), fun k hk => ?_⟩
  · rcases List.mem_cons.1 hk with rfl | hk
    · exact f2
    · rw [List.mem_singleton.1 hk]; exact f1
  · rcases List.mem_cons.1 hk with rfl | hk
    · exact ⟨hM, fun x hx => (by cases hx), fun k hk => by
        rw [List.mem_singleton.1 hk]
        exact ⟨hN, fun x hx => (by cases hx), fun k hk => (by cases hk)⟩⟩
    · rw [List.mem_singleton.1 hk]
      exact ⟨hN, fun x hx => (by cases hx), fun k hk => (by cases hk)⟩
theorem alTb : TbOk alL := addAllT_ok (L := []) ⟨List.nodup_nil, by simp⟩ alT
theorem al1 : lookT alL [112, 46, 77] [78] = some ⟨[112, 46, 77, 46, 78], false, 1, 0, 0⟩ := by
  rw [lookT_cut, if_neg (by decide), lookUp_eq]
  rfl
theorem al2 : lookT alL [112] [78] = some ⟨[112, 46, 78], false, 2, 0, 0⟩ := by
  rw [lookT_cut, if_neg (by decide), lookUp_eq]
  rfl
theorem sof_more {gls : List (Nat × List Value)} (ED EL : Er) (hs : ∀ x, x ∈ gS ED EL → x ∈ gls) (f : Fil) (hf : FOk 40 f) : EF Tryz.prog gls 7 [FQ f] (ofR ED EL (table f)) := EFx.more (sof_ef ED EL 40 (by decide) f hf) hs
set_option maxRecDepth 100000 in
set_option maxHeartbeats 2000000 in
theorem salive_ef {gls : List (Nat × List Value)} (ED EL : Er) (hs : ∀ x, x ∈ gS ED EL → x ∈ gls) : EF Tryz.prog gls 5 [] (.part (bP true)) := by
  have ho := sof_more ED EL hs alF alOk
  rw [alT] at ho
  have l1 := look_ef gls alL alTb [112, 46, 77] [78] (by decide) (by decide)
  have l2 := look_ef gls alL alTb [112] [78] (by decide) (by decide)
  rw [al1] at l1
  rw [al2] at l2
  refine ef_enter 59 Tryz.func5 rfl rfl rfl fun w D => ?_
  try refine e_fl ?_
  refine e_plain (w_as rfl rfl rfl rfl rfl .nil) ?_
  try refine e_fl ?_
  refine e_list ?_
  refine l_op (s_build (ds := [_, .row 10 0 [], .row 1 0 [], .row 9 0 [], .row 4 0 [], .row 2 0 [], .row 1 0 [], _, _]) [(0, _)] rfl ⟨rfl, (kn rfl), trivial⟩ rfl pl_62 zr_62 (fun w D => .cons (.cell _) (.cons (.none _ _ _) (.cons (.none _ _ _) (.cons (.none _ _ _) (.cons (.none _ _ _) (.cons (.none _ _ _) (.cons (.none _ _ _) (.cons (.cell _) (.cons (.cell _) (.nil _ _)))))))))) rfl) ?_
  refine l_op (s_buildSlice (ds := [_, _, _, _, _, _, _, _, _]) [(0, _)] rfl ⟨rfl, (kn rfl), trivial⟩ rfl sl_23 sz_62 zr_62 (fun w D => .cons (.cell _) (.cons (.cell _) (.cons (.cell _) (.cons (.cell _) (.cons (.cell _) (.cons (.cell _) (.cons (.cell _) (.cons (.cell _) (.cons (.cell _) (.nil _ _)))))))))) rfl rfl rfl rfl rfl) ?_
  refine l_op (s_build (ds := [_, .row 10 0 [], .row 1 0 [], _, .row 4 0 [], .row 2 0 [], .row 1 0 [], _, _]) [(0, _), (3, _)] rfl ⟨rfl, (kn rfl), ⟨rfl, (kn rfl), trivial⟩⟩ rfl pl_62 zr_62 (fun w D => .cons (.cell _) (.cons (.none _ _ _) (.cons (.none _ _ _) (.cons (.cell _) (.cons (.none _ _ _) (.cons (.none _ _ _) (.cons (.none _ _ _) (.cons (.cell _) (.cons (.cell _) (.nil _ _)))))))))) rfl) ?_
  refine l_op (s_build (ds := [_, .row 10 0 [], .row 1 0 [], .row 9 0 [], .row 4 0 [], .row 2 0 [], .row 1 0 [], _, _]) [(0, _)] rfl ⟨rfl, (kn rfl), trivial⟩ rfl pl_62 zr_62 (fun w D => .cons (.cell _) (.cons (.none _ _ _) (.cons (.none _ _ _) (.cons (.none _ _ _) (.cons (.none _ _ _) (.cons (.none _ _ _) (.cons (.none _ _ _) (.cons (.cell _) (.cons (.cell _) (.nil _ _)))))))))) rfl) ?_
  refine l_op (s_buildSlice (ds := [_, _, _, _, _, _, _, _, _, _, _, _, _, _, _, _, _, _]) [(0, _), (1, _)] rfl ⟨rfl, (kn rfl), ⟨rfl, (kn rfl), trivial⟩⟩ rfl sl_23 sz_62 zr_62 (fun w D => .cons (.cell _) (.cons (.cell _) (.cons (.cell _) (.cons (.cell _) (.cons (.cell _) (.cons (.cell _) (.cons (.cell _) (.cons (.cell _) (.cons (.cell _) (.cons (.cell _) (.cons (.cell _) (.cons (.cell _) (.cons (.cell _) (.cons (.cell _) (.cons (.cell _) (.cons (.cell _) (.cons (.cell _) (.cons (.cell _) (.nil _ _))))))))))))))))))) rfl rfl rfl rfl rfl) ?_
  refine l_op (s_build (ds := [_, _, .row 4 0 []]) [(0, _), (1, _)] rfl ⟨rfl, (kn rfl), ⟨rfl, (kn rfl), trivial⟩⟩ rfl pl_26 zr_26 (fun w D => .cons (.cell _) (.cons (.cell _) (.cons (.none _ _ _) (.nil _ _)))) rfl) ?_
  refine e_alloc 1 [.is (.string ⟨#[]⟩), .is (.slice none 0 0), .is (.slice none 0 0)] rfl rfl rfl rfl zr_26 (fun w D M V => ⟨rfl, fun j x v h1 h2 => cfit_is _ h1 h2 rfl⟩) rfl rfl rfl rfl ?_
  refine e_storew rfl rfl rfl (kn rfl) rfl (kn rfl) rfl rfl sz_26 ?_
  refine e_nil ?_
  try refine e_fl ?_
  refine e_plain (w_op rfl rfl rfl (s_loadn_box (ds := [_, _, _]) 3 rfl (kn rfl) rfl rfl agg_26 sz_26 rfl) (w_op rfl rfl rfl (s_call rfl (by kernel_rfl) (ho) ⟨(kn rfl), trivial⟩) (w_mv rfl rfl rfl rfl rfl (w_op rfl rfl rfl (s_extract rfl (kn rfl) rfl) (w_op rfl rfl rfl (s_extract rfl (kn rfl) rfl) (w_as rfl rfl rfl rfl rfl (w_as rfl rfl rfl rfl rfl .nil))))))) ?_
  try refine e_fl ?_
  refine e_plain (w_mv rfl rfl rfl rfl rfl (w_op rfl rfl rfl (s_nil_neq rfl (kn rfl) ifc_28) (w_mv rfl rfl rfl rfl rfl (Walk.gd _ rfl rfl rfl (fun h => s_move rfl (kn rfl)) (Walk.gd _ rfl rfl rfl (fun h => s_ptr_dat rfl (kn_opt rfl h) (by kernel_rfl)) (w_op rfl rfl rfl (s_or rfl (kn rfl) (fun hb => kn_opt rfl hb)) .nil)))))) ?_
  try refine e_fl ?_
  refine c_no ?_
  try refine e_fl ?_
  refine e_list ?_
  refine l_mv ?_
  refine l_op (s_call rfl (by kernel_rfl) (l1) ⟨(kn rfl), ⟨(kn rfl), ⟨(kn rfl), trivial⟩⟩⟩) ?_
  refine l_mv ?_
  refine l_ex ?_
  refine l_ex ?_
  refine e_alloc 4 [.is (.string ⟨#[]⟩), .is (.bool false), .is (.int .i64 0), .is (.int .i64 0), .is (.int .i64 0)] rfl rfl rfl rfl zr_47 (fun w D M V => ⟨rfl, fun j x v h1 h2 => cfit_is _ h1 h2 rfl⟩) rfl rfl rfl rfl ?_
  refine e_storew rfl rfl rfl (kn rfl) rfl (kn rfl) rfl rfl sz_47 ?_
  refine l_as ?_
  refine e_nil ?_
  try refine e_fl ?_
  refine e_list ?_
  refine l_mv ?_
  refine l_op (s_call rfl (by kernel_rfl) (l2) ⟨(kn rfl), ⟨(kn rfl), ⟨(kn rfl), trivial⟩⟩⟩) ?_
  refine l_mv ?_
  refine l_ex ?_
  refine l_ex ?_
  refine e_alloc 6 [.is (.string ⟨#[]⟩), .is (.bool false), .is (.int .i64 0), .is (.int .i64 0), .is (.int .i64 0)] rfl rfl rfl rfl zr_47 (fun w D M V => ⟨rfl, fun j x v h1 h2 => cfit_is _ h1 h2 rfl⟩) rfl rfl rfl rfl ?_
  refine e_storew rfl rfl rfl (kn rfl) rfl (kn rfl) rfl rfl sz_47 ?_
  refine l_as ?_
  refine e_nil ?_
  try refine e_fl ?_
  refine e_plain (w_mv rfl rfl rfl rfl rfl (w_mv rfl rfl rfl rfl rfl (Walk.gd _ rfl rfl rfl (fun h => s_move rfl (kn rfl)) (w_op rfl rfl rfl (s_and rfl (kn rfl) (fun hb => kn_opt rfl hb)) (w_mv rfl rfl rfl rfl rfl (Walk.gd _ rfl rfl rfl (fun h => s_faddr_box rfl (kn rfl) off_47_0) (Walk.gd _ rfl rfl rfl (fun h => s_load1_box rfl (kn_opt rfl h) rfl rfl one_9) (Walk.gd _ rfl rfl rfl (fun h => s_bin rfl (kn_opt rfl h) (kn rfl) (v_seql (b := [112, 46, 77, 46, 78]))) (w_op rfl rfl rfl (s_and rfl (kn rfl) (fun hb => kn_opt rfl hb)) (w_mv rfl rfl rfl rfl rfl (Walk.gd _ rfl rfl rfl (fun h => s_faddr_box rfl (kn rfl) off_47_2) (Walk.gd _ rfl rfl rfl (fun h => s_load1_box rfl (kn_opt rfl h) rfl rfl one_3) (Walk.gd _ rfl rfl rfl (fun h => s_bin rfl (kn_opt rfl h) (kn rfl) v_eql) (w_op rfl rfl rfl (s_and rfl (kn rfl) (fun hb => kn_opt rfl hb)) (w_mv rfl rfl rfl rfl rfl (Walk.gd _ rfl rfl rfl (fun h => s_faddr_box rfl (kn rfl) off_47_0) (Walk.gd _ rfl rfl rfl (fun h => s_load1_box rfl (kn_opt rfl h) rfl rfl one_9) (Walk.gd _ rfl rfl rfl (fun h => s_bin rfl (kn_opt rfl h) (kn rfl) (v_seql (b := [112, 46, 78]))) (w_op rfl rfl rfl (s_and rfl (kn rfl) (fun hb => kn_opt rfl hb)) (w_mv rfl rfl rfl rfl rfl (Walk.gd _ rfl rfl rfl (fun h => s_faddr_box rfl (kn rfl) off_47_2) (Walk.gd _ rfl rfl rfl (fun h => s_load1_box rfl (kn_opt rfl h) rfl rfl one_3) (Walk.gd _ rfl rfl rfl (fun h => s_bin rfl (kn_opt rfl h) (kn rfl) v_eql) (w_op rfl rfl rfl (s_and rfl (kn rfl) (fun hb => kn_opt rfl hb)) (w_as rfl rfl rfl rfl rfl .nil))))))))))))))))))))))))) ?_
  try refine e_fl ?_
  exact e_return rfl rfl (.tmp (kn rfl) (.nil)) (Imp.of_eq (by rfl)) rfl
end Go.Proofs.YtekeanikgcpijaaGreatDoor
namespace Go.Proofs.YtekeanikgcpijaaGreatDoor
open Go.RowKit
abbrev errK (k : Nat) : Nat := if k = 1 then 10 else 2
theorem errT_eq (A : Nat → Addr) (k : Nat) : errT (DupE A) (LongE A) k = (tE, .pointer (some (A (errK k)))) := by
  unfold errT
  split <;> rfl
theorem errK_eq (k : Nat) : (if k = 1 then (11 : Int) else 3) = (errK k : Int) + 1 := by
  unfold errK
  split <;> rfl
theorem ptrT : Tryz.prog.underlying 31 = some (.pointer (Tryz.prog.pointee 31)) := by kernel_rfl
end Go.Proofs.YtekeanikgcpijaaGreatDoor
namespace Go.Proofs.YtekeanikgcpijaaGreatDoor
open Go.RowKit
theorem glB_ok5 {A : Nat → Addr} {m : Int} {w : World} (hL : Lx w A m) (hD : w.cell? ⟨9, 0, none⟩ = some (errV A 7)) (hU : w.cell? ⟨1, 0, none⟩ = some (errV A 10)) : GlOK (glB A m) w := fun g cs hg => by
  have key : ∀ {g : Nat} {v : Value}, w.cell? ⟨g, 0, none⟩ = some v → g < w.heap.size ∧ ∀ (j : Nat) u, [v][j]? = some u → w.cell? ⟨g, j, none⟩ = some u := fun {g v} h => ⟨World.block_lt_of_cell? w ⟨g, 0, none⟩ h, fun j u hu => by
    cases j with
    | zero => cases hu; exact h
    | succ j => cases hu⟩
  simp only [glB, glA, List.mem_cons, List.not_mem_nil, or_false, Prod.mk.injEq] at hg
  rcases hg with ⟨rfl, rfl⟩ | ⟨rfl, rfl⟩ | ⟨rfl, rfl⟩ | ⟨rfl, rfl⟩ | ⟨rfl, rfl⟩ | ⟨rfl, rfl⟩
  · exact key hU
  · exact key hL.range
  · exact key hL.long
  · exact key hD
  · exact key hL.form
  · exact key hL.max
theorem full_nopt {L : List Ty} {N : Nat} (h : ∀ t ∈ L, FullOk N t.full) : NoPt L := fun t ht r e => by
  obtain ⟨a, n, ha, hn, he⟩ := h t ht
  have := full_head ha hn
  rw [← he, e] at this
  exact this rfl
set_option maxRecDepth 100000 in
theorem eqTy (x y : Ty) : BinV Tryz.prog .eql 48 (.agg x.vals.toArray) (.agg y.vals.toArray) (.bool (cdec (x.vals = y.vals))) :=
  v_steq3 (by kernel_rfl) (by kernel_rfl) (by kernel_rfl) (flat_of3 (ks := [1, 2, 0, 0, 0]) (by kernel_rfl) (.str _ _ (.bool _ _ (.int _ _ _ (.int _ _ _ (.int _ _ _ .nil))))))
set_option maxRecDepth 100000 in
theorem looks_bad {gls : List (Nat × List Value)} {A : Nat → Addr} (hsub : ∀ x, x ∈ gS (DupE A) (LongE A) → x ∈ gls) (s scope name : List UInt8) (f : Fil) (li co n : Nat) (hof : EF Tryz.prog gls 6 [sP s] (.tup [FQ f, fltR A li co n])) :
    EF Tryz.prog gls 4 [sP s, sP scope, sP name] (.part (bP true)) := by
  refine ef_enter 117 Tryz.func4 rfl rfl rfl fun w D => ?_
  try refine e_fl ?_
  refine e_plain (w_as rfl rfl rfl rfl rfl .nil) ?_
  try refine e_fl ?_
  refine e_plain (w_op rfl rfl rfl (s_call rfl (by kernel_rfl) (salive_ef (DupE A) (LongE A) hsub) trivial) (w_op rfl rfl rfl (s_not rfl (kn rfl)) .nil)) ?_
  try refine e_fl ?_
  refine c_no ?_
  try refine e_fl ?_
  refine e_plain (w_mv rfl rfl rfl rfl rfl (w_op rfl rfl rfl (s_slen rfl (kn rfl) str_9) (w_op rfl rfl rfl (s_bin rfl (kn rfl) (kn rfl) v_gtr) (w_mv rfl rfl rfl rfl rfl (Walk.gd _ rfl rfl rfl (fun h => s_move rfl (kn rfl)) (Walk.gd _ rfl rfl rfl (fun h => s_slen rfl (kn_opt rfl h) str_9) (Walk.gd _ rfl rfl rfl (fun h => s_bin rfl (kn_opt rfl h) (kn rfl) v_gtr) (w_op rfl rfl rfl (s_or rfl (kn rfl) (fun hb => kn_opt rfl hb)) (w_mv rfl rfl rfl rfl rfl (Walk.gd _ rfl rfl rfl (fun h => s_move rfl (kn rfl)) (Walk.gd _ rfl rfl rfl (fun h => s_slen rfl (kn_opt rfl h) str_9) (Walk.gd _ rfl rfl rfl (fun h => s_bin rfl (kn_opt rfl h) (kn rfl) v_gtr) (w_op rfl rfl rfl (s_or rfl (kn rfl) (fun hb => kn_opt rfl hb)) .nil))))))))))))) ?_
  try refine e_fl ?_
  refine e_cond rfl (fun h => ?_) (fun hlen => ?_)
  · try refine e_fl ?_
    refine e_plain (w_as rfl rfl rfl rfl rfl .nil) ?_
    try refine e_fl ?_
    exact e_return rfl rfl (.tmp (kn rfl) (.nil)) (Imp.refl _) rfl
  try refine e_fl ?_
  refine e_list ?_
  refine l_mv ?_
  refine l_op (s_call rfl (by kernel_rfl) (hof) ⟨(kn rfl), trivial⟩) ?_
  refine l_mv ?_
  refine l_ex ?_
  refine l_ex ?_
  refine e_alloc 7 [.is (.string ⟨#[]⟩), .is (.slice none 0 0), .is (.slice none 0 0)] rfl rfl rfl rfl zr_26 (fun w D M V => ⟨rfl, fun j x v h1 h2 => cfit_is _ h1 h2 rfl⟩) rfl rfl rfl rfl ?_
  refine e_storew rfl rfl rfl (kn rfl) rfl (kn rfl) rfl rfl sz_26 ?_
  refine l_as ?_
  refine e_nil ?_
  try refine e_fl ?_
  refine e_plain (w_mv rfl rfl rfl rfl rfl (w_op rfl rfl rfl (s_err_neq rfl (kn rfl) rfl ifc_28) .nil)) ?_
  try refine e_fl ?_
  refine c_yes ?_
  try refine e_fl ?_
  refine e_plain (w_as rfl rfl rfl rfl rfl .nil) ?_
  try refine e_fl ?_
  exact e_return rfl rfl (.tmp (kn rfl) (.nil)) (Imp.refl _) rfl
set_option maxRecDepth 100000 in
theorem looks_err {gls : List (Nat × List Value)} {A : Nat → Addr} (hsub : ∀ x, x ∈ gS (DupE A) (LongE A) → x ∈ gls) (s scope name : List UInt8) (f : Fil) (hf : FOk 40 f) (hc : (tyFile f).length ≤ 100000) (k : Nat) (li co : Int) (htb : table f = .error (k, li, co)) (hof : EF Tryz.prog gls 6 [sP s] (.tup [FQ f, nilP])) :
    EF Tryz.prog gls 4 [sP s, sP scope, sP name] (.part (bP true)) := by
  have hso := sof_more (DupE A) (LongE A) hsub f hf
  have hro := rof_ef gls 40 (by decide) f hf (by omega)
  have hOf : EF Tryz.prog gls 9 [FQ f] (.part (FQ f)) := EFx.more (of_ef f hf.fine) fun x hx => (by cases hx)
  rw [htb] at hso hro
  simp only [ofR, rofR, errT_eq, errK_eq] at hso hro
  have hz : decide ((errK k : Int) + 1 = 0) = false := by simp; omega
  refine ef_enter 117 Tryz.func4 rfl rfl rfl fun w D => ?_
  try refine e_fl ?_
  refine e_plain (w_as rfl rfl rfl rfl rfl .nil) ?_
  try refine e_fl ?_
  refine e_plain (w_op rfl rfl rfl (s_call rfl (by kernel_rfl) (salive_ef (DupE A) (LongE A) hsub) trivial) (w_op rfl rfl rfl (s_not rfl (kn rfl)) .nil)) ?_
  try refine e_fl ?_
  refine c_no ?_
  try refine e_fl ?_
  refine e_plain (w_mv rfl rfl rfl rfl rfl (w_op rfl rfl rfl (s_slen rfl (kn rfl) str_9) (w_op rfl rfl rfl (s_bin rfl (kn rfl) (kn rfl) v_gtr) (w_mv rfl rfl rfl rfl rfl (Walk.gd _ rfl rfl rfl (fun h => s_move rfl (kn rfl)) (Walk.gd _ rfl rfl rfl (fun h => s_slen rfl (kn_opt rfl h) str_9) (Walk.gd _ rfl rfl rfl (fun h => s_bin rfl (kn_opt rfl h) (kn rfl) v_gtr) (w_op rfl rfl rfl (s_or rfl (kn rfl) (fun hb => kn_opt rfl hb)) (w_mv rfl rfl rfl rfl rfl (Walk.gd _ rfl rfl rfl (fun h => s_move rfl (kn rfl)) (Walk.gd _ rfl rfl rfl (fun h => s_slen rfl (kn_opt rfl h) str_9) (Walk.gd _ rfl rfl rfl (fun h => s_bin rfl (kn_opt rfl h) (kn rfl) v_gtr) (w_op rfl rfl rfl (s_or rfl (kn rfl) (fun hb => kn_opt rfl hb)) .nil))))))))))))) ?_
  try refine e_fl ?_
  refine e_cond rfl (fun h => ?_) (fun hlen => ?_)
  · try refine e_fl ?_
    refine e_plain (w_as rfl rfl rfl rfl rfl .nil) ?_
    try refine e_fl ?_
    exact e_return rfl rfl (.tmp (kn rfl) (.nil)) (Imp.refl _) rfl
  try refine e_fl ?_
  refine e_list ?_
  refine l_mv ?_
  refine l_op (s_call rfl (by kernel_rfl) (hof) ⟨(kn rfl), trivial⟩) ?_
  refine l_mv ?_
  refine l_ex ?_
  refine l_ex ?_
  refine e_alloc 7 [.is (.string ⟨#[]⟩), .is (.slice none 0 0), .is (.slice none 0 0)] rfl rfl rfl rfl zr_26 (fun w D M V => ⟨rfl, fun j x v h1 h2 => cfit_is _ h1 h2 rfl⟩) rfl rfl rfl rfl ?_
  refine e_storew rfl rfl rfl (kn rfl) rfl (kn rfl) rfl rfl sz_26 ?_
  refine l_as ?_
  refine e_nil ?_
  try refine e_fl ?_
  refine e_plain (w_mv rfl rfl rfl rfl rfl (w_op rfl rfl rfl (s_nil_neq rfl (kn rfl) ifc_28) .nil)) ?_
  try refine e_fl ?_
  refine c_no ?_
  try refine e_fl ?_
  refine e_plain (w_op rfl rfl rfl (s_loadn_box (ds := [_, _, _]) 3 rfl (kn rfl) rfl rfl agg_26 sz_26 rfl) (w_op rfl rfl rfl (s_call rfl (by kernel_rfl) (hso) ⟨(kn rfl), trivial⟩) (w_mv rfl rfl rfl rfl rfl (w_op rfl rfl rfl (s_extract rfl (kn rfl) rfl) (w_op rfl rfl rfl (s_extract rfl (kn rfl) rfl) (w_as rfl rfl rfl rfl rfl (w_as rfl rfl rfl rfl rfl .nil))))))) ?_
  try refine e_fl ?_
  refine e_plain (w_op rfl rfl rfl (s_loadn_box (ds := [_, _, _]) 3 rfl (kn rfl) rfl rfl agg_26 sz_26 rfl) (w_op rfl rfl rfl (s_call rfl (by kernel_rfl) (hOf) ⟨(kn rfl), trivial⟩) (w_op rfl rfl rfl (s_call rfl (by kernel_rfl) (hro) ⟨(kn rfl), trivial⟩) (w_mv rfl rfl rfl rfl rfl (w_op rfl rfl rfl (s_extract rfl (kn rfl) rfl) (w_op rfl rfl rfl (s_extract rfl (kn rfl) rfl) (w_op rfl rfl rfl (s_extract rfl (kn rfl) rfl) (w_op rfl rfl rfl (s_extract rfl (kn rfl) rfl) (w_as rfl rfl rfl rfl rfl (w_as rfl rfl rfl rfl rfl (w_as rfl rfl rfl rfl rfl (w_as rfl rfl rfl rfl rfl .nil)))))))))))) ?_
  try refine e_fl ?_
  refine e_plain (w_mv rfl rfl rfl rfl rfl (w_op rfl rfl rfl (s_err_neq rfl (kn rfl) rfl ifc_28) (w_mv rfl rfl rfl rfl rfl (Walk.gd _ rfl rfl rfl (fun h => s_move rfl (kn rfl)) (Walk.gd _ rfl rfl rfl (fun h => s_bin rfl (kn_opt rfl h) (kn rfl) v_neq) (w_op rfl rfl rfl (s_or rfl (kn rfl) (fun hb => kn_opt rfl hb)) (w_mv rfl rfl rfl rfl rfl (Walk.gd _ rfl rfl rfl (fun h => s_move rfl (kn rfl)) (Walk.gd _ rfl rfl rfl (fun h => s_ptr_nil rfl (kn_opt rfl h) ptrT) (w_op rfl rfl rfl (s_or rfl (kn rfl) (fun hb => kn_opt rfl hb)) .nil)))))))))) ?_
  try refine e_fl ?_
  refine c_yes ?_
  try refine e_fl ?_
  refine e_plain (w_mv rfl rfl rfl rfl rfl (w_op rfl rfl rfl (s_err_neq rfl (kn rfl) rfl ifc_28) (w_mv rfl rfl rfl rfl rfl (Walk.gd _ rfl rfl rfl (fun h => s_move rfl (kn rfl)) (Walk.gd _ rfl rfl rfl (fun h => s_bin rfl (kn_opt rfl h) (kn rfl) v_neq) (w_op rfl rfl rfl (s_and rfl (kn rfl) (fun hb => kn_opt rfl hb)) (w_as rfl rfl rfl rfl rfl .nil))))))) ?_
  try refine e_fl ?_
  exact e_return rfl rfl (.tmp (kn rfl) (.nil)) (Imp.of_eq (by simp [hz]; rfl)) rfl
set_option maxRecDepth 100000 in
set_option maxHeartbeats 2000000 in
theorem looks_ok {gls : List (Nat × List Value)} {A : Nat → Addr} (hsub : ∀ x, x ∈ gS (DupE A) (LongE A) → x ∈ gls) (s scope name : List UInt8) (f : Fil) (hf : FOk 40 f) (hc : (tyFile f).length ≤ 100000) (L : List Ty) (htb : table f = .ok L) (hof : EF Tryz.prog gls 6 [sP s] (.tup [FQ f, nilP])) :
    EF Tryz.prog gls 4 [sP s, sP scope, sP name] (.part (bP true)) := by
  have hso := sof_more (DupE A) (LongE A) hsub f hf
  have hro := rof_ef gls 40 (by decide) f hf (by omega)
  have hOf : EF Tryz.prog gls 9 [FQ f] (.part (FQ f)) := EFx.more (of_ef f hf.fine) fun x hx => (by cases hx)
  have hL : TbOk L := addAllT_ok (L := []) ⟨List.nodup_nil, by simp⟩ htb
  have hp := full_nopt (table_full hf htb)
  have h40 := hL.2
  rw [htb] at hso hro
  have hct : cdec True = true := cdec_true.2 trivial
  refine ef_enter 117 Tryz.func4 rfl rfl rfl fun w D => ?_
  try refine e_fl ?_
  refine e_plain (w_as rfl rfl rfl rfl rfl .nil) ?_
  try refine e_fl ?_
  refine e_plain (w_op rfl rfl rfl (s_call rfl (by kernel_rfl) (salive_ef (DupE A) (LongE A) hsub) trivial) (w_op rfl rfl rfl (s_not rfl (kn rfl)) .nil)) ?_
  try refine e_fl ?_
  refine c_no ?_
  try refine e_fl ?_
  refine e_plain (w_mv rfl rfl rfl rfl rfl (w_op rfl rfl rfl (s_slen rfl (kn rfl) str_9) (w_op rfl rfl rfl (s_bin rfl (kn rfl) (kn rfl) v_gtr) (w_mv rfl rfl rfl rfl rfl (Walk.gd _ rfl rfl rfl (fun h => s_move rfl (kn rfl)) (Walk.gd _ rfl rfl rfl (fun h => s_slen rfl (kn_opt rfl h) str_9) (Walk.gd _ rfl rfl rfl (fun h => s_bin rfl (kn_opt rfl h) (kn rfl) v_gtr) (w_op rfl rfl rfl (s_or rfl (kn rfl) (fun hb => kn_opt rfl hb)) (w_mv rfl rfl rfl rfl rfl (Walk.gd _ rfl rfl rfl (fun h => s_move rfl (kn rfl)) (Walk.gd _ rfl rfl rfl (fun h => s_slen rfl (kn_opt rfl h) str_9) (Walk.gd _ rfl rfl rfl (fun h => s_bin rfl (kn_opt rfl h) (kn rfl) v_gtr) (w_op rfl rfl rfl (s_or rfl (kn rfl) (fun hb => kn_opt rfl hb)) .nil))))))))))))) ?_
  try refine e_fl ?_
  refine e_cond rfl (fun h => ?_) (fun hlen => ?_)
  · try refine e_fl ?_
    refine e_plain (w_as rfl rfl rfl rfl rfl .nil) ?_
    try refine e_fl ?_
    exact e_return rfl rfl (.tmp (kn rfl) (.nil)) (Imp.refl _) rfl
  try refine e_fl ?_
  refine e_list ?_
  refine l_mv ?_
  refine l_op (s_call rfl (by kernel_rfl) (hof) ⟨(kn rfl), trivial⟩) ?_
  refine l_mv ?_
  refine l_ex ?_
  refine l_ex ?_
  refine e_alloc 7 [.is (.string ⟨#[]⟩), .is (.slice none 0 0), .is (.slice none 0 0)] rfl rfl rfl rfl zr_26 (fun w D M V => ⟨rfl, fun j x v h1 h2 => cfit_is _ h1 h2 rfl⟩) rfl rfl rfl rfl ?_
  refine e_storew rfl rfl rfl (kn rfl) rfl (kn rfl) rfl rfl sz_26 ?_
  refine l_as ?_
  refine e_nil ?_
  try refine e_fl ?_
  have hl2 : scope.length ≤ 300 ∧ name.length ≤ 300 := by simp at hlen; omega
  refine e_plain (w_mv rfl rfl rfl rfl rfl (w_op rfl rfl rfl (s_nil_neq rfl (kn rfl) ifc_28) .nil)) ?_
  try refine e_fl ?_
  refine c_no ?_
  try refine e_fl ?_
  refine e_plain (w_op rfl rfl rfl (s_loadn_box (ds := [_, _, _]) 3 rfl (kn rfl) rfl rfl agg_26 sz_26 rfl) (w_op rfl rfl rfl (s_call rfl (by kernel_rfl) (hso) ⟨(kn rfl), trivial⟩) (w_mv rfl rfl rfl rfl rfl (w_op rfl rfl rfl (s_extract rfl (kn rfl) rfl) (w_op rfl rfl rfl (s_extract rfl (kn rfl) rfl) (w_as rfl rfl rfl rfl rfl (w_as rfl rfl rfl rfl rfl .nil))))))) ?_
  try refine e_fl ?_
  refine e_plain (w_op rfl rfl rfl (s_loadn_box (ds := [_, _, _]) 3 rfl (kn rfl) rfl rfl agg_26 sz_26 rfl) (w_op rfl rfl rfl (s_call rfl (by kernel_rfl) (hOf) ⟨(kn rfl), trivial⟩) (w_op rfl rfl rfl (s_call rfl (by kernel_rfl) (hro) ⟨(kn rfl), trivial⟩) (w_mv rfl rfl rfl rfl rfl (w_op rfl rfl rfl (s_extract rfl (kn rfl) rfl) (w_op rfl rfl rfl (s_extract rfl (kn rfl) rfl) (w_op rfl rfl rfl (s_extract rfl (kn rfl) rfl) (w_op rfl rfl rfl (s_extract rfl (kn rfl) rfl) (w_as rfl rfl rfl rfl rfl (w_as rfl rfl rfl rfl rfl (w_as rfl rfl rfl rfl rfl (w_as rfl rfl rfl rfl rfl .nil)))))))))))) ?_
  try refine e_fl ?_
  refine e_plain (w_mv rfl rfl rfl rfl rfl (w_op rfl rfl rfl (s_nil_neq rfl (kn rfl) ifc_28) (w_mv rfl rfl rfl rfl rfl (Walk.gd _ rfl rfl rfl (fun h => s_move rfl (kn rfl)) (Walk.gd _ rfl rfl rfl (fun h => s_bin rfl (kn_opt rfl h) (kn rfl) v_neq) (w_op rfl rfl rfl (s_or rfl (kn rfl) (fun hb => kn_opt rfl hb)) (w_mv rfl rfl rfl rfl rfl (Walk.gd _ rfl rfl rfl (fun h => s_move rfl (kn rfl)) (Walk.gd _ rfl rfl rfl (fun h => s_ptr_dat rfl (kn_opt rfl h) ptrT) (w_op rfl rfl rfl (s_or rfl (kn rfl) (fun hb => kn_opt rfl hb)) .nil)))))))))) ?_
  try refine e_fl ?_
  refine c_no ?_
  try refine e_fl ?_
  refine e_list ?_
  refine l_mv ?_
  refine l_mv ?_
  refine l_mv ?_
  refine l_op (s_call rfl (by kernel_rfl) (look_ef _ L hL scope name (by omega) (by omega)) ⟨(kn rfl), ⟨(kn rfl), ⟨(kn rfl), trivial⟩⟩⟩) ?_
  refine l_mv ?_
  refine l_ex ?_
  refine l_ex ?_
  refine e_alloc 14 [.is (.string ⟨#[]⟩), .is (.bool false), .is (.int .i64 0), .is (.int .i64 0), .is (.int .i64 0)] rfl rfl rfl rfl zr_47 (fun w D M V => ⟨rfl, fun j x v h1 h2 => cfit_is _ h1 h2 rfl⟩) rfl rfl rfl rfl ?_
  refine e_storew rfl rfl rfl (kn rfl) rfl (kn rfl) rfl rfl sz_47 ?_
  refine l_as ?_
  refine e_nil ?_
  try refine e_fl ?_
  refine e_list ?_
  refine l_mv ?_
  refine l_mv ?_
  refine l_mv ?_
  refine l_op (s_call rfl (by kernel_rfl) (rlook_ef _ L (by omega) hp scope name (by omega) (by omega)) ⟨(kn rfl), ⟨(kn rfl), ⟨(kn rfl), trivial⟩⟩⟩) ?_
  refine l_mv ?_
  refine l_ex ?_
  refine l_ex ?_
  refine e_alloc 16 [.is (.string ⟨#[]⟩), .is (.bool false), .is (.int .i64 0), .is (.int .i64 0), .is (.int .i64 0)] rfl rfl rfl rfl zr_48 (fun w D M V => ⟨rfl, fun j x v h1 h2 => cfit_is _ h1 h2 rfl⟩) rfl rfl rfl rfl ?_
  refine e_storew rfl rfl rfl (kn rfl) rfl (kn rfl) rfl rfl sz_48 ?_
  refine l_as ?_
  refine e_nil ?_
  try refine e_fl ?_
  refine e_list ?_
  refine l_mv ?_
  refine l_mv ?_
  refine l_op (s_call rfl (by kernel_rfl) (find_ef _ L hL name) ⟨(kn rfl), ⟨(kn rfl), trivial⟩⟩) ?_
  refine l_mv ?_
  refine l_ex ?_
  refine l_ex ?_
  refine e_alloc 18 [.is (.string ⟨#[]⟩), .is (.bool false), .is (.int .i64 0), .is (.int .i64 0), .is (.int .i64 0)] rfl rfl rfl rfl zr_47 (fun w D M V => ⟨rfl, fun j x v h1 h2 => cfit_is _ h1 h2 rfl⟩) rfl rfl rfl rfl ?_
  refine e_storew rfl rfl rfl (kn rfl) rfl (kn rfl) rfl rfl sz_47 ?_
  refine l_as ?_
  refine e_nil ?_
  try refine e_fl ?_
  refine e_list ?_
  refine l_mv ?_
  refine l_mv ?_
  refine l_op (s_call rfl (by kernel_rfl) (rfind_ef _ L (by omega) name) ⟨(kn rfl), ⟨(kn rfl), trivial⟩⟩) ?_
  refine l_mv ?_
  refine l_ex ?_
  refine l_ex ?_
  refine e_alloc 20 [.is (.string ⟨#[]⟩), .is (.bool false), .is (.int .i64 0), .is (.int .i64 0), .is (.int .i64 0)] rfl rfl rfl rfl zr_48 (fun w D M V => ⟨rfl, fun j x v h1 h2 => cfit_is _ h1 h2 rfl⟩) rfl rfl rfl rfl ?_
  refine e_storew rfl rfl rfl (kn rfl) rfl (kn rfl) rfl rfl sz_48 ?_
  refine l_as ?_
  refine e_nil ?_
  try refine e_fl ?_
  refine e_plain (w_mv rfl rfl rfl rfl rfl (w_mv rfl rfl rfl rfl rfl (w_op rfl rfl rfl (s_bin rfl (kn rfl) (kn rfl) (v_beq bool_4)) (w_mv rfl rfl rfl rfl rfl (Walk.gd _ rfl rfl rfl (fun h => s_loadn_box (ds := [_, _, _, _, _]) 5 rfl (kn rfl) rfl rfl agg_47 sz_47 rfl) (Walk.gd _ rfl rfl rfl (fun h => s_loadn_box (ds := [_, _, _, _, _]) 5 rfl (kn rfl) rfl rfl agg_48 sz_48 rfl) (Walk.gd _ rfl rfl rfl (fun h => s_binm (cs := ((lookT L scope name).getD ty0).vals) (ds := ((lookT L scope name).getD ty0).vals) rfl (kn_opt rfl h) (kn_opt rfl h) (eqTy _ _)) (w_op rfl rfl rfl (s_and rfl (kn rfl) (fun hb => kn_opt rfl hb)) (w_mv rfl rfl rfl rfl rfl (Walk.gd _ rfl rfl rfl (fun h => s_move rfl (kn rfl)) (Walk.gd _ rfl rfl rfl (fun h => s_move rfl (kn rfl)) (Walk.gd _ rfl rfl rfl (fun h => s_bin rfl (kn_opt rfl h) (kn_opt rfl h) (v_beq bool_4)) (w_op rfl rfl rfl (s_and rfl (kn rfl) (fun hb => kn_opt rfl hb)) (w_mv rfl rfl rfl rfl rfl (Walk.gd _ rfl rfl rfl (fun h => s_loadn_box (ds := [_, _, _, _, _]) 5 rfl (kn rfl) rfl rfl agg_47 sz_47 rfl) (Walk.gd _ rfl rfl rfl (fun h => s_loadn_box (ds := [_, _, _, _, _]) 5 rfl (kn rfl) rfl rfl agg_48 sz_48 rfl) (Walk.gd _ rfl rfl rfl (fun h => s_binm (cs := ((ffind name L).getD ty0).vals) (ds := ((ffind name L).getD ty0).vals) rfl (kn_opt rfl h) (kn_opt rfl h) (eqTy _ _)) (w_op rfl rfl rfl (s_and rfl (kn rfl) (fun hb => kn_opt rfl hb)) (w_as rfl rfl rfl rfl rfl .nil))))))))))))))))))) ?_
  try refine e_fl ?_
  exact e_return rfl rfl (.tmp (kn rfl) (.nil)) (Imp.of_eq (by simp [hct]; rfl)) rfl
theorem looks_any (w : World) (A : Nat → Addr) (m : Int) (hL : Lx w A m) (hD : w.cell? ⟨9, 0, none⟩ = some (errV A 7)) (hU : w.cell? ⟨1, 0, none⟩ = some (errV A 10)) (s scope name : List UInt8) : Calls Tryz.prog 4 #[.string (str s), .string (str scope), .string (str name)] w fun e w' => e = .returned (.bool true) ∧ Below w.heap.size w w' := by
  have hsub := glB_sub A m
  have hG := glB_ok5 hL hD hU
  have hE : EF Tryz.prog (glB A m) 4 [sP s, sP scope, sP name] (.part (bP true)) := by
    rcases of_one (glB_of A m) s with ⟨f, hf, hc, hof⟩ | ⟨f, li, co, n, hof⟩
    · cases htb : table f with
      | ok L => exact looks_ok hsub s scope name f hf hc L htb hof
      | error e => exact looks_err hsub s scope name f hf hc e.1 e.2.1 e.2.2 htb hof
    · exact looks_bad hsub s scope name f li co n hof
  refine (hE w (fun _ => False) [.string (str s), .string (str scope), .string (str name)] (fun g h => h.elim) hG ⟨.cell _, .cell _, .cell _, trivial⟩).mono ?_
  rintro e w' ⟨v, y, rfl, rfl, hb, hv⟩
  have hv1 : Lies w' _ (.cell (.bool true)) v := hv (fun _ => 0) (fun _ => undef)
  exact ⟨by rw [hv1.cell_eq], hb⟩
end Go.Proofs.YtekeanikgcpijaaGreatDoor
