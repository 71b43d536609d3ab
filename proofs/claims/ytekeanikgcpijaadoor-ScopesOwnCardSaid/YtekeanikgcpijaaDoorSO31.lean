/- Part 31 of what the last text of this claim is proved by: walks over the program, and the math behind them. Conditions: as each theorem says. -/
import Derived.Test.YtekeanikgcpijaaDoorSO30
import Derived.Test.YtekeanikgcpijaaDoorProg
namespace Go.Proofs.YtekeanikgcpijaaDoor
open Go.RowKit
def zTab : List Value := (List.replicate 40 [Value.string ⟨#[]⟩, .bool false, .int .i64 0, .int .i64 0, .int .i64 0]).flatten ++ [.int .i64 0, .map none, .map none]
theorem zTab_zero : zeroT Tryd.prog 58 = some zTab := by kernel_rfl
theorem zTab_set : ((zTab.map IV.is).set 201 (.own 1001)).set 202 (.own 1002) = tCs (tds []) 0 := by kernel_rfl
theorem zTab_one : zTab.all (·.oneCell') = true := by kernel_rfl
theorem zTab_len : zTab.length = 203 := by kernel_rfl
theorem tCs_fr1 {ts : List Dat} (h : ts.length = 200) (n : Nat) (d : Dat) : (tCs ts n).set 201 (.part (.one d)) = bcs ts ++ [.is (.int .i64 (n : Int)), .part (.one d), .own 1002] := by
  unfold tCs
  rw [List.set_append, if_neg (by rw [List.length_map, h]; omega), List.length_map, h]
  rfl
theorem tCs_fr2 {ts : List Dat} (h : ts.length = 200) (n : Nat) (d e : Dat) : (bcs ts ++ [IV.is (.int .i64 (n : Int)), .part (.one d), .own 1002]).set 202 (.part (.one e)) = bcs (ts ++ [.cell (.int .i64 (n : Int)), d, e]) := by
  rw [List.set_append, if_neg (by rw [List.length_map, h]; omega), List.length_map, h]
  unfold bcs
  rw [List.map_append]
  rfl
theorem fr2_get {ts : List Dat} (h : ts.length = 200) (n : Nat) (d : Dat) : (bcs ts ++ [IV.is (.int .i64 (n : Int)), .part (.one d), .own 1002])[202]? = some (.own 1002) := by
  rw [List.getElem?_append_right (by simp [h]), List.length_map, h]
  rfl
theorem manyOf_bcs : ∀ ds : List Dat, manyOf (bcs ds) = some ds
  | [] => rfl
  | d :: ds => by
    show (match manyOf (bcs ds) with | some es => some (d :: es) | none => none) = _
    rw [manyOf_bcs ds]
def ofR (ED EL : Er) (r : Except (Nat × Int × Int) (List Ty)) : IV := match r with | .ok L => .tup [tabP L, nilP] | .error (k, l, c) => .tup [.one (.cell (.pointer none)), .one (sfD l c (errT ED EL k))]
structure FOk (N : Nat) (f : Fil) : Prop where
  fine : f.fine
  pk : f.package.length ≤ 100000000000
  pk1 : f.package.head? ≠ some 46
  en : ∀ x ∈ f.enums, NmOk N x.name
  ms : ∀ k ∈ f.msgs, MOk N 8 k
set_option maxRecDepth 100000 in
set_option maxHeartbeats 4000000 in
theorem sof_ef (ED EL : Er) (N : Nat) (hN : N ≤ 1000000) (f : Fil) (hf : FOk N f) : EF Tryd.prog (gS ED EL) 7 [FQ f] (ofR ED EL (table f)) := by
  have tb0 : TbOk [] := ⟨List.nodup_nil, by simp⟩
  have hpk := hf.pk
  have hal : (aheadOf f.package).length + (8 + 1) * (N + 2) ≤ 1000000000000 := by
    unfold aheadOf
    split
    · simp; omega
    · simp; omega
  refine ef_enter 28 Tryd.func7 rfl rfl rfl fun w D => ?_
  try refine e_fl ?_
  refine e_list ?_
  refine e_box 1 rfl rfl rfl rfl (kn rfl) rfl rfl rfl rfl ?_
  refine l_as ?_
  refine l_as ?_
  refine e_nil ?_
  try refine e_fl ?_
  refine e_list ?_
  refine e_mmap 1001 1000000 1 rfl rfl rfl rfl rfl rfl ?_ rfl
  refine e_mmap 1002 1000001 1 rfl rfl rfl rfl rfl rfl ?_ rfl
  refine e_build_two 1000 rfl rfl rfl rfl pl_58 zTab_zero rfl rfl (by rw [zTab_len]; omega) (by rw [zTab_len]; omega) (kn rfl) (kn rfl) rfl rfl rfl rfl rfl rfl rfl rfl zTab_one rfl rfl rfl ?_
  rw [zTab_set]
  refine l_as ?_
  refine e_nil ?_
  try refine e_fl ?_
  refine e_plain (w_as rfl rfl rfl rfl rfl .nil) ?_
  try refine e_fl ?_
  refine e_plain (w_op rfl rfl rfl (s_faddr_box rfl (kn rfl) off_28_0) (w_op rfl rfl rfl (s_load1_box rfl (kn rfl) rfl rfl one_9) (w_op rfl rfl rfl (s_bin rfl (kn rfl) (kn rfl) (v_sneq (b := []))) .nil))) ?_
  try refine e_fl ?_
  by_cases hp : f.package = []
  · refine e_cond rfl (fun h => by rw [hp] at h; exact absurd h (by decide)) (fun _ => ?_)
    have ha : aheadOf f.package = [] := if_pos hp
    rw [ha] at hal
    have htab : table f = addAllT [] (tyAll [] f.enums f.msgs) := by unfold table tyFile; rw [ha]
    try refine e_fl ?_
    refine e_list ?_
    refine l_mv ?_
    refine l_mv ?_
    refine l_op (s_faddr_box rfl (kn rfl) off_28_2) ?_
    refine l_op (s_load1_box rfl (kn rfl) rfl rfl one_26) ?_
    refine l_op (s_faddr_box rfl (kn rfl) off_28_1) ?_
    refine l_op (s_load1_box rfl (kn rfl) rfl rfl one_25) ?_
    refine e_calli rfl rfl rfl rfl (by kernel_rfl) (addAll_g ED EL N hN 8 ([]) f.enums f.msgs [] tb0 hf.fine.2.1 hf.fine.1 hf.en (fun k hk => ⟨hf.ms k hk, hf.fine.2.2.2 k hk⟩) hal) ⟨rfl, trivial⟩ ⟨rfl, rfl, trivial⟩ ⟨(kn rfl), ⟨(kn rfl), ⟨(kn rfl), ⟨(kn rfl), trivial⟩⟩⟩⟩ (TbY.tidy) ?_
    rintro _ _ _ (⟨M, hr, rfl, rfl, rfl⟩ | ⟨k, li, co, M, hr, rfl, rfl, rfl⟩)
    · have hr' : table f = .ok M := htab.trans hr
      have hM := addAllT_ok tb0 hr
      have htl := tds_len hM.2
      rw [hr']
      refine l_as ?_
      refine e_nil ?_
      try refine e_fl ?_
      refine e_plain (w_mv rfl rfl rfl rfl rfl (w_op rfl rfl rfl (s_nil_neq rfl (kn rfl) ifc_30) .nil)) ?_
      try refine e_fl ?_
      refine c_no ?_
      try refine e_fl ?_
      refine e_plain (w_mv rfl rfl rfl rfl rfl (w_as rfl rfl rfl rfl rfl (w_as rfl rfl rfl rfl rfl .nil))) ?_
      try refine e_fl ?_
      refine e_freeze_mcell 1000 201 1001 rfl (tCs_get htl _ 1) rfl rfl (tCs_fr1 htl _ _) ?_ rfl
      refine e_freeze_mcell 1000 202 1002 rfl (fr2_get htl _ _) rfl rfl (tCs_fr2 htl _ _ _) ?_ rfl
      refine e_data 2 1000 rfl rfl (manyOf_bcs _) ?_
      exact e_return rfl rfl (.tmp (kn rfl) (.tmp (kn rfl) (.nil))) (Imp.refl _) rfl
    · have hr' : table f = .error (k, li, co) := htab.trans hr
      rw [hr']
      refine l_as ?_
      refine e_nil ?_
      try refine e_fl ?_
      refine e_plain (w_mv rfl rfl rfl rfl rfl (w_op rfl rfl rfl (s_err_neq rfl (kn rfl) rfl ifc_30) .nil)) ?_
      try refine e_fl ?_
      refine c_yes ?_
      try refine e_fl ?_
      refine e_plain (w_mv rfl rfl rfl rfl rfl (w_as rfl rfl rfl rfl rfl (w_as rfl rfl rfl rfl rfl .nil))) ?_
      try refine e_fl ?_
      exact e_return rfl rfl (.tmp (kn rfl) (.tmp (kn rfl) (.nil))) (Imp.refl _) rfl
  · refine e_cond rfl (fun _ => ?_) (fun h => absurd h (by simpa using hp))
    have ha : aheadOf f.package = f.package ++ [46] := if_neg hp
    rw [ha] at hal
    have htab : table f = addAllT [] (tyAll (f.package ++ [46]) f.enums f.msgs) := by unfold table tyFile; rw [ha]
    try refine e_fl ?_
    refine e_plain (w_op rfl rfl rfl (s_faddr_box rfl (kn rfl) off_28_0) (w_op rfl rfl rfl (s_load1_box rfl (kn rfl) rfl rfl one_9) (w_op rfl rfl rfl (s_bin rfl (kn rfl) (kn rfl) (v_sadd (by first | omega | (simp only [List.length_append, List.length_cons, List.length_nil]; omega)))) (w_as rfl rfl rfl rfl rfl .nil)))) ?_
    try refine e_fl ?_
    try refine e_fl ?_
    refine e_list ?_
    refine l_mv ?_
    refine l_mv ?_
    refine l_op (s_faddr_box rfl (kn rfl) off_28_2) ?_
    refine l_op (s_load1_box rfl (kn rfl) rfl rfl one_26) ?_
    refine l_op (s_faddr_box rfl (kn rfl) off_28_1) ?_
    refine l_op (s_load1_box rfl (kn rfl) rfl rfl one_25) ?_
    refine e_calli rfl rfl rfl rfl (by kernel_rfl) (addAll_g ED EL N hN 8 (f.package ++ [46]) f.enums f.msgs [] tb0 hf.fine.2.1 hf.fine.1 hf.en (fun k hk => ⟨hf.ms k hk, hf.fine.2.2.2 k hk⟩) hal) ⟨rfl, trivial⟩ ⟨rfl, rfl, trivial⟩ ⟨(kn rfl), ⟨(kn rfl), ⟨(kn rfl), ⟨(kn rfl), trivial⟩⟩⟩⟩ (TbY.tidy) ?_
    rintro _ _ _ (⟨M, hr, rfl, rfl, rfl⟩ | ⟨k, li, co, M, hr, rfl, rfl, rfl⟩)
    · have hr' : table f = .ok M := htab.trans hr
      have hM := addAllT_ok tb0 hr
      have htl := tds_len hM.2
      rw [hr']
      refine l_as ?_
      refine e_nil ?_
      try refine e_fl ?_
      refine e_plain (w_mv rfl rfl rfl rfl rfl (w_op rfl rfl rfl (s_nil_neq rfl (kn rfl) ifc_30) .nil)) ?_
      try refine e_fl ?_
      refine c_no ?_
      try refine e_fl ?_
      refine e_plain (w_mv rfl rfl rfl rfl rfl (w_as rfl rfl rfl rfl rfl (w_as rfl rfl rfl rfl rfl .nil))) ?_
      try refine e_fl ?_
      refine e_freeze_mcell 1000 201 1001 rfl (tCs_get htl _ 1) rfl rfl (tCs_fr1 htl _ _) ?_ rfl
      refine e_freeze_mcell 1000 202 1002 rfl (fr2_get htl _ _) rfl rfl (tCs_fr2 htl _ _ _) ?_ rfl
      refine e_data 2 1000 rfl rfl (manyOf_bcs _) ?_
      exact e_return rfl rfl (.tmp (kn rfl) (.tmp (kn rfl) (.nil))) (Imp.refl _) rfl
    · have hr' : table f = .error (k, li, co) := htab.trans hr
      rw [hr']
      refine l_as ?_
      refine e_nil ?_
      try refine e_fl ?_
      refine e_plain (w_mv rfl rfl rfl rfl rfl (w_op rfl rfl rfl (s_err_neq rfl (kn rfl) rfl ifc_30) .nil)) ?_
      try refine e_fl ?_
      refine c_yes ?_
      try refine e_fl ?_
      refine e_plain (w_mv rfl rfl rfl rfl rfl (w_as rfl rfl rfl rfl rfl (w_as rfl rfl rfl rfl rfl .nil))) ?_
      try refine e_fl ?_
      exact e_return rfl rfl (.tmp (kn rfl) (.tmp (kn rfl) (.nil))) (Imp.refl _) rfl
end Go.Proofs.YtekeanikgcpijaaDoor
namespace Go.Proofs.YtekeanikgcpijaaDoor
open Go.RowKit
theorem tyMs_append (a : List UInt8) : ∀ l k : List Msg, tyMs a (l ++ k) = tyMs a l ++ tyMs a k
  | [], k => rfl
  | x :: l, k => by
    rw [List.cons_append, tyMs, tyMs, tyMs_append a l k, List.append_assoc]
theorem tyMs_one (a : List UInt8) (x : Msg) : tyMs a [x] = tyM a x := by
  rw [tyMs, tyMs, List.append_nil]
mutual
theorem tyM_len (a b : List UInt8) : ∀ x : Msg, (tyM a x).length = (tyM b x).length
  | .mk n f o m e r s l c => by
    simp only [tyM, List.length_cons, List.length_append, List.length_map]
    rw [tyMs_len (a ++ n ++ [46]) (b ++ n ++ [46]) m]
theorem tyMs_len (a b : List UInt8) : ∀ m : List Msg, (tyMs a m).length = (tyMs b m).length
  | [] => rfl
  | x :: m => by
    simp only [tyMs, List.length_append]
    rw [tyM_len a b x, tyMs_len a b m]
end
theorem ahead_name {s n : List UInt8} (h : n ≠ []) : aheadOf (aheadOf s ++ n) = aheadOf s ++ n ++ [46] := if_neg fun e => h (List.append_eq_nil_iff.1 e).2
theorem ahead_len (s : List UInt8) : (aheadOf s).length ≤ s.length + 1 := by
  unfold aheadOf
  split
  · simp
  · simp
end Go.Proofs.YtekeanikgcpijaaDoor
namespace Go.Proofs.YtekeanikgcpijaaDoor
open Go Go.RowKit
theorem lfirst_name {l : List UInt8} (h0 : 0 < l.length) (h1 : (lfirst l).2.2 = 0) (hk : (lfirst l).1.k = 1) : NmOk 40 (lfirst l).1.t := by
  unfold lfirst at h1 hk ⊢
  split at h1
  · rename_i h
    rw [if_pos h] at hk
    cases hk
  · rename_i hn1
    rw [if_neg hn1] at hk ⊢
    split at h1
    · rename_i h
      rw [if_pos h] at hk
      cases hk
    · rename_i hn2
      rw [if_neg hn2] at hk ⊢
      dsimp only at hk ⊢
      have hk1 : (lcut l).1 = 1 := by
        unfold ltoken at hk
        split at hk
        · cases hk
        split at hk
        · assumption
        split at hk
        · split at hk <;> cases hk
        split at hk
        · split at hk <;> cases hk
        · exact hk
      rw [hk1] at hn2 ⊢
      have ht : ltoken 1 (l.take (lcut l).2.1) = if 40 < (l.take (lcut l).2.1).length then (⟨0, [], 0⟩, 3) else (⟨1, l.take (lcut l).2.1, 0⟩, 0) := rfl
      rw [ht] at hn2 ⊢
      split at hn2
      · exact (hn2 (by decide)).elim
      · rename_i h40
        rw [if_neg h40]
        have hcut : lxLet (l.headD 0) = true ∧ (lcut l).2.1 = lspan lxIn l := by
          unfold lcut at hk1 ⊢
          split at hk1
          · cases hk1
          rename_i a1
          rw [if_neg a1]
          split at hk1
          · cases hk1
          rename_i a2
          rw [if_neg a2]
          split at hk1
          · cases hk1
          rename_i a3
          rw [if_neg a3]
          split at hk1
          · rename_i a4
            rw [if_pos a4]
            exact ⟨a4, rfl⟩
          split at hk1
          · cases hk1
          split at hk1
          · cases hk1
          split at hk1 <;> cases hk1
        obtain ⟨hl, hs⟩ := hcut
        rw [hs] at h40 ⊢
        show NmOk 40 (l.take (lspan lxIn l))
        have hpos := lspan_first (p := lxIn) h0 (by unfold lxIn; rw [hl]; rfl)
        refine ⟨fun e => ?_, by omega, fun h46 => ?_⟩
        · have := congrArg List.length e
          rw [List.length_take] at this
          simp only [List.length_nil] at this
          omega
        · obtain ⟨j, hj⟩ := List.getElem?_of_mem h46
          rw [List.getElem?_take] at hj
          split at hj
          · rename_i hjl
            have := lspan_all hjl hj
            revert this
            decide
          · cases hj
theorem Lex.names {l : List UInt8} {i : Nat} {ts : List (Tok × Nat)} {e ea : Nat} (h : Lex l i ts e ea) : i ≤ l.length → ∀ x ∈ ts, x.1.k = 1 → NmOk 40 x.1.t := by
  induction h with
  | done h => intro hi x hx; cases hx
  | bad h1 h2 => intro hi x hx; cases hx
  | @gap i ts e ea h1 h2 h3 h ih =>
    intro hi
    have h0 : 0 < (l.drop i).length := by rw [List.length_drop]; omega
    have hs := lfirst_size h0 h2
    rw [List.length_drop] at hs
    exact ih (by omega)
  | @tok i ts e ea h1 h2 h3 h ih =>
    intro hi
    have h0 : 0 < (l.drop i).length := by rw [List.length_drop]; omega
    have hs := lfirst_size h0 h2
    rw [List.length_drop] at hs
    intro x hx hk
    rcases List.mem_cons.1 hx with rfl | hx
    · exact lfirst_name h0 h2 hk
    · exact ih (by omega) x hx hk
def Words (N : Nat) (l : List Tk) : Prop := ∀ x ∈ l, x.1.k = 1 → NmOk N x.1.t
theorem tksOf_words {s : List UInt8} {ts : List (Tok × Nat)} {e ea : Nat} (h : Lex s 0 ts e ea) : Words 40 (tksOf s ts) := fun x hx hk => by
  obtain ⟨y, hy, rfl⟩ := List.mem_map.1 hx
  exact h.names (Nat.zero_le _) y hy hk
theorem sName_nm {N : Nat} {l : List Tk} (hw : Words N l) {p q : Nat} {x : Tk} (h : sName l p = .ok (x, q)) : NmOk N x.1.t := by
  obtain ⟨_, _, h1, h2⟩ := sName_ok h
  exact hw x (List.mem_of_getElem? h1) h2
theorem sHead_nm {N : Nat} {l : List Tk} (hw : Words N l) {p q : Nat} {x : Tk} (h : sHead l p = .ok (x, q)) : NmOk N x.1.t := by
  unfold sHead at h
  split at h
  · cases h
  rename_i y r hx
  split at h
  · cases h
  injection h with h
  injection h with h1 h2
  subst h1
  exact sName_nm hw hx
theorem sEnum_nm {N : Nat} {l : List Tk} (hw : Words N l) {p q : Nat} {x : Enm} (h : sEnum l p = .ok (x, q)) : NmOk N x.name := by
  unfold sEnum at h
  split at h
  · cases h
  rename_i y r hx
  split at h
  · cases h
  injection h with h
  injection h with h1 h2
  subst h1
  exact sHead_nm hw hx
def cntA (e : List Enm) (m : List Msg) : Nat := e.length + (tyMs [] m).length
theorem tyAll_len (a : List UInt8) (e : List Enm) (m : List Msg) : (tyAll a e m).length = cntA e m := by
  unfold tyAll cntA
  rw [List.length_append, List.length_map, tyMs_len a [] m]
theorem tyM_cnt (a : List UInt8) (x : Msg) : (tyM a x).length = 1 + cntA x.enums x.msgs := by
  rw [tyM_md, List.length_cons, tyAll_len]
  omega
theorem cntA_msg (e : List Enm) (m : List Msg) (k : Msg) : cntA e (m ++ [k]) = cntA e m + (tyM [] k).length := by
  unfold cntA
  rw [tyMs_append, tyMs_one, List.length_append]
  omega
theorem cntA_enm (e : List Enm) (m : List Msg) (k : Enm) : cntA (e ++ [k]) m = cntA e m + 1 := by
  unfold cntA
  rw [List.length_append, List.length_singleton]
  omega
structure PartOk (N d b : Nat) (m : Msg) (p : Nat) : Prop where
  nm : NmOk N m.name
  en : ∀ x ∈ m.enums, NmOk N x.name
  ms : ∀ k ∈ m.msgs, MOk N d k
  cnt : cntA m.enums m.msgs + b ≤ p
theorem sPart_nm {N d b : Nat} {l : List Tk} (hw : Words N l) {sub : Nat → Ans8 (Msg × Nat)} (hst : Steps l sub) (hsub : ∀ p x q, sub p = .ok (x, q) → MOk N d x ∧ (tyM [] x).length + p ≤ q) {m m' : Msg} {p q : Nat} (hm : PartOk N d b m p) (h : sPart l sub m p = .ok (m', q)) : PartOk N d b m' q := by
  obtain ⟨nm, fs, os, ms, es, rs, ns, ln, cl⟩ := m
  obtain ⟨a1, a2, a3, a4⟩ := hm
  have hpq := sPart_ok hst h
  simp only [Msg.name, Msg.msgs, Msg.enums] at a1 a2 a3 a4
  simp only [sPart] at h
  split at h
  · split at h
    · cases h
    rename_i k r hr
    obtain ⟨h1, h2⟩ := hsub _ _ _ hr
    injection h with h
    injection h with h4 h5
    subst h4 h5
    refine ⟨a1, a2, fun k' hk => ?_, ?_⟩
    · rcases List.mem_append.1 hk with hk | hk
      · exact a3 k' hk
      · rw [List.mem_singleton.1 hk]
        exact h1
    · show cntA es (ms ++ [k]) + b ≤ _
      rw [cntA_msg]
      omega
  split at h
  · split at h
    · cases h
    rename_i k r hr
    have h1 := sEnum_nm hw hr
    injection h with h
    injection h with h4 h5
    subst h4 h5
    refine ⟨a1, fun k' hk => ?_, a3, ?_⟩
    · rcases List.mem_append.1 hk with hk | hk
      · exact a2 k' hk
      · rw [List.mem_singleton.1 hk]
        exact h1
    · show cntA (es ++ [k]) ms + b ≤ _
      rw [cntA_enm]
      omega
  split at h
  · split at h
    · cases h
    rename_i k r hr
    injection h with h
    injection h with h4 h5
    subst h4 h5
    exact ⟨a1, a2, a3, by show cntA es ms + b ≤ _; omega⟩
  split at h
  · split at h
    · cases h
    rename_i k r hr
    injection h with h
    injection h with h4 h5
    subst h4 h5
    exact ⟨a1, a2, a3, by show cntA es ms + b ≤ _; omega⟩
  split at h
  · cases h
  rename_i k r hr
  injection h with h
  injection h with h4 h5
  subst h4 h5
  exact ⟨a1, a2, a3, by show cntA es ms + b ≤ _; omega⟩
theorem sBody_nm {N d b : Nat} {l : List Tk} (hw : Words N l) {sub : Nat → Ans8 (Msg × Nat)} (hst : Steps l sub) (hsub : ∀ p x q, sub p = .ok (x, q) → MOk N d x ∧ (tyM [] x).length + p ≤ q) : ∀ (n : Nat) (m : Msg) (p : Nat) {m' : Msg} {q : Nat}, p ≤ l.length → PartOk N d b m p → sBody l sub n m p = .ok (m', q) → PartOk N d b m' q
  | 0, m, p, m', q, hp, hm, h => by cases h
  | n + 1, m, p, m', q, hp, hm, h => by
    have hs := semis_le hp
    have hm' : PartOk N d b m (semis l p) := ⟨hm.nm, hm.en, hm.ms, by have := hm.cnt; omega⟩
    simp only [sBody] at h
    split at h
    · rename_i h1
      injection h with h
      injection h with h2 h3
      subst h2 h3
      exact ⟨hm'.nm, hm'.en, hm'.ms, by have := hm'.cnt; omega⟩
    split at h
    · cases h
    rename_i v r hv
    have h1 := sPart_ok hst hv
    exact sBody_nm hw hst hsub n v r (by omega) (sPart_nm hw hst hsub hm' hv) h
theorem sMessage_nm {N : Nat} {l : List Tk} (hw : Words N l) : ∀ d p x q, sMessage l d p = .ok (x, q) → MOk N d x ∧ (tyM [] x).length + p ≤ q
  | 0, p, x, q, h => by
    unfold sMessage at h
    split at h <;> cases h
  | d + 1, p, x, q, h => by
    have h0 := sMessage_ok l (d + 1) p x q h
    unfold sMessage at h
    split at h
    · cases h
    rename_i y r hx
    split at h
    · cases h
    rename_i s hs
    have h1 := sName_ok hx
    have h2 := sWant_ok hs
    have h3 := sName_nm hw hx
    have h4 : PartOk N d s (.mk y.1.t [] [] [] [] [] [] y.2.1 y.2.2) s := ⟨h3, fun x hx => (by cases hx), fun k hk => (by cases hk), by show 0 + 0 + s ≤ s; omega⟩
    have h5 := sBody_nm hw (sMessage_ok l d) (sMessage_nm hw d) _ _ _ (by omega) h4 h
    refine ⟨?_, ?_⟩
    · have h6 := h5.nm
      have h7 := h5.en
      have h8 := h5.ms
      cases x
      exact ⟨h6, h7, h8⟩
    · rw [tyM_cnt]
      have := h5.cnt
      omega
structure FilOk (N b : Nat) (f : Fil) (p : Nat) : Prop where
  en : ∀ x ∈ f.enums, NmOk N x.name
  ms : ∀ k ∈ f.msgs, MOk N 8 k
  cnt : cntA f.enums f.msgs + b ≤ p
theorem sParts_nm {N b : Nat} {l : List Tk} (hw : Words N l) : ∀ (n : Nat) (f : Fil) (p : Nat) {g : Fil}, FilOk N b f p → p ≤ l.length → sParts l n f p = .ok g → FilOk N b g l.length ∧ g.package = f.package
  | 0, f, p, g, hf, hp, h => by cases h
  | n + 1, f, p, g, hf, hp, h => by
    obtain ⟨f1, f2, f3⟩ := hf
    rw [sParts] at h
    split at h
    · rename_i hlt
      split at h
      · exact sParts_nm hw n f (p + 1) ⟨f1, f2, by omega⟩ (by omega) h
      split at h
      · split at h
        · cases h
        rename_i m q hm
        obtain ⟨h3, h3c⟩ := sMessage_nm hw _ _ _ _ hm
        have h4 := sMessage_ok l _ _ _ _ hm
        refine sParts_nm hw n { f with msgs := f.msgs ++ [m] } q ⟨f1, fun k hk => ?_, ?_⟩ h4.2 h
        · rcases List.mem_append.1 hk with hk | hk
          · exact f2 k hk
          · rw [List.mem_singleton.1 hk]
            exact h3
        · dsimp only
          rw [cntA_msg]
          omega
      split at h
      · split at h
        · cases h
        rename_i m q hm
        have h3 := sEnum_nm hw hm
        have h4 := sEnum_ok hm
        refine sParts_nm hw n { f with enums := f.enums ++ [m] } q ⟨fun k hk => ?_, f2, ?_⟩ h4.2 h
        · rcases List.mem_append.1 hk with hk | hk
          · exact f1 k hk
          · rw [List.mem_singleton.1 hk]
            exact h3
        · dsimp only
          rw [cntA_enm]
          omega
      · cases h
    · injection h with h
      subst h
      exact ⟨⟨f1, f2, by omega⟩, rfl⟩
theorem nm_head {N : Nat} {t : List UInt8} (h : NmOk N t) : t.head? ≠ some 46 := fun e => by
  cases t with
  | nil => cases e
  | cons c r =>
    obtain rfl := Option.some.inj e
    exact h.2.2 List.mem_cons_self
theorem head_append {a b : List UInt8} (h : a ≠ []) : (a ++ b).head? = a.head? := by
  cases a with
  | nil => exact absurd rfl h
  | cons c r => rfl
theorem sDots_nm {N : Nat} {l : List Tk} (hw : Words N l) : ∀ (n : Nat) (s : List UInt8) (p : Nat) {t : List UInt8} {q : Nat}, sDots l n s p = .ok (t, q) → s.head? ≠ some 46 → t.head? ≠ some 46 ∧ t.length ≤ s.length + n * (N + 1)
  | 0, s, p, t, q, h, hs => by cases h
  | n + 1, s, p, t, q, h, hs => by
    unfold sDots at h
    split at h
    · cases h
    rename_i x r hx
    have hn := sName_nm hw hx
    have hh : (s ++ x.1.t).head? ≠ some 46 := by
      by_cases e : s = []
      · rw [e]
        exact nm_head hn
      · rw [head_append e]
        exact hs
    have hne : s ++ x.1.t ≠ [] := fun e => hn.1 (List.append_eq_nil_iff.1 e).2
    have hl := hn.2.1
    have hmul : (n + 1) * (N + 1) = n * (N + 1) + (N + 1) := Nat.succ_mul _ _
    split at h
    · have := sDots_nm hw n _ _ h (by rw [head_append hne]; exact hh)
      refine ⟨this.1, ?_⟩
      have h2 := this.2
      simp only [List.length_append, List.length_singleton] at h2
      omega
    · injection h with h
      injection h with h1 h2
      subst h1
      refine ⟨hh, ?_⟩
      rw [List.length_append]
      omega
theorem sFile_nm {N : Nat} {l : List Tk} (hN : N ≤ 1000) (hl : l.length ≤ 100000) (hw : Words N l) {f : Fil} (h : sFile l = .ok f) : FOk N f ∧ (tyFile f).length ≤ 100000 := by
  have hfine := sFile_fine hl h
  rw [sFile_syn] at h
  split at h
  · cases h
  rename_i q hq
  have hq := sSyn_le hq
  split at h
  · cases h
  rename_i pk u hpk
  have hk : u ≤ l.length ∧ pk.head? ≠ some 46 ∧ pk.length ≤ 100000000000 := by
    unfold sPackage at hpk
    split at hpk
    · split at hpk
      · cases hpk
      rename_i hd
      have h1 := sDotted_ok hd
      unfold sDotted at hd
      rw [Bool.false_and, if_neg (by decide)] at hd
      have h2 := sDots_nm hw _ _ _ hd (by decide)
      split at hpk
      · cases hpk
      rename_i hw'
      have := sWant_ok hw'
      injection hpk with hpk
      injection hpk with h3 h4
      subst h3 h4
      refine ⟨by omega, h2.1, ?_⟩
      have h5 := h2.2
      have h6 : (l.length + 1) * (N + 1) ≤ 100001 * 1001 := Nat.mul_le_mul (by omega) (by omega)
      simp only [List.length_nil] at h5
      omega
    · injection hpk with hpk
      injection hpk with h1 h2
      subst h1 h2
      exact ⟨hq, by decide, by decide⟩
  obtain ⟨h1, h2⟩ := sParts_nm (b := 0) hw _ ⟨pk, [], []⟩ u ⟨fun x hx => (by cases hx), fun x hx => (by cases hx), by show 0 + 0 + 0 ≤ u; omega⟩ hk.1 h
  refine ⟨⟨hfine, by rw [h2]; exact hk.2.2, by rw [h2]; exact hk.2.1, h1.en, h1.ms⟩, ?_⟩
  unfold tyFile
  rw [tyAll_len]
  have := h1.cnt
  omega
def FullOk (N : Nat) (t : List UInt8) : Prop := ∃ a n, a.head? ≠ some 46 ∧ NmOk N n ∧ t = aheadOf a ++ n
theorem full_head {a n : List UInt8} {N : Nat} (ha : a.head? ≠ some 46) (hn : NmOk N n) : (aheadOf a ++ n).head? ≠ some 46 := by
  by_cases e : a = []
  · rw [e]
    exact nm_head hn
  · rw [show aheadOf a = a ++ [46] from if_neg e, List.append_assoc, head_append e]
    exact ha
mutual
theorem tyM_full {N : Nat} : ∀ (d : Nat) (a : List UInt8) (m : Msg), a.head? ≠ some 46 → MOk N d m → ∀ x ∈ tyM (aheadOf a) m, FullOk N x.full
  | 0, a, m, ha, hm, x, hx => hm.elim
  | d + 1, a, .mk n f o m e r s l c, ha, hm, x, hx => by
    obtain ⟨h1, h2, h3⟩ := hm
    have hh := full_head ha h1
    have he := ahead_name (s := a) h1.1
    simp only [tyM, List.mem_cons, List.mem_append, List.mem_map] at hx
    rw [← he] at hx
    rcases hx with rfl | ⟨y, hy, rfl⟩ | hx
    · exact ⟨a, n, ha, h1, rfl⟩
    · exact ⟨aheadOf a ++ n, y.name, hh, h2 y hy, rfl⟩
    · exact tyMs_full d (aheadOf a ++ n) m hh h3 x hx
theorem tyMs_full {N : Nat} : ∀ (d : Nat) (a : List UInt8) (m : List Msg), a.head? ≠ some 46 → (∀ k ∈ m, MOk N d k) → ∀ x ∈ tyMs (aheadOf a) m, FullOk N x.full
  | d, a, [], ha, hm, x, hx => by cases hx
  | d, a, k :: m, ha, hm, x, hx => by
    simp only [tyMs, List.mem_append] at hx
    rcases hx with hx | hx
    · exact tyM_full d a k ha (hm k List.mem_cons_self) x hx
    · exact tyMs_full d a m ha (fun k' hk => hm k' (List.mem_cons_of_mem _ hk)) x hx
end
theorem tyFile_full {N : Nat} {f : Fil} (h : FOk N f) : ∀ x ∈ tyFile f, FullOk N x.full := fun x hx => by
  rcases List.mem_append.1 hx with hx | hx
  · obtain ⟨y, hy, rfl⟩ := List.mem_map.1 hx
    exact ⟨f.package, y.name, h.pk1, h.en y hy, rfl⟩
  · exact tyMs_full 8 f.package f.msgs h.pk1 h.ms x hx
theorem addAllT_mem : ∀ {xs L M : List Ty}, TbOk L → addAllT L xs = .ok M → ∀ t ∈ M, t ∈ L ∨ ∃ x ∈ xs, t.full = x.full
  | [], L, M, hL, h, t, ht => by
    cases h
    exact .inl ht
  | x :: xs, L, M, hL, h, t, ht => by
    rw [addAllT_cons] at h
    cases ha : addT L x with
    | error e => rw [ha] at h; cases h
    | ok K =>
      rw [ha] at h
      obtain ⟨hK, rfl, _, _⟩ := addT_ok hL ha
      rcases addAllT_mem hK h t ht with h1 | ⟨y, hy, h1⟩
      · rcases List.mem_append.1 h1 with h1 | h1
        · exact .inl h1
        · rw [List.mem_singleton.1 h1]
          exact .inr ⟨x, List.mem_cons_self, rfl⟩
      · exact .inr ⟨y, List.mem_cons_of_mem _ hy, h1⟩
theorem table_full {N : Nat} {f : Fil} (h : FOk N f) {L : List Ty} (ht : table f = .ok L) : ∀ t ∈ L, FullOk N t.full := fun t htm => by
  rcases addAllT_mem (L := []) ⟨List.nodup_nil, by simp⟩ ht t htm with h1 | ⟨x, hx, h1⟩
  · cases h1
  · rw [h1]
    exact tyFile_full h x hx
end Go.Proofs.YtekeanikgcpijaaDoor
namespace Go.Proofs.YtekeanikgcpijaaDoor
open Go.RowKit
def NoPt (L : List Ty) : Prop := ∀ t ∈ L, ∀ r, t.full ≠ 46 :: r
theorem NoPt.find {L : List Ty} (h : NoPt L) (r : List UInt8) : ffind (46 :: r) L = none := ffind_none.2 fun t ht => h t ht r
end Go.Proofs.YtekeanikgcpijaaDoor
namespace Go.Proofs.YtekeanikgcpijaaDoor
open Go.RowKit
abbrev DupE (A : Nat → Addr) : Er := (tE, .pointer (some (A 10)))
abbrev LongE (A : Nat → Addr) : Er := (tE, .pointer (some (A 2)))
abbrev glB (A : Nat → Addr) (m : Int) : List (Nat × List Value) := (1, [errV A 10]) :: glA A m
theorem glB_of (A : Nat → Addr) (m : Int) : OfG (glB A m) A m := by
  have h := glA_of A m
  exact ⟨⟨List.mem_cons_of_mem _ h.lx.range, List.mem_cons_of_mem _ h.lx.long, List.mem_cons_of_mem _ h.lx.form, List.mem_cons_of_mem _ h.lx.max⟩, fun x hx => List.mem_cons_of_mem _ (h.sub x hx)⟩
theorem glB_sub (A : Nat → Addr) (m : Int) : ∀ x, x ∈ gS (DupE A) (LongE A) → x ∈ glB A m := fun x hx => by
  rcases List.mem_cons.1 hx with rfl | hx
  · exact List.mem_cons_self
  · rcases List.mem_cons.1 hx with rfl | hx
    · exact (glB_of A m).lx.long
    · cases hx
abbrev alK (n : List UInt8) (m : List Msg) : Msg := .mk n [] [] m [] [] [] 0 0
abbrev alF : Fil := ⟨[112], [alK [77] [alK [78] []], alK [78] []], []⟩
abbrev alL : List Ty := [⟨[112, 46, 77], false, 0, 0, 0⟩, ⟨[112, 46, 77, 46, 78], false, 1, 0, 0⟩, ⟨[112, 46, 78], false, 2, 0, 0⟩]
theorem alT : table alF = .ok alL := by kernel_rfl
theorem alNm (c : UInt8) (h : c ≠ 46) : NmOk 40 [c] := ⟨by simp, by simp, by simp; exact Ne.symm h⟩
theorem alOk : FOk 40 alF := by
  have hN : NmOk 40 [78] := alNm 78 (by decide)
  have hM : NmOk 40 [77] := alNm 77 (by decide)
  have f1 : (alK [78] []).fine := (Msg.fine_iff _).2 ⟨Nat.zero_le _, Nat.zero_le _, Nat.zero_le _, Nat.zero_le _, Nat.zero_le _, Nat.zero_le _, fun x hx => (by cases hx), fun k hk => (by cases hk)⟩
  have f2 : (alK [77] [alK [78] []]).fine := (Msg.fine_iff _).2 ⟨Nat.zero_le _, Nat.zero_le _, by decide, Nat.zero_le _, Nat.zero_le _, Nat.zero_le _, fun x hx => (by cases hx), fun k hk => by rw [List.mem_singleton.1 hk]; exact f1⟩
  refine ⟨⟨by decide, Nat.zero_le _, fun x hx => (by cases hx), fun k hk => ?_⟩, by decide, by decide, fun x hx => (by cases hx), fun k hk => ?_⟩
  · rcases List.mem_cons.1 hk with rfl | hk
    · exact f2
    · rw [List.mem_singleton.1 hk]; exact f1
  · rcases List.mem_cons.1 hk with rfl | hk
    · exact ⟨hM, fun x hx => (by cases hx), fun k hk => by
        rw [List.mem_singleton.1 hk]
        exact ⟨hN, fun x hx => (by cases hx), fun k hk => (by cases hk)⟩⟩
    · rw [List.mem_singleton.1 hk]
      exact ⟨hN, fun x hx => (by cases hx), fun k hk => (by cases hk)⟩
theorem alTb : TbOk alL := addAllT_ok (L := []) ⟨List.nodup_nil, by simp⟩ alT
theorem al1 : lookT alL [112, 46, 77] [78] = some ⟨[112, 46, 77, 46, 78], false, 1, 0, 0⟩ := by
  rw [lookT_cut, if_neg (by decide), lookUp_eq]
  rfl
theorem al2 : lookT alL [112] [78] = some ⟨[112, 46, 78], false, 2, 0, 0⟩ := by
  rw [lookT_cut, if_neg (by decide), lookUp_eq]
  rfl
theorem sof_more {gls : List (Nat × List Value)} (ED EL : Er) (hs : ∀ x, x ∈ gS ED EL → x ∈ gls) (f : Fil) (hf : FOk 40 f) : EF Tryd.prog gls 7 [FQ f] (ofR ED EL (table f)) := EFx.more (sof_ef ED EL 40 (by decide) f hf) hs
set_option maxRecDepth 100000 in
set_option maxHeartbeats 2000000 in
theorem salive_ef {gls : List (Nat × List Value)} (ED EL : Er) (hs : ∀ x, x ∈ gS ED EL → x ∈ gls) : EF Tryd.prog gls 4 [] (.part (bP true)) := by
  have ho := sof_more ED EL hs alF alOk
  rw [alT] at ho
  have l1 := look_ef gls alL alTb [112, 46, 77] [78] (by decide) (by decide)
  have l2 := look_ef gls alL alTb [112] [78] (by decide) (by decide)
  rw [al1] at l1
  rw [al2] at l2
  refine ef_enter 59 Tryd.func4 rfl rfl rfl fun w D => ?_
  try refine e_fl ?_
  refine e_plain (w_as rfl rfl rfl rfl rfl .nil) ?_
  try refine e_fl ?_
  refine e_list ?_
  refine l_op (s_build (ds := [_, .row 10 0 [], .row 1 0 [], .row 9 0 [], .row 4 0 [], .row 2 0 [], .row 1 0 [], _, _]) [(0, _)] rfl ⟨rfl, (kn rfl), trivial⟩ rfl pl_48 zr_48 (fun w D => .cons (.cell _) (.cons (.none _ _ _) (.cons (.none _ _ _) (.cons (.none _ _ _) (.cons (.none _ _ _) (.cons (.none _ _ _) (.cons (.none _ _ _) (.cons (.cell _) (.cons (.cell _) (.nil _ _)))))))))) rfl) ?_
  refine l_op (s_buildSlice (ds := [_, _, _, _, _, _, _, _, _]) [(0, _)] rfl ⟨rfl, (kn rfl), trivial⟩ rfl sl_25 sz_48 zr_48 (fun w D => .cons (.cell _) (.cons (.cell _) (.cons (.cell _) (.cons (.cell _) (.cons (.cell _) (.cons (.cell _) (.cons (.cell _) (.cons (.cell _) (.cons (.cell _) (.nil _ _)))))))))) rfl rfl rfl rfl rfl) ?_
  refine l_op (s_build (ds := [_, .row 10 0 [], .row 1 0 [], _, .row 4 0 [], .row 2 0 [], .row 1 0 [], _, _]) [(0, _), (3, _)] rfl ⟨rfl, (kn rfl), ⟨rfl, (kn rfl), trivial⟩⟩ rfl pl_48 zr_48 (fun w D => .cons (.cell _) (.cons (.none _ _ _) (.cons (.none _ _ _) (.cons (.cell _) (.cons (.none _ _ _) (.cons (.none _ _ _) (.cons (.none _ _ _) (.cons (.cell _) (.cons (.cell _) (.nil _ _)))))))))) rfl) ?_
  refine l_op (s_build (ds := [_, .row 10 0 [], .row 1 0 [], .row 9 0 [], .row 4 0 [], .row 2 0 [], .row 1 0 [], _, _]) [(0, _)] rfl ⟨rfl, (kn rfl), trivial⟩ rfl pl_48 zr_48 (fun w D => .cons (.cell _) (.cons (.none _ _ _) (.cons (.none _ _ _) (.cons (.none _ _ _) (.cons (.none _ _ _) (.cons (.none _ _ _) (.cons (.none _ _ _) (.cons (.cell _) (.cons (.cell _) (.nil _ _)))))))))) rfl) ?_
  refine l_op (s_buildSlice (ds := [_, _, _, _, _, _, _, _, _, _, _, _, _, _, _, _, _, _]) [(0, _), (1, _)] rfl ⟨rfl, (kn rfl), ⟨rfl, (kn rfl), trivial⟩⟩ rfl sl_25 sz_48 zr_48 (fun w D => .cons (.cell _) (.cons (.cell _) (.cons (.cell _) (.cons (.cell _) (.cons (.cell _) (.cons (.cell _) (.cons (.cell _) (.cons (.cell _) (.cons (.cell _) (.cons (.cell _) (.cons (.cell _) (.cons (.cell _) (.cons (.cell _) (.cons (.cell _) (.cons (.cell _) (.cons (.cell _) (.cons (.cell _) (.cons (.cell _) (.nil _ _))))))))))))))))))) rfl rfl rfl rfl rfl) ?_
  refine l_op (s_build (ds := [_, _, .row 4 0 []]) [(0, _), (1, _)] rfl ⟨rfl, (kn rfl), ⟨rfl, (kn rfl), trivial⟩⟩ rfl pl_28 zr_28 (fun w D => .cons (.cell _) (.cons (.cell _) (.cons (.none _ _ _) (.nil _ _)))) rfl) ?_
  refine e_alloc 1 [.is (.string ⟨#[]⟩), .is (.slice none 0 0), .is (.slice none 0 0)] rfl rfl rfl rfl zr_28 (fun w D M V => ⟨rfl, fun j x v h1 h2 => cfit_is _ h1 h2 rfl⟩) rfl rfl rfl rfl ?_
  refine e_storew rfl rfl rfl (kn rfl) rfl (kn rfl) rfl rfl sz_28 ?_
  refine e_nil ?_
  try refine e_fl ?_
  refine e_plain (w_op rfl rfl rfl (s_loadn_box (ds := [_, _, _]) 3 rfl (kn rfl) rfl rfl agg_28 sz_28 rfl) (w_op rfl rfl rfl (s_call rfl (by kernel_rfl) (ho) ⟨(kn rfl), trivial⟩) (w_mv rfl rfl rfl rfl rfl (w_op rfl rfl rfl (s_extract rfl (kn rfl) rfl) (w_op rfl rfl rfl (s_extract rfl (kn rfl) rfl) (w_as rfl rfl rfl rfl rfl (w_as rfl rfl rfl rfl rfl .nil))))))) ?_
  try refine e_fl ?_
  refine e_plain (w_mv rfl rfl rfl rfl rfl (w_op rfl rfl rfl (s_nil_neq rfl (kn rfl) ifc_30) (w_mv rfl rfl rfl rfl rfl (Walk.gd _ rfl rfl rfl (fun h => s_move rfl (kn rfl)) (Walk.gd _ rfl rfl rfl (fun h => s_ptr_dat rfl (kn_opt rfl h) (by kernel_rfl)) (w_op rfl rfl rfl (s_or rfl (kn rfl) (fun hb => kn_opt rfl hb)) .nil)))))) ?_
  try refine e_fl ?_
  refine c_no ?_
  try refine e_fl ?_
  refine e_list ?_
  refine l_mv ?_
  refine l_op (s_call rfl (by kernel_rfl) (l1) ⟨(kn rfl), ⟨(kn rfl), ⟨(kn rfl), trivial⟩⟩⟩) ?_
  refine l_mv ?_
  refine l_ex ?_
  refine l_ex ?_
  refine e_alloc 4 [.is (.string ⟨#[]⟩), .is (.bool false), .is (.int .i64 0), .is (.int .i64 0), .is (.int .i64 0)] rfl rfl rfl rfl zr_39 (fun w D M V => ⟨rfl, fun j x v h1 h2 => cfit_is _ h1 h2 rfl⟩) rfl rfl rfl rfl ?_
  refine e_storew rfl rfl rfl (kn rfl) rfl (kn rfl) rfl rfl sz_39 ?_
  refine l_as ?_
  refine e_nil ?_
  try refine e_fl ?_
  refine e_list ?_
  refine l_mv ?_
  refine l_op (s_call rfl (by kernel_rfl) (l2) ⟨(kn rfl), ⟨(kn rfl), ⟨(kn rfl), trivial⟩⟩⟩) ?_
  refine l_mv ?_
  refine l_ex ?_
  refine l_ex ?_
  refine e_alloc 6 [.is (.string ⟨#[]⟩), .is (.bool false), .is (.int .i64 0), .is (.int .i64 0), .is (.int .i64 0)] rfl rfl rfl rfl zr_39 (fun w D M V => ⟨rfl, fun j x v h1 h2 => cfit_is _ h1 h2 rfl⟩) rfl rfl rfl rfl ?_
  refine e_storew rfl rfl rfl (kn rfl) rfl (kn rfl) rfl rfl sz_39 ?_
  refine l_as ?_
  refine e_nil ?_
  try refine e_fl ?_
  refine e_plain (w_mv rfl rfl rfl rfl rfl (w_mv rfl rfl rfl rfl rfl (Walk.gd _ rfl rfl rfl (fun h => s_move rfl (kn rfl)) (w_op rfl rfl rfl (s_and rfl (kn rfl) (fun hb => kn_opt rfl hb)) (w_mv rfl rfl rfl rfl rfl (Walk.gd _ rfl rfl rfl (fun h => s_faddr_box rfl (kn rfl) off_39_0) (Walk.gd _ rfl rfl rfl (fun h => s_load1_box rfl (kn_opt rfl h) rfl rfl one_9) (Walk.gd _ rfl rfl rfl (fun h => s_bin rfl (kn_opt rfl h) (kn rfl) (v_seql (b := [112, 46, 77, 46, 78]))) (w_op rfl rfl rfl (s_and rfl (kn rfl) (fun hb => kn_opt rfl hb)) (w_mv rfl rfl rfl rfl rfl (Walk.gd _ rfl rfl rfl (fun h => s_faddr_box rfl (kn rfl) off_39_2) (Walk.gd _ rfl rfl rfl (fun h => s_load1_box rfl (kn_opt rfl h) rfl rfl one_3) (Walk.gd _ rfl rfl rfl (fun h => s_bin rfl (kn_opt rfl h) (kn rfl) v_eql) (w_op rfl rfl rfl (s_and rfl (kn rfl) (fun hb => kn_opt rfl hb)) (w_mv rfl rfl rfl rfl rfl (Walk.gd _ rfl rfl rfl (fun h => s_faddr_box rfl (kn rfl) off_39_0) (Walk.gd _ rfl rfl rfl (fun h => s_load1_box rfl (kn_opt rfl h) rfl rfl one_9) (Walk.gd _ rfl rfl rfl (fun h => s_bin rfl (kn_opt rfl h) (kn rfl) (v_seql (b := [112, 46, 78]))) (w_op rfl rfl rfl (s_and rfl (kn rfl) (fun hb => kn_opt rfl hb)) (w_mv rfl rfl rfl rfl rfl (Walk.gd _ rfl rfl rfl (fun h => s_faddr_box rfl (kn rfl) off_39_2) (Walk.gd _ rfl rfl rfl (fun h => s_load1_box rfl (kn_opt rfl h) rfl rfl one_3) (Walk.gd _ rfl rfl rfl (fun h => s_bin rfl (kn_opt rfl h) (kn rfl) v_eql) (w_op rfl rfl rfl (s_and rfl (kn rfl) (fun hb => kn_opt rfl hb)) (w_as rfl rfl rfl rfl rfl .nil))))))))))))))))))))))))) ?_
  try refine e_fl ?_
  exact e_return rfl rfl (.tmp (kn rfl) (.nil)) (Imp.of_eq (by rfl)) rfl
end Go.Proofs.YtekeanikgcpijaaDoor
namespace Go.Proofs.YtekeanikgcpijaaDoor
open Go.RowKit
theorem glB_ok5 {A : Nat → Addr} {m : Int} {w : World} (hL : Lx w A m) (hD : w.cell? ⟨5, 0, none⟩ = some (errV A 7)) (hU : w.cell? ⟨1, 0, none⟩ = some (errV A 10)) : GlOK (glB A m) w := fun g cs hg => by
  have key : ∀ {g : Nat} {v : Value}, w.cell? ⟨g, 0, none⟩ = some v → g < w.heap.size ∧ ∀ (j : Nat) u, [v][j]? = some u → w.cell? ⟨g, j, none⟩ = some u := fun {g v} h => ⟨World.block_lt_of_cell? w ⟨g, 0, none⟩ h, fun j u hu => by
    cases j with
    | zero => cases hu; exact h
    | succ j => cases hu⟩
  simp only [glB, glA, List.mem_cons, List.not_mem_nil, or_false, Prod.mk.injEq] at hg
  rcases hg with ⟨rfl, rfl⟩ | ⟨rfl, rfl⟩ | ⟨rfl, rfl⟩ | ⟨rfl, rfl⟩ | ⟨rfl, rfl⟩ | ⟨rfl, rfl⟩
  · exact key hU
  · exact key hL.range
  · exact key hL.long
  · exact key hD
  · exact key hL.form
  · exact key hL.max
theorem full_nopt {L : List Ty} {N : Nat} (h : ∀ t ∈ L, FullOk N t.full) : NoPt L := fun t ht r e => by
  obtain ⟨a, n, ha, hn, he⟩ := h t ht
  have := full_head ha hn
  rw [← he, e] at this
  exact this rfl
end Go.Proofs.YtekeanikgcpijaaDoor
