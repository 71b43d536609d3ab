/- Part 21 of what the last text of this claim is proved by: walks over the program, and the math behind them. Conditions: as each theorem says. -/
import Derived.Test.YtagoikglbifhmaaGreatDoorPA20
import Derived.Test.YtagoikglbifhmaaGreatDoorProg
import Derived.Lib.AsciiSet
import Derived.Lib.AtoiErrMem
namespace Go.Proofs.YtagoikglbifhmaaGreatDoor
open Go.RowKit
theorem ib_cut (c : UInt8) : ∀ s : List UInt8, Lib.indexByte s c = if cutF c s then ((cutB c s).length : Int) else -1
  | [] => rfl
  | b :: l => by
    have ih := ib_cut c l
    unfold Lib.indexByte cutF cutB
    by_cases e : b = c
    · subst e
      simp
    · have e1 : (b == c) = false := by simpa using e
      have e2 : (b != c) = true := by simpa using e
      have e3 : (c == b) = false := by simpa using (fun h => e h.symm)
      rw [e1, List.contains_cons, e3, Bool.false_or, List.takeWhile_cons, e2]
      rw [ih]
      unfold cutF cutB
      cases h : l.contains c
      · rfl
      · have : ¬ ((List.takeWhile (fun x => x != c) l).length : Int) = -1 := by omega
        simp [this]
theorem lidx_ef (gls : List (Nat × List Value)) (s : List UInt8) (c : UInt8) : EF Tryz.prog gls 118 [sP s, sP [c]] (.part (iP (Lib.indexByte s c))) :=
  ef_cell [.string (str s), .string (str [c])] (.int .i64 (Lib.indexByte s c)) fun w _ => (Tryz.stringslite_Index_one (str s) c w).mono fun _ _ ⟨h1, h2⟩ => ⟨h1, h2 ▸ Below.refl _ _⟩
theorem cutF_len {c : UInt8} : ∀ {s : List UInt8}, cutF c s = true → (cutB c s).length + 1 + (cutA c s).length = s.length ∧ s.take (cutB c s).length = cutB c s ∧ s.drop ((cutB c s).length + 1) = cutA c s
  | [], h => by cases h
  | b :: l, h => by
    by_cases e : b = c
    · subst e
      have e1 : cutB b (b :: l) = [] := by simp [cutB]
      have e2 : cutA b (b :: l) = l := by simp [cutA]
      rw [e1, e2]
      exact ⟨by simp; omega, rfl, rfl⟩
    · have e1 : cutB c (b :: l) = b :: cutB c l := by simp [cutB, e]
      have e2 : cutA c (b :: l) = cutA c l := by simp [cutA, e]
      have e3 : cutF c l = true := by
        have h1 : c = b ∨ c ∈ l := by simpa [cutF] using h
        rcases h1 with h1 | h1
        · exact absurd h1.symm e
        · simpa [cutF] using h1
      obtain ⟨h1, h2, h3⟩ := cutF_len e3
      rw [e1, e2]
      refine ⟨by simp only [List.length_cons]; omega, ?_, ?_⟩
      · rw [List.length_cons, List.take_succ_cons, h2]
      · rw [List.length_cons, List.drop_succ_cons, h3]
set_option maxRecDepth 100000 in
theorem cut0_ef (gls : List (Nat × List Value)) (s : List UInt8) (c : UInt8) (hs : s.length ≤ 1000000000000) : EF Tryz.prog gls 89 [sP s, sP [c]] (.tup [sP (cutB c s), sP (cutA c s), tP (cutF c s)]) := by
  have hi := ib_cut c s
  cases hF : cutF c s
  · have hc : EF Tryz.prog gls 118 [sP s, sP [c]] (.part (iP (-1))) := by
      have := lidx_ef gls s c
      rwa [hi, hF, if_neg (by decide)] at this
    have hno := cut_no (c := c) (a := s) (by simpa [cutF] using hF)
    have hA : cutA c s = [] := by
      have h0 : s = cutB c s ++ s.dropWhile (· != c) := (List.takeWhile_append_dropWhile).symm
      rw [hno.1] at h0
      have h1 : s.dropWhile (· != c) = [] := by
        have := congrArg List.length h0
        rw [List.length_append] at this
        exact List.length_eq_zero_iff.1 (by omega)
      unfold cutA
      rw [h1]
      rfl
    refine ef_enter 23 Tryz.func89 rfl rfl rfl fun w D => ?_
    try refine e_fl ?_
    refine e_plain (w_as rfl rfl rfl rfl rfl (w_as rfl rfl rfl rfl rfl (w_as rfl rfl rfl rfl rfl .nil))) ?_
    try refine e_fl ?_
    refine e_plain (w_mv rfl rfl rfl rfl rfl (w_mv rfl rfl rfl rfl rfl (w_op rfl rfl rfl (s_call rfl (by kernel_rfl) (hc) ⟨(kn rfl), ⟨(kn rfl), trivial⟩⟩) (w_as rfl rfl rfl rfl rfl .nil)))) ?_
    try refine e_fl ?_
    refine e_plain (w_mv rfl rfl rfl rfl rfl (w_op rfl rfl rfl (s_bin rfl (kn rfl) (kn rfl) v_geq) .nil)) ?_
    try refine e_fl ?_
    refine e_cond rfl (fun h => ?_) (fun h => ?_)
    · exact absurd (of_decide_eq_true h) (by decide)
    try refine e_fl ?_
    refine e_plain (w_mv rfl rfl rfl rfl rfl (w_as rfl rfl rfl rfl rfl (w_as rfl rfl rfl rfl rfl (w_as rfl rfl rfl rfl rfl .nil)))) ?_
    try refine e_fl ?_
    exact e_return rfl rfl (.tmp (kn rfl) (.tmp (kn rfl) (.tmp (kn rfl) (.nil)))) (Imp.of_eq (by rw [hno.1, hA]; rfl)) rfl
  · have hc : EF Tryz.prog gls 118 [sP s, sP [c]] (.part (iP ((cutB c s).length : Int))) := by
      have := lidx_ef gls s c
      rwa [hi, hF, if_pos rfl] at this
    obtain ⟨h1, h2, h3⟩ := cutF_len hF
    obtain ⟨n, hn⟩ : ∃ n, n = (cutB c s).length := ⟨_, rfl⟩
    have h1' : n + 1 + (cutA c s).length = s.length := by omega
    have hlen : (([c] : List UInt8).length : Int) = 1 := rfl
    have h23 : (.tup [sP (s.take ((n : Nat) : Int).toNat), sP (s.drop ((n : Int) + (([c] : List UInt8).length : Int)).toNat), tP true] : IV) = .tup [sP (cutB c s), sP (cutA c s), tP true] := by
      rw [hlen, show ((n : Int) + 1).toNat = n + 1 by omega, Int.toNat_natCast, hn, h2, h3]
    rw [← hn] at hc
    rw [← h23]
    refine ef_enter 23 Tryz.func89 rfl rfl rfl fun w D => ?_
    try refine e_fl ?_
    refine e_plain (w_as rfl rfl rfl rfl rfl (w_as rfl rfl rfl rfl rfl (w_as rfl rfl rfl rfl rfl .nil))) ?_
    try refine e_fl ?_
    refine e_plain (w_mv rfl rfl rfl rfl rfl (w_mv rfl rfl rfl rfl rfl (w_op rfl rfl rfl (s_call rfl (by kernel_rfl) (hc) ⟨(kn rfl), ⟨(kn rfl), trivial⟩⟩) (w_as rfl rfl rfl rfl rfl .nil)))) ?_
    try refine e_fl ?_
    refine e_plain (w_mv rfl rfl rfl rfl rfl (w_op rfl rfl rfl (s_bin rfl (kn rfl) (kn rfl) v_geq) .nil)) ?_
    try refine e_fl ?_
    refine e_cond rfl (fun h => ?_) (fun h => ?_)
    · try refine e_fl ?_
      refine e_draw mixed (by kernel_rfl) (w_mv rfl rfl rfl rfl rfl (w_mv rfl rfl rfl rfl rfl (w_op rfl rfl rfl (s_sslice_to rfl (kn rfl) (kn rfl) (by omega) str_9) (w_mv rfl rfl rfl rfl rfl (w_mv rfl rfl rfl rfl rfl (w_mv rfl rfl rfl rfl rfl (w_op rfl rfl rfl (s_slen rfl (kn rfl) str_9) (w_op rfl rfl rfl (s_bin rfl (kn rfl) (kn rfl) (v_add64 (by first | omega | (dsimp only; omega) | omega))) (w_op rfl rfl rfl (s_sslice_from rfl (kn rfl) (kn rfl) (by omega) str_9) (w_as rfl rfl rfl rfl rfl (w_as rfl rfl rfl rfl rfl (w_as rfl rfl rfl rfl rfl .nil)))))))))))) ?_
      try refine e_fl ?_
      exact e_return rfl rfl (.tmp (kn rfl) (.tmp (kn rfl) (.tmp (kn rfl) (.nil)))) (Imp.refl _) rfl
    · exact absurd (of_decide_eq_false h) (by omega)
set_option maxRecDepth 100000 in
theorem cut_ef (gls : List (Nat × List Value)) (s : List UInt8) (c : UInt8) (hs : s.length ≤ 1000000000000) : EF Tryz.prog gls 73 [sP s, sP [c]] (.tup [sP (cutB c s), sP (cutA c s), tP (cutF c s)]) := by
  refine ef_enter 13 Tryz.func73 rfl rfl rfl fun w D => ?_
  try refine e_fl ?_
  refine e_plain (w_as rfl rfl rfl rfl rfl (w_as rfl rfl rfl rfl rfl (w_as rfl rfl rfl rfl rfl .nil))) ?_
  try refine e_fl ?_
  refine e_plain (w_mv rfl rfl rfl rfl rfl (w_mv rfl rfl rfl rfl rfl (w_op rfl rfl rfl (s_call rfl (by kernel_rfl) (cut0_ef gls s c hs) ⟨(kn rfl), ⟨(kn rfl), trivial⟩⟩) (w_op rfl rfl rfl (s_extract rfl (kn rfl) rfl) (w_op rfl rfl rfl (s_extract rfl (kn rfl) rfl) (w_op rfl rfl rfl (s_extract rfl (kn rfl) rfl) (w_as rfl rfl rfl rfl rfl (w_as rfl rfl rfl rfl rfl (w_as rfl rfl rfl rfl rfl .nil))))))))) ?_
  try refine e_fl ?_
  exact e_return rfl rfl (.tmp (kn rfl) (.tmp (kn rfl) (.tmp (kn rfl) (.nil)))) (Imp.refl _) rfl
def headQ (s : List UInt8) : Bool := match s with | 39 :: _ => true | _ => false
def cutQ (s : List UInt8) : List UInt8 := match s with | 39 :: r => r | _ => s
theorem headQ_cons (c : UInt8) (r : List UInt8) : headQ (c :: r) = decide (c = 39) := by
  unfold headQ
  split
  · rename_i h
    injection h with h1 h2
    simp [h1]
  · rename_i h
    have : c ≠ 39 := fun e => h r (by rw [e])
    simp [this]
theorem cutQ_cons (c : UInt8) (r : List UInt8) : cutQ (c :: r) = if c = 39 then r else c :: r := by
  unfold cutQ
  split
  · rename_i h
    injection h with h1 h2
    subst h1 h2
    rfl
  · rename_i h
    have : c ≠ 39 := fun e => h r (by rw [e])
    simp [this]
theorem headQ_take (s : List UInt8) : headQ s = (decide (1 ≤ s.length) && decide (s.take 1 = [39])) := by
  match s with
  | [] => rfl
  | c :: r =>
    rw [headQ_cons]
    simp
theorem cutQ_drop {s : List UInt8} (h : headQ s = true) : s.drop 1 = cutQ s := by
  match s, h with
  | [], h => cases h
  | c :: r, h =>
    rw [headQ_cons] at h
    rw [cutQ_cons, if_pos (of_decide_eq_true h)]
    rfl
theorem cutQ_not {s : List UInt8} (h : headQ s = false) : cutQ s = s := by
  match s with
  | [] => rfl
  | c :: r =>
    rw [headQ_cons] at h
    rw [cutQ_cons, if_neg (of_decide_eq_false h)]
theorem headQ_len {s : List UInt8} (h : headQ s = true) : 1 ≤ s.length := by
  match s, h with
  | [], h => cases h
  | c :: r, _ => simp
set_option maxRecDepth 100000 in
theorem hasq_ef (gls : List (Nat × List Value)) (s : List UInt8) (hs : s.length ≤ 1000000000000) : EF Tryz.prog gls 136 [sP s, sP [39]] (.part (tP (headQ s))) := by
  have he : decide ((1 : Int) ≤ (s.length : Int)) = decide (1 ≤ s.length) := decide_eq_decide.2 (by omega)
  refine ef_enter 18 Tryz.func136 rfl rfl rfl fun w D => ?_
  try refine e_fl ?_
  refine e_plain (w_as rfl rfl rfl rfl rfl .nil) ?_
  try refine e_fl ?_
  refine e_plain (w_mv rfl rfl rfl rfl rfl (w_op rfl rfl rfl (s_slen rfl (kn rfl) str_9) (w_mv rfl rfl rfl rfl rfl (w_op rfl rfl rfl (s_slen rfl (kn rfl) str_9) (w_op rfl rfl rfl (s_bin rfl (kn rfl) (kn rfl) v_geq) (w_mv rfl rfl rfl rfl rfl (Walk.gd _ rfl rfl rfl (fun h => s_move rfl (kn rfl)) (Walk.gd _ rfl rfl rfl (fun h => s_move rfl (kn rfl)) (Walk.gd _ rfl rfl rfl (fun h => s_slen rfl (kn_opt rfl h) str_9) (Walk.gd _ rfl rfl rfl (fun h => s_sslice_to (l := s) (z := 1) rfl (kn_opt rfl h) (kn_opt rfl h) (by have := of_decide_eq_true h; simp at this; omega) str_9) (Walk.gd _ rfl rfl rfl (fun h => s_move rfl (kn rfl)) (Walk.gd _ rfl rfl rfl (fun h => s_bin rfl (kn_opt rfl h) (kn_opt rfl h) (v_seql)) (w_op rfl rfl rfl (s_and rfl (kn rfl) (fun hb => kn_opt rfl hb)) (w_as rfl rfl rfl rfl rfl .nil)))))))))))))) ?_
  try refine e_fl ?_
  exact e_return rfl rfl (.tmp (kn rfl) (.nil)) (Imp.of_eq (by rw [headQ_take, ← he]; simp; rfl)) rfl
set_option maxRecDepth 100000 in
theorem cutq0_ef (gls : List (Nat × List Value)) (s : List UInt8) (hs : s.length ≤ 1000000000000) : EF Tryz.prog gls 119 [sP s, sP [39]] (.tup [sP (cutQ s), tP (headQ s)]) := by
  refine ef_enter 15 Tryz.func119 rfl rfl rfl fun w D => ?_
  try refine e_fl ?_
  refine e_plain (w_as rfl rfl rfl rfl rfl (w_as rfl rfl rfl rfl rfl .nil)) ?_
  try refine e_fl ?_
  refine e_plain (w_mv rfl rfl rfl rfl rfl (w_mv rfl rfl rfl rfl rfl (w_op rfl rfl rfl (s_call rfl (by kernel_rfl) (hasq_ef gls s hs) ⟨(kn rfl), ⟨(kn rfl), trivial⟩⟩) (w_op rfl rfl rfl (s_not rfl (kn rfl)) .nil)))) ?_
  try refine e_fl ?_
  refine e_cond rfl (fun h => ?_) (fun h => ?_)
  · have h1 : headQ s = false := by simpa using h
    try refine e_fl ?_
    refine e_plain (w_mv rfl rfl rfl rfl rfl (w_as rfl rfl rfl rfl rfl (w_as rfl rfl rfl rfl rfl .nil))) ?_
    try refine e_fl ?_
    exact e_return rfl rfl (.tmp (kn rfl) (.tmp (kn rfl) (.nil))) (Imp.of_eq (by rw [h1, cutQ_not h1]; rfl)) rfl
  · have h1 : headQ s = true := by simpa using h
    have hl := headQ_len h1
    try refine e_fl ?_
    refine e_plain (w_mv rfl rfl rfl rfl rfl (w_mv rfl rfl rfl rfl rfl (w_op rfl rfl rfl (s_slen rfl (kn rfl) str_9) (w_op rfl rfl rfl (s_sslice_from (z := 1) rfl (kn rfl) (kn rfl) (by omega) str_9) (w_as rfl rfl rfl rfl rfl (w_as rfl rfl rfl rfl rfl .nil)))))) ?_
    try refine e_fl ?_
    exact e_return rfl rfl (.tmp (kn rfl) (.tmp (kn rfl) (.nil))) (Imp.of_eq (by rw [h1, ← cutQ_drop h1]; rfl)) rfl
set_option maxRecDepth 100000 in
theorem cutq_ef (gls : List (Nat × List Value)) (s : List UInt8) (hs : s.length ≤ 1000000000000) : EF Tryz.prog gls 90 [sP s, sP [39]] (.tup [sP (cutQ s), tP (headQ s)]) := by
  refine ef_enter 11 Tryz.func90 rfl rfl rfl fun w D => ?_
  try refine e_fl ?_
  refine e_plain (w_as rfl rfl rfl rfl rfl (w_as rfl rfl rfl rfl rfl .nil)) ?_
  try refine e_fl ?_
  refine e_plain (w_mv rfl rfl rfl rfl rfl (w_mv rfl rfl rfl rfl rfl (w_op rfl rfl rfl (s_call rfl (by kernel_rfl) (cutq0_ef gls s hs) ⟨(kn rfl), ⟨(kn rfl), trivial⟩⟩) (w_op rfl rfl rfl (s_extract rfl (kn rfl) rfl) (w_op rfl rfl rfl (s_extract rfl (kn rfl) rfl) (w_as rfl rfl rfl rfl rfl (w_as rfl rfl rfl rfl rfl .nil))))))) ?_
  try refine e_fl ?_
  exact e_return rfl rfl (.tmp (kn rfl) (.tmp (kn rfl) (.nil))) (Imp.refl _) rfl
theorem trimQ_lib (s : List UInt8) : trimQ s = Lib.trimSuffix s [39] := by
  have hsuf : Lib.hasSuffix s [39] = decide (s.getLast? = some 39) := by
    unfold Lib.hasSuffix
    rw [Bool.eq_iff_iff, List.isSuffixOf_iff_suffix, decide_eq_true_eq]
    constructor
    · rintro ⟨t, rfl⟩
      simp
    · intro h
      obtain ⟨t, rfl⟩ := List.getLast?_eq_some_iff.1 h
      exact ⟨t, rfl⟩
  unfold trimQ Lib.trimSuffix
  rw [hsuf, List.dropLast_eq_take]
  by_cases h : s.getLast? = some 39
  · rw [if_pos h, if_pos (decide_eq_true h)]
    rfl
  · rw [if_neg h, if_neg (by simpa using h)]
theorem tsuf_ef (gls : List (Nat × List Value)) (s : List UInt8) (hs : s.length ≤ 1000000000000) : EF Tryz.prog gls 92 [sP s, sP [39]] (.part (sP (trimQ s))) := by
  rw [trimQ_lib]
  exact ef_cell [.string (str s), .string (str [39])] (.string (str (Lib.trimSuffix s [39]))) fun w _ => (Tryz.strings_TrimSuffix (str s) (str [39]) w (by rw [strSize]; omega)).mono fun _ _ ⟨h1, h2⟩ => ⟨h1, h2 ▸ Below.refl _ _⟩
theorem sidx_ef (gls : List (Nat × List Value)) (c : UInt8) : EF Tryz.prog gls 120 [sP hexs, .one (.cell (.int .u8 (c.toNat : Int)))] (.part (iP (hidx c))) :=
  ef_cell [.string (str hexs), .int .u8 (c.toNat : Int)] (.int .i64 (hidx c)) fun w _ => (Tryz.strings_IndexByte (str hexs) (c.toNat : Int) w).mono fun _ _ ⟨h1, h2⟩ => ⟨h1.trans (by rw [show ((c.toNat : Int)).toNat.toUInt8 = c by simp]; rfl), h2 ▸ Below.refl _ _⟩
def ds10 : List UInt8 := [48, 49, 50, 51, 52, 53, 54, 55, 56, 57]
theorem ds10_has : ∀ c : UInt8, ds10.contains c = isDig c := fun c => by
  have : ∀ n : _root_.Fin 256, ds10.contains (UInt8.ofNat n.1) = isDig (UInt8.ofNat n.1) := by decide +kernel
  have h := this ⟨c.toNat, UInt8.toNat_lt c⟩
  simpa using h
def asc : List Dat := (Lib.setCells ds10).toList.map .cell
theorem asc_len : asc.length = 256 := by
  unfold asc
  rw [List.length_map, Array.length_toList, Lib.setCells_size]
theorem asc_one : asc.all Dat.isOne = true := by
  unfold asc
  rw [List.all_map, List.all_eq_true]
  intro v hv
  have h := Array.all_eq_true'.1 (Lib.setCells_one ds10) v (by simpa using hv)
  exact h
theorem asc_at (c : UInt8) : ∃ r, asc.drop c.toNat = .cell (.bool (isDig c)) :: r := by
  have hlt := UInt8.toNat_lt c
  have h : asc[c.toNat]? = some (.cell (.bool (isDig c))) := by
    unfold asc
    rw [List.getElem?_map, Array.getElem?_toList, Lib.setCells_eq, Array.getElem?_map, Array.getElem?_range]
    simp only [hlt, if_true, Option.map_some]
    rw [ds10_has]
    simp
  exact ⟨_, drop_cons h⟩
set_option maxRecDepth 100000 in
theorem contains_ef (gls : List (Nat × List Value)) (c : UInt8) : EF Tryz.prog gls 128 [.one (.ptr 145 asc), .one (.cell (.int .u8 (c.toNat : Int)))] (.part (tP (isDig c))) := by
  obtain ⟨r, hr⟩ := asc_at c
  have hlt := UInt8.toNat_lt c
  have ha : (Tryz.prog.arrayLen 145 : Nat) = 256 := by kernel_rfl
  refine ef_enter 10 Tryz.func128 rfl rfl rfl fun w D => ?_
  try refine e_fl ?_
  refine e_plain (w_as rfl rfl rfl rfl rfl .nil) ?_
  try refine e_fl ?_
  refine e_plain (w_mv rfl rfl rfl rfl rfl (w_mv rfl rfl rfl rfl rfl (w_op rfl rfl rfl (s_nil_ref rfl (kn_imp (kn rfl) (Imp.ptr_ref _ _))) (w_op rfl rfl rfl (s_iaddr_refx (k := 1) rfl (kn rfl) (kn rfl) ⟨by omega, by rw [ha]; omega⟩ (by kernel_rfl) (by kernel_rfl) (by rw [Int.toNat_natCast, Nat.mul_one]; exact hr)) (w_op rfl rfl rfl (s_load1_ref rfl (kn rfl) one_4) (w_as rfl rfl rfl rfl rfl .nil)))))) ?_
  try refine e_fl ?_
  exact e_return rfl rfl (.tmp (kn rfl) (.nil)) (Imp.refl _) rfl
abbrev ascB : BL := [(5, ⟨145, bcs asc⟩)]
abbrev YA (s : List UInt8) (y : IV) (B1 : BL) (R1 : RL) : Prop := y = .part (sP s) ∧ B1 = ascB ∧ R1 = []
theorem bcs_bin (ds : List Dat) (b r : List Nat) : (bcs ds).all (·.bin b r) = true := by
  rw [List.all_map, List.all_eq_true]
  intro d _
  rfl
theorem YA.tidy {s : List UInt8} (y : IV) (B1 : BL) (R1 : RL) (h : YA s y B1 R1) : Tidy ascB [] y B1 R1 := by
  obtain ⟨rfl, rfl, rfl⟩ := h
  exact ⟨rfl, rfl, by simp only [binB, List.all_cons, List.all_nil, Bool.and_true]; exact bcs_bin _ _ _, rfl⟩
set_option maxRecDepth 100000 in
theorem tla_eg (gls : List (Nat × List Value)) (s : List UInt8) (hs : s.length ≤ 1000000000000) : EG Tryz.prog gls 115 [.part (sP s), .box 5 0] ascB [] (YA (s.dropWhile isDig)) := by
  refine eg_enter 16 Tryz.func115 rfl rfl rfl fun w D bor mb => ?_
  try refine e_fl ?_
  refine e_plain (w_as rfl rfl rfl rfl rfl .nil) ?_
  try refine e_fl ?_
  refine e_loop (ι := { l : List UInt8 // l.length ≤ s.length ∧ s.dropWhile isDig = l.dropWhile isDig })
    (fun l => [(0, .part (sP l.1)), (1, .box 5 0)])
    (fun _ => ascB) (fun _ => []) (fun l => l.1.length) ⟨s, Nat.le_refl _, rfl⟩
    (fun K => e_sub ⟨s_t, s_t, trivial⟩ ⟨s_b, trivial⟩ trivial) ?_
  rintro ⟨l, hl, hw⟩
  dsimp only at hl hw ⊢
  try refine e_fl ?_
  refine e_plain (w_mv rfl rfl rfl rfl rfl (w_op rfl rfl rfl (s_slen rfl (kn rfl) str_9) (w_op rfl rfl rfl (s_bin rfl (kn rfl) (kn rfl) v_gtr) .nil))) ?_
  try refine e_fl ?_
  refine e_cond rfl (fun h => ?_) (fun h => ?_)
  · obtain ⟨c, r, rfl⟩ : ∃ c r, l = c :: r := by
      cases l with
      | nil => exact absurd (of_decide_eq_true h) (by decide)
      | cons c r => exact ⟨c, r, rfl⟩
    have hlr : (c :: r).length = r.length + 1 := rfl
    try refine e_fl ?_
    refine e_plain (w_mv rfl rfl rfl rfl rfl (w_mv rfl rfl rfl rfl rfl (w_op rfl rfl rfl (s_sindex (l := c :: r) (c := c) rfl (kn rfl) (kn rfl) (by omega) rfl str_9) (w_op rfl rfl rfl (s_show (ps := [.one (.cell (.int .u8 (c.toNat : Int)))]) rfl (by kernel_rfl) (contains_ef _ c) (kn rfl) rfl (shows_data asc) ⟨kn rfl, trivial⟩ (Far.is _)) (w_op rfl rfl rfl (s_not rfl (kn rfl)) .nil))))) ?_
    try refine e_fl ?_
    refine e_cond rfl (fun h1 => ?_) (fun h1 => ?_)
    · have hd : isDig c = false := by simpa using h1
      have e : s.dropWhile isDig = c :: r := by rw [hw, List.dropWhile_cons, hd]; rfl
      try refine e_fl ?_
      refine e_plain (w_mv rfl rfl rfl rfl rfl (w_as rfl rfl rfl rfl rfl .nil)) ?_
      try refine e_fl ?_
      exact e_returnx (ascB) ([]) rfl (.tmp (kn rfl) (.nil)) (Imp.refl _) ⟨s_b, trivial⟩ trivial (⟨by rw [e]; rfl, rfl, rfl⟩)
    · have hd : isDig c = true := by simpa using h1
      try refine e_fl ?_
      refine e_plain (w_mv rfl rfl rfl rfl rfl (w_op rfl rfl rfl (s_sslice_from (l := c :: r) (z := 1) rfl (kn rfl) (kn rfl) (by omega) str_9) (w_as rfl rfl rfl rfl rfl .nil))) ?_
      try refine e_fl ?_
      refine e_again ⟨r, by omega, by rw [hw, List.dropWhile_cons, hd]; rfl⟩ (by dsimp only; omega) (fun K => e_sub ⟨s_t, s_t, trivial⟩ ⟨s_b, trivial⟩ trivial)
  have e : s.dropWhile isDig = [] := by
    cases l with
    | nil => exact hw
    | cons c r => exact absurd (of_decide_eq_false h) (by simp)
  obtain rfl : l = [] := by
    cases l with
    | nil => rfl
    | cons c r => exact absurd (of_decide_eq_false h) (by simp)
  try refine e_fl ?_
  refine e_plain (w_mv rfl rfl rfl rfl rfl (w_as rfl rfl rfl rfl rfl .nil)) ?_
  try refine e_fl ?_
  exact e_returnx (ascB) ([]) rfl (.tmp (kn rfl) (.nil)) (Imp.refl _) ⟨s_b, trivial⟩ trivial (⟨by rw [e]; rfl, rfl, rfl⟩)
theorem zero_asc : zeroT Tryz.prog 145 = some (List.replicate 256 (.bool false)) := by kernel_rfl
theorem mkset_ef (gls : List (Nat × List Value)) : EF Tryz.prog gls 114 [sP ds10] (.tup [.many asc, tP true]) := fun w D us hD hG hp => by
  obtain rfl : us = [.string (str ds10)] := psfit_cells (vs := [.string (str ds10)]) hp
  refine (Tryz.strings_makeASCIISet (fun _ => by kernel_rfl) (str ds10) w (by rw [strSize]; decide) (fun j b hj => ?_)).mono fun e w' ⟨he, hw⟩ => ?_
  · have : ∀ x ∈ ds10, x.toNat < 128 := by decide
    exact this b (List.mem_of_getElem? hj)
  · refine ⟨_, _, he, rfl, hw ▸ (Below.refl _ _).alloc (Nat.le_refl _) _, fun M V => ⟨[.agg (Lib.setCells ds10), .bool true], rfl, ⟨(Lib.setCells ds10).toList, by simp, ?_⟩, .cell _, trivial⟩⟩
    exact fits_cells _ _ _
theorem replicate_is (n : Nat) (v : Value) (hv : v.oneCell' = true) (w : World) (D : Nat → Prop) (M : Nat → Nat) (V : Nat → Value) : CFit w D M V (List.replicate n (.is v)) (List.replicate n v) :=
  ⟨by simp, fun j x u h1 h2 => by
    rw [List.getElem?_replicate] at h1 h2
    split at h1
    · rename_i hj
      rw [if_pos hj] at h2
      obtain rfl := Option.some.inj h1
      obtain rfl := Option.some.inj h2
      exact ⟨Lies.cell _, hv⟩
    · cases h1⟩
theorem replicate_nob (n b : Nat) (v : Value) : (List.replicate n (IV.is v)).all (·.nob b) = true := by
  rw [List.all_eq_true]
  intro x hx
  obtain rfl := List.eq_of_mem_replicate hx
  rfl
set_option maxRecDepth 100000 in
theorem tleft_ef (gls : List (Nat × List Value)) (s : List UInt8) (hs : s.length ≤ 1000000000000) : EF Tryz.prog gls 87 [sP s, sP ds10] (.part (sP (s.dropWhile isDig))) := by
  have h10 : (ds10.length : Int) = 10 := rfl
  refine ef_enter 37 Tryz.func87 rfl rfl rfl fun w D => ?_
  try refine e_fl ?_
  refine e_plain (w_as rfl rfl rfl rfl rfl .nil) ?_
  try refine e_fl ?_
  refine e_plain (w_mv rfl rfl rfl rfl rfl (w_op rfl rfl rfl (s_bin rfl (kn rfl) (kn rfl) (v_seql (b := []))) (w_mv rfl rfl rfl rfl rfl (Walk.gd _ rfl rfl rfl (fun h => s_move rfl (kn rfl)) (Walk.gd _ rfl rfl rfl (fun h => s_bin rfl (kn_opt rfl h) (kn rfl) (v_seql (b := []))) (w_op rfl rfl rfl (s_or rfl (kn rfl) (fun hb => kn_opt rfl hb)) .nil)))))) ?_
  try refine e_fl ?_
  refine e_cond rfl (fun h => ?_) (fun h => ?_)
  · have e : s = [] := by
      have : s = [] ∨ ds10 = [] := by simpa using h
      rcases this with h | h
      · exact h
      · cases h
    try refine e_fl ?_
    refine e_plain (w_mv rfl rfl rfl rfl rfl (w_as rfl rfl rfl rfl rfl .nil)) ?_
    try refine e_fl ?_
    exact e_return rfl rfl (.tmp (kn rfl) (.nil)) (Imp.of_eq (by rw [e]; rfl)) rfl
  try refine e_fl ?_
  refine e_plain (w_mv rfl rfl rfl rfl rfl (w_op rfl rfl rfl (s_slen rfl (kn rfl) str_9) (w_op rfl rfl rfl (s_bin rfl (kn rfl) (kn rfl) v_eql) (w_mv rfl rfl rfl rfl rfl (Walk.gd _ rfl rfl rfl (fun h => s_move rfl (kn rfl)) (Walk.gd _ rfl rfl rfl (fun h => s_sindex (l := ds10) (c := 48) rfl (kn_opt rfl h) (kn rfl) (by omega) rfl str_9) (Walk.gd _ rfl rfl rfl (fun h => s_bin rfl (kn_opt rfl h) (kn rfl) v_lss) (w_op rfl rfl rfl (s_and rfl (kn rfl) (fun hb => kn_opt rfl hb)) .nil)))))))) ?_
  try refine e_fl ?_
  refine e_cond rfl (fun h1 => ?_) (fun h1 => ?_)
  · exfalso
    simp only [Bool.and_eq_true, decide_eq_true_eq] at h1
    omega
  try refine e_fl ?_
  refine e_list ?_
  refine l_mv ?_
  refine l_op (s_call rfl (by kernel_rfl) (mkset_ef _) ⟨(kn rfl), trivial⟩) ?_
  refine l_mv ?_
  refine l_ex ?_
  refine l_ex ?_
  refine e_alloc 5 (List.replicate 256 (.is (.bool false))) rfl rfl rfl rfl zero_asc (replicate_is 256 (.bool false) rfl) rfl rfl rfl (replicate_nob _ _ _) ?_
  refine e_storew rfl rfl rfl (kn rfl) rfl (kn rfl) asc_one (by rw [asc_len, List.length_replicate]; rfl) (by rw [asc_len]; exact sz_145) ?_
  refine l_as ?_
  refine e_nil ?_
  try refine e_fl ?_
  refine e_plain (w_mv rfl rfl rfl rfl rfl .nil) ?_
  try refine e_fl ?_
  refine e_cond rfl (fun h2 => ?_) (fun h2 => ?_)
  · try refine e_fl ?_
    refine e_list ?_
    refine l_mv ?_
    refine e_calli rfl rfl rfl rfl (by kernel_rfl) (tla_eg _ s hs) ⟨rfl, trivial⟩ trivial ⟨(kn rfl), ⟨(kn rfl), trivial⟩⟩ (YA.tidy) ?_
    rintro _ _ _ ⟨rfl, rfl, rfl⟩
    refine l_as ?_
    refine e_nil ?_
    try refine e_fl ?_
    exact e_return rfl rfl (.tmp (kn rfl) (.nil)) (Imp.refl _) rfl
  · cases h2
end Go.Proofs.YtagoikglbifhmaaGreatDoor
namespace Go.Proofs.YtagoikglbifhmaaGreatDoor
open Go.RowKit
structure ErrG (gls : List (Nat × List Value)) : Prop where
  syn : ∃ t p, (2, [.iface t p]) ∈ gls
  ran : ∃ t p, (3, [.iface t p]) ∈ gls
theorem glok_cell {gls : List (Nat × List Value)} {w : World} (h : GlOK gls w) {g : Nat} {v : Value} (hg : (g, [v]) ∈ gls) : w.cell? ⟨g, 0, none⟩ = some v := (h g [v] hg).2 0 v rfl
def BadN (k : IntKind) (y : IV) : Prop := ∃ z t p, y = .tup [.one (.cell (.int k z)), .one (.cell (.iface t p))]
theorem atoi_ok {gls : List (Nat × List Value)} (s : List UInt8) (hs : s.length ≤ 1000000000000) {v : Int} (h : Lib.atoiAll s = .ok v) : EF Tryz.prog gls 117 [sP s] (.tup [iP v, .one (.cell .nilIface)]) :=
  efx_cells [.string (str s)] fun w hG => (Tryz.strconv_Atoi_ok (str s) (by rw [strSize]; omega) v h w).mono fun e w' ⟨h1, h2⟩ => ⟨by
    rcases h2 with rfl | ⟨t, rfl⟩
    · exact Below.refl _ _
    · exact Lib.bytesWorld_below _ _ _, .inr ⟨[.int .i64 v, .nilIface], rfl, h1⟩⟩
theorem atoi_bad {gls : List (Nat × List Value)} (hg : ErrG gls) (s : List UInt8) (hs : s.length ≤ 100000000000000) (h : ∀ v, Lib.atoiAll s ≠ .ok v) : EFx Tryz.prog gls 117 [sP s] (BadN .i64) := by
  obtain ⟨⟨t1, p1, g1⟩, ⟨t2, p2, g2⟩⟩ := hg
  cases e : Lib.atoiAll s with
  | ok v => exact absurd e (h v)
  | range => exact efx_cells [.string (str s)] fun w hG => (Tryz.strconv_Atoi_range (str s) (by rw [strSize]; omega) e _ w (glok_cell hG g2) (.inr ⟨t2, p2, rfl⟩)).mono fun e w' ⟨N, h1, _, _, h2⟩ => ⟨h2, .inr ⟨[_, _], ⟨_, _, _, rfl⟩, h1⟩⟩
  | _ => exact efx_cells [.string (str s)] fun w hG => (Tryz.strconv_Atoi_syntax (str s) (by rw [strSize]; omega) e _ w (glok_cell hG g1) (.inr ⟨t1, p1, rfl⟩)).mono fun e w' ⟨N, h1, _, _, h2⟩ => ⟨h2, .inr ⟨[_, _], ⟨_, _, _, rfl⟩, h1⟩⟩
theorem pu_ok {gls : List (Nat × List Value)} (s : List UInt8) (hs : s.length ≤ 1000000000000) {u : Nat} (h : Lib.parseUintB 64 s = .ok u) : EF Tryz.prog gls 93 [sP s, iP 10, iP 64] (.tup [uP u, .one (.cell .nilIface)]) :=
  efx_cells [.string (str s), .int .i64 10, .int .i64 64] fun w hG => (Tryz.strconv_ParseUint_10_at64_ok (str s) (by rw [strSize]; omega) u h w).mono fun e w' ⟨h1, h2⟩ => ⟨by
    rcases h2 with rfl | rfl
    · exact Below.refl _ _
    · exact Lib.bytesWorld_below _ _ _, .inr ⟨[.int .u64 (u : Int), .nilIface], rfl, h1⟩⟩
theorem pu_bad {gls : List (Nat × List Value)} (hg : ErrG gls) (s : List UInt8) (hs : s.length ≤ 100000000000000) (h : ∀ v, Lib.parseUintB 64 s ≠ .ok v) : EFx Tryz.prog gls 93 [sP s, iP 10, iP 64] (BadN .u64) := by
  obtain ⟨⟨t1, p1, g1⟩, ⟨t2, p2, g2⟩⟩ := hg
  cases e : Lib.parseUintB 64 s with
  | ok v => exact absurd e (h v)
  | range => exact efx_cells [.string (str s), .int .i64 10, .int .i64 64] fun w hG => (Tryz.strconv_ParseUint_10_at64_range (str s) (by rw [strSize]; omega) e _ w (glok_cell hG g2) (.inr ⟨t2, p2, rfl⟩)).mono fun e w' ⟨N, h1, _, _, h2⟩ => ⟨h2, .inr ⟨[_, _], ⟨_, _, _, rfl⟩, h1⟩⟩
  | _ => exact efx_cells [.string (str s), .int .i64 10, .int .i64 64] fun w hG => (Tryz.strconv_ParseUint_10_at64_syntax (str s) (by rw [strSize]; omega) e _ w (glok_cell hG g1) (.inr ⟨t1, p1, rfl⟩)).mono fun e w' ⟨N, h1, _, _, h2⟩ => ⟨h2, .inr ⟨[_, _], ⟨_, _, _, rfl⟩, h1⟩⟩
set_option maxRecDepth 100000 in
theorem numOf_ef {gls : List (Nat × List Value)} (hg : ErrG gls) (s : List UInt8) (hs : s.length ≤ 1000000000000) : EF Tryz.prog gls 88 [sP s] (.part (iP (numOf s))) := by
  by_cases h : ∃ v, Lib.atoiAll s = .ok v
  · obtain ⟨v, hv⟩ := h
    have e : numOf s = v := by unfold numOf; rw [hv]
    refine ef_enter 13 Tryz.func88 rfl rfl rfl fun w D => ?_
    try refine e_fl ?_
    refine e_plain (w_as rfl rfl rfl rfl rfl .nil) ?_
    try refine e_fl ?_
    refine e_plain (w_mv rfl rfl rfl rfl rfl (w_op rfl rfl rfl (s_call rfl (by kernel_rfl) (atoi_ok s hs hv) ⟨(kn rfl), trivial⟩) (w_mv rfl rfl rfl rfl rfl (w_op rfl rfl rfl (s_extract rfl (kn rfl) rfl) (w_op rfl rfl rfl (s_extract rfl (kn rfl) rfl) (w_as rfl rfl rfl rfl rfl (w_as rfl rfl rfl rfl rfl .nil))))))) ?_
    try refine e_fl ?_
    refine e_plain (w_mv rfl rfl rfl rfl rfl (w_op rfl rfl rfl (s_nil_neq rfl (kn rfl) ifc_56) .nil)) ?_
    try refine e_fl ?_
    refine e_cond rfl (fun h => ?_) (fun h => ?_)
    · cases h
    try refine e_fl ?_
    refine e_plain (w_mv rfl rfl rfl rfl rfl (w_as rfl rfl rfl rfl rfl .nil)) ?_
    try refine e_fl ?_
    exact e_return rfl rfl (.tmp (kn rfl) (.nil)) (Imp.of_eq (by rw [e]; rfl)) rfl
  · have e : numOf s = -1 := by
      unfold numOf
      cases q : Lib.atoiAll s with
      | ok v => exact absurd ⟨v, q⟩ h
      | range => rfl
      | _ => rfl
    refine ef_enter 13 Tryz.func88 rfl rfl rfl fun w D => ?_
    try refine e_fl ?_
    refine e_plain (w_as rfl rfl rfl rfl rfl .nil) ?_
    try refine e_fl ?_
    refine e_list ?_
    refine l_mv ?_
    refine e_list_call rfl rfl rfl rfl (by kernel_rfl) (atoi_bad hg s (by omega) (fun v hv => h ⟨v, hv⟩)) ⟨(kn rfl), trivial⟩ ?_
    rintro _ ⟨z, t, p, rfl⟩
    refine l_mv ?_
    refine l_ex ?_
    refine l_ex ?_
    refine l_as ?_
    refine l_as ?_
    refine e_nil ?_
    try refine e_fl ?_
    refine e_plain (w_mv rfl rfl rfl rfl rfl (w_op rfl rfl rfl (s_err_neq rfl (kn rfl) rfl ifc_56) .nil)) ?_
    try refine e_fl ?_
    refine e_cond rfl (fun h => ?_) (fun h => ?_)
    · try refine e_fl ?_
      refine e_plain (w_as rfl rfl rfl rfl rfl .nil) ?_
      try refine e_fl ?_
      exact e_return rfl rfl (.tmp (kn rfl) (.nil)) (Imp.of_eq (by rw [e]; rfl)) rfl
    · cases h
set_option maxRecDepth 100000 in
theorem kstr_ef (gls : List (Nat × List Value)) (s : List UInt8) : EF Tryz.prog gls 80 [sP s] (.part (.many (vd (ktxt s)))) := by
  refine ef_enter 5 Tryz.func80 rfl rfl rfl fun w D => ?_
  try refine e_fl ?_
  refine e_list ?_
  refine e_alloc 2 [.is (.int .i64 0), .is (.int .u64 0), .is (.string ⟨#[]⟩), .is (.slice none 0 0), .is (.string ⟨#[]⟩), .is (.slice none 0 0), .is (.slice none 0 0)] rfl rfl rfl rfl zr_27 (fun w D M V => ⟨rfl, fun j x v h1 h2 => cfit_is _ h1 h2 rfl⟩) rfl rfl rfl rfl ?_
  refine e_nil ?_
  try refine e_fl ?_
  refine e_list ?_
  refine l_mv ?_
  refine l_op (s_build (ds := [_, _, _, .row 8 0 [], _, .row 7 0 [], .row 14 0 []]) [(0, _), (2, _)] rfl ⟨rfl, (kn rfl), ⟨rfl, (kn rfl), trivial⟩⟩ rfl pl_27 zr_27 (fun w D => .cons (.cell _) (.cons (.cell _) (.cons (.cell _) (.cons (.none _ _ _) (.cons (.cell _) (.cons (.none _ _ _) (.cons (.none _ _ _) (.nil _ _)))))))) rfl) ?_
  refine e_storew rfl rfl rfl (kn rfl) rfl (kn rfl) rfl rfl sz_27 ?_
  refine e_nil ?_
  try refine e_fl ?_
  exact e_return rfl rfl (.cell rfl rfl rfl agg_27 sz_27 rfl (.nil)) (Imp.refl _) rfl
set_option maxRecDepth 100000 in
theorem knum_ef (gls : List (Nat × List Value)) (n : Nat) : EF Tryz.prog gls 94 [uP n] (.part (.many (vd (knum n)))) := by
  refine ef_enter 5 Tryz.func94 rfl rfl rfl fun w D => ?_
  try refine e_fl ?_
  refine e_list ?_
  refine e_alloc 2 [.is (.int .i64 0), .is (.int .u64 0), .is (.string ⟨#[]⟩), .is (.slice none 0 0), .is (.string ⟨#[]⟩), .is (.slice none 0 0), .is (.slice none 0 0)] rfl rfl rfl rfl zr_27 (fun w D M V => ⟨rfl, fun j x v h1 h2 => cfit_is _ h1 h2 rfl⟩) rfl rfl rfl rfl ?_
  refine e_nil ?_
  try refine e_fl ?_
  refine e_list ?_
  refine l_mv ?_
  refine l_op (s_build (ds := [_, _, _, .row 8 0 [], _, .row 7 0 [], .row 14 0 []]) [(0, _), (1, _)] rfl ⟨rfl, (kn rfl), ⟨rfl, (kn rfl), trivial⟩⟩ rfl pl_27 zr_27 (fun w D => .cons (.cell _) (.cons (.cell _) (.cons (.cell _) (.cons (.none _ _ _) (.cons (.cell _) (.cons (.none _ _ _) (.cons (.none _ _ _) (.nil _ _)))))))) rfl) ?_
  refine e_storew rfl rfl rfl (kn rfl) rfl (kn rfl) rfl rfl sz_27 ?_
  refine e_nil ?_
  try refine e_fl ?_
  exact e_return rfl rfl (.cell rfl rfl rfl agg_27 sz_27 rfl (.nil)) (Imp.refl _) rfl
theorem unhx_two {l : List UInt8} {k : Nat} {a b : UInt8} (ha : l[k]? = some a) (hb' : l[k + 1]? = some b) : unhx (l.drop k) = hb (hidx a) (hidx b) :: unhx (l.drop (k + 2)) := by
  rw [drop_cons ha, drop_cons hb', unhx]
theorem unhx_end {l : List UInt8} {k : Nat} (h : l.length ≤ k + 1) : unhx (l.drop k) = [] := by
  have h1 : (l.drop k).length ≤ 1 := by rw [List.length_drop]; omega
  revert h1
  cases l.drop k with
  | nil => exact fun _ => rfl
  | cons x m => cases m with
    | nil => exact fun _ => rfl
    | cons y m => intro h; simp at h
set_option maxRecDepth 100000 in
set_option maxHeartbeats 1000000 in
theorem bytesOf_ef (gls : List (Nat × List Value)) (s : List UInt8) (hs : s.length ≤ 1000000000) : EF Tryz.prog gls 91 [sP s] (.part (sP (unhx s))) := by
  refine ef_enter 32 Tryz.func91 rfl rfl rfl fun w D => ?_
  try refine e_fl ?_
  refine e_plain (w_as rfl rfl rfl rfl rfl .nil) ?_
  try refine e_fl ?_
  refine e_plain (w_as rfl rfl rfl rfl rfl .nil) ?_
  try refine e_fl ?_
  refine e_plain (w_as rfl rfl rfl rfl rfl .nil) ?_
  try refine e_fl ?_
  refine e_row_slot 3 100 5 1 rfl rfl rfl ?_
  refine e_loop (ι := { i : List UInt8 × Nat // unhx s = i.1 ++ unhx (s.drop (2 * i.2)) ∧ i.1.length = i.2 ∧ 2 * i.2 ≤ s.length })
    (fun i => [(0, .part (sP s)), (3, .own 100), (4, .is (.int .i64 ((2 * i.1.2 + 1 : Nat) : Int)))])
    (fun _ => []) (fun i => [(100, ⟨5, 1, i.1.1.length, i.1.1.map fun b => .cell (bv b), false⟩)]) (fun i => s.length - 2 * i.1.2) ⟨([], 0), rfl, rfl, by simp⟩
    (fun K => e_sub ⟨s_t, s_t, s_t, trivial⟩ trivial ⟨rfl, trivial⟩) ?_
  rintro ⟨⟨m, k⟩, hw, hm, hk⟩
  dsimp only at hw hm hk ⊢
  try refine e_fl ?_
  refine e_plain (w_mv rfl rfl rfl rfl rfl (w_mv rfl rfl rfl rfl rfl (w_op rfl rfl rfl (s_slen rfl (kn rfl) str_9) (w_op rfl rfl rfl (s_bin rfl (kn rfl) (kn rfl) v_lss) .nil)))) ?_
  try refine e_fl ?_
  refine e_cond rfl (fun h => ?_) (fun h => ?_)
  · have hlt : 2 * k + 1 < s.length := by have := of_decide_eq_true h; omega
    obtain ⟨a, ha⟩ : ∃ a, s[2 * k]? = some a := ⟨_, List.getElem?_eq_getElem (by omega)⟩
    obtain ⟨b, hb'⟩ : ∃ b, s[2 * k + 1]? = some b := ⟨_, List.getElem?_eq_getElem hlt⟩
    have ha' : s[(((2 * k + 1 : Nat) : Int) - 1).toNat]? = some a := by rw [show (((2 * k + 1 : Nat) : Int) - 1).toNat = 2 * k by omega]; exact ha
    have hb'' : s[((2 * k + 1 : Nat) : Int).toNat]? = some b := by rw [Int.toNat_natCast]; exact hb'
    have h2 := unhx_two ha hb'
    have hbt := hb_toNat (hidx a) (hidx b)
    try refine e_fl ?_
    refine e_draw mixed (by kernel_rfl) (w_mv rfl rfl rfl rfl rfl (w_mv rfl rfl rfl rfl rfl (w_op rfl rfl rfl (s_bin rfl (kn rfl) (kn rfl) (v_sub64 (by first | omega | (dsimp only; omega) | omega))) (w_op rfl rfl rfl (s_sindex rfl (kn rfl) (kn rfl) (by omega) ha' str_9) (w_op rfl rfl rfl (s_call rfl (by kernel_rfl) (sidx_ef _ a) ⟨(kn rfl), ⟨(kn rfl), trivial⟩⟩) (w_mv rfl rfl rfl rfl rfl (w_mv rfl rfl rfl rfl rfl (w_op rfl rfl rfl (s_sindex rfl (kn rfl) (kn rfl) (by omega) hb'' str_9) (w_op rfl rfl rfl (s_call rfl (by kernel_rfl) (sidx_ef _ b) ⟨(kn rfl), ⟨(kn rfl), trivial⟩⟩) (w_as rfl rfl rfl rfl rfl (w_as rfl rfl rfl rfl rfl .nil))))))))))) ?_
    try refine e_fl ?_
    refine e_list ?_
    refine l_mv ?_
    refine l_mv ?_
    refine l_op (s_bin rfl (kn rfl) (kn rfl) v_shl4) ?_
    refine l_mv ?_
    refine l_op (s_bin rfl (kn rfl) (kn rfl) v_ork) ?_
    refine l_op (s_convk rfl (kn rfl) (by kernel_rfl) int_5 (by kernel_rfl) rfl) ?_
    refine l_op (s_buildSlice (ds := [_]) [(0, _)] rfl ⟨rfl, (kn rfl), trivial⟩ rfl sl_97 sz_5 zr_5 (fun w D => .cons (.cell _) (.nil _ _)) rfl rfl rfl rfl rfl) ?_
    refine e_append rfl rfl rfl rfl (kn rfl) rfl (kn rfl) sl_97 ap_97 rfl rfl (by first | omega | (dsimp only; omega) | omega) (by first | omega | (dsimp only; omega) | omega) ?_
    refine l_as ?_
    refine e_nil ?_
    try refine e_fl ?_
    refine e_plain (w_mv rfl rfl rfl rfl rfl (w_op rfl rfl rfl (s_bin rfl (kn rfl) (kn rfl) (v_add64 (by first | omega | (dsimp only; omega) | omega))) (w_as rfl rfl rfl rfl rfl .nil))) ?_
    try refine e_fl ?_
    refine e_again ⟨(m ++ [hb (hidx a) (hidx b)], k + 1), by rw [hw, h2]; simp [Nat.mul_add], by simp [hm], by dsimp only; omega⟩ (by dsimp only; omega) (fun K => e_sub ⟨s_t, s_t, ⟨_, rfl, Imp.of_eq (by dsimp only; congr 4)⟩, trivial⟩ trivial ⟨rowEq rfl (by simp) (by rw [List.map_append]; exact congrArg (fun z => List.map (fun b => Dat.cell (bv b)) m ++ [Dat.cell (.int .u8 z)]) hbt.symm), trivial⟩)
  have hu : unhx s = m := by rw [hw, unhx_end (by have := of_decide_eq_false h; omega), List.append_nil]
  try refine e_fl ?_
  refine e_plain (w_mv rfl rfl rfl rfl rfl (w_op rfl rfl rfl (s_ostr rfl (kn rfl) rfl rfl sl_97 int_5 str_9) (w_as rfl rfl rfl rfl rfl .nil))) ?_
  try refine e_fl ?_
  exact e_return rfl rfl (.tmp (kn rfl) (.nil)) (Imp.of_eq (by rw [hu]; rfl)) rfl
set_option maxRecDepth 100000 in
theorem keyOf_ef {gls : List (Nat × List Value)} (hg : ErrG gls) (s : List UInt8) (hs : s.length ≤ 1000000000) : EF Tryz.prog gls 74 [sP s] (.part (.many (vd (keyOf s)))) := by
  have hcl : (cutQ s).length ≤ s.length := by
    unfold cutQ
    split
    · simp
    · exact Nat.le_refl _
  have htl : (trimQ (cutQ s)).length ≤ s.length := by
    unfold trimQ
    split
    · rw [List.length_dropLast]; omega
    · exact hcl
  cases hq : headQ s
  · have hne : ∀ r, s ≠ 39 :: r := fun r e => by rw [e, headQ_cons] at hq; cases hq
    by_cases hnp : ∃ u, Lib.parseUintB 64 s = .ok u
    · obtain ⟨u, hu⟩ := hnp
      have e : keyOf s = knum u := by
        unfold keyOf
        split
        · rename_i r
          exact absurd rfl (hne r)
        · rw [hu]
      refine ef_enter 27 Tryz.func74 rfl rfl rfl fun w D => ?_
      try refine e_fl ?_
      refine e_list ?_
      refine e_alloc 2 [.is (.int .i64 0), .is (.int .u64 0), .is (.string ⟨#[]⟩), .is (.slice none 0 0), .is (.string ⟨#[]⟩), .is (.slice none 0 0), .is (.slice none 0 0)] rfl rfl rfl rfl zr_27 (fun w D M V => ⟨rfl, fun j x v h1 h2 => cfit_is _ h1 h2 rfl⟩) rfl rfl rfl rfl ?_
      refine e_nil ?_
      try refine e_fl ?_
      refine e_plain (w_mv rfl rfl rfl rfl rfl (w_op rfl rfl rfl (s_call rfl (by kernel_rfl) (cutq_ef _ s (by omega)) ⟨(kn rfl), ⟨(kn rfl), trivial⟩⟩) (w_mv rfl rfl rfl rfl rfl (w_op rfl rfl rfl (s_extract rfl (kn rfl) rfl) (w_op rfl rfl rfl (s_extract rfl (kn rfl) rfl) (w_as rfl rfl rfl rfl rfl (w_as rfl rfl rfl rfl rfl .nil))))))) ?_
      try refine e_fl ?_
      refine e_plain (w_mv rfl rfl rfl rfl rfl .nil) ?_
      try refine e_fl ?_
      refine e_cond rfl (fun h => ?_) (fun h => ?_)
      · rw [hq] at h; cases h
      try refine e_fl ?_
      refine e_plain (w_mv rfl rfl rfl rfl rfl (w_op rfl rfl rfl (s_call rfl (by kernel_rfl) (pu_ok s (by omega) hu) ⟨(kn rfl), ⟨(kn rfl), ⟨(kn rfl), trivial⟩⟩⟩) (w_mv rfl rfl rfl rfl rfl (w_op rfl rfl rfl (s_extract rfl (kn rfl) rfl) (w_op rfl rfl rfl (s_extract rfl (kn rfl) rfl) (w_as rfl rfl rfl rfl rfl (w_as rfl rfl rfl rfl rfl .nil))))))) ?_
      try refine e_fl ?_
      refine e_plain (w_mv rfl rfl rfl rfl rfl (w_op rfl rfl rfl (s_nil_neq rfl (kn rfl) ifc_56) .nil)) ?_
      try refine e_fl ?_
      refine e_cond rfl (fun h => ?_) (fun h => ?_)
      · cases h
      try refine e_fl ?_
      refine e_list ?_
      refine l_mv ?_
      refine l_op (s_call rfl (by kernel_rfl) (knum_ef _ u) ⟨(kn rfl), trivial⟩) ?_
      refine e_storew rfl rfl rfl (kn rfl) rfl (kn rfl) rfl rfl sz_27 ?_
      refine e_nil ?_
      try refine e_fl ?_
      exact e_return rfl rfl (.cell rfl rfl rfl agg_27 sz_27 rfl (.nil)) (Imp.of_eq (by rw [e]; rfl)) rfl
    · have e : keyOf s = vnone := by
        unfold keyOf
        split
        · rename_i r
          exact absurd rfl (hne r)
        · cases q : Lib.parseUintB 64 s with
          | ok v => exact absurd ⟨v, q⟩ hnp
          | range => rfl
          | _ => rfl
      refine ef_enter 27 Tryz.func74 rfl rfl rfl fun w D => ?_
      try refine e_fl ?_
      refine e_list ?_
      refine e_alloc 2 [.is (.int .i64 0), .is (.int .u64 0), .is (.string ⟨#[]⟩), .is (.slice none 0 0), .is (.string ⟨#[]⟩), .is (.slice none 0 0), .is (.slice none 0 0)] rfl rfl rfl rfl zr_27 (fun w D M V => ⟨rfl, fun j x v h1 h2 => cfit_is _ h1 h2 rfl⟩) rfl rfl rfl rfl ?_
      refine e_nil ?_
      try refine e_fl ?_
      refine e_plain (w_mv rfl rfl rfl rfl rfl (w_op rfl rfl rfl (s_call rfl (by kernel_rfl) (cutq_ef _ s (by omega)) ⟨(kn rfl), ⟨(kn rfl), trivial⟩⟩) (w_mv rfl rfl rfl rfl rfl (w_op rfl rfl rfl (s_extract rfl (kn rfl) rfl) (w_op rfl rfl rfl (s_extract rfl (kn rfl) rfl) (w_as rfl rfl rfl rfl rfl (w_as rfl rfl rfl rfl rfl .nil))))))) ?_
      try refine e_fl ?_
      refine e_plain (w_mv rfl rfl rfl rfl rfl .nil) ?_
      try refine e_fl ?_
      refine e_cond rfl (fun h => ?_) (fun h => ?_)
      · rw [hq] at h; cases h
      try refine e_fl ?_
      refine e_list ?_
      refine l_mv ?_
      refine e_list_call rfl rfl rfl rfl (by kernel_rfl) (pu_bad hg s (by omega) (fun v hv => hnp ⟨v, hv⟩)) ⟨(kn rfl), ⟨(kn rfl), ⟨(kn rfl), trivial⟩⟩⟩ ?_
      rintro _ ⟨z, t, p, rfl⟩
      refine l_mv ?_
      refine l_ex ?_
      refine l_ex ?_
      refine l_as ?_
      refine l_as ?_
      refine e_nil ?_
      try refine e_fl ?_
      refine e_plain (w_mv rfl rfl rfl rfl rfl (w_op rfl rfl rfl (s_err_neq rfl (kn rfl) rfl ifc_56) .nil)) ?_
      try refine e_fl ?_
      refine e_cond rfl (fun h => ?_) (fun h => ?_)
      · try refine e_fl ?_
        refine e_list ?_
        refine l_op (s_build (ds := [_, _, _, .row 8 0 [], _, .row 7 0 [], .row 14 0 []]) [] rfl trivial rfl pl_27 zr_27 (fun w D => .cons (.cell _) (.cons (.cell _) (.cons (.cell _) (.cons (.none _ _ _) (.cons (.cell _) (.cons (.none _ _ _) (.cons (.none _ _ _) (.nil _ _)))))))) rfl) ?_
        refine e_storew rfl rfl rfl (kn rfl) rfl (kn rfl) rfl rfl sz_27 ?_
        refine e_nil ?_
        try refine e_fl ?_
        exact e_return rfl rfl (.cell rfl rfl rfl agg_27 sz_27 rfl (.nil)) (Imp.of_eq (by rw [e]; rfl)) rfl
      · cases h
  · have e : keyOf s = ktxt (unhx (trimQ (cutQ s))) := by
      match s, hq with
      | [], hq => cases hq
      | c :: r, hq =>
        rw [headQ_cons] at hq
        obtain rfl := of_decide_eq_true hq
        rfl
    refine ef_enter 27 Tryz.func74 rfl rfl rfl fun w D => ?_
    try refine e_fl ?_
    refine e_list ?_
    refine e_alloc 2 [.is (.int .i64 0), .is (.int .u64 0), .is (.string ⟨#[]⟩), .is (.slice none 0 0), .is (.string ⟨#[]⟩), .is (.slice none 0 0), .is (.slice none 0 0)] rfl rfl rfl rfl zr_27 (fun w D M V => ⟨rfl, fun j x v h1 h2 => cfit_is _ h1 h2 rfl⟩) rfl rfl rfl rfl ?_
    refine e_nil ?_
    try refine e_fl ?_
    refine e_plain (w_mv rfl rfl rfl rfl rfl (w_op rfl rfl rfl (s_call rfl (by kernel_rfl) (cutq_ef _ s (by omega)) ⟨(kn rfl), ⟨(kn rfl), trivial⟩⟩) (w_mv rfl rfl rfl rfl rfl (w_op rfl rfl rfl (s_extract rfl (kn rfl) rfl) (w_op rfl rfl rfl (s_extract rfl (kn rfl) rfl) (w_as rfl rfl rfl rfl rfl (w_as rfl rfl rfl rfl rfl .nil))))))) ?_
    try refine e_fl ?_
    refine e_plain (w_mv rfl rfl rfl rfl rfl .nil) ?_
    try refine e_fl ?_
    refine e_cond rfl (fun h => ?_) (fun h => ?_)
    · try refine e_fl ?_
      refine e_list ?_
      refine l_mv ?_
      refine l_op (s_call rfl (by kernel_rfl) (tsuf_ef _ (cutQ s) (by omega)) ⟨(kn rfl), ⟨(kn rfl), trivial⟩⟩) ?_
      refine l_op (s_call rfl (by kernel_rfl) (bytesOf_ef _ (trimQ (cutQ s)) (by omega)) ⟨(kn rfl), trivial⟩) ?_
      refine l_op (s_call rfl (by kernel_rfl) (kstr_ef _ _) ⟨(kn rfl), trivial⟩) ?_
      refine e_storew rfl rfl rfl (kn rfl) rfl (kn rfl) rfl rfl sz_27 ?_
      refine e_nil ?_
      try refine e_fl ?_
      exact e_return rfl rfl (.cell rfl rfl rfl agg_27 sz_27 rfl (.nil)) (Imp.of_eq (by rw [e]; rfl)) rfl
    · rw [hq] at h; cases h
end Go.Proofs.YtagoikglbifhmaaGreatDoor
