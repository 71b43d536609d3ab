/- Part 35 of what the last text of this claim is proved by: walks over the program, and the math behind them. Conditions: as each theorem says. -/
import Derived.Test.YtekeanikgcpijaaGreatDoorSL34
import Derived.Test.YtekeanikgcpijaaGreatDoorProg
namespace Go.Proofs.YtekeanikgcpijaaGreatDoor
open Go.RowKit
theorem flat_mid (M r : List Ty) (y : Ty) : (M ++ y :: r).flatMap Ty.dats = M.flatMap Ty.dats ++ (y.dats ++ r.flatMap Ty.dats) := by
  rw [List.flatMap_append, List.flatMap_cons]
theorem set_ix (M r : List Ty) (y : Ty) (c : Nat) : ((M ++ y :: r).flatMap Ty.dats).set (M.length * 5 + 2) (.cell (.int .i64 (c : Int))) = (M ++ { y with ix := c } :: r).flatMap Ty.dats := by
  have hl : (M.flatMap Ty.dats).length = M.length * 5 := flat_len Ty.dats_len M
  rw [flat_mid, flat_mid, List.set_append, if_neg (by rw [hl]; omega), hl, Nat.add_sub_cancel_left]
  rfl
theorem get_mid (M r : List Ty) (y : Ty) (k : Nat) (hk : k < 5) : ((M ++ y :: r).flatMap Ty.dats)[M.length * 5 + k]? = y.dats[k]? := by
  have hl : (M.flatMap Ty.dats).length = M.length * 5 := flat_len Ty.dats_len M
  rw [flat_mid, List.getElem?_append_right (by rw [hl]; omega), hl, Nat.add_sub_cancel_left, List.getElem?_append_left (by rw [Ty.dats_len]; exact hk)]
theorem part_at {xs : List Ty} {i : Nat} {x : Ty} (h : xs[i]? = some x) : ((xs.flatMap Ty.dats).drop (i * 5)).take 5 = x.dats := flat_part Ty.dats_len xs i x h
theorem cnt_snoc (en : Bool) (L : List Ty) (x : Ty) : cnt en (L ++ [x]) = cnt en L + (if x.en = en then 1 else 0) := by
  unfold cnt
  rw [List.filter_append, List.length_append]
  congr 1
  rw [List.filter_cons]
  by_cases h : x.en = en
  · simp [h]
  · simp [h]
theorem ffind_snoc (x : List UInt8) (L : List Ty) (t : Ty) : ffind x (L ++ [t]) = none ↔ ffind x L = none ∧ t.full ≠ x := by
  rw [ffind_none, ffind_none]
  simp only [List.mem_append, List.mem_singleton]
  exact ⟨fun h => ⟨fun u hu => h u (.inl hu), h t (.inr rfl)⟩, fun h u hu => hu.elim (h.1 u) fun e => e ▸ h.2⟩
mutual
theorem tyM_ix (a : List UInt8) : ∀ (m : Msg) (x : Ty), x ∈ tyM a m → x.ix = 0
  | .mk n f o m e r s l c, x, h => by
    simp only [tyM, List.mem_cons, List.mem_append, List.mem_map] at h
    rcases h with rfl | ⟨y, _, rfl⟩ | h
    · rfl
    · rfl
    · exact tyMs_ix _ m x h
theorem tyMs_ix (a : List UInt8) : ∀ (m : List Msg) (x : Ty), x ∈ tyMs a m → x.ix = 0
  | [], x, h => by cases h
  | k :: m, x, h => by
    simp only [tyMs, List.mem_append] at h
    rcases h with h | h
    · exact tyM_ix a k x h
    · exact tyMs_ix a m x h
end
theorem tyFile_ix (f : Fil) (x : Ty) (h : x ∈ tyFile f) : x.ix = 0 := by
  unfold tyFile tyAll at h
  rcases List.mem_append.1 h with h | h
  · obtain ⟨y, _, rfl⟩ := List.mem_map.1 h
    rfl
  · exact tyMs_ix _ _ x h
abbrev ixT (t : Ty) (c : Nat) : Ty := ⟨t.full, t.en, c, t.line, t.col⟩
theorem set_ix1 {M r : List Ty} {i : Nat} (hM : M.length = i) (y : Ty) (c c' : Nat) (hc : c' = c + 1) : ((M ++ ixT y c :: r).flatMap Ty.dats).set (i * 5 + 2) (.cell (.int .i64 ((c : Int) + 1))) = (M ++ ixT y c' :: r).flatMap Ty.dats := by
  subst hM hc
  exact set_ix M r (ixT y c) (c + 1)
theorem cnt_le (en : Bool) (L : List Ty) : cnt en L ≤ L.length := List.length_filter_le _ _
theorem addAllT_err {L : List Ty} {x : Ty} {xs : List Ty} {e : Nat × Int × Int} (h : addT L x = .error e) : addAllT L (x :: xs) = .error e := by
  rw [addAllT_cons, h]
def rofR (r : Except (Nat × Int × Int) (List Ty)) : IV := match r with | .ok L => .tup [.one (.row 5 L.length (L.flatMap Ty.dats)), iP 0, iP 0, iP 0] | .error (k, l, c) => .tup [.one (.row 5 0 []), iP (if k = 1 then 11 else 3), iP l, iP c]
abbrev rX (n : Nat) (xs : List Ty) : Rw := ⟨48, 5, n, xs.flatMap Ty.dats, false⟩
theorem errImp {k l c : Int} : Imp (.tup [.one (.cell (.slice none 0 0)), iP k, iP l, iP c]) (.tup [.one (.row 5 0 []), iP k, iP l, iP c]) := Imp.tup ⟨DImp.nil 5, PImp.refl _, PImp.refl _, PImp.refl _, trivial⟩
abbrev tyB (x : Ty) : Bx := ⟨48, bcs x.dats⟩
set_option maxRecDepth 100000 in
set_option maxHeartbeats 4000000 in
theorem rof_ef (gls : List (Nat × List Value)) (N : Nat) (hN : N ≤ 1000000) (f : Fil) (hf : FOk N f) (hc : (tyFile f).length ≤ 1000000000) : EF Tryz.prog gls 8 [FQ f] (rofR (table f)) := by
  have hpk := hf.pk
  have hsum : (tyFile f).length = (f.enums.map (tyE (aheadOf f.package))).length + (tyMs (aheadOf f.package) f.msgs).length := List.length_append
  have oe := renums_eo gls N hN f.package (by omega) f.enums hf.fine.2.1 hf.en
  have om := (rmsgs_eo gls N hN 8 f.package f.msgs (by omega) hf.fine.1 (fun k hk => ⟨hf.ms k hk, hf.fine.2.2.2 k hk⟩) (by omega)).ef
  have hfl : (tyFile f).flatMap Ty.dats = (tyVs (f.enums.map (tyE (aheadOf f.package)))).map .cell ++ (tyVs (tyMs (aheadOf f.package) f.msgs)).map .cell := by
    rw [tyVs_dats, tyVs_dats, ← List.flatMap_append]
    rfl
  have hx0 := tyFile_ix f
  have htb : table f = addAllT [] (tyFile f) := rfl
  refine ef_enter 68 Tryz.func8 rfl rfl rfl fun w D => ?_
  try refine e_fl ?_
  refine e_list ?_
  refine e_box 1 rfl rfl rfl rfl (kn rfl) rfl rfl rfl rfl ?_
  refine l_as ?_
  refine l_as ?_
  refine l_as ?_
  refine l_as ?_
  refine e_nil ?_
  try refine e_fl ?_
  refine e_sub (T' := [(1, .box 1 0)]) (B' := [(1, ⟨40, bcs f.dats⟩)]) (R' := []) ⟨s_t, trivial⟩ ⟨s_b, trivial⟩ trivial ?_
  refine e_draw_sr 12 [[], [0], [], [2], [1, 3], [], [5], [], [7], [6, 8, 4], [4, 9, 9], [10, 10, 0, 1, 2, 3, 4, 5, 6, 7, 8, 9, 10]] [[false, false, false, false, false, false, false, false, false, false, false, false], [true, false, false, false, false, false, false, false, false, false, false, false], [false, false, true, false, false, false, false, false, false, false, false, false], [false, false, false, false, false, true, false, false, false, false, false, false], [false, false, false, false, false, false, false, true, false, false, false, false], [true, true, false, false, false, false, false, false, false, false, false, false], [true, false, true, false, false, false, false, false, false, false, false, false], [true, false, false, false, false, true, false, false, false, false, false, false], [true, false, false, false, false, false, false, true, false, false, false, false], [false, false, true, true, false, false, false, false, false, false, false, false], [false, false, true, false, false, true, false, false, false, false, false, false], [false, false, true, false, false, false, false, true, false, false, false, false], [false, false, false, false, false, true, true, false, false, false, false, false], [false, false, false, false, false, true, false, true, false, false, false, false], [false, false, false, false, false, false, false, true, true, false, false, false], [true, true, true, false, false, false, false, false, false, false, false, false], [true, true, false, false, false, true, false, false, false, false, false, false], [true, true, false, false, false, false, false, true, false, false, false, false], [true, false, true, true, false, false, false, false, false, false, false, false], [true, false, true, false, false, true, false, false, false, false, false, false], [true, false, true, false, false, false, false, true, false, false, false, false], [true, false, false, false, false, true, true, false, false, false, false, false], [true, false, false, false, false, true, false, true, false, false, false, false], [true, false, false, false, false, false, false, true, true, false, false, false], [false, false, true, true, false, true, false, false, false, false, false, false], [false, false, true, true, false, false, false, true, false, false, false, false], [false, false, true, false, false, true, true, false, false, false, false, false], [false, false, true, false, false, true, false, true, false, false, false, false], [false, false, true, false, false, false, false, true, true, false, false, false], [false, false, false, false, false, true, true, true, false, false, false, false], [false, false, false, false, false, true, false, true, true, false, false, false], [true, true, true, true, false, false, false, false, false, false, false, false], [true, true, true, false, false, true, false, false, false, false, false, false], [true, true, true, false, false, false, false, true, false, false, false, false], [true, true, false, false, false, true, true, false, false, false, false, false], [true, true, false, false, false, true, false, true, false, false, false, false], [true, true, false, false, false, false, false, true, true, false, false, false], [true, false, true, true, false, true, false, false, false, false, false, false], [true, false, true, true, false, false, false, true, false, false, false, false], [true, false, true, false, false, true, true, false, false, false, false, false], [true, false, true, false, false, true, false, true, false, false, false, false], [true, false, true, false, false, false, false, true, true, false, false, false], [true, false, false, false, false, true, true, true, false, false, false, false], [true, false, false, false, false, true, false, true, true, false, false, false], [false, false, true, true, false, true, true, false, false, false, false, false], [false, false, true, true, false, true, false, true, false, false, false, false], [false, false, true, true, false, false, false, true, true, false, false, false], [false, false, true, false, false, true, true, true, false, false, false, false], [false, false, true, false, false, true, false, true, true, false, false, false], [false, false, false, false, false, true, true, true, true, false, false, false], [true, true, true, true, true, false, false, false, false, false, false, false], [true, true, true, true, false, true, false, false, false, false, false, false], [true, true, true, true, false, false, false, true, false, false, false, false], [true, true, true, false, false, true, true, false, false, false, false, false], [true, true, true, false, false, true, false, true, false, false, false, false], [true, true, true, false, false, false, false, true, true, false, false, false], [true, true, false, false, false, true, true, true, false, false, false, false], [true, true, false, false, false, true, false, true, true, false, false, false], [true, false, true, true, false, true, true, false, false, false, false, false], [true, false, true, true, false, true, false, true, false, false, false, false], [true, false, true, true, false, false, false, true, true, false, false, false], [true, false, true, false, false, true, true, true, false, false, false, false], [true, false, true, false, false, true, false, true, true, false, false, false], [true, false, false, false, false, true, true, true, true, false, false, false], [false, false, true, true, false, true, true, true, false, false, false, false], [false, false, true, true, false, true, false, true, true, false, false, false], [false, false, true, false, false, true, true, true, true, false, false, false], [true, true, true, true, true, true, false, false, false, false, false, false], [true, true, true, true, true, false, false, true, false, false, false, false], [true, true, true, true, false, true, true, false, false, false, false, false], [true, true, true, true, false, true, false, true, false, false, false, false], [true, true, true, true, false, false, false, true, true, false, false, false], [true, true, true, false, false, true, true, true, false, false, false, false], [true, true, true, false, false, true, false, true, true, false, false, false], [true, true, false, false, false, true, true, true, true, false, false, false], [true, false, true, true, false, true, true, true, false, false, false, false], [true, false, true, true, false, true, false, true, true, false, false, false], [true, false, true, false, false, true, true, true, true, false, false, false], [false, false, true, true, false, true, true, true, true, false, false, false], [true, true, true, true, true, true, true, false, false, false, false, false], [true, true, true, true, true, true, false, true, false, false, false, false], [true, true, true, true, true, false, false, true, true, false, false, false], [true, true, true, true, false, true, true, true, false, false, false, false], [true, true, true, true, false, true, false, true, true, false, false, false], [true, true, true, false, false, true, true, true, true, false, false, false], [true, false, true, true, false, true, true, true, true, false, false, false], [true, true, true, true, true, true, true, true, false, false, false, false], [true, true, true, true, true, true, false, true, true, false, false, false], [true, true, true, true, false, true, true, true, true, false, false, false], [true, true, true, true, true, true, true, true, true, false, false, false], [true, true, true, true, true, true, true, true, true, true, false, false], [true, true, true, true, true, true, true, true, true, true, true, false], [true, true, true, true, true, true, true, true, true, true, true, true]] [([false, false, false, false, false, false, false, false, false, false, false, false], 0), ([false, false, false, false, false, false, false, false, false, false, false, false], 2), ([false, false, false, false, false, false, false, false, false, false, false, false], 5), ([false, false, false, false, false, false, false, false, false, false, false, false], 7), ([true, false, false, false, false, false, false, false, false, false, false, false], 1), ([true, false, false, false, false, false, false, false, false, false, false, false], 2), ([true, false, false, false, false, false, false, false, false, false, false, false], 5), ([true, false, false, false, false, false, false, false, false, false, false, false], 7), ([false, false, true, false, false, false, false, false, false, false, false, false], 0), ([false, false, true, false, false, false, false, false, false, false, false, false], 3), ([false, false, true, false, false, false, false, false, false, false, false, false], 5), ([false, false, true, false, false, false, false, false, false, false, false, false], 7), ([false, false, false, false, false, true, false, false, false, false, false, false], 0), ([false, false, false, false, false, true, false, false, false, false, false, false], 2), ([false, false, false, false, false, true, false, false, false, false, false, false], 6), ([false, false, false, false, false, true, false, false, false, false, false, false], 7), ([false, false, false, false, false, false, false, true, false, false, false, false], 0), ([false, false, false, false, false, false, false, true, false, false, false, false], 2), ([false, false, false, false, false, false, false, true, false, false, false, false], 5), ([false, false, false, false, false, false, false, true, false, false, false, false], 8), ([true, true, false, false, false, false, false, false, false, false, false, false], 2), ([true, true, false, false, false, false, false, false, false, false, false, false], 5), ([true, true, false, false, false, false, false, false, false, false, false, false], 7), ([true, false, true, false, false, false, false, false, false, false, false, false], 1), ([true, false, true, false, false, false, false, false, false, false, false, false], 3), ([true, false, true, false, false, false, false, false, false, false, false, false], 5), ([true, false, true, false, false, false, false, false, false, false, false, false], 7), ([true, false, false, false, false, true, false, false, false, false, false, false], 1), ([true, false, false, false, false, true, false, false, false, false, false, false], 2), ([true, false, false, false, false, true, false, false, false, false, false, false], 6), ([true, false, false, false, false, true, false, false, false, false, false, false], 7), ([true, false, false, false, false, false, false, true, false, false, false, false], 1), ([true, false, false, false, false, false, false, true, false, false, false, false], 2), ([true, false, false, false, false, false, false, true, false, false, false, false], 5), ([true, false, false, false, false, false, false, true, false, false, false, false], 8), ([false, false, true, true, false, false, false, false, false, false, false, false], 0), ([false, false, true, true, false, false, false, false, false, false, false, false], 5), ([false, false, true, true, false, false, false, false, false, false, false, false], 7), ([false, false, true, false, false, true, false, false, false, false, false, false], 0), ([false, false, true, false, false, true, false, false, false, false, false, false], 3), ([false, false, true, false, false, true, false, false, false, false, false, false], 6), ([false, false, true, false, false, true, false, false, false, false, false, false], 7), ([false, false, true, false, false, false, false, true, false, false, false, false], 0), ([false, false, true, false, false, false, false, true, false, false, false, false], 3), ([false, false, true, false, false, false, false, true, false, false, false, false], 5), ([false, false, true, false, false, false, false, true, false, false, false, false], 8), ([false, false, false, false, false, true, true, false, false, false, false, false], 0), ([false, false, false, false, false, true, true, false, false, false, false, false], 2), ([false, false, false, false, false, true, true, false, false, false, false, false], 7), ([false, false, false, false, false, true, false, true, false, false, false, false], 0), ([false, false, false, false, false, true, false, true, false, false, false, false], 2), ([false, false, false, false, false, true, false, true, false, false, false, false], 6), ([false, false, false, false, false, true, false, true, false, false, false, false], 8), ([false, false, false, false, false, false, false, true, true, false, false, false], 0), ([false, false, false, false, false, false, false, true, true, false, false, false], 2), ([false, false, false, false, false, false, false, true, true, false, false, false], 5), ([true, true, true, false, false, false, false, false, false, false, false, false], 3), ([true, true, true, false, false, false, false, false, false, false, false, false], 5), ([true, true, true, false, false, false, false, false, false, false, false, false], 7), ([true, true, false, false, false, true, false, false, false, false, false, false], 2), ([true, true, false, false, false, true, false, false, false, false, false, false], 6), ([true, true, false, false, false, true, false, false, false, false, false, false], 7), ([true, true, false, false, false, false, false, true, false, false, false, false], 2), ([true, true, false, false, false, false, false, true, false, false, false, false], 5), ([true, true, false, false, false, false, false, true, false, false, false, false], 8), ([true, false, true, true, false, false, false, false, false, false, false, false], 1), ([true, false, true, true, false, false, false, false, false, false, false, false], 5), ([true, false, true, true, false, false, false, false, false, false, false, false], 7), ([true, false, true, false, false, true, false, false, false, false, false, false], 1), ([true, false, true, false, false, true, false, false, false, false, false, false], 3), ([true, false, true, false, false, true, false, false, false, false, false, false], 6), ([true, false, true, false, false, true, false, false, false, false, false, false], 7), ([true, false, true, false, false, false, false, true, false, false, false, false], 1), ([true, false, true, false, false, false, false, true, false, false, false, false], 3), ([true, false, true, false, false, false, false, true, false, false, false, false], 5), ([true, false, true, false, false, false, false, true, false, false, false, false], 8), ([true, false, false, false, false, true, true, false, false, false, false, false], 1), ([true, false, false, false, false, true, true, false, false, false, false, false], 2), ([true, false, false, false, false, true, true, false, false, false, false, false], 7), ([true, false, false, false, false, true, false, true, false, false, false, false], 1), ([true, false, false, false, false, true, false, true, false, false, false, false], 2), ([true, false, false, false, false, true, false, true, false, false, false, false], 6), ([true, false, false, false, false, true, false, true, false, false, false, false], 8), ([true, false, false, false, false, false, false, true, true, false, false, false], 1), ([true, false, false, false, false, false, false, true, true, false, false, false], 2), ([true, false, false, false, false, false, false, true, true, false, false, false], 5), ([false, false, true, true, false, true, false, false, false, false, false, false], 0), ([false, false, true, true, false, true, false, false, false, false, false, false], 6), ([false, false, true, true, false, true, false, false, false, false, false, false], 7), ([false, false, true, true, false, false, false, true, false, false, false, false], 0), ([false, false, true, true, false, false, false, true, false, false, false, false], 5), ([false, false, true, true, false, false, false, true, false, false, false, false], 8), ([false, false, true, false, false, true, true, false, false, false, false, false], 0), ([false, false, true, false, false, true, true, false, false, false, false, false], 3), ([false, false, true, false, false, true, true, false, false, false, false, false], 7), ([false, false, true, false, false, true, false, true, false, false, false, false], 0), ([false, false, true, false, false, true, false, true, false, false, false, false], 3), ([false, false, true, false, false, true, false, true, false, false, false, false], 6), ([false, false, true, false, false, true, false, true, false, false, false, false], 8), ([false, false, true, false, false, false, false, true, true, false, false, false], 0), ([false, false, true, false, false, false, false, true, true, false, false, false], 3), ([false, false, true, false, false, false, false, true, true, false, false, false], 5), ([false, false, false, false, false, true, true, true, false, false, false, false], 0), ([false, false, false, false, false, true, true, true, false, false, false, false], 2), ([false, false, false, false, false, true, true, true, false, false, false, false], 8), ([false, false, false, false, false, true, false, true, true, false, false, false], 0), ([false, false, false, false, false, true, false, true, true, false, false, false], 2), ([false, false, false, false, false, true, false, true, true, false, false, false], 6), ([true, true, true, true, false, false, false, false, false, false, false, false], 4), ([true, true, true, true, false, false, false, false, false, false, false, false], 5), ([true, true, true, true, false, false, false, false, false, false, false, false], 7), ([true, true, true, false, false, true, false, false, false, false, false, false], 3), ([true, true, true, false, false, true, false, false, false, false, false, false], 6), ([true, true, true, false, false, true, false, false, false, false, false, false], 7), ([true, true, true, false, false, false, false, true, false, false, false, false], 3), ([true, true, true, false, false, false, false, true, false, false, false, false], 5), ([true, true, true, false, false, false, false, true, false, false, false, false], 8), ([true, true, false, false, false, true, true, false, false, false, false, false], 2), ([true, true, false, false, false, true, true, false, false, false, false, false], 7), ([true, true, false, false, false, true, false, true, false, false, false, false], 2), ([true, true, false, false, false, true, false, true, false, false, false, false], 6), ([true, true, false, false, false, true, false, true, false, false, false, false], 8), ([true, true, false, false, false, false, false, true, true, false, false, false], 2), ([true, true, false, false, false, false, false, true, true, false, false, false], 5), ([true, false, true, true, false, true, false, false, false, false, false, false], 1), ([true, false, true, true, false, true, false, false, false, false, false, false], 6), ([true, false, true, true, false, true, false, false, false, false, false, false], 7), ([true, false, true, true, false, false, false, true, false, false, false, false], 1), ([true, false, true, true, false, false, false, true, false, false, false, false], 5), ([true, false, true, true, false, false, false, true, false, false, false, false], 8), ([true, false, true, false, false, true, true, false, false, false, false, false], 1), ([true, false, true, false, false, true, true, false, false, false, false, false], 3), ([true, false, true, false, false, true, true, false, false, false, false, false], 7), ([true, false, true, false, false, true, false, true, false, false, false, false], 1), ([true, false, true, false, false, true, false, true, false, false, false, false], 3), ([true, false, true, false, false, true, false, true, false, false, false, false], 6), ([true, false, true, false, false, true, false, true, false, false, false, false], 8), ([true, false, true, false, false, false, false, true, true, false, false, false], 1), ([true, false, true, false, false, false, false, true, true, false, false, false], 3), ([true, false, true, false, false, false, false, true, true, false, false, false], 5), ([true, false, false, false, false, true, true, true, false, false, false, false], 1), ([true, false, false, false, false, true, true, true, false, false, false, false], 2), ([true, false, false, false, false, true, true, true, false, false, false, false], 8), ([true, false, false, false, false, true, false, true, true, false, false, false], 1), ([true, false, false, false, false, true, false, true, true, false, false, false], 2), ([true, false, false, false, false, true, false, true, true, false, false, false], 6), ([false, false, true, true, false, true, true, false, false, false, false, false], 0), ([false, false, true, true, false, true, true, false, false, false, false, false], 7), ([false, false, true, true, false, true, false, true, false, false, false, false], 0), ([false, false, true, true, false, true, false, true, false, false, false, false], 6), ([false, false, true, true, false, true, false, true, false, false, false, false], 8), ([false, false, true, true, false, false, false, true, true, false, false, false], 0), ([false, false, true, true, false, false, false, true, true, false, false, false], 5), ([false, false, true, false, false, true, true, true, false, false, false, false], 0), ([false, false, true, false, false, true, true, true, false, false, false, false], 3), ([false, false, true, false, false, true, true, true, false, false, false, false], 8), ([false, false, true, false, false, true, false, true, true, false, false, false], 0), ([false, false, true, false, false, true, false, true, true, false, false, false], 3), ([false, false, true, false, false, true, false, true, true, false, false, false], 6), ([false, false, false, false, false, true, true, true, true, false, false, false], 0), ([false, false, false, false, false, true, true, true, true, false, false, false], 2), ([true, true, true, true, true, false, false, false, false, false, false, false], 5), ([true, true, true, true, true, false, false, false, false, false, false, false], 7), ([true, true, true, true, false, true, false, false, false, false, false, false], 4), ([true, true, true, true, false, true, false, false, false, false, false, false], 6), ([true, true, true, true, false, true, false, false, false, false, false, false], 7), ([true, true, true, true, false, false, false, true, false, false, false, false], 4), ([true, true, true, true, false, false, false, true, false, false, false, false], 5), ([true, true, true, true, false, false, false, true, false, false, false, false], 8), ([true, true, true, false, false, true, true, false, false, false, false, false], 3), ([true, true, true, false, false, true, true, false, false, false, false, false], 7), ([true, true, true, false, false, true, false, true, false, false, false, false], 3), ([true, true, true, false, false, true, false, true, false, false, false, false], 6), ([true, true, true, false, false, true, false, true, false, false, false, false], 8), ([true, true, true, false, false, false, false, true, true, false, false, false], 3), ([true, true, true, false, false, false, false, true, true, false, false, false], 5), ([true, true, false, false, false, true, true, true, false, false, false, false], 2), ([true, true, false, false, false, true, true, true, false, false, false, false], 8), ([true, true, false, false, false, true, false, true, true, false, false, false], 2), ([true, true, false, false, false, true, false, true, true, false, false, false], 6), ([true, false, true, true, false, true, true, false, false, false, false, false], 1), ([true, false, true, true, false, true, true, false, false, false, false, false], 7), ([true, false, true, true, false, true, false, true, false, false, false, false], 1), ([true, false, true, true, false, true, false, true, false, false, false, false], 6), ([true, false, true, true, false, true, false, true, false, false, false, false], 8), ([true, false, true, true, false, false, false, true, true, false, false, false], 1), ([true, false, true, true, false, false, false, true, true, false, false, false], 5), ([true, false, true, false, false, true, true, true, false, false, false, false], 1), ([true, false, true, false, false, true, true, true, false, false, false, false], 3), ([true, false, true, false, false, true, true, true, false, false, false, false], 8), ([true, false, true, false, false, true, false, true, true, false, false, false], 1), ([true, false, true, false, false, true, false, true, true, false, false, false], 3), ([true, false, true, false, false, true, false, true, true, false, false, false], 6), ([true, false, false, false, false, true, true, true, true, false, false, false], 1), ([true, false, false, false, false, true, true, true, true, false, false, false], 2), ([false, false, true, true, false, true, true, true, false, false, false, false], 0), ([false, false, true, true, false, true, true, true, false, false, false, false], 8), ([false, false, true, true, false, true, false, true, true, false, false, false], 0), ([false, false, true, true, false, true, false, true, true, false, false, false], 6), ([false, false, true, false, false, true, true, true, true, false, false, false], 0), ([false, false, true, false, false, true, true, true, true, false, false, false], 3), ([true, true, true, true, true, true, false, false, false, false, false, false], 6), ([true, true, true, true, true, true, false, false, false, false, false, false], 7), ([true, true, true, true, true, false, false, true, false, false, false, false], 5), ([true, true, true, true, true, false, false, true, false, false, false, false], 8), ([true, true, true, true, false, true, true, false, false, false, false, false], 4), ([true, true, true, true, false, true, true, false, false, false, false, false], 7), ([true, true, true, true, false, true, false, true, false, false, false, false], 4), ([true, true, true, true, false, true, false, true, false, false, false, false], 6), ([true, true, true, true, false, true, false, true, false, false, false, false], 8), ([true, true, true, true, false, false, false, true, true, false, false, false], 4), ([true, true, true, true, false, false, false, true, true, false, false, false], 5), ([true, true, true, false, false, true, true, true, false, false, false, false], 3), ([true, true, true, false, false, true, true, true, false, false, false, false], 8), ([true, true, true, false, false, true, false, true, true, false, false, false], 3), ([true, true, true, false, false, true, false, true, true, false, false, false], 6), ([true, true, false, false, false, true, true, true, true, false, false, false], 2), ([true, false, true, true, false, true, true, true, false, false, false, false], 1), ([true, false, true, true, false, true, true, true, false, false, false, false], 8), ([true, false, true, true, false, true, false, true, true, false, false, false], 1), ([true, false, true, true, false, true, false, true, true, false, false, false], 6), ([true, false, true, false, false, true, true, true, true, false, false, false], 1), ([true, false, true, false, false, true, true, true, true, false, false, false], 3), ([false, false, true, true, false, true, true, true, true, false, false, false], 0), ([true, true, true, true, true, true, true, false, false, false, false, false], 7), ([true, true, true, true, true, true, false, true, false, false, false, false], 6), ([true, true, true, true, true, true, false, true, false, false, false, false], 8), ([true, true, true, true, true, false, false, true, true, false, false, false], 5), ([true, true, true, true, false, true, true, true, false, false, false, false], 4), ([true, true, true, true, false, true, true, true, false, false, false, false], 8), ([true, true, true, true, false, true, false, true, true, false, false, false], 4), ([true, true, true, true, false, true, false, true, true, false, false, false], 6), ([true, true, true, false, false, true, true, true, true, false, false, false], 3), ([true, false, true, true, false, true, true, true, true, false, false, false], 1), ([true, true, true, true, true, true, true, true, false, false, false, false], 8), ([true, true, true, true, true, true, false, true, true, false, false, false], 6), ([true, true, true, true, false, true, true, true, true, false, false, false], 4), ([true, true, true, true, true, true, true, true, true, false, false, false], 9), ([true, true, true, true, true, true, true, true, true, true, false, false], 10), ([true, true, true, true, true, true, true, true, true, true, true, false], 11)] [(11, 6, .own 100), (10, 21, .own 100), (10, 15, .junk), (0, 11, .box 1 0), (1, 12, .part (sP f.package)), (2, 13, .box 1 2), (3, 14, .part (.one (.row 4 f.enums.length (f.enums.flatMap Enm.dats)))), (4, 15, .own 100), (5, 16, .box 1 0), (6, 17, .part (sP f.package)), (7, 18, .box 1 1), (8, 19, .part (.one (.row 9 f.msgs.length (f.msgs.flatMap Msg.dats)))), (9, 20, .part (.one (.row 5 (tyMs (aheadOf f.package) f.msgs).length ((tyVs (tyMs (aheadOf f.package) f.msgs)).map .cell))))] [] [(10, 100, ⟨48, 5, (f.enums.map (tyE (aheadOf f.package))).length + (tyMs (aheadOf f.package) f.msgs).length, (tyVs (f.enums.map (tyE (aheadOf f.package)))).map .cell ++ (tyVs (tyMs (aheadOf f.package) f.msgs)).map .cell, false⟩), (4, 100, ⟨48, 5, (f.enums.map (tyE (aheadOf f.package))).length, (tyVs (f.enums.map (tyE (aheadOf f.package)))).map .cell, false⟩)] [(1, .box 1 0)] [(1, ⟨40, bcs f.dats⟩)] [] (by kernel_rfl) rfl mixed (by kernel_rfl) (by decide) (fun K h => h) ?_ ?_
  · repeat' first
      | exact trivial
      | refine And.intro ?_ ?_
    all_goals
      intro K hK
      first
        | (refine e_opi (i := 0) rfl (fun h => h) ?_; refine l_op (s_faddr_box rfl (kn rfl) off_40_0) ?_; refine e_nil ?_; refine e_fl ?_; exact e_subR hK (by repeat' first | exact trivial | refine And.intro s_t ?_) (by repeat' first | exact trivial | refine And.intro s_b ?_) (by repeat' first | exact trivial | refine And.intro rfl ?_))
        | (refine e_opi (i := 1) rfl (fun h => h) ?_; refine l_op (s_load1_box rfl (kn rfl) rfl rfl one_9) ?_; refine e_nil ?_; refine e_fl ?_; exact e_subR hK (by repeat' first | exact trivial | refine And.intro s_t ?_) (by repeat' first | exact trivial | refine And.intro s_b ?_) (by repeat' first | exact trivial | refine And.intro rfl ?_))
        | (refine e_opi (i := 2) rfl (fun h => h) ?_; refine l_op (s_faddr_box rfl (kn rfl) off_40_2) ?_; refine e_nil ?_; refine e_fl ?_; exact e_subR hK (by repeat' first | exact trivial | refine And.intro s_t ?_) (by repeat' first | exact trivial | refine And.intro s_b ?_) (by repeat' first | exact trivial | refine And.intro rfl ?_))
        | (refine e_opi (i := 3) rfl (fun h => h) ?_; refine l_op (s_load1_box rfl (kn rfl) rfl rfl one_38) ?_; refine e_nil ?_; refine e_fl ?_; exact e_subR hK (by repeat' first | exact trivial | refine And.intro s_t ?_) (by repeat' first | exact trivial | refine And.intro s_b ?_) (by repeat' first | exact trivial | refine And.intro rfl ?_))
        | (refine e_opi (i := 4) rfl (fun h => h) ?_; refine e_call_eo 100 rfl rfl rfl rfl (by kernel_rfl) oe ⟨kn rfl, kn rfl, trivial⟩ rfl rfl ?_ rfl; refine e_nil ?_; refine e_fl ?_; exact e_subR hK (by repeat' first | exact trivial | refine And.intro s_t ?_) (by repeat' first | exact trivial | refine And.intro s_b ?_) (by repeat' first | exact trivial | refine And.intro rfl ?_))
        | (refine e_opi (i := 5) rfl (fun h => h) ?_; refine l_op (s_faddr_box rfl (kn rfl) off_40_0) ?_; refine e_nil ?_; refine e_fl ?_; exact e_subR hK (by repeat' first | exact trivial | refine And.intro s_t ?_) (by repeat' first | exact trivial | refine And.intro s_b ?_) (by repeat' first | exact trivial | refine And.intro rfl ?_))
        | (refine e_opi (i := 6) rfl (fun h => h) ?_; refine l_op (s_load1_box rfl (kn rfl) rfl rfl one_9) ?_; refine e_nil ?_; refine e_fl ?_; exact e_subR hK (by repeat' first | exact trivial | refine And.intro s_t ?_) (by repeat' first | exact trivial | refine And.intro s_b ?_) (by repeat' first | exact trivial | refine And.intro rfl ?_))
        | (refine e_opi (i := 7) rfl (fun h => h) ?_; refine l_op (s_faddr_box rfl (kn rfl) off_40_1) ?_; refine e_nil ?_; refine e_fl ?_; exact e_subR hK (by repeat' first | exact trivial | refine And.intro s_t ?_) (by repeat' first | exact trivial | refine And.intro s_b ?_) (by repeat' first | exact trivial | refine And.intro rfl ?_))
        | (refine e_opi (i := 8) rfl (fun h => h) ?_; refine l_op (s_load1_box rfl (kn rfl) rfl rfl one_37) ?_; refine e_nil ?_; refine e_fl ?_; exact e_subR hK (by repeat' first | exact trivial | refine And.intro s_t ?_) (by repeat' first | exact trivial | refine And.intro s_b ?_) (by repeat' first | exact trivial | refine And.intro rfl ?_))
        | (refine e_opi (i := 9) rfl (fun h => h) ?_; refine l_op (s_call rfl (by kernel_rfl) (om) ⟨(kn rfl), ⟨(kn rfl), trivial⟩⟩) ?_; refine e_nil ?_; refine e_fl ?_; exact e_subR hK (by repeat' first | exact trivial | refine And.intro s_t ?_) (by repeat' first | exact trivial | refine And.intro s_b ?_) (by repeat' first | exact trivial | refine And.intro rfl ?_))
        | (refine e_opi (i := 10) rfl (fun h => h) ?_; refine e_append rfl rfl rfl rfl (kn rfl) rfl (kn rfl) sl_34 ap_34 rfl (cells_one _) (by first | omega | (dsimp only; omega) | omega) (by first | omega | (dsimp only; omega) | omega) ?_; refine e_nil ?_; refine e_fl ?_; exact e_subR hK (by repeat' first | exact trivial | refine And.intro s_t ?_) (by repeat' first | exact trivial | refine And.intro s_b ?_) (by repeat' first | exact trivial | refine And.intro rfl ?_))
        | (refine e_opi (i := 11) rfl (fun h => h) ?_; refine l_as ?_; refine e_nil ?_; refine e_fl ?_; exact e_subR hK (by repeat' first | exact trivial | refine And.intro s_t ?_) (by repeat' first | exact trivial | refine And.intro s_b ?_) (by repeat' first | exact trivial | refine And.intro rfl ?_))
  refine e_sub (T' := [(6, .own 100)]) (B' := []) (R' := [(100, rX (tyFile f).length (tyFile f))]) ⟨s_t, trivial⟩ trivial ⟨rowEq rfl hsum.symm hfl.symm, trivial⟩ ?_
  clear hfl oe om hsum
  generalize hX : tyFile f = X at hc hx0 htb
  clear hX
  generalize table f = tb at htb
  clear hpk hf
  try refine e_fl ?_
  refine e_plain (w_mv rfl rfl rfl rfl rfl (w_op rfl rfl rfl (s_len_own rfl (kn rfl) rfl sle_34) (w_mv rfl rfl rfl rfl rfl .nil))) ?_
  try refine e_fl ?_
  refine e_loop (ι := { i : Nat × List Ty // i.1 ≤ X.length ∧ i.2.length = i.1 ∧ TbOk i.2 ∧ tb = addAllT i.2 (X.drop i.1) })
    (fun i => [(6, .own 100), (22, .own 100), (23, .is (.int .i64 (X.length : Int))), (24, .is (.int .i64 (i.1.1 : Int)))])
    (fun _ => []) (fun i => [(100, rX X.length (i.1.2 ++ X.drop i.1.1))]) (fun i => X.length - i.1.1)
    ⟨(0, []), by dsimp only; omega, rfl, ⟨List.nodup_nil, by simp⟩, htb⟩
    (fun K => e_sub ⟨s_t, s_t, s_t, s_t, trivial⟩ trivial ⟨rfl, trivial⟩) ?_
  rintro ⟨⟨i, M⟩, hi, hMl, hM, hinv⟩
  dsimp only at hi hMl hM hinv ⊢
  try refine e_fl ?_
  refine e_plain (w_op rfl rfl rfl (s_bin rfl (kn rfl) (kn rfl) v_lss) .nil) ?_
  try refine e_fl ?_
  refine e_cond rfl (fun h => ?_) (fun h => ?_)
  · have hlt : i < X.length := by have := of_decide_eq_true h; omega
    obtain ⟨t, ht⟩ : ∃ t, X[i]? = some t := ⟨_, List.getElem?_eq_getElem hlt⟩
    have ht0 : t = ixT t 0 := by
      have := hx0 t (List.mem_of_getElem? ht)
      cases t
      dsimp only at this
      subst this
      rfl
    rw [drop_cons ht] at hinv ⊢
    have hat : (M ++ t :: X.drop (i + 1))[i]? = some t := by
      rw [← hMl, List.getElem?_append_right (Nat.le_refl _), Nat.sub_self]
      rfl
    have hlen : (M ++ t :: X.drop (i + 1)).length = X.length := by
      rw [List.length_append, List.length_cons, List.length_drop]
      omega
    try refine e_fl ?_
    refine e_list ?_
    refine l_mv ?_
    refine l_op (s_own_addr (z := (i : Int)) rfl (kn rfl) rfl (kn rfl) (by omega) sle_34 esz_34) ?_
    refine l_op (s_via_loadk (m := 5) (es := t.dats) rfl (kn rfl) rfl (part_at hat) (by rw [flat_len Ty.dats_len, hlen]; show i * 5 + 5 ≤ _; omega) agg_48 sz_48) ?_
    refine e_alloc 8 [.is (.string ⟨#[]⟩), .is (.bool false), .is (.int .i64 0), .is (.int .i64 0), .is (.int .i64 0)] rfl rfl rfl rfl zr_48 (fun w D M V => ⟨rfl, fun j x v h1 h2 => cfit_is _ h1 h2 rfl⟩) rfl rfl rfl rfl ?_
    refine l_as ?_
    refine e_storew rfl rfl rfl (kn rfl) rfl (kn rfl) rfl rfl sz_48 ?_
    refine e_nil ?_
    try refine e_fl ?_
    refine e_plain (w_mv rfl rfl rfl rfl rfl (w_mv rfl rfl rfl rfl rfl (w_op rfl rfl rfl (s_own_to (z := (i : Int)) rfl (kn rfl) rfl (kn rfl) (by omega) sle_34 esz_34) (w_op rfl rfl rfl (s_len_sub rfl (kn rfl) sle_34) (w_mv rfl rfl rfl rfl rfl .nil))))) ?_
    try refine e_fl ?_
    refine e_loop (ι := { j : Nat // j ≤ i ∧ ffind t.full (M.take j) = none })
      (fun j => [(6, .own 100), (7, .is (.int .i64 (i : Int))), (8, .box 8 0), (22, .own 100), (23, .is (.int .i64 (X.length : Int))), (24, .is (.int .i64 (i : Int))), (31, .via 100 (SubV 0 i)), (32, .is (.int .i64 (i : Int))), (33, .is (.int .i64 (j.1 : Int)))])
      (fun _ => [(8, tyB t)]) (fun j => [(100, rX X.length (M ++ ixT t (cnt t.en (M.take j.1)) :: X.drop (i + 1)))]) (fun j => i - j.1)
      ⟨0, by omega, rfl⟩
      (fun K => e_sub ⟨s_t, s_t, s_t, s_t, s_t, s_t, s_t, s_t, s_t, trivial⟩ ⟨s_b, trivial⟩ ⟨rowEq rfl rfl (by show _ = (M ++ ixT t 0 :: X.drop (i + 1)).flatMap Ty.dats; rw [← ht0]), trivial⟩) ?_
    rintro ⟨j, hj, hno⟩
    dsimp only at hj hno ⊢
    have hcl := cnt_le t.en (M.take j)
    rw [List.length_take] at hcl
    have hlen2 : (M ++ ixT t (cnt t.en (M.take j)) :: X.drop (i + 1)).length = X.length := by
      rw [List.length_append, List.length_cons, List.length_drop]
      omega
    try refine e_fl ?_
    refine e_plain (w_op rfl rfl rfl (s_bin rfl (kn rfl) (kn rfl) v_lss) .nil) ?_
    try refine e_fl ?_
    refine e_cond rfl (fun h2 => ?_) (fun h2 => ?_)
    · have hjl : j < i := by have := of_decide_eq_true h2; omega
      obtain ⟨u, hu⟩ : ∃ u, M[j]? = some u := ⟨_, List.getElem?_eq_getElem (by omega)⟩
      have htk : M.take (j + 1) = M.take j ++ [u] := by rw [List.take_add_one, hu]; rfl
      have hcs := cnt_snoc t.en (M.take j) u
      rw [← htk] at hcs
      have hat2 : (M ++ ixT t (cnt t.en (M.take j)) :: X.drop (i + 1))[j]? = some u := by
        rw [List.getElem?_append_left (by omega)]
        exact hu
      have hmid := get_mid M (X.drop (i + 1)) (ixT t (cnt t.en (M.take j))) 2 (by omega)
      rw [hMl] at hmid
      have hset := set_ix1 (r := X.drop (i + 1)) hMl t (cnt t.en (M.take j))
      try refine e_fl ?_
      refine e_list ?_
      refine l_op (s_sub_addr (z := (j : Int)) rfl (kn rfl) (kn rfl) (by omega) sle_34 esz_34) ?_
      refine l_op (s_via_loadk (m := 5) (es := u.dats) rfl (kn rfl) rfl (by rw [Nat.zero_add]; exact part_at hat2) (by rw [flat_len Ty.dats_len, hlen2]; show 0 + j * 5 + 5 ≤ _; omega) agg_48 sz_48) ?_
      refine e_alloc 10 [.is (.string ⟨#[]⟩), .is (.bool false), .is (.int .i64 0), .is (.int .i64 0), .is (.int .i64 0)] rfl rfl rfl rfl zr_48 (fun w D M V => ⟨rfl, fun j x v h1 h2 => cfit_is _ h1 h2 rfl⟩) rfl rfl rfl rfl ?_
      refine e_storew rfl rfl rfl (kn rfl) rfl (kn rfl) rfl rfl sz_48 ?_
      refine e_nil ?_
      try refine e_fl ?_
      refine e_plain (w_op rfl rfl rfl (s_faddr_box rfl (kn rfl) off_48_1) (w_op rfl rfl rfl (s_load1_box rfl (kn rfl) rfl rfl one_4) (w_op rfl rfl rfl (s_faddr_box rfl (kn rfl) off_48_1) (w_op rfl rfl rfl (s_load1_box rfl (kn rfl) rfl rfl one_4) (w_op rfl rfl rfl (s_bin rfl (kn rfl) (kn rfl) (v_beq bool_4)) .nil))))) ?_
      try refine e_fl ?_
      refine e_cond rfl (fun h3 => ?_) (fun h3 => ?_)
      · rw [if_pos (by simpa using h3)] at hcs
        try refine e_fl ?_
        refine e_list ?_
        refine l_mv ?_
        refine l_mv ?_
        refine l_op (s_own_addr (z := (i : Int)) rfl (kn rfl) rfl (kn rfl) (by omega) sle_34 esz_34) ?_
        refine l_op (s_via_faddr rfl (kn rfl) off_48_2) ?_
        refine l_op (s_via_load1 (d := .cell (.int .i64 (cnt t.en (M.take j) : Int))) rfl (kn rfl) rfl hmid one_3) ?_
        refine l_op (s_bin rfl (kn rfl) (kn rfl) (v_add64 (by first | omega | (dsimp only; omega) | omega))) ?_
        refine e_row_set (ix := i) rfl rfl rfl rfl (kn rfl) rfl (kn rfl) (by omega) sle_34 esz_34 rfl rfl rfl rfl off_48_2 (by omega) rfl rfl rfl (kn rfl) rfl sz_3 (hset _ hcs) ?_ rfl
        skip
        skip
        refine e_nil ?_
        try refine e_fl ?_
        try refine e_fl ?_
        refine e_plain (w_op rfl rfl rfl (s_faddr_box rfl (kn rfl) off_48_0) (w_op rfl rfl rfl (s_load1_box rfl (kn rfl) rfl rfl one_9) (w_op rfl rfl rfl (s_faddr_box rfl (kn rfl) off_48_0) (w_op rfl rfl rfl (s_load1_box rfl (kn rfl) rfl rfl one_9) (w_op rfl rfl rfl (s_bin rfl (kn rfl) (kn rfl) (v_seql)) .nil))))) ?_
        try refine e_fl ?_
        refine e_cond rfl (fun h4 => ?_) (fun h4 => ?_)
        · have hsome : (ffind t.full M).isSome = true := by
            cases hfd : ffind t.full M with
            | some _ => rfl
            | none => exact absurd (of_decide_eq_true h4) ((ffind_none.1 hfd) u (List.mem_of_getElem? hu))
          have he : addT M t = .error (1, t.line, t.col) := by
            unfold addT
            rw [if_pos hsome]
          rw [hinv, addAllT_err he]
          try refine e_fl ?_
          refine e_draw mixed (by kernel_rfl) (w_op rfl rfl rfl (s_faddr_box rfl (kn rfl) off_48_3) (w_op rfl rfl rfl (s_load1_box rfl (kn rfl) rfl rfl one_3) (w_op rfl rfl rfl (s_faddr_box rfl (kn rfl) off_48_4) (w_op rfl rfl rfl (s_load1_box rfl (kn rfl) rfl rfl one_3) (w_as rfl rfl rfl rfl rfl (w_as rfl rfl rfl rfl rfl (w_as rfl rfl rfl rfl rfl (w_as rfl rfl rfl rfl rfl .nil)))))))) ?_
          try refine e_fl ?_
          exact e_return rfl rfl (.tmp (kn rfl) (.tmp (kn rfl) (.tmp (kn rfl) (.tmp (kn rfl) (.nil))))) (errImp) rfl
        · have hno2 : ffind t.full (M.take (j + 1)) = none := by
            rw [htk, ffind_snoc]
            exact ⟨hno, of_decide_eq_false h4⟩
          try refine e_fl ?_
          refine e_plain (w_op rfl rfl rfl (s_bin rfl (kn rfl) (kn rfl) (v_add64 (by first | omega | (dsimp only; omega) | omega))) (w_mv rfl rfl rfl rfl rfl .nil)) ?_
          try refine e_fl ?_
          refine e_again ⟨j + 1, by omega, hno2⟩ (by dsimp only; omega) (fun K => e_sub ⟨s_t, s_t, s_t, s_t, s_t, s_t, s_t, s_t, s_t, trivial⟩ ⟨s_b, trivial⟩ ⟨rowEq rfl rfl (by simp only [hcs, Nat.add_zero]), trivial⟩)
      · rw [if_neg (by simpa using h3), Nat.add_zero] at hcs
        try refine e_fl ?_
        try refine e_fl ?_
        refine e_plain (w_op rfl rfl rfl (s_faddr_box rfl (kn rfl) off_48_0) (w_op rfl rfl rfl (s_load1_box rfl (kn rfl) rfl rfl one_9) (w_op rfl rfl rfl (s_faddr_box rfl (kn rfl) off_48_0) (w_op rfl rfl rfl (s_load1_box rfl (kn rfl) rfl rfl one_9) (w_op rfl rfl rfl (s_bin rfl (kn rfl) (kn rfl) (v_seql)) .nil))))) ?_
        try refine e_fl ?_
        refine e_cond rfl (fun h4 => ?_) (fun h4 => ?_)
        · have hsome : (ffind t.full M).isSome = true := by
            cases hfd : ffind t.full M with
            | some _ => rfl
            | none => exact absurd (of_decide_eq_true h4) ((ffind_none.1 hfd) u (List.mem_of_getElem? hu))
          have he : addT M t = .error (1, t.line, t.col) := by
            unfold addT
            rw [if_pos hsome]
          rw [hinv, addAllT_err he]
          try refine e_fl ?_
          refine e_draw mixed (by kernel_rfl) (w_op rfl rfl rfl (s_faddr_box rfl (kn rfl) off_48_3) (w_op rfl rfl rfl (s_load1_box rfl (kn rfl) rfl rfl one_3) (w_op rfl rfl rfl (s_faddr_box rfl (kn rfl) off_48_4) (w_op rfl rfl rfl (s_load1_box rfl (kn rfl) rfl rfl one_3) (w_as rfl rfl rfl rfl rfl (w_as rfl rfl rfl rfl rfl (w_as rfl rfl rfl rfl rfl (w_as rfl rfl rfl rfl rfl .nil)))))))) ?_
          try refine e_fl ?_
          exact e_return rfl rfl (.tmp (kn rfl) (.tmp (kn rfl) (.tmp (kn rfl) (.tmp (kn rfl) (.nil))))) (errImp) rfl
        · have hno2 : ffind t.full (M.take (j + 1)) = none := by
            rw [htk, ffind_snoc]
            exact ⟨hno, of_decide_eq_false h4⟩
          try refine e_fl ?_
          refine e_plain (w_op rfl rfl rfl (s_bin rfl (kn rfl) (kn rfl) (v_add64 (by first | omega | (dsimp only; omega) | omega))) (w_mv rfl rfl rfl rfl rfl .nil)) ?_
          try refine e_fl ?_
          refine e_again ⟨j + 1, by omega, hno2⟩ (by dsimp only; omega) (fun K => e_sub ⟨s_t, s_t, s_t, s_t, s_t, s_t, s_t, s_t, s_t, trivial⟩ ⟨s_b, trivial⟩ ⟨rowEq rfl rfl (by simp only [hcs, Nat.add_zero]), trivial⟩)
    · obtain rfl : j = i := by have := of_decide_eq_false h2; omega
      rw [List.take_of_length_le (by omega)] at hno ⊢
      try refine e_fl ?_
      refine e_plain (w_mv rfl rfl rfl rfl rfl (w_op rfl rfl rfl (s_bin rfl (kn rfl) (kn rfl) v_geq) .nil)) ?_
      try refine e_fl ?_
      refine e_cond rfl (fun h3 => ?_) (fun h3 => ?_)
      · have h40 : M.length = 40 := by have := of_decide_eq_true h3; have := hM.2; omega
        have he : addT M t = .error (2, t.line, t.col) := by
          unfold addT
          rw [hno, if_neg (by decide), if_pos h40]
        rw [hinv, addAllT_err he]
        try refine e_fl ?_
        refine e_draw mixed (by kernel_rfl) (w_op rfl rfl rfl (s_faddr_box rfl (kn rfl) off_48_3) (w_op rfl rfl rfl (s_load1_box rfl (kn rfl) rfl rfl one_3) (w_op rfl rfl rfl (s_faddr_box rfl (kn rfl) off_48_4) (w_op rfl rfl rfl (s_load1_box rfl (kn rfl) rfl rfl one_3) (w_as rfl rfl rfl rfl rfl (w_as rfl rfl rfl rfl rfl (w_as rfl rfl rfl rfl rfl (w_as rfl rfl rfl rfl rfl .nil)))))))) ?_
        try refine e_fl ?_
        exact e_return rfl rfl (.tmp (kn rfl) (.tmp (kn rfl) (.tmp (kn rfl) (.tmp (kn rfl) (.nil))))) (errImp) rfl
      · have h40 : ¬ M.length = 40 := by have := of_decide_eq_false h3; omega
        have he : addT M t = .ok (M ++ [ixT t (cnt t.en M)]) := by
          unfold addT
          rw [hno, if_neg (by decide), if_neg h40]
        rw [addAllT_cons, he] at hinv
        try refine e_fl ?_
        refine e_plain (w_op rfl rfl rfl (s_bin rfl (kn rfl) (kn rfl) (v_add64 (by first | omega | (dsimp only; omega) | omega))) (w_mv rfl rfl rfl rfl rfl .nil)) ?_
        try refine e_fl ?_
        refine e_again ⟨(j + 1, M ++ [ixT t (cnt t.en M)]), by dsimp only; omega, by dsimp only; rw [List.length_append]; simp; exact hMl, (addT_ok hM he).1, hinv⟩ (by dsimp only; omega) (fun K => e_sub ⟨s_t, s_t, s_t, s_t, trivial⟩ trivial ⟨rowEq rfl rfl (by dsimp only; rw [List.append_assoc]; rfl), trivial⟩)
  · obtain rfl : i = X.length := by have := of_decide_eq_false h; omega
    rw [List.drop_length] at hinv ⊢
    rw [List.append_nil]
    rw [hinv]
    try refine e_fl ?_
    refine e_plain (w_mv rfl rfl rfl rfl rfl (w_as rfl rfl rfl rfl rfl (w_as rfl rfl rfl rfl rfl (w_as rfl rfl rfl rfl rfl (w_as rfl rfl rfl rfl rfl .nil))))) ?_
    try refine e_fl ?_
    refine e_freeze_slot 2 100 rfl rfl rfl ?_
    exact e_return rfl rfl (.tmp (kn rfl) (.tmp (kn rfl) (.tmp (kn rfl) (.tmp (kn rfl) (.nil))))) (Imp.of_eq (by rw [← hMl]; rfl)) rfl
end Go.Proofs.YtekeanikgcpijaaGreatDoor
