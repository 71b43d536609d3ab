/- The contract of lexer.Split: all tokens of a text, or what is wrong, and where. Conditions: the errors' variables hold what the program's text lays. -/
import Derived.Test.YtgpihhigajmldaaDoorProg
import Derived.Test.YtgpihhigajmldaaDoorLexFirst
import Derived.Test.YtgpihhigajmldaaDoorLexBehind
import Derived.Test.YtgpihhigajmldaaDoorRowk
import Derived.RegionTactic
import Derived.ChangeAlike
namespace Go.Proofs.YtgpihhigajmldaaDoor
open Go.RowKit

/-- A token with its place, as cells. -/
def tokRow (l : List UInt8) (x : Tok × Nat) : List Value := tokCells x.1 (placeAt l x.2).1 (placeAt l x.2).2
theorem tokRow_len (l : List UInt8) (ts : List (Tok × Nat)) : ∀ r ∈ ts.map (tokRow l), r.length = 5 := fun r hr => by
  obtain ⟨x, _, rfl⟩ := List.mem_map.1 hr
  rfl
abbrev tF : TypeId := 37
/-- What Split answers where the text's tokens are these. -/
def SplitR (w : World) (A : Nat → Addr) (l : List UInt8) (ts : List (Tok × Nat)) (b ea : Nat) (e : Ending) (w' : World) : Prop :=
  Below w.heap.size w w' ∧ ((b = 0 ∧ ∃ v, e = .returned (.tuple #[v, .nilIface]) ∧ w'.ownsRow w.heap.size 34 5 v (ts.map (tokRow l)).length (ts.map (tokRow l)).flatten) ∨
    (b ≠ 0 ∧ ∃ g, e = .returned (.tuple #[.slice none 0 0, .iface tF (.pointer (some ⟨g, 0, none⟩))]) ∧ w.heap.size ≤ g ∧ Blk w' g 40 [.int .i64 ((placeAt l ea).1 : Int), .int .i64 ((placeAt l ea).2 : Int), errOf A b]))

theorem ltoken_k {k : Nat} {p : List UInt8} (h : (ltoken k p).2 = 0) : (ltoken k p).1.k = k := by
  unfold ltoken at h ⊢
  split
  · rename_i h1; exact h1.symm
  rename_i h1
  rw [if_neg h1] at h
  split
  · rename_i h2
    rw [if_pos h2] at h
    split
    · rename_i h3; rw [if_pos h3] at h; cases h
    · exact h2.symm
  rename_i h2
  rw [if_neg h2] at h
  split
  · rename_i h3
    rw [if_pos h3] at h
    split
    · exact h3.symm
    · rename_i h4; rw [if_neg h4] at h; exact absurd h h4
  rename_i h3
  rw [if_neg h3] at h
  split
  · rename_i h4
    rw [if_pos h4] at h
    split
    · rename_i h5; rw [if_pos h5] at h; cases h
    · exact h4.symm
  · rfl
theorem lfirst_k {l : List UInt8} (h0 : 0 < l.length) (h : (lfirst l).2.2 = 0) : (lfirst l).1.k = (lcut l).1 := by
  have := lfirst_size h0 h
  rw [this.2.2.2.2.2, ltoken_k this.2.2.2.2.1]
/-- One step of a text's tokens. -/
theorem Lex.step {l : List UInt8} {i : Nat} {ts : List (Tok × Nat)} {b ea : Nat} (h : Lex l i ts b ea) :
    (i = l.length ∧ ts = [] ∧ b = 0) ∨ (i < l.length ∧ (lfirst (l.drop i)).2.2 = b ∧ b ≠ 0 ∧ ts = [] ∧ ea = i) ∨
    (i < l.length ∧ (lfirst (l.drop i)).2.2 = 0 ∧ (lfirst (l.drop i)).1.k = 0 ∧ Lex l (i + (lfirst (l.drop i)).2.1) ts b ea) ∨
    (i < l.length ∧ (lfirst (l.drop i)).2.2 = 0 ∧ (lfirst (l.drop i)).1.k ≠ 0 ∧ ∃ ts', ts = ((lfirst (l.drop i)).1, i) :: ts' ∧ Lex l (i + (lfirst (l.drop i)).2.1) ts' b ea) := by
  cases h with
  | done h => exact .inl ⟨h, rfl, rfl⟩
  | bad h1 h2 => exact .inr (.inl ⟨h1, rfl, h2, rfl, rfl⟩)
  | gap h1 h2 h3 h4 => exact .inr (.inr (.inl ⟨h1, h2, by rw [lfirst_k (by rw [List.length_drop]; omega) h2]; exact h3, h4⟩))
  | tok h1 h2 h3 h4 => exact .inr (.inr (.inr ⟨h1, h2, by rw [lfirst_k (by rw [List.length_drop]; omega) h2]; exact h3, _, rfl, h4⟩))
theorem newCells (w : World) (t : TypeId) (cs : List Value) (g : Nat) (hg : g = w.heap.size) : ∀ (j : Nat) (u : Value), cs[j]? = some u → (w.alloc (.cells cs.toArray t)).cell? ((⟨g, 0, none⟩ : Addr).add j) = some u := fun j u h => by
  subst hg
  have hb := Blk.new w t cs
  rw [Addr.add_lit, Nat.zero_add, hb.cell, h]
theorem Blk.new2 (w : World) (o : Obj) (t : TypeId) (cs : List Value) : Blk ((w.alloc o).alloc (.cells cs.toArray t)) (w.heap.size + 1) t cs := by
  have h := Blk.new (w.alloc o) t cs
  rwa [show (w.alloc o).heap.size = w.heap.size + 1 by simp] at h
theorem tok_one (t : Tok) (a c : Nat) : ∀ u ∈ tokCells t a c, u.oneCell' = true := fun u h => by
  simp only [tokCells, List.mem_cons, List.not_mem_nil, or_false] at h
  rcases h with rfl | rfl | rfl | rfl | rfl <;> rfl
theorem infoTok : (Tryd.prog.info? 34).map (fun i => (i.zero, i.size, i.bytes)) = some (some (.agg #[.int .i64 0, .string .empty, .int .i64 0, .int .i64 0, .int .i64 0]), 5, 48) := by kernel_rfl

set_option maxRecDepth 100000 in
set_option maxHeartbeats 2000000 in
theorem split_any (w : World) (A : Nat → Addr) (m : Int) (hL : Lx w A m) (l : List UInt8) (hl : l.length ≤ 4000) (T : List (Tok × Nat)) (b ea : Nat) (hT : Lex l 0 T b ea) :
    Calls Tryd.prog 7 #[.string (str l)] w (SplitR w A l T b ea) := by
  obtain ⟨i0, hi, hz0, hz1, hz2⟩ := info_parts infoTok
  have hz : (str l).size = l.length := strSize l
  have hlen : ¬ (4000 : Int) < (l.length : Int) := by omega
  have hn := str_toList
  have HT := Lib.hid hT
  clear hT
  go_enter Tryd.func7, Tryd.ntmps7
  go_wp2_with fail
  go_loopg [7, 4, 5, 6] l.length (fun g r v li co wx => ∃ (i : Nat) (out ts : List (Tok × Nat)), i + g = l.length ∧ out.length ≤ i ∧ r = .string (str (l.drop i)) ∧ li = .int .i64 ((placeAt l i).1 : Int) ∧ co = .int .i64 ((placeAt l i).2 : Int) ∧ Hid (T = out ++ ts) ∧ Hid (Lex l i ts b ea) ∧ wx.ownsRow w.heap.size 34 5 v (out.map (tokRow l)).length (out.map (tokRow l)).flatten ∧ Below w.heap.size w wx)
  case atStart => exact ⟨0, [], T, by omega, by simp, rfl, rfl, rfl, Lib.hid rfl, HT, World.ownsRow_nil _ _ _ _, Below.refl _ _⟩
  case round =>
    obtain ⟨i, out, ts, hig, hout, rfl, rfl, rfl, HO, HX, hown, hbr⟩ := hrel
    have hsz := hbr.size
    rcases HX.out.step with ⟨he, hts, hb⟩ | ⟨hlt, hb, hb0, hts, hea⟩ | ⟨hlt, hb, hk, hX⟩ | ⟨hlt, hb, hk, ts', hts, hX⟩
    · subst he
      rw [List.drop_length]
      have hTo : T = out := by rw [HO.out, hts, List.append_nil]
      clear hts
      go_wp2_with fail
      go_ret2
      exact ⟨hbr, .inl ⟨hb, _, rfl, by rw [hTo]; exact hown⟩⟩
    · have HF := Lib.hid (first_any wr A m (hL.below hbr) (l.drop i) (by rw [List.length_drop]; omega) (by rw [List.length_drop]; omega))
      have hemp : (l.drop i).isEmpty = false := by
        cases h : l.drop i with
        | nil => have := congrArg List.length h; rw [List.length_drop] at this; simp at this; omega
        | cons x t => rfl
      unfold FirstR at HF
      rw [hb] at HF
      obtain ⟨c, rfl⟩ : ∃ c, b = c + 1 := ⟨b - 1, by omega⟩
      rw [show errOf A (c + 1) = errV A c from rfl] at HF
      have hne := neq_errV A c
      subst hea
      generalize lfirst (l.drop ea) = F at *
      obtain ⟨t, s, b'⟩ := F
      simp only at HF
      clear hts hb hb0 HX HO
      generalize hD : l.drop ea = D at *
      clear hD
      unfold tokV tokCells at HF
      go_wp2_with fail
      refine HF.out.mono ?_
      rintro e w1 ⟨rfl, hb1⟩
      have hB1 := hbr.trans (hb1.mono hsz)
      have hz1 := hB1.size
      go_wp2_with fail
      go_ret2
      exact ⟨(hB1.alloc hz1 _).alloc (by simp; omega) _, .inr ⟨by omega, w1.heap.size + 1, rfl, by omega, Blk.new2 w1 _ _ _⟩⟩
    · have hO := HO
      have hDl : (l.drop i).length = l.length - i := List.length_drop
      have hs := lfirst_size (l := l.drop i) (by omega) hb
      have HF := Lib.hid (first_any wr A m (hL.below hbr) (l.drop i) (by omega) (by omega))
      have hemp : (l.drop i).isEmpty = false := by
        cases h : l.drop i with
        | nil => rw [h] at hDl; simp at hDl; omega
        | cons x t => rfl
      unfold FirstR at HF
      rw [hb, show errOf A 0 = Value.nilIface from rfl] at HF
      have hs0 := hs.1
      have hs1 := hs.2.1
      have hup := str_upto (l.drop i) (lfirst (l.drop i)).2.1 hs1
      have hfr := str_from (l.drop i) (lfirst (l.drop i)).2.1 hs1
      rw [List.drop_drop] at hfr
      have hpl := placeAt_le l i
      have HP := Lib.hid (fun (u : World) => by
        have h := behind_any u (placeAt l i) ((l.drop i).take (lfirst (l.drop i)).2.1) (by rw [List.length_take]; omega) (by omega) (by omega)
        rw [← placeAt_more] at h
        exact h)
      have HX' := Lib.hid hX
      generalize lfirst (l.drop i) = F at *
      obtain ⟨⟨tk, tt, tn⟩, s, b'⟩ := F
      simp only at HF hk HX' hup hfr HP hs0 hs1 hO
      clear hs hb hX HX HO hpl
      generalize hD : l.drop i = D at *
      clear hD
      unfold tokV tokCells at HF
      have hkz : ((tk : Nat) : Int) = 0 := by omega
      clear hk
      go_wp2_with fail
      refine HF.out.mono ?_
      rintro e w1 ⟨rfl, hb1⟩
      have hown1 := rowk_below hown hb1
      have hB1 := hbr.trans (hb1.mono hsz)
      have hz1 := hB1.size
      go_wp2_with fail
      refine (HP.out _).mono ?_
      rintro e w2 ⟨rfl, rfl⟩
      go_wp2_with fail
      go_roundg (gk - s)
      case measure => omega
      case rel => exact ⟨i + s, out, ts, by omega, by omega, rfl, rfl, rfl, hO, HX', World.ownsRow.alloc hown1 _, hB1.alloc hz1 _⟩
    · have hO := Lib.hid (show T = (out ++ [((lfirst (l.drop i)).1, i)]) ++ ts' by rw [HO.out, hts]; simp)
      have hDl : (l.drop i).length = l.length - i := List.length_drop
      have hs := lfirst_size (l := l.drop i) (by omega) hb
      have HF := Lib.hid (first_any wr A m (hL.below hbr) (l.drop i) (by omega) (by omega))
      have hemp : (l.drop i).isEmpty = false := by
        cases h : l.drop i with
        | nil => rw [h] at hDl; simp at hDl; omega
        | cons x t => rfl
      unfold FirstR at HF
      rw [hb, show errOf A 0 = Value.nilIface from rfl] at HF
      have hs0 := hs.1
      have hs1 := hs.2.1
      have hup := str_upto (l.drop i) (lfirst (l.drop i)).2.1 hs1
      have hfr := str_from (l.drop i) (lfirst (l.drop i)).2.1 hs1
      rw [List.drop_drop] at hfr
      have hpl := placeAt_le l i
      have HP := Lib.hid (fun (u : World) => by
        have h := behind_any u (placeAt l i) ((l.drop i).take (lfirst (l.drop i)).2.1) (by rw [List.length_take]; omega) (by omega) (by omega)
        rw [← placeAt_more] at h
        exact h)
      have HX' := Lib.hid hX
      generalize lfirst (l.drop i) = F at *
      obtain ⟨⟨tk, tt, tn⟩, s, b'⟩ := F
      simp only at HF hk HX' hup hfr HP hs0 hs1 hO
      clear hs hb hX HX HO hpl hts
      generalize hD : l.drop i = D at *
      clear hD
      unfold tokV tokCells at HF
      have hkz : ¬ ((tk : Nat) : Int) = 0 := by omega
      clear hk
      go_wp2_with fail
      refine HF.out.mono ?_
      rintro e w1 ⟨rfl, hb1⟩
      have hown1 := rowk_below hown hb1
      have hB1 := hbr.trans (hb1.mono hsz)
      have hz1 := hB1.size
      go_wp2_with (at_builtin; go_must (refine wpList_append_own_at _ rfl (.tmp 42) (.tmp 44) 23 rfl w.heap.size 34 i0 (.agg #[.int .i64 0, .string .empty, .int .i64 0, .int .i64 0, .int .i64 0]) 5 48 Tryd.underlying23 hi hz0 (by assumption) hz2 rfl (by decide) _ _ _ rfl ((World.ownsRow.alloc hown1 _).alloc _) ⟨w1.heap.size + 1, 0, none⟩ 1 1 (tokCells ⟨tk, tt, tn⟩ (placeAt l i).1 (placeAt l i).2) rfl rfl (newCells _ _ (tokCells ⟨tk, tt, tn⟩ (placeAt l i).1 (placeAt l i).2) _ (by simp)) (tok_one _ _ _) (by rw [List.length_map]; unfold maxLen; omega) (by rw [List.length_map]; omega) (by simp; omega) ?_); intro v3 w3 hown3 hg3 hn3 ha3)
      have hb3 := ((hB1.alloc hz1 _).alloc (by simp; omega) _).grown hg3 (by simp; omega) (fun g h => (hown1.lt g h).1)
      have hown4 : w3.ownsRow w.heap.size 34 5 v3 ((out ++ [((⟨tk, tt, tn⟩ : Tok), i)]).map (tokRow l)).length ((out ++ [((⟨tk, tt, tn⟩ : Tok), i)]).map (tokRow l)).flatten := by
        rw [List.map_append, List.length_append, List.flatten_append, show (List.map (tokRow l) [((⟨tk, tt, tn⟩ : Tok), i)]).flatten = tokCells ⟨tk, tt, tn⟩ (placeAt l i).1 (placeAt l i).2 from by simp [tokRow]]
        exact hown3
      clear hown3 hg3 hn3 ha3
      refine (HP.out _).mono ?_
      rintro e w2 ⟨rfl, rfl⟩
      go_wp2_with fail
      go_roundg (gk - s)
      case measure => omega
      case rel => exact ⟨i + s, out ++ [((⟨tk, tt, tn⟩ : Tok), i)], ts', by omega, by simp; omega, rfl, rfl, rfl, hO, HX', hown4, hb3⟩

set_option maxRecDepth 100000 in
set_option maxHeartbeats 1000000 in
theorem split_long (w : World) (A : Nat → Addr) (m : Int) (hL : Lx w A m) (l : List UInt8) (hl : 4000 < l.length) :
    Calls Tryd.prog 7 #[.string (str l)] w fun e w' => Below w.heap.size w w' ∧ ∃ g, e = .returned (.tuple #[.slice none 0 0, .iface tF (.pointer (some ⟨g, 0, none⟩))]) ∧ w.heap.size ≤ g ∧ Blk w' g 40 [.int .i64 0, .int .i64 0, errV A 2] := by
  have hz : (str l).size = l.length := strSize l
  have hlen : (4000 : Int) < (l.length : Int) := by omega
  have hlong := hL.long
  go_enter Tryd.func7, Tryd.ntmps7
  go_wp2_with fail
  go_region
  all_goals
    go_wp2_with fail
    go_ret2
    exact ⟨below_drewN ((Below.refl _ _).alloc (Nat.le_refl _) _) 1, w.heap.size, rfl, Nat.le_refl _, (Blk.new w _ _).drew⟩

/-- Is a text a word? -/
def lident : List UInt8 → Bool
  | [] => false
  | b :: r => lxLet b && (decide (lspan lxIn (b :: r) = (b :: r).length) && decide ((b :: r).length ≤ 40))
set_option maxRecDepth 100000 in
set_option maxHeartbeats 1000000 in
theorem ident_any (w : World) (l : List UInt8) (hl : l.length < 1000000000) :
    Calls Tryd.prog 10 #[.string (str l)] w (Qui (.bool (lident l)) w) := by
  have hz : (str l).size = l.length := strSize l
  have hn := str_toList
  cases l with
  | nil =>
    go_enter Tryd.func10, Tryd.ntmps10
    go_wp2_with fail
    go_ret
    exact ⟨rfl, 0, rfl⟩
  | cons b r =>
    have hix : ∀ u, (Instr.index 9 (.string (str (b :: r))) (.int .i64 0)).run Tryd.prog u = .ok (.int .u8 (b.toNat : Int)) u := str_index (b :: r) 0 (by simp)
    have HB := Lib.hid (beginsWord_any w b)
    have HS := Lib.hid (span_in w (b :: r) (by omega))
    have e1 : lident (b :: r) = (lxLet b && (decide (lspan lxIn (b :: r) = (b :: r).length) && decide ((b :: r).length ≤ 40))) := rfl
    rw [e1]
    generalize lspan lxIn (b :: r) = k at *
    have hem : (b :: r).isEmpty = false := rfl
    generalize hD : b :: r = D at *
    clear hD e1
    cases hb : lxLet b
    · rw [hb] at HB
      clear hb
      go_enter Tryd.func10, Tryd.ntmps10
      go_wp2_with fail
      refine HB.out.mono ?_
      rintro e w ⟨rfl, rfl⟩
      go_wp2_with fail
      go_ret
      exact ⟨rfl, 0, rfl⟩
    · rw [hb] at HB
      clear hb
      by_cases hk : k = D.length
      · have hk' : (k : Int) = (D.length : Int) := by omega
        go_enter Tryd.func10, Tryd.ntmps10
        go_wp2_with fail
        refine HB.out.mono ?_
        rintro e w ⟨rfl, rfl⟩
        go_wp2_with fail
        refine HS.out.mono ?_
        rintro e w ⟨rfl, n, rfl⟩
        go_wp2_with fail
        all_goals (go_ret; refine ⟨?_, n, rfl⟩)
        refine congrArg (fun x => Ending.returned (Value.bool x)) ?_
        rw [decide_eq_true hk, Bool.true_and, Bool.true_and]
        exact decide_eq_decide.2 (by omega)
      · have hk' : ¬ (k : Int) = (D.length : Int) := by omega
        go_enter Tryd.func10, Tryd.ntmps10
        go_wp2_with fail
        refine HB.out.mono ?_
        rintro e w ⟨rfl, rfl⟩
        go_wp2_with fail
        refine HS.out.mono ?_
        rintro e w ⟨rfl, n, rfl⟩
        go_wp2_with fail
        go_ret
        exact ⟨by rw [decide_eq_false hk]; rfl, n, rfl⟩
end Go.Proofs.YtgpihhigajmldaaDoor
