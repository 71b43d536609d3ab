/- Part 38 of what the last text of this claim is proved by: walks over the program, and the math behind them. Conditions: as each theorem says. -/
import Derived.Test.YtfcjeciepadmeaaGreatDoorTx37
import Derived.Test.YtfcjeciepadmeaaGreatDoorProg
namespace Go.Proofs.YtfcjeciepadmeaaGreatDoor
open Go.RowKit
structure LxG (gls : List (Nat × List Value)) (A : Nat → Addr) (m : Int) : Prop where
 range : (2, [errV A 0]) ∈ gls
 long : (0, [errV A 2]) ∈ gls
 form : (9, [errV A 8]) ∈ gls
 max : (20, [.int .i64 m]) ∈ gls
theorem LxG.lx {gls : List (Nat × List Value)} {A : Nat → Addr} {m : Int} (h : LxG gls A m) {w : World} (hG : GlOK gls w) : Lx w A m :=
 ⟨(hG _ _ h.range).2 0 _ rfl, (hG _ _ h.long).2 0 _ rfl, (hG _ _ h.form).2 0 _ rfl, (hG _ _ h.max).2 0 _ rfl⟩
abbrev fltR (A : Nat → Addr) (li co b : Nat) : Part := .one (.ifc 78 (.ptr 80 [.cell (.int .i64 (li : Int)), .cell (.int .i64 (co : Int)), .cell (errOf A b)]))
abbrev nilS : Part := .one (.cell (.slice none 0 0))
theorem tksOf_cells (s : List UInt8) (ts : List (Tok × Nat)) : (tksOf s ts).flatMap tkD = (ts.map (tokRow s)).flatten.map .cell := by
 unfold tksOf
 induction ts with
 | nil => rfl
 | cons x ts ih =>
  rw [List.map_cons, List.flatMap_cons, List.map_cons, List.flatten_cons, List.map_append, ih]
  rfl
theorem toks_lies {w w' : World} {D : Nat → Prop} {e : TypeId} {s : List UInt8} {ts : List (Tok × Nat)} {v : Value} (hb : Below w.heap.size w w') (h : w'.ownsRow w.heap.size e 5 v (ts.map (tokRow s)).length (ts.map (tokRow s)).flatten) : Lies w' (Dr w D w') (.row 5 (tksOf s ts).length ((tksOf s ts).flatMap tkD)) v := by
 have hf : Fits w' (fun _ => False) ((tksOf s ts).flatMap tkD) (ts.map (tokRow s)).flatten := by
  rw [tksOf_cells]
  exact fits_cells _ _ _
 have hn : (ts.map (tokRow s)).length = (tksOf s ts).length := by simp [tksOf]
 rw [hn] at h
 have hg : Gr w' (fun _ => False) w.heap.size e 5 v (tksOf s ts).length ((tksOf s ts).flatMap tkD) := ⟨_, h, hf⟩
 exact hg.lies (fun g h => h.elim) fun g hg => .inr (h.lt g hg)
theorem one_str {w : World} {D : Nat → Prop} {v : Value} {vs : List Value} (h : PsFit w D [.one (.cell v)] vs) : vs = [v] := by
 cases vs with
 | nil => exact h.elim
 | cons x vs =>
  obtain ⟨h1, h2⟩ := h
  cases vs with
  | nil => rw [Lies.cell_eq h1]
  | cons _ _ => exact h2.elim
def SpY (A : Nat → Addr) (s : List UInt8) (T : List (Tok × Nat)) (b ea : Nat) (y : IV) : Prop :=
 (b = 0 ∧ y = .tup [tksP (tksOf s T), nilP]) ∨ (b ≠ 0 ∧ y = .tup [nilS, fltR A (placeAt s ea).1 (placeAt s ea).2 b])
theorem split_y {gls : List (Nat × List Value)} {A : Nat → Addr} {m : Int} (hg : LxG gls A m) (s : List UInt8) (hs : s.length ≤ 4000) (T : List (Tok × Nat)) (b ea : Nat) (hT : Lex s 0 T b ea) : EFx Tryz.prog gls 11 [sP s] (SpY A s T b ea) := fun w D vs hD hG hp => by
 rw [one_str hp]
 refine (split_any w A m (hg.lx hG) s hs T b ea hT).mono ?_
 rintro e w' ⟨hb, (⟨h0, v, rfl, hown⟩ | ⟨h0, g, rfl, hgs, hgb⟩)⟩
 ·exact ⟨_, _, rfl, .inl ⟨h0, rfl⟩, hb, fun M V => ⟨[v, .nilIface], rfl, toks_lies hb hown, .cell _, trivial⟩⟩
 ·exact ⟨_, _, rfl, .inr ⟨h0, rfl⟩, hb, fun M V => ⟨[.slice none 0 0, .iface tF (.pointer (some ⟨g, 0, none⟩))], rfl, .cell _, .ifc _ _ _ (.ptr _ _ _ _ (.inr ⟨hgs, hgb.lt⟩) hgb rfl fun j d x hd hx => by
   match j, hd, hx with
   | 0, hd, hx => cases hd; cases hx; exact .cell _
   | 1, hd, hx => cases hd; cases hx; exact .cell _
   | 2, hd, hx => cases hd; cases hx; exact .cell _), trivial⟩⟩
theorem split_l {gls : List (Nat × List Value)} {A : Nat → Addr} {m : Int} (hg : LxG gls A m) (s : List UInt8) (hs : 4000 < s.length) : EF Tryz.prog gls 11 [sP s] (.tup [nilS, fltR A 0 0 3]) := fun w D vs hD hG hp => by
 rw [one_str hp]
 refine (split_long w A m (hg.lx hG) s hs).mono ?_
 rintro e w' ⟨hb, g, rfl, hgs, hgb⟩
 exact ⟨_, _, rfl, rfl, hb, fun M V => ⟨[.slice none 0 0, .iface tF (.pointer (some ⟨g, 0, none⟩))], rfl, .cell _, .ifc _ _ _ (.ptr _ _ _ _ (.inr ⟨hgs, hgb.lt⟩) hgb rfl fun j d x hd hx => by
   match j, hd, hx with
   | 0, hd, hx => cases hd; cases hx; exact .cell _
   | 1, hd, hx => cases hd; cases hx; exact .cell _
   | 2, hd, hx => cases hd; cases hx; exact .cell _), trivial⟩⟩
def RpY (s : List UInt8) (T : List (Tok × Nat)) (b ea : Nat) (y : IV) : Prop :=
 (b = 0 ∧ y = .tup [tksP (tksOf s T), iP 0, iP 0, iP 0]) ∨ (b ≠ 0 ∧ y = .tup [nilS, iP (b : Int), iP ((placeAt s ea).1 : Int), iP ((placeAt s ea).2 : Int)])
theorem refSplit_y (gls : List (Nat × List Value)) (s : List UInt8) (hs : s.length ≤ 4000) (T : List (Tok × Nat)) (b ea : Nat) (hT : Lex s 0 T b ea) : EFx Tryz.prog gls 17 [sP s] (RpY s T b ea) := fun w D vs hD hG hp => by
 rw [one_str hp]
 refine (refSplit_any w s hs T b ea hT).mono ?_
 rintro e w' ⟨hb, (⟨h0, v, rfl, hown⟩ | ⟨h0, rfl⟩)⟩
 ·exact ⟨_, _, rfl, .inl ⟨h0, rfl⟩, hb, fun M V => ⟨[v, .int .i64 0, .int .i64 0, .int .i64 0], rfl, toks_lies hb hown, .cell _, .cell _, .cell _, trivial⟩⟩
 ·exact ⟨_, _, rfl, .inr ⟨h0, rfl⟩, hb, fun M V => ⟨[.slice none 0 0, .int .i64 (b : Int), .int .i64 ((placeAt s ea).1 : Int), .int .i64 ((placeAt s ea).2 : Int)], rfl, .cell _, .cell _, .cell _, .cell _, trivial⟩⟩
theorem refSplit_l (gls : List (Nat × List Value)) (s : List UInt8) (hs : 4000 < s.length) : EF Tryz.prog gls 17 [sP s] (.tup [nilS, iP 3, iP 0, iP 0]) := fun w D vs hD hG hp => by
 rw [one_str hp]
 refine (refSplit_long w s hs).mono ?_
 rintro e w' ⟨rfl, hb⟩
 exact ⟨_, _, rfl, rfl, hb, fun M V => ⟨[.slice none 0 0, .int .i64 3, .int .i64 0, .int .i64 0], rfl, .cell _, .cell _, .cell _, .cell _, trivial⟩⟩
theorem fault0_w {cx : Cx} : EFw Tryz.prog cx 8 [nilP, iP 0, iP 0, iP 0] (.part (bP true)) := fun w _ D vs hD hG hp => by
 obtain rfl : vs = [.nilIface, .int .i64 0, .int .i64 0, .int .i64 0] := by
  match vs, hp with
  | [a, b, c, d], ⟨h1, h2, h3, h4, _⟩ => rw [Lies.cell_eq h1, Lies.cell_eq h2, Lies.cell_eq h3, Lies.cell_eq h4]
 refine (fault_nil w).mono ?_
 rintro e w' ⟨rfl, hb⟩
 exact ⟨_, _, rfl, rfl, hb, fun M V => .cell _⟩
theorem fault1_w {cx : Cx} {A : Nat → Addr} (hbor : ∀ g, ¬ cx.bor g) (hE : Errs cx.w0 A) (hT : ErrT cx.w0) (k : Nat) (hk : k < 19) (li co : Nat) : EFw Tryz.prog cx 8 [fltR A li co (k + 1), iP ((k : Int) + 1), iP (li : Int), iP (co : Int)] (.part (bP true)) := fun w hbx D vs hD hG hp => by
 have hbl : Below cx.w0.heap.size cx.w0 w := ⟨hbx.os, hbx.tape, hbx.output, hbx.size, fun q hq => hbx.block q hq (hbor q)⟩
 match vs, hp with
 | [a, b, c, d], ⟨h1, h2, h3, h4, _⟩ =>
  rw [Lies.cell_eq h2, Lies.cell_eq h3, Lies.cell_eq h4]
  have h1' : Lies w D (.ifc 78 (.ptr 80 [.cell (.int .i64 (li : Int)), .cell (.int .i64 (co : Int)), .cell (errOf A (k + 1))])) a := h1
  cases h1' with
  | ifc t d v hv =>
   cases hv with
   | ptr g t ds xs hDg hblk hlen hx =>
    have hc : Fits w D ([.int .i64 (li : Int), .int .i64 (co : Int), errV A k].map Dat.cell) xs := ⟨hlen, hx⟩
    rw [hc.cells] at hblk
    refine (fault_hit w A (hE.below hbl) (hT.below hbl) g k hk li co hblk).mono ?_
    rintro e w' ⟨rfl, hb⟩
    exact ⟨_, _, rfl, rfl, hb, fun M V => .cell _⟩
end Go.Proofs.YtfcjeciepadmeaaGreatDoor
namespace Go.Proofs.YtfcjeciepadmeaaGreatDoor
def E89 {α : Type} (r : Ans8 α) : Prop := ∀ e, r = .error e → e.2 = 8 ∨ e.2 = 9
theorem e89_ok {α : Type} (x : α) : E89 (.ok x : Ans8 α) := fun e h => by cases h
theorem e89_form {α : Type} (p : Nat) : E89 (form8 p : Ans8 α) := fun e h => by
 unfold form8 at h
 injection h with h
 subst h
 exact .inr rfl
theorem e89_err {α β : Type} {r : Ans8 α} {e : Nat × Nat} (hr : E89 r) (h : r = .error e) : E89 (.error e : Ans8 β) := fun e' h' => by
 injection h' with h'
 subst h'
 exact hr _ h
theorem sWant_e (l : List Tk) (k : Nat) (t : List UInt8) (p : Nat) : E89 (sWant l k t p) := by
 unfold sWant
 repeat' split
 all_goals first
  | exact e89_ok _
  | exact e89_form _
theorem sName_e (l : List Tk) (p : Nat) : E89 (sName l p) := by
 unfold sName
 repeat' split
 all_goals first
  | exact e89_ok _
  | exact e89_form _
theorem sNumber_e (l : List Tk) (p : Nat) : E89 (sNumber l p) := by
 unfold sNumber
 repeat' split
 all_goals first
  | exact e89_ok _
  | exact e89_form _
theorem sText_e (l : List Tk) (p : Nat) : E89 (sText l p) := by
 unfold sText
 repeat' split
 all_goals first
  | exact e89_ok _
  | exact e89_form _
theorem sDots_e (l : List Tk)  : ∀ (n : Nat) (s : List UInt8) (p : Nat), E89 (sDots l n s p)
 | 0, s, p => by
  rw [sDots]
  exact e89_form _
 | n + 1, s, p => by
  rw [sDots]
  repeat' split
  all_goals first
   | exact e89_ok _
   | exact e89_form _
   | exact sName_e l _
   | exact e89_err (sName_e l _) (by assumption)
   | exact sDots_e l n _ _
   | exact e89_err (sDots_e l n _ _) (by assumption)
theorem sDotted_e (l : List Tk) (b : Bool) (p : Nat) : E89 (sDotted l b p) := by
 unfold sDotted
 repeat' split
 all_goals first
  | exact e89_ok _
  | exact e89_form _
  | exact sDots_e l _ _ _
  | exact e89_err (sDots_e l _ _ _) (by assumption)
theorem sOption_e (l : List Tk) (f : Fld) (p : Nat) : E89 (sOption l f p) := by
 unfold sOption
 repeat' split
 all_goals first
  | exact e89_ok _
  | exact e89_form _
  | exact sWant_e l _ _ _
  | exact e89_err (sWant_e l _ _ _) (by assumption)
  | exact sName_e l _
  | exact e89_err (sName_e l _) (by assumption)
theorem sOpts_e (l : List Tk)  : ∀ (n : Nat) (f : Fld) (p : Nat), E89 (sOpts l n f p)
 | 0, f, p => by
  rw [sOpts]
  exact e89_form _
 | n + 1, f, p => by
  rw [sOpts]
  repeat' split
  all_goals first
   | exact e89_ok _
   | exact e89_form _
   | exact sOption_e l _ _
   | exact e89_err (sOption_e l _ _) (by assumption)
   | exact sWant_e l _ _ _
   | exact e89_err (sWant_e l _ _ _) (by assumption)
   | exact sOpts_e l n _ _
   | exact e89_err (sOpts_e l n _ _) (by assumption)
theorem sOptions_e (l : List Tk) (f : Fld) (p : Nat) : E89 (sOptions l f p) := by
 unfold sOptions
 repeat' split
 all_goals first
  | exact e89_ok _
  | exact e89_form _
  | exact sOpts_e l _ _ _
  | exact e89_err (sOpts_e l _ _ _) (by assumption)
  | exact sWant_e l _ _ _
  | exact e89_err (sWant_e l _ _ _) (by assumption)
theorem sRest_e (l : List Tk) (f : Fld) (p : Nat) : E89 (sRest l f p) := by
 unfold sRest
 repeat' split
 all_goals first
  | exact e89_ok _
  | exact e89_form _
  | exact sName_e l _
  | exact e89_err (sName_e l _) (by assumption)
  | exact sWant_e l _ _ _
  | exact e89_err (sWant_e l _ _ _) (by assumption)
  | exact sNumber_e l _
  | exact e89_err (sNumber_e l _) (by assumption)
  | exact sOptions_e l _ _
  | exact e89_err (sOptions_e l _ _) (by assumption)
theorem sField_e (l : List Tk) (p : Nat) (a b : Int) : E89 (sField l p a b) := by
 unfold sField
 repeat' split
 all_goals first
  | exact e89_ok _
  | exact e89_form _
  | exact sDotted_e l _ _
  | exact e89_err (sDotted_e l _ _) (by assumption)
  | exact sRest_e l _ _
  | exact e89_err (sRest_e l _ _) (by assumption)
theorem sMapped_e (l : List Tk) (p : Nat) : E89 (sMapped l p) := by
 unfold sMapped
 repeat' split
 all_goals first
  | exact e89_ok _
  | exact e89_form _
  | exact sWant_e l _ _ _
  | exact e89_err (sWant_e l _ _ _) (by assumption)
  | exact sName_e l _
  | exact e89_err (sName_e l _) (by assumption)
  | exact sDotted_e l _ _
  | exact e89_err (sDotted_e l _ _) (by assumption)
  | exact sRest_e l _ _
  | exact e89_err (sRest_e l _ _) (by assumption)
theorem sHead_e (l : List Tk) (p : Nat) : E89 (sHead l p) := by
 unfold sHead
 repeat' split
 all_goals first
  | exact e89_ok _
  | exact e89_form _
  | exact sName_e l _
  | exact e89_err (sName_e l _) (by assumption)
  | exact sWant_e l _ _ _
  | exact e89_err (sWant_e l _ _ _) (by assumption)
theorem sValue_e (l : List Tk) (p : Nat) : E89 (sValue l p) := by
 unfold sValue
 repeat' split
 all_goals first
  | exact e89_ok _
  | exact e89_form _
  | exact sName_e l _
  | exact e89_err (sName_e l _) (by assumption)
  | exact sWant_e l _ _ _
  | exact e89_err (sWant_e l _ _ _) (by assumption)
  | exact sNumber_e l _
  | exact e89_err (sNumber_e l _) (by assumption)
theorem sVals_e (l : List Tk)  : ∀ (n : Nat) (vs : List Val) (p : Nat), E89 (sVals l n vs p)
 | 0, vs, p => by
  rw [sVals]
  exact e89_form _
 | n + 1, vs, p => by
  rw [sVals]
  repeat' split
  all_goals first
   | exact e89_ok _
   | exact e89_form _
   | exact sValue_e l _
   | exact e89_err (sValue_e l _) (by assumption)
   | exact sVals_e l n _ _
   | exact e89_err (sVals_e l n _ _) (by assumption)
theorem sEnum_e (l : List Tk) (p : Nat) : E89 (sEnum l p) := by
 unfold sEnum
 repeat' split
 all_goals first
  | exact e89_ok _
  | exact e89_form _
  | exact sHead_e l _
  | exact e89_err (sHead_e l _) (by assumption)
  | exact sVals_e l _ _ _
  | exact e89_err (sVals_e l _ _ _) (by assumption)
theorem sFlds_e (l : List Tk) (w : Int) : ∀ (n : Nat) (vs : List Fld) (p : Nat), E89 (sFlds l w n vs p)
 | 0, vs, p => by
  rw [sFlds]
  exact e89_form _
 | n + 1, vs, p => by
  rw [sFlds]
  repeat' split
  all_goals first
   | exact e89_ok _
   | exact e89_form _
   | exact sField_e l _ _ _
   | exact e89_err (sField_e l _ _ _) (by assumption)
   | exact sFlds_e l w n _ _
   | exact e89_err (sFlds_e l w n _ _) (by assumption)
theorem sOneof_e (l : List Tk) (p : Nat) (w : Int) : E89 (sOneof l p w) := by
 unfold sOneof
 repeat' split
 all_goals first
  | exact e89_ok _
  | exact e89_form _
  | exact sHead_e l _
  | exact e89_err (sHead_e l _) (by assumption)
  | exact sFlds_e l _ _ _ _
  | exact e89_err (sFlds_e l _ _ _ _) (by assumption)
theorem sRange_e (l : List Tk) (p : Nat) : E89 (sRange l p) := by
 unfold sRange
 repeat' split
 all_goals first
  | exact e89_ok _
  | exact e89_form _
  | exact sNumber_e l _
  | exact e89_err (sNumber_e l _) (by assumption)
theorem sRanges_e (l : List Tk)  : ∀ (n : Nat) (s : List (Int × Int)) (p : Nat), E89 (sRanges l n s p)
 | 0, s, p => by
  rw [sRanges]
  exact e89_form _
 | n + 1, s, p => by
  rw [sRanges]
  repeat' split
  all_goals first
   | exact e89_ok _
   | exact e89_form _
   | exact sRange_e l _
   | exact e89_err (sRange_e l _) (by assumption)
   | exact sWant_e l _ _ _
   | exact e89_err (sWant_e l _ _ _) (by assumption)
   | exact sRanges_e l n _ _
   | exact e89_err (sRanges_e l n _ _) (by assumption)
theorem sTexts_e (l : List Tk)  : ∀ (n : Nat) (s : List (List UInt8)) (p : Nat), E89 (sTexts l n s p)
 | 0, s, p => by
  rw [sTexts]
  exact e89_form _
 | n + 1, s, p => by
  rw [sTexts]
  repeat' split
  all_goals first
   | exact e89_ok _
   | exact e89_form _
   | exact sText_e l _
   | exact e89_err (sText_e l _) (by assumption)
   | exact sWant_e l _ _ _
   | exact e89_err (sWant_e l _ _ _) (by assumption)
   | exact sTexts_e l n _ _
   | exact e89_err (sTexts_e l n _ _) (by assumption)
theorem sReserved_e (l : List Tk) (p : Nat) : E89 (sReserved l p) := by
 unfold sReserved
 repeat' split
 all_goals first
  | exact e89_ok _
  | exact e89_form _
  | exact sTexts_e l _ _ _
  | exact e89_err (sTexts_e l _ _ _) (by assumption)
  | exact sRanges_e l _ _ _
  | exact e89_err (sRanges_e l _ _ _) (by assumption)
theorem sPart_e (l : List Tk) (sub : Nat → Ans8 (Msg × Nat)) (hs : ∀ p, E89 (sub p)) (m : Msg) (p : Nat) : E89 (sPart l sub m p) := by
 unfold sPart
 dsimp only
 split
 ·split
  ·exact e89_err (hs _) (by assumption)
  ·exact e89_ok _
 split
 ·split
  ·exact e89_err (sEnum_e l _) (by assumption)
  ·exact e89_ok _
 split
 ·split
  ·exact e89_err (sOneof_e l _ _) (by assumption)
  ·exact e89_ok _
 split
 ·split
  ·exact e89_err (sReserved_e l _) (by assumption)
  ·exact e89_ok _
 split
 ·rename_i h
  refine e89_err ?_ h
  split
  ·exact sField_e l _ _ _
  split
  ·exact sField_e l _ _ _
  split
  ·exact sMapped_e l _
  ·exact sField_e l _ _ _
 ·exact e89_ok _
theorem sBody_e (l : List Tk) (sub : Nat → Ans8 (Msg × Nat)) (hs : ∀ p, E89 (sub p)) : ∀ (n : Nat) (m : Msg) (p : Nat), E89 (sBody l sub n m p)
 | 0, m, p => by
  rw [sBody]
  exact e89_form _
 | n + 1, m, p => by
  rw [sBody]
  split
  ·exact e89_ok _
  split
  ·exact e89_err (sPart_e l sub hs _ _) (by assumption)
  ·exact sBody_e l sub hs n _ _
theorem sMessage_e (l : List Tk) : ∀ (d p : Nat), E89 (sMessage l d p)
 | 0, p => by
  rw [sMessage]
  split
  ·exact e89_err (sName_e l _) (by assumption)
  ·intro e h
   injection h with h
   subst h
   exact .inl rfl
 | d + 1, p => by
  rw [sMessage]
  split
  ·exact e89_err (sName_e l _) (by assumption)
  split
  ·exact e89_err (sWant_e l _ _ _) (by assumption)
  ·exact sBody_e l _ (sMessage_e l d) _ _ _
theorem sParts_e (l : List Tk) : ∀ (n : Nat) (f : Fil) (p : Nat), E89 (sParts l n f p)
 | 0, f, p => by
  rw [sParts]
  exact e89_form _
 | n + 1, f, p => by
  rw [sParts]
  repeat' split
  all_goals first
   | exact e89_ok _
   | exact e89_form _
   | exact sParts_e l n _ _
   | exact e89_err (sMessage_e l _ _) (by assumption)
   | exact e89_err (sEnum_e l _) (by assumption)
theorem sPackage_e (l : List Tk) (p : Nat) : E89 (sPackage l p) := by
 unfold sPackage
 repeat' split
 all_goals first
  | exact e89_ok _
  | exact e89_err (sWant_e l _ _ _) (by assumption)
  | exact e89_err (sDotted_e l _ _) (by assumption)
theorem sFile_e (l : List Tk) : E89 (sFile l) := by
 unfold sFile
 repeat' split
 all_goals first
  | exact e89_ok _
  | exact e89_form _
  | exact sParts_e l _ _ _
  | exact e89_err (sWant_e l _ _ _) (by assumption)
  | exact e89_err (sText_e l _) (by assumption)
  | exact e89_err (sPackage_e l _) (by assumption)
end Go.Proofs.YtfcjeciepadmeaaGreatDoor
