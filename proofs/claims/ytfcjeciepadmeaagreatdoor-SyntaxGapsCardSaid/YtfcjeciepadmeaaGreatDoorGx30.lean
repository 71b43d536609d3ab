/- Part 30 of what the last text of this claim is proved by: walks over the program, and the math behind them. Conditions: as each theorem says. -/
import Derived.Test.YtfcjeciepadmeaaGreatDoorGx29
namespace Go.Proofs.YtfcjeciepadmeaaGreatDoor
def flatVal (v : Val) : Val := { v with line := 0, col := 0 }
def flatFld (f : Fld) : Fld := { f with line := 0, col := 0 }
def flatEnm (e : Enm) : Enm := ⟨e.name, e.vals.map flatVal, 0, 0⟩
mutual
def flatMsg : Msg → Msg
 | .mk n f o m e r s _ _ => .mk n (f.map flatFld) o (flatMsgs m) (e.map flatEnm) r s 0 0
def flatMsgs : List Msg → List Msg
 | [] => []
 | k :: ks => flatMsg k :: flatMsgs ks
end
theorem flatMsgs_eq : ∀ ms : List Msg, flatMsgs ms = ms.map flatMsg
 | [] => by simp [flatMsgs]
 | k :: ks => by rw [flatMsgs, flatMsgs_eq ks, List.map_cons]
theorem flatMsg_mk (n : List UInt8) (f : List Fld) (o : List (List UInt8)) (m : List Msg) (e : List Enm) (r : List (Int × Int)) (s : List (List UInt8)) (l c : Int) : flatMsg (.mk n f o m e r s l c) = .mk n (f.map flatFld) o (m.map flatMsg) (e.map flatEnm) r s 0 0 := by
 rw [flatMsg, flatMsgs_eq]
def flatFil (f : Fil) : Fil := ⟨f.package, f.msgs.map flatMsg, f.enums.map flatEnm⟩
def zTk (x : Tk) : Tk := (x.1, 0, 0)
def zT (l : List Tk) : List Tk := l.map zTk
def am {α β : Type} (F : α → β) : Ans8 (α × Nat) → Ans8 (β × Nat)
 | .error e => .error e
 | .ok (x, q) => .ok (F x, q)
theorem zT_len (l : List Tk) : (zT l).length = l.length := by simp [zT]
theorem zT_get (l : List Tk) (p : Nat) : (zT l)[p]? = (l[p]?).map zTk := by simp [zT]
theorem tkIs_z (l : List Tk) (p k : Nat) (t : List UInt8) : tkIs (zT l) p k t = tkIs l p k t := by
 unfold tkIs
 rw [zT_get]
 cases l[p]? <;> rfl
theorem sWant_z (l : List Tk) (k : Nat) (t : List UInt8) (p : Nat) : sWant (zT l) k t p = sWant l k t p := by
 unfold sWant
 rw [tkIs_z]
theorem sName_z (l : List Tk) (p : Nat) : sName (zT l) p = am zTk (sName l p) := by
 unfold sName
 rw [zT_get]
 cases l[p]? with
 | none => rfl
 | some x =>
  simp only [Option.map_some]
  by_cases h : x.1.k = 1
  ·rw [if_pos h, if_pos (show (zTk x).1.k = 1 from h)]; rfl
  ·rw [if_neg h, if_neg (show ¬ (zTk x).1.k = 1 from h)]; rfl
theorem sNumber_z (l : List Tk) (p : Nat) : sNumber (zT l) p = sNumber l p := by
 unfold sNumber
 rw [zT_get]
 cases l[p]? with
 | none => rfl
 | some x => rfl
theorem sText_z (l : List Tk) (p : Nat) : sText (zT l) p = sText l p := by
 unfold sText
 rw [zT_get]
 cases l[p]? with
 | none => rfl
 | some x => rfl
theorem sDots_z (l : List Tk) : ∀ (n : Nat) (s : List UInt8) (p : Nat), sDots (zT l) n s p = sDots l n s p
 | 0, _, _ => rfl
 | n + 1, s, p => by
  rw [sDots, sDots, sName_z]
  cases sName l p with
  | error e => rfl
  | ok x =>
   obtain ⟨x, q⟩ := x
   simp only [am, tkIs_z, sDots_z l n]
   rfl
theorem sDotted_z (l : List Tk) (b : Bool) (p : Nat) : sDotted (zT l) b p = sDotted l b p := by
 unfold sDotted
 simp only [tkIs_z, zT_len, sDots_z]
theorem sOption_z (l : List Tk) (f : Fld) (p : Nat) : sOption (zT l) (flatFld f) p = am flatFld (sOption l f p) := by
 unfold sOption
 simp only [tkIs_z, sWant_z, sName_z]
 have e1 : (flatFld f).packed = f.packed := rfl
 have e2 : (flatFld f).key = f.key := rfl
 rw [e1, e2]
 split
 ·cases sWant l 4 [61] (p + 1) with
  | error e => rfl
  | ok q =>
   dsimp only
   split
   ·rfl
   split
   ·rfl
   ·rfl
 split
 ·cases sWant l 4 [61] (p + 1) with
  | error e => rfl
  | ok q =>
   dsimp only
   cases sName l q with
   | error e => rfl
   | ok x => rfl
 ·rfl
theorem sOpts_z (l : List Tk) : ∀ (n : Nat) (f : Fld) (p : Nat), sOpts (zT l) n (flatFld f) p = am flatFld (sOpts l n f p)
 | 0, _, _ => rfl
 | n + 1, f, p => by
  rw [sOpts, sOpts, sOption_z]
  cases sOption l f (p + 1) with
  | error e => rfl
  | ok x =>
   obtain ⟨g, q⟩ := x
   simp only [am, tkIs_z, sWant_z, sOpts_z l n]
   split
   ·rfl
   ·cases sWant l 4 [93] q with
    | error e => rfl
    | ok r =>
     dsimp only
     cases sWant l 4 [59] r with
     | error e => rfl
     | ok u => rfl
theorem sOptions_z (l : List Tk) (f : Fld) (p : Nat) : sOptions (zT l) (flatFld f) p = am flatFld (sOptions l f p) := by
 unfold sOptions
 simp only [tkIs_z, sWant_z, zT_len, sOpts_z]
 split
 ·rfl
 ·cases sWant l 4 [59] p with
  | error e => rfl
  | ok u => rfl
theorem sRest_z (l : List Tk) (f g : Fld) (h : flatFld f = flatFld g) (p : Nat) : sRest (zT l) g p = am flatFld (sRest l f p) := by
 unfold sRest
 rw [sName_z]
 cases sName l p with
 | error e => rfl
 | ok x =>
  obtain ⟨x, q⟩ := x
  simp only [am, sWant_z]
  cases sWant l 4 [61] q with
  | error e => rfl
  | ok r =>
   dsimp only
   rw [sNumber_z]
   cases sNumber l r with
   | error e => rfl
   | ok y =>
    obtain ⟨n, u⟩ := y
    dsimp only
    refine Eq.trans ?_ (sOptions_z l { f with name := x.1.t, line := x.2.1, col := x.2.2, number := n } u)
    congr 1
    obtain ⟨a1, a2, a3, a4, a5, a6, a7, a8, a9, a10⟩ := f
    obtain ⟨b1, b2, b3, b4, b5, b6, b7, b8, b9, b10⟩ := g
    simp only [flatFld, Fld.mk.injEq] at h ⊢
    simp [zTk, h]
theorem sField_z (l : List Tk) (p : Nat) (a b : Int) : sField (zT l) p a b = am flatFld (sField l p a b) := by
 unfold sField
 rw [sDotted_z]
 cases sDotted l true p with
 | error e => rfl
 | ok x =>
  obtain ⟨s, q⟩ := x
  exact sRest_z l _ _ rfl q
theorem sMapped_z (l : List Tk) (p : Nat) : sMapped (zT l) p = am flatFld (sMapped l p) := by
 unfold sMapped
 rw [sWant_z]
 cases sWant l 4 [60] p with
 | error e => rfl
 | ok q =>
  dsimp only
  rw [sName_z]
  cases sName l q with
  | error e => rfl
  | ok x =>
   obtain ⟨x, r⟩ := x
   simp only [am, sWant_z]
   cases sWant l 4 [44] r with
   | error e => rfl
   | ok u =>
    dsimp only
    rw [sDotted_z]
    cases sDotted l true u with
    | error e => rfl
    | ok y =>
     obtain ⟨t, v⟩ := y
     dsimp only
     cases sWant l 4 [62] v with
     | error e => rfl
     | ok z =>
      exact sRest_z l _ _ rfl z
theorem sSemis_z (l : List Tk) : ∀ (n p : Nat), sSemis (zT l) n p = sSemis l n p
 | 0, _ => rfl
 | n + 1, p => by
  rw [sSemis, sSemis, tkIs_z, sSemis_z l n]
theorem semis_z (l : List Tk) (p : Nat) : semis (zT l) p = semis l p := by
 unfold semis
 rw [zT_len, sSemis_z]
theorem sHead_z (l : List Tk) (p : Nat) : sHead (zT l) p = am zTk (sHead l p) := by
 unfold sHead
 rw [sName_z]
 cases sName l p with
 | error e => rfl
 | ok x =>
  obtain ⟨x, q⟩ := x
  simp only [am, sWant_z]
  cases sWant l 4 [123] q with
  | error e => rfl
  | ok r => rfl
theorem sValue_z (l : List Tk) (p : Nat) : sValue (zT l) p = am flatVal (sValue l p) := by
 unfold sValue
 rw [sName_z]
 cases sName l p with
 | error e => rfl
 | ok x =>
  obtain ⟨x, q⟩ := x
  simp only [am, sWant_z, tkIs_z, sNumber_z]
  cases sWant l 4 [61] q with
  | error e => rfl
  | ok r =>
   dsimp only
   split
   ·cases sNumber l (r + 1) with
    | error e => rfl
    | ok y =>
     obtain ⟨n, u⟩ := y
     dsimp only
     cases sWant l 4 [59] u with
     | error e => rfl
     | ok t => rfl
   ·cases sNumber l r with
    | error e => rfl
    | ok y =>
     obtain ⟨n, u⟩ := y
     dsimp only
     cases sWant l 4 [59] u with
     | error e => rfl
     | ok t => rfl
theorem sVals_z (l : List Tk) : ∀ (n : Nat) (vs : List Val) (p : Nat), sVals (zT l) n (vs.map flatVal) p = am (List.map flatVal) (sVals l n vs p)
 | 0, _, _ => rfl
 | n + 1, vs, p => by
  rw [sVals, sVals, semis_z, tkIs_z, sValue_z]
  split
  ·cases vs <;> rfl
  ·cases sValue l (semis l p) with
   | error e => rfl
   | ok x =>
    obtain ⟨v, q⟩ := x
    simp only [am]
    exact Eq.trans (by rw [List.map_append]; rfl) (sVals_z l n (vs ++ [v]) q)
theorem sEnum_z (l : List Tk) (p : Nat) : sEnum (zT l) p = am flatEnm (sEnum l p) := by
 unfold sEnum
 rw [sHead_z]
 cases sHead l p with
 | error e => rfl
 | ok x =>
  obtain ⟨x, q⟩ := x
  simp only [am]
  have h := sVals_z l (l.length + 1) [] q
  rw [List.map_nil] at h
  rw [zT_len, h]
  cases sVals l (l.length + 1) [] q with
  | error e => rfl
  | ok y => rfl
theorem sFlds_z (l : List Tk) (w : Int) : ∀ (n : Nat) (vs : List Fld) (p : Nat), sFlds (zT l) w n (vs.map flatFld) p = am (List.map flatFld) (sFlds l w n vs p)
 | 0, _, _ => rfl
 | n + 1, vs, p => by
  rw [sFlds, sFlds, semis_z, tkIs_z, sField_z]
  split
  ·cases vs <;> rfl
  ·cases sField l (semis l p) 1 w with
   | error e => rfl
   | ok x =>
    obtain ⟨v, q⟩ := x
    simp only [am]
    exact Eq.trans (by rw [List.map_append]; rfl) (sFlds_z l w n (vs ++ [v]) q)
theorem sOneof_z (l : List Tk) (p : Nat) (w : Int) : sOneof (zT l) p w = am (fun y => (y.1, y.2.map flatFld)) (sOneof l p w) := by
 unfold sOneof
 rw [sHead_z]
 cases sHead l p with
 | error e => rfl
 | ok x =>
  obtain ⟨x, q⟩ := x
  simp only [am]
  have h := sFlds_z l w (l.length + 1) [] q
  rw [List.map_nil] at h
  rw [zT_len, h]
  cases sFlds l w (l.length + 1) [] q with
  | error e => rfl
  | ok y => rfl
theorem sRange_z (l : List Tk) (p : Nat) : sRange (zT l) p = sRange l p := by
 unfold sRange
 simp only [sNumber_z, tkIs_z]
theorem sRanges_z (l : List Tk) : ∀ (n : Nat) (s : List (Int × Int)) (p : Nat), sRanges (zT l) n s p = sRanges l n s p
 | 0, _, _ => rfl
 | n + 1, s, p => by
  rw [sRanges, sRanges]
  simp only [sRange_z, tkIs_z, sWant_z, sRanges_z l n]
theorem sTexts_z (l : List Tk) : ∀ (n : Nat) (s : List (List UInt8)) (p : Nat), sTexts (zT l) n s p = sTexts l n s p
 | 0, _, _ => rfl
 | n + 1, s, p => by
  rw [sTexts, sTexts]
  simp only [sText_z, tkIs_z, sWant_z, sTexts_z l n]
theorem isText_z (l : List Tk) (p : Nat) : isText (zT l) p = isText l p := by
 unfold isText
 rw [zT_get]
 cases l[p]? <;> rfl
theorem sReserved_z (l : List Tk) (p : Nat) : sReserved (zT l) p = sReserved l p := by
 unfold sReserved
 simp only [isText_z, zT_len, sTexts_z, sRanges_z]
theorem wordAt_z (l : List Tk) (p : Nat) : wordAt (zT l) p = wordAt l p := by
 unfold wordAt
 rw [zT_get]
 cases l[p]? <;> rfl
theorem oneofs_z (m : Msg) : (flatMsg m).oneofs = m.oneofs := by
 cases m
 rw [flatMsg_mk]
 rfl
theorem addMsg_z (m k : Msg) : (flatMsg m).addMsg (flatMsg k) = flatMsg (m.addMsg k) := by
 cases m
 simp [flatMsg_mk, Msg.addMsg]
theorem addEnum_z (m : Msg) (k : Enm) : (flatMsg m).addEnum (flatEnm k) = flatMsg (m.addEnum k) := by
 cases m
 simp [flatMsg_mk, Msg.addEnum]
theorem addOneof_z (m : Msg) (k : List UInt8 × List Fld) : (flatMsg m).addOneof (k.1, k.2.map flatFld) = flatMsg (m.addOneof k) := by
 cases m
 simp [flatMsg_mk, Msg.addOneof]
theorem addReserved_z (m : Msg) (k : List (Int × Int) × List (List UInt8)) : (flatMsg m).addReserved k = flatMsg (m.addReserved k) := by
 cases m
 simp [flatMsg_mk, Msg.addReserved]
theorem addField_z (m : Msg) (k : Fld) : (flatMsg m).addField (flatFld k) = flatMsg (m.addField k) := by
 cases m
 simp [flatMsg_mk, Msg.addField]
theorem sPart_z (l : List Tk) (sub sub' : Nat → Ans8 (Msg × Nat)) (hs : ∀ p, sub' p = am flatMsg (sub p)) (m : Msg) (p : Nat) : sPart (zT l) sub' (flatMsg m) p = am flatMsg (sPart l sub m p) := by
 unfold sPart
 simp only [wordAt_z, hs, sEnum_z, sOneof_z, sReserved_z, oneofs_z, sField_z, sMapped_z, tkIs_z]
 split
 ·cases sub (p + 1) with
  | error e => rfl
  | ok x => obtain ⟨k, q⟩ := x; simp only [am, addMsg_z]
 split
 ·cases sEnum l (p + 1) with
  | error e => rfl
  | ok x => obtain ⟨k, q⟩ := x; simp only [am, addEnum_z]
 split
 ·cases sOneof l (p + 1) ((m.oneofs.length : Int) + 1) with
  | error e => rfl
  | ok x => obtain ⟨k, q⟩ := x; simp only [am, addOneof_z]
 split
 ·cases sReserved l (p + 1) with
  | error e => rfl
  | ok x => obtain ⟨k, q⟩ := x; simp only [am, addReserved_z]
 have e : (if wordAt l p = [114, 101, 112, 101, 97, 116, 101, 100] then am flatFld (sField l (p + 1) 3 0) else if wordAt l p = [111, 112, 116, 105, 111, 110, 97, 108] then am flatFld (sField l (p + 1) 2 0) else if (decide (wordAt l p = [109, 97, 112]) && tkIs l (p + 1) 4 [60]) = true then am flatFld (sMapped l (p + 1)) else am flatFld (sField l p 1 0)) = am flatFld (if wordAt l p = [114, 101, 112, 101, 97, 116, 101, 100] then sField l (p + 1) 3 0 else if wordAt l p = [111, 112, 116, 105, 111, 110, 97, 108] then sField l (p + 1) 2 0 else if (decide (wordAt l p = [109, 97, 112]) && tkIs l (p + 1) 4 [60]) = true then sMapped l (p + 1) else sField l p 1 0) := by
  split
  ·rfl
  split
  ·rfl
  split
  ·rfl
  ·rfl
 rw [e]
 generalize (if wordAt l p = [114, 101, 112, 101, 97, 116, 101, 100] then sField l (p + 1) 3 0 else if wordAt l p = [111, 112, 116, 105, 111, 110, 97, 108] then sField l (p + 1) 2 0 else if (decide (wordAt l p = [109, 97, 112]) && tkIs l (p + 1) 4 [60]) = true then sMapped l (p + 1) else sField l p 1 0) = X
 cases X with
 | error e => rfl
 | ok x => obtain ⟨k, q⟩ := x; simp only [am, addField_z]
theorem sBody_z (l : List Tk) (sub sub' : Nat → Ans8 (Msg × Nat)) (hs : ∀ p, sub' p = am flatMsg (sub p)) : ∀ (n : Nat) (m : Msg) (p : Nat), sBody (zT l) sub' n (flatMsg m) p = am flatMsg (sBody l sub n m p)
 | 0, _, _ => rfl
 | n + 1, m, p => by
  rw [sBody, sBody, semis_z, tkIs_z, sPart_z l sub sub' hs]
  split
  ·rfl
  ·cases sPart l sub m (semis l p) with
   | error e => rfl
   | ok x =>
    obtain ⟨k, q⟩ := x
    exact sBody_z l sub sub' hs n k q
theorem sMessage_z (l : List Tk) : ∀ (d p : Nat), sMessage (zT l) d p = am flatMsg (sMessage l d p)
 | 0, p => by
  rw [sMessage, sMessage, sName_z]
  cases sName l p with
  | error e => rfl
  | ok x => rfl
 | d + 1, p => by
  rw [sMessage, sMessage, sName_z]
  cases sName l p with
  | error e => rfl
  | ok x =>
   obtain ⟨x, q⟩ := x
   simp only [am, sWant_z]
   cases sWant l 4 [123] q with
   | error e => rfl
   | ok r =>
    dsimp only
    have h := sBody_z l (sMessage l d) (sMessage (zT l) d) (sMessage_z l d) (l.length + 1) (.mk x.1.t [] [] [] [] [] [] x.2.1 x.2.2) r
    rw [flatMsg_mk] at h
    rw [zT_len]
    exact h
def emap {α β : Type} (F : α → β) : Ans8 α → Ans8 β
 | .error e => .error e
 | .ok x => .ok (F x)
theorem sParts_z (l : List Tk) : ∀ (n : Nat) (f : Fil) (p : Nat), sParts (zT l) n (flatFil f) p = emap flatFil (sParts l n f p)
 | 0, _, _ => rfl
 | n + 1, f, p => by
  rw [sParts, sParts]
  simp only [zT_len, tkIs_z, sMessage_z, sEnum_z]
  split
  ·split
   ·exact sParts_z l n f (p + 1)
   split
   ·cases sMessage l 8 (p + 1) with
    | error e => rfl
    | ok x =>
     obtain ⟨k, q⟩ := x
     simp only [am]
     rw [← sParts_z l n]
     congr 1
     simp [flatFil]
   split
   ·cases sEnum l (p + 1) with
    | error e => rfl
    | ok x =>
     obtain ⟨k, q⟩ := x
     simp only [am]
     rw [← sParts_z l n]
     congr 1
     simp [flatFil]
   ·rfl
  ·rfl
theorem sPackage_z (l : List Tk) (p : Nat) : sPackage (zT l) p = sPackage l p := by
 unfold sPackage
 simp only [tkIs_z, sDotted_z, sWant_z]
theorem sFile_z (l : List Tk) : sFile (zT l) = emap flatFil (sFile l) := by
 unfold sFile
 simp only [sWant_z, sText_z, sPackage_z]
 cases sWant l 1 [115, 121, 110, 116, 97, 120] 0 with
 | error e => rfl
 | ok p =>
  dsimp only
  cases sWant l 4 [61] p with
  | error e => rfl
  | ok q =>
   dsimp only
   cases sText l q with
   | error e => rfl
   | ok x =>
    obtain ⟨t, r⟩ := x
    dsimp only
    split
    ·cases sWant l 4 [59] r with
     | error e => rfl
     | ok u =>
      dsimp only
      cases sPackage l u with
      | error e => rfl
      | ok y =>
       obtain ⟨pk, v⟩ := y
       dsimp only
       rw [zT_len]
       exact sParts_z l _ ⟨pk, [], []⟩ v
    ·rfl
theorem sFile_blind {l k : List Tk} (h : zT l = zT k) : emap flatFil (sFile l) = emap flatFil (sFile k) := by rw [← sFile_z, ← sFile_z, h]
end Go.Proofs.YtfcjeciepadmeaaGreatDoor
