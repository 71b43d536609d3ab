/- Part 29 of what the last text of this claim is proved by: walks over the program, and the math behind them. Conditions: as each theorem says. -/
import Derived.Test.YtekeanikgcpijaaDoorSO28
import Derived.Test.YtekeanikgcpijaaDoorProg
namespace Go.Proofs.YtekeanikgcpijaaDoor
open Go.RowKit
structure Ty where
  full : List UInt8
  en : Bool
  ix : Nat
  line : Int
  col : Int
deriving DecidableEq
def Ty.vals (x : Ty) : List Value := [.string (str x.full), .bool x.en, .int .i64 (x.ix : Int), .int .i64 x.line, .int .i64 x.col]
def Ty.dats (x : Ty) : List Dat := x.vals.map .cell
def ty0 : Ty := ⟨[], false, 0, 0, 0⟩
theorem Ty.dats_len (x : Ty) : x.dats.length = 5 := rfl
def plcFrom : Nat → List (List UInt8 × Dat) → List Ty → List (List UInt8 × Dat)
  | _, ps, [] => ps
  | i, ps, x :: L => plcFrom (i + 1) (mset x.full (.cell (.int .i64 (i : Int))) ps) L
def plc (L : List Ty) : List (List UInt8 × Dat) := plcFrom 0 [] L
def lensFrom : List (Int × Dat) → List Ty → List (Int × Dat)
  | ps, [] => ps
  | ps, x :: L => lensFrom (mset (x.full.length : Int) (.cell (.bool true)) ps) L
def lens (L : List Ty) : List (Int × Dat) := lensFrom [] L
def kS (t : List UInt8) : Value := .string (str t)
def kI (z : Int) : Value := .int .i64 z
def pad (L : List Ty) : List Ty := L ++ List.replicate (40 - L.length) ty0
def tds (L : List Ty) : List Dat := (pad L).flatMap Ty.dats
theorem pad_len {L : List Ty} (h : L.length ≤ 40) : (pad L).length = 40 := by
  unfold pad
  rw [List.length_append, List.length_replicate]
  omega
theorem tds_len {L : List Ty} (h : L.length ≤ 40) : (tds L).length = 200 := by
  unfold tds
  rw [flat_len Ty.dats_len, pad_len h]
theorem mget_mset {α : Type} [DecidableEq α] (x y : α) (d : Dat) : ∀ ps : List (α × Dat), mget y (mset x d ps) = if y = x then some d else mget y ps
  | [] => by
    unfold mset mget mget
    rfl
  | p :: ps => by
    unfold mset
    by_cases h : x = p.1
    · rw [if_pos h]
      by_cases h2 : y = x
      · simp [mget, h2]
      · simp [mget, h2, ← h]
    · rw [if_neg h]
      by_cases h2 : y = p.1
      · have : ¬ y = x := fun e => h (e.symm.trans h2)
        simp only [mget]
        rw [if_pos h2, if_pos h2, if_neg this]
      · simp only [mget]
        rw [if_neg h2, if_neg h2]
        exact mget_mset x y d ps
theorem plcFrom_append : ∀ (L M : List Ty) (i : Nat) (ps : List (List UInt8 × Dat)), plcFrom i ps (L ++ M) = plcFrom (i + L.length) (plcFrom i ps L) M
  | [], M, i, ps => rfl
  | x :: L, M, i, ps => by
    show plcFrom (i + 1) _ (L ++ M) = _
    rw [plcFrom_append L M]
    show _ = plcFrom (i + (L.length + 1)) (plcFrom (i + 1) _ L) M
    rw [show i + 1 + L.length = i + (L.length + 1) by omega]
theorem plc_snoc (L : List Ty) (x : Ty) : plc (L ++ [x]) = mset x.full (.cell (.int .i64 (L.length : Int))) (plc L) := by
  unfold plc
  rw [plcFrom_append, Nat.zero_add]
  rfl
theorem lensFrom_append : ∀ (L M : List Ty) (ps : List (Int × Dat)), lensFrom ps (L ++ M) = lensFrom (lensFrom ps L) M
  | [], M, ps => rfl
  | x :: L, M, ps => lensFrom_append L M _
theorem lens_snoc (L : List Ty) (x : Ty) : lens (L ++ [x]) = mset (x.full.length : Int) (.cell (.bool true)) (lens L) := by
  unfold lens
  rw [lensFrom_append]
  rfl
def fidx (x : List UInt8) : List Ty → Option Nat
  | [] => none
  | t :: L => if t.full = x then some 0 else (fidx x L).map (· + 1)
theorem fidx_cons (x : List UInt8) (t : Ty) (L : List Ty) : fidx x (t :: L) = if t.full = x then some 0 else (fidx x L).map (· + 1) := rfl
def ffind (x : List UInt8) : List Ty → Option Ty
  | [] => none
  | t :: L => if t.full = x then some t else ffind x L
theorem ffind_idx (x : List UInt8) : ∀ L : List Ty, ffind x L = (fidx x L).bind (L[·]?)
  | [] => rfl
  | t :: L => by
    unfold ffind fidx
    split
    · rfl
    · rw [ffind_idx x L]
      cases fidx x L <;> simp
theorem fidx_none {x : List UInt8} : ∀ {L : List Ty}, (∀ t ∈ L, t.full ≠ x) → fidx x L = none
  | [], _ => rfl
  | t :: L, h => by
    unfold fidx
    rw [if_neg (h t List.mem_cons_self), fidx_none fun u hu => h u (List.mem_cons_of_mem _ hu)]
    rfl
theorem fidx_lt {x : List UInt8} : ∀ {L : List Ty} {i : Nat}, fidx x L = some i → ∃ t, L[i]? = some t ∧ t.full = x
  | [], i, h => by cases h
  | t :: L, i, h => by
    unfold fidx at h
    split at h
    · rename_i ht
      obtain rfl := Option.some.inj h
      exact ⟨t, rfl, ht⟩
    · rw [Option.map_eq_some_iff] at h
      obtain ⟨j, h1, rfl⟩ := h
      obtain ⟨u, h2, h3⟩ := fidx_lt h1
      exact ⟨u, by simpa using h2, h3⟩
theorem ffind_none {x : List UInt8} : ∀ {L : List Ty}, ffind x L = none ↔ ∀ t ∈ L, t.full ≠ x
  | [] => by simp [ffind]
  | t :: L => by
    unfold ffind
    split
    · rename_i h
      simp [h]
    · rename_i h
      rw [ffind_none (L := L)]
      simp [h]
def Once (L : List Ty) : Prop := (L.map (·.full)).Nodup
theorem ffind_mem {L : List Ty} (h : Once L) {t : Ty} (ht : t ∈ L) : ffind t.full L = some t := by
  induction L with
  | nil => cases ht
  | cons u L ih =>
    have h' : u.full ∉ L.map (·.full) ∧ (L.map (·.full)).Nodup := by simpa [Once] using h
    unfold ffind
    rcases List.mem_cons.1 ht with rfl | ht
    · rw [if_pos rfl]
    · have : ¬ u.full = t.full := fun e => h'.1 (by rw [e]; exact List.mem_map_of_mem ht)
      rw [if_neg this]
      exact ih h'.2 ht
theorem plcFrom_get (x : List UInt8) : ∀ (L : List Ty) (i : Nat) (ps : List (List UInt8 × Dat)), Once L → mget x (plcFrom i ps L) = match fidx x L with | some j => some (.cell (.int .i64 ((i + j : Nat) : Int))) | none => mget x ps
  | [], i, ps, _ => rfl
  | t :: L, i, ps, h => by
    have h' : t.full ∉ L.map (·.full) ∧ (L.map (·.full)).Nodup := by simpa [Once] using h
    show mget x (plcFrom (i + 1) _ L) = _
    rw [plcFrom_get x L _ _ h'.2]
    rw [fidx_cons]
    by_cases hx : t.full = x
    · rw [if_pos hx, fidx_none fun u hu e => h'.1 (by rw [hx, ← e]; exact List.mem_map_of_mem hu)]
      simp only [mget_mset]
      rw [if_pos hx.symm]
      rfl
    · rw [if_neg hx]
      cases hf : fidx x L with
      | none =>
        simp only [Option.map_none, mget_mset]
        rw [if_neg (Ne.symm hx)]
      | some j =>
        simp only [Option.map_some]
        rw [show i + 1 + j = i + (j + 1) by omega]
theorem plc_get {L : List Ty} (h : Once L) (x : List UInt8) : mget x (plc L) = (fidx x L).map fun j => .cell (.int .i64 (j : Int)) := by
  unfold plc
  rw [plcFrom_get x L 0 [] h]
  cases fidx x L with
  | none => rfl
  | some j => simp
theorem lensFrom_get (n : Int) : ∀ (L : List Ty) (ps : List (Int × Dat)), mget n (lensFrom ps L) = if ∃ t ∈ L, (t.full.length : Int) = n then some (.cell (.bool true)) else mget n ps
  | [], ps => by simp [lensFrom]
  | t :: L, ps => by
    show mget n (lensFrom _ L) = _
    rw [lensFrom_get n L, mget_mset]
    by_cases h1 : ∃ u ∈ L, (u.full.length : Int) = n
    · rw [if_pos h1, if_pos]
      obtain ⟨u, h2, h3⟩ := h1
      exact ⟨u, List.mem_cons_of_mem _ h2, h3⟩
    · rw [if_neg h1]
      by_cases h2 : n = (t.full.length : Int)
      · rw [if_pos h2, if_pos ⟨t, List.mem_cons_self, h2.symm⟩]
      · rw [if_neg h2, if_neg]
        rintro ⟨u, h3, h4⟩
        rcases List.mem_cons.1 h3 with rfl | h3
        · exact h2 h4.symm
        · exact h1 ⟨u, h3, h4⟩
def hasLen (n : Nat) (L : List Ty) : Bool := L.any fun t => Nat.beq t.full.length n
theorem lens_get (L : List Ty) (n : Nat) : (mget (n : Int) (lens L)).getD (.cell (.bool false)) = .cell (.bool (hasLen n L)) := by
  unfold lens
  rw [lensFrom_get]
  have : (∃ t ∈ L, (t.full.length : Int) = (n : Int)) ↔ hasLen n L = true := by
    unfold hasLen
    rw [List.any_eq_true]
    constructor
    · rintro ⟨t, h1, h2⟩
      exact ⟨t, h1, by rw [show t.full.length = n by omega]; exact Nat.beq_refl n⟩
    · rintro ⟨t, h1, h2⟩
      exact ⟨t, h1, by rw [Nat.eq_of_beq_eq_true h2]⟩
  cases h : hasLen n L with
  | true =>
    rw [if_pos (this.2 h)]
    rfl
  | false =>
    rw [if_neg fun e => by rw [this.1 e] at h; cases h]
    rfl
theorem hasLen_find {L : List Ty} {x : List UInt8} (h : hasLen x.length L = false) : ffind x L = none := by
  rw [ffind_none]
  intro t ht e
  have : hasLen x.length L = true := by
    unfold hasLen
    rw [List.any_eq_true]
    exact ⟨t, ht, by rw [e]; exact Nat.beq_refl _⟩
  rw [this] at h
  cases h
def cnt (en : Bool) (L : List Ty) : Nat := (L.filter fun t => t.en == en).length
def addT (L : List Ty) (x : Ty) : Except (Nat × Int × Int) (List Ty) :=
  if (ffind x.full L).isSome then .error (1, x.line, x.col)
  else if L.length = 40 then .error (2, x.line, x.col)
  else .ok (L ++ [{ x with ix := cnt x.en L }])
def addAllT : List Ty → List Ty → Except (Nat × Int × Int) (List Ty)
  | L, [] => .ok L
  | L, x :: xs => match addT L x with | .error e => .error e | .ok M => addAllT M xs
theorem addAllT_append : ∀ (xs ys L : List Ty), addAllT L (xs ++ ys) = (match addAllT L xs with | .error e => (.error e : Except (Nat × Int × Int) (List Ty)) | .ok M => addAllT M ys)
  | [], ys, L => rfl
  | x :: xs, ys, L => by
    show (match addT L x with | .error e => (.error e : Except (Nat × Int × Int) (List Ty)) | .ok M => addAllT M (xs ++ ys)) = (match (match addT L x with | .error e => (.error e : Except (Nat × Int × Int) (List Ty)) | .ok M => addAllT M xs) with | .error e => (.error e : Except (Nat × Int × Int) (List Ty)) | .ok M => addAllT M ys)
    cases addT L x with
    | error e => rfl
    | ok M => exact addAllT_append xs ys M
def TbOk (L : List Ty) : Prop := Once L ∧ L.length ≤ 40
theorem addT_ok {L M : List Ty} {x : Ty} (h : TbOk L) (hx : addT L x = .ok M) : TbOk M ∧ M = L ++ [{ x with ix := cnt x.en L }] ∧ ffind x.full L = none ∧ L.length < 40 := by
  unfold addT at hx
  split at hx
  · cases hx
  · rename_i h1
    split at hx
    · cases hx
    · rename_i h2
      have e : M = L ++ [{ x with ix := cnt x.en L }] := by
        cases hx
        rfl
      have h3 : ffind x.full L = none := by
        cases hf : ffind x.full L with
        | none => rfl
        | some t => rw [hf] at h1; exact absurd rfl h1
      have h4 : L.length < 40 := by have := h.2; omega
      refine ⟨?_, e, h3, h4⟩
      subst e
      refine ⟨?_, by simp; omega⟩
      show ((L ++ [({ x with ix := cnt x.en L } : Ty)]).map Ty.full).Nodup
      rw [List.map_append, List.nodup_append]
      refine ⟨h.1, by simp, fun a ha b hb e => ?_⟩
      obtain ⟨t, ht, rfl⟩ := List.mem_map.1 ha
      have : b = x.full := by simpa using hb
      exact (ffind_none.1 h3) t ht (e.trans this)
theorem addAllT_ok : ∀ {xs L M : List Ty}, TbOk L → addAllT L xs = .ok M → TbOk M
  | [], L, M, h, hx => by
    cases hx
    exact h
  | x :: xs, L, M, h, hx => by
    unfold addAllT at hx
    cases ha : addT L x with
    | error e => rw [ha] at hx; cases hx
    | ok N =>
      rw [ha] at hx
      exact addAllT_ok (addT_ok h ha).1 hx
def tyE (ahead : List UInt8) (e : Enm) : Ty := ⟨ahead ++ e.name, true, 0, e.line, e.col⟩
mutual
def tyM (ahead : List UInt8) : Msg → List Ty
  | .mk n _ _ m e _ _ l c => ⟨ahead ++ n, false, 0, l, c⟩ :: (e.map (tyE (ahead ++ n ++ [46])) ++ tyMs (ahead ++ n ++ [46]) m)
def tyMs (ahead : List UInt8) : List Msg → List Ty
  | [] => []
  | m :: ms => tyM ahead m ++ tyMs ahead ms
end
def tyAll (ahead : List UInt8) (e : List Enm) (m : List Msg) : List Ty := e.map (tyE ahead) ++ tyMs ahead m
def aheadOf (p : List UInt8) : List UInt8 := if p = [] then [] else p ++ [46]
def tyFile (f : Fil) : List Ty := tyAll (aheadOf f.package) f.enums f.msgs
def table (f : Fil) : Except (Nat × Int × Int) (List Ty) := addAllT [] (tyFile f)
def lastI : List UInt8 → Int
  | [] => -1
  | c :: s => if 0 ≤ lastI s then lastI s + 1 else if c = 46 then 0 else -1
theorem lastI_lo : ∀ s : List UInt8, -1 ≤ lastI s
  | [] => by simp [lastI]
  | c :: s => by
    have := lastI_lo s
    unfold lastI
    split
    · omega
    · split <;> omega
theorem lastI_hi : ∀ s : List UInt8, lastI s < (s.length : Int)
  | [] => by simp [lastI]
  | c :: s => by
    have := lastI_hi s
    unfold lastI
    rw [List.length_cons]
    split
    · omega
    · split <;> omega
theorem lastI_none : ∀ {s : List UInt8}, (∀ j : Nat, s[j]? ≠ some 46) → lastI s = -1
  | [], _ => rfl
  | c :: s, h => by
    have h1 := lastI_none (s := s) fun j => by simpa using h (j + 1)
    have h2 : c ≠ 46 := fun e => h 0 (by simp [e])
    unfold lastI
    rw [if_neg (by omega), if_neg h2]
theorem lastI_at : ∀ {s : List UInt8} {k : Nat}, s[k]? = some 46 → (∀ j : Nat, k < j → s[j]? ≠ some 46) → lastI s = (k : Int)
  | [], k, h, _ => by simp at h
  | c :: s, 0, h, hn => by
    have h1 := lastI_none (s := s) fun j => by simpa using hn (j + 1) (by omega)
    have h2 : c = 46 := by simpa using h
    unfold lastI
    rw [if_neg (by omega), if_pos h2]
    rfl
  | c :: s, k + 1, h, hn => by
    have h1 := lastI_at (s := s) (k := k) (by simpa using h) fun j hj => by simpa using hn (j + 1) (by omega)
    unfold lastI
    rw [if_pos (by omega), h1]
    omega
theorem lastI_last : ∀ {s : List UInt8} {j : Nat}, lastI s < (j : Int) → s[j]? ≠ some 46
  | [], j, _ => by simp
  | c :: s, 0, h => by
    unfold lastI at h
    split at h
    · omega
    · split at h
      · omega
      · rename_i h2
        simpa using h2
  | c :: s, j + 1, h => by
    have h1 : lastI s < (j : Int) := by
      have := lastI_lo s
      unfold lastI at h
      split at h
      · omega
      · rename_i h0
        omega
    simpa using lastI_last h1
def cutI (s : List UInt8) : Nat := (max (lastI s) 0).toNat
theorem cutI_lt {s : List UInt8} (h : s ≠ []) : cutI s < s.length := by
  have h1 := lastI_hi s
  have h2 : 0 < s.length := List.length_pos_iff.2 h
  unfold cutI
  omega
theorem cutI_le (s : List UInt8) : cutI s ≤ s.length := by
  have h1 := lastI_hi s
  unfold cutI
  omega
def outM (s : List UInt8) : List UInt8 := s.take (cutI s)
theorem outM_len (s : List UInt8) : (outM s).length = cutI s := by
  unfold outM
  rw [List.length_take]
  have := cutI_le s
  omega
theorem outM_lt {s : List UInt8} (h : s ≠ []) : (outM s).length < s.length := by
  rw [outM_len]
  exact cutI_lt h
def lookUp (L : List Ty) (name : List UInt8) (scope : List UInt8) : Option Ty :=
  match ffind (scope ++ 46 :: name) L with
  | some x => some x
  | none => if h : scope = [] then ffind name L else lookUp L name (outM scope)
termination_by scope.length
decreasing_by exact outM_lt h
def lookT (L : List Ty) (scope name : List UInt8) : Option Ty :=
  match name with
  | 46 :: rest => ffind rest L
  | _ => lookUp L name scope
def NmOk (N : Nat) (t : List UInt8) : Prop := t ≠ [] ∧ t.length ≤ N ∧ 46 ∉ t
def MOk (N : Nat) : Nat → Msg → Prop
  | 0, _ => False
  | d + 1, .mk n _ _ m e _ _ _ _ => NmOk N n ∧ (∀ x ∈ e, NmOk N x.name) ∧ ∀ k ∈ m, MOk N d k
end Go.Proofs.YtekeanikgcpijaaDoor
namespace Go.Proofs.YtekeanikgcpijaaDoor
open Go.RowKit
set_option maxRecDepth 100000 in
theorem lastIB_ef (gls : List (Nat × List Value)) (s : List UInt8) (hs : s.length ≤ 1000000000000) : EF Tryd.prog gls 24 [sP s, .one (.cell (.int .u8 46))] (.part (iP (lastI s))) := by
  refine ef_enter 19 Tryd.func24 rfl rfl rfl fun w D => ?_
  try refine e_fl ?_
  refine e_plain (w_as rfl rfl rfl rfl rfl .nil) ?_
  try refine e_fl ?_
  refine e_plain (w_mv rfl rfl rfl rfl rfl (w_op rfl rfl rfl (s_slen rfl (kn rfl) str_9) (w_op rfl rfl rfl (s_bin rfl (kn rfl) (kn rfl) (v_sub64 (by first | omega | (dsimp only; omega) | omega))) (w_as rfl rfl rfl rfl rfl .nil)))) ?_
  try refine e_fl ?_
  refine e_loop (ι := { i : Int // -1 ≤ i ∧ i < (s.length : Int) ∧ ∀ j : Nat, i < (j : Int) → s[j]? ≠ some 46 })
    (fun i => [(0, .part (sP s)), (1, .is (.int .u8 46)), (5, .is (.int .i64 i.1))]) (fun _ => []) (fun _ => []) (fun i => (i.1 + 1).toNat)
    ⟨(s.length : Int) - 1, by omega, by omega, fun j hj => by rw [List.getElem?_eq_none (by omega)]; simp⟩
    (fun K => e_sub ⟨s_t, s_t, s_t, trivial⟩ trivial trivial) ?_
  rintro ⟨i, hi, hi2, hn⟩
  dsimp only at hi hi2 hn ⊢
  try refine e_fl ?_
  refine e_plain (w_mv rfl rfl rfl rfl rfl (w_op rfl rfl rfl (s_bin rfl (kn rfl) (kn rfl) v_geq) .nil)) ?_
  try refine e_fl ?_
  refine e_cond rfl (fun h => ?_) (fun h => ?_)
  · have h0 : 0 ≤ i := of_decide_eq_true h
    obtain ⟨k, rfl⟩ : ∃ k : Nat, i = (k : Int) := ⟨i.toNat, by omega⟩
    have hk : k < s.length := by omega
    obtain ⟨c, hc⟩ : ∃ c, s[k]? = some c := ⟨_, List.getElem?_eq_getElem hk⟩
    try refine e_fl ?_
    refine e_plain (w_mv rfl rfl rfl rfl rfl (w_mv rfl rfl rfl rfl rfl (w_op rfl rfl rfl (s_sindex rfl (kn rfl) (kn rfl) (by omega) hc str_9) (w_mv rfl rfl rfl rfl rfl (w_op rfl rfl rfl (s_bin rfl (kn rfl) (kn rfl) v_eql) .nil))))) ?_
    try refine e_fl ?_
    refine e_cond rfl (fun h1 => ?_) (fun h1 => ?_)
    · have hc2 : c = 46 := by
        have := of_decide_eq_true h1
        exact UInt8.toNat_inj.1 (show c.toNat = 46 by omega)
      subst hc2
      rw [lastI_at hc fun j hj => hn j (by omega)]
      try refine e_fl ?_
      refine e_plain (w_mv rfl rfl rfl rfl rfl (w_as rfl rfl rfl rfl rfl .nil)) ?_
      try refine e_fl ?_
      exact e_return rfl rfl (.tmp (kn rfl) (.nil)) (Imp.refl _) rfl
    · have hc2 : ¬ c = 46 := fun e => by
        subst e
        exact absurd (of_decide_eq_false h1) (by decide)
      try refine e_fl ?_
      refine e_plain (w_mv rfl rfl rfl rfl rfl (w_op rfl rfl rfl (s_bin rfl (kn rfl) (kn rfl) (v_sub64 (by first | omega | (dsimp only; omega) | omega))) (w_as rfl rfl rfl rfl rfl .nil))) ?_
      try refine e_fl ?_
      refine e_again ⟨(k : Int) - 1, by omega, by omega, fun j hj => ?_⟩ (by dsimp only; omega) (fun K => e_sub ⟨s_t, s_t, s_t, trivial⟩ trivial trivial)
      by_cases e : j = k
      · subst e
        rw [hc]
        exact fun e => hc2 (Option.some.inj e)
      · exact hn j (by omega)
  · have h0 : i = -1 := by have := of_decide_eq_false h; omega
    subst h0
    rw [lastI_none fun j => hn j (by omega)]
    try refine e_fl ?_
    refine e_plain (w_as rfl rfl rfl rfl rfl .nil) ?_
    try refine e_fl ?_
    exact e_return rfl rfl (.tmp (kn rfl) (.nil)) (Imp.refl _) rfl
set_option maxRecDepth 100000 in
theorem lastI_ef (gls : List (Nat × List Value)) (s : List UInt8) (hs : s.length ≤ 1000000000000) : EF Tryd.prog gls 17 [sP s, sP [46]] (.part (iP (lastI s))) := by
  refine ef_enter 36 Tryd.func17 rfl rfl rfl fun w D => ?_
  try refine e_fl ?_
  refine e_plain (w_as rfl rfl rfl rfl rfl .nil) ?_
  try refine e_fl ?_
  refine e_plain (w_mv rfl rfl rfl rfl rfl (w_op rfl rfl rfl (s_slen rfl (kn rfl) str_9) (w_as rfl rfl rfl rfl rfl .nil))) ?_
  try refine e_fl ?_
  refine e_plain (w_mv rfl rfl rfl rfl rfl (w_op rfl rfl rfl (s_bin rfl (kn rfl) (kn rfl) v_eql) (w_as rfl rfl rfl rfl rfl .nil))) ?_
  try refine e_fl ?_
  refine e_cond rfl (fun h => absurd h (by decide)) (fun _ => ?_)
  try refine e_fl ?_
  refine e_plain (w_mv rfl rfl rfl rfl rfl (w_op rfl rfl rfl (s_bin rfl (kn rfl) (kn rfl) v_eql) (w_as rfl rfl rfl rfl rfl .nil))) ?_
  try refine e_fl ?_
  refine e_cond rfl (fun _ => ?_) (fun h => absurd h (by decide))
  try refine e_fl ?_
  refine e_plain (w_mv rfl rfl rfl rfl rfl (w_mv rfl rfl rfl rfl rfl (w_op rfl rfl rfl (s_sindex rfl (kn rfl) (kn rfl) (by omega) (show ([46] : List UInt8)[0]? = some 46 from rfl) str_9) (w_op rfl rfl rfl (s_call rfl (by kernel_rfl) (lastIB_ef gls s hs) ⟨(kn rfl), ⟨(kn rfl), trivial⟩⟩) (w_as rfl rfl rfl rfl rfl .nil))))) ?_
  try refine e_fl ?_
  exact e_return rfl rfl (.tmp (kn rfl) (.nil)) (Imp.refl _) rfl
theorem max_cut (s : List UInt8) : max (lastI s) 0 = (cutI s : Int) := by
  unfold cutI
  omega
set_option maxRecDepth 100000 in
theorem outer_ef (gls : List (Nat × List Value)) (s : List UInt8) (hs : s.length ≤ 1000000000000) : EF Tryd.prog gls 11 [sP s] (.tup [sP (outM s), bP (!decide (s = []))]) := by
  refine ef_enter 11 Tryd.func11 rfl rfl rfl fun w D => ?_
  try refine e_fl ?_
  refine e_plain (w_as rfl rfl rfl rfl rfl (w_as rfl rfl rfl rfl rfl .nil)) ?_
  try refine e_fl ?_
  have hc := cutI_le s
  have hm := max_cut s
  refine e_plain (w_mv rfl rfl rfl rfl rfl (w_mv rfl rfl rfl rfl rfl (w_op rfl rfl rfl (s_call rfl (by kernel_rfl) (lastI_ef gls s hs) ⟨(kn rfl), ⟨(kn rfl), trivial⟩⟩) (w_op rfl rfl rfl (s_max rfl (kn rfl) (kn rfl)) (w_op rfl rfl rfl (s_sslice_to rfl (kn rfl) (kn rfl) (by rw [hm]; omega) str_9) (w_mv rfl rfl rfl rfl rfl (w_op rfl rfl rfl (s_bin rfl (kn rfl) (kn rfl) (v_sneq (b := []))) (w_as rfl rfl rfl rfl rfl (w_as rfl rfl rfl rfl rfl .nil))))))))) ?_
  try refine e_fl ?_
  exact e_return rfl rfl (.tmp (kn rfl) (.tmp (kn rfl) (.nil))) (Imp.of_eq (by rw [hm]; unfold outM; cases s <;> (simp; rfl))) rfl
set_option maxRecDepth 100000 in
theorem outerX_ef (gls : List (Nat × List Value)) (s : List UInt8) (hs : s.length ≤ 1000000000000) : EF Tryd.prog gls 5 [sP s] (.tup [sP (outM s), bP (!decide (s = []))]) := by
  refine ef_enter 14 Tryd.func5 rfl rfl rfl fun w D => ?_
  try refine e_fl ?_
  have hc := outM_len s
  have hl := cutI_le s
  refine e_plain (w_as rfl rfl rfl rfl rfl (w_as rfl rfl rfl rfl rfl .nil)) ?_
  try refine e_fl ?_
  refine e_plain (w_mv rfl rfl rfl rfl rfl (w_op rfl rfl rfl (s_call rfl (by kernel_rfl) (outer_ef gls s hs) ⟨(kn rfl), trivial⟩) (w_mv rfl rfl rfl rfl rfl (w_op rfl rfl rfl (s_extract rfl (kn rfl) rfl) (w_op rfl rfl rfl (s_extract rfl (kn rfl) rfl) (w_as rfl rfl rfl rfl rfl (w_as rfl rfl rfl rfl rfl .nil))))))) ?_
  try refine e_fl ?_
  refine e_plain (w_mv rfl rfl rfl rfl rfl (w_op rfl rfl rfl (s_call rfl (by kernel_rfl) (clone_ef gls (outM s) (by omega)) ⟨(kn rfl), trivial⟩) (w_mv rfl rfl rfl rfl rfl (w_as rfl rfl rfl rfl rfl (w_as rfl rfl rfl rfl rfl .nil))))) ?_
  try refine e_fl ?_
  exact e_return rfl rfl (.tmp (kn rfl) (.tmp (kn rfl) (.nil))) (Imp.refl _) rfl
abbrev sfD (line col : Int) (v : Er) : Dat := .ifc 63 (.ptr 65 [.cell (.int .i64 line), .cell (.int .i64 col), .cell (eV v)])
abbrev tyP (x : Ty) : Part := .many x.dats
set_option maxRecDepth 100000 in
theorem sfault_ef (gls : List (Nat × List Value)) (x : Ty) (v : Er) : EF Tryd.prog gls 33 [tyP x, .one (.cell (eV v))] (.part (.one (sfD x.line x.col v))) := by
  refine ef_enter 13 Tryd.func33 rfl rfl rfl fun w D => ?_
  try refine e_fl ?_
  refine e_list ?_
  refine e_box 2 rfl rfl rfl rfl (kn rfl) rfl rfl rfl rfl ?_
  refine l_as ?_
  refine e_nil ?_
  try refine e_fl ?_
  refine e_list ?_
  refine l_op (s_faddr_box rfl (kn rfl) off_39_3) ?_
  refine l_op (s_load1_box rfl (kn rfl) rfl rfl one_3) ?_
  refine l_op (s_faddr_box rfl (kn rfl) off_39_4) ?_
  refine l_op (s_load1_box rfl (kn rfl) rfl rfl one_3) ?_
  refine l_mv ?_
  refine l_op (s_build (ds := [_, _, _]) [(0, _), (1, _), (2, _)] rfl ⟨rfl, (kn rfl), ⟨rfl, (kn rfl), ⟨rfl, (kn rfl), trivial⟩⟩⟩ rfl pl_65 zr_65 (fun w D => .cons (.cell _) (.cons (.cell _) (.cons (.cell _) (.nil _ _)))) rfl) ?_
  refine e_box 11 rfl rfl rfl rfl (kn rfl) rfl rfl rfl rfl ?_
  refine e_data 11 11 rfl rfl rfl ?_
  refine e_list_op rfl rfl rfl (s_iface rfl (kn rfl) (by kernel_rfl)) ?_
  refine l_as ?_
  refine e_nil ?_
  try refine e_fl ?_
  exact e_return rfl rfl (.tmp (kn rfl) (.nil)) (Imp.refl _) rfl
end Go.Proofs.YtekeanikgcpijaaDoor
namespace Go.Proofs.YtekeanikgcpijaaDoor
open Go.RowKit
def tabC (L : List Ty) : List Dat := tds L ++ [.cell (.int .i64 (L.length : Int)), .map (plc L).length (mds kS (plc L)), .map (lens L).length (mds kI (lens L))]
abbrev tabD (L : List Ty) : Dat := .ptr 58 (tabC L)
abbrev tabP (L : List Ty) : Part := .one (tabD L)
theorem tab_drop {L : List Ty} (h : L.length ≤ 40) (k : Nat) : (tabC L).drop (200 + k) = [Dat.cell (.int .i64 (L.length : Int)), .map (plc L).length (mds kS (plc L)), .map (lens L).length (mds kI (lens L))].drop k := by
  unfold tabC
  rw [List.drop_append, tds_len h, List.drop_eq_nil_of_le (by rw [tds_len h]; omega), List.nil_append, Nat.add_sub_cancel_left]
theorem tds_get {L : List Ty} {i : Nat} {x : Ty} (hx : L[i]? = some x) : (pad L)[i]? = some x := by
  unfold pad
  rw [List.getElem?_append_left (List.getElem?_eq_some_iff.1 hx).1]
  exact hx
theorem flat_at {α : Type} {f : α → List Dat} {k : Nat} (hk : ∀ a, (f a).length = k) : ∀ {qs : List α} {i : Nat} {a : α}, qs[i]? = some a → ∃ r, (qs.flatMap f).drop (i * k) = f a ++ r
  | [], i, a, h => by simp at h
  | q :: qs, 0, a, h => by
    obtain rfl : q = a := by simpa using h
    exact ⟨_, by rw [Nat.zero_mul, List.drop_zero, List.flatMap_cons]⟩
  | q :: qs, i + 1, a, h => by
    obtain ⟨r, hr⟩ := flat_at hk (qs := qs) (i := i) (a := a) (by simpa using h)
    refine ⟨r, ?_⟩
    rw [List.flatMap_cons, List.drop_append, hk, List.drop_eq_nil_of_le (by rw [hk, Nat.succ_mul]; omega), List.nil_append, Nat.succ_mul, Nat.add_sub_cancel]
    exact hr
theorem tab_at {L : List Ty} {i : Nat} {x : Ty} (hx : L[i]? = some x) : ∃ r, (tabC L).drop (i * 5) = x.dats ++ r := by
  obtain ⟨r, hr⟩ := flat_at Ty.dats_len (tds_get hx)
  have hi : i * 5 ≤ (tds L).length := by
    have h1 := (List.getElem?_eq_some_iff.1 (tds_get hx)).1
    show i * 5 ≤ ((pad L).flatMap Ty.dats).length
    rw [flat_len Ty.dats_len]
    omega
  refine ⟨r ++ [Dat.cell (.int .i64 (L.length : Int)), .map (plc L).length (mds kS (plc L)), .map (lens L).length (mds kI (lens L))], ?_⟩
  unfold tabC
  rw [List.drop_append_of_le_length hi]
  show ((pad L).flatMap Ty.dats).drop (i * 5) ++ _ = _
  rw [hr, List.append_assoc]
theorem tab_head {L : List Ty} (h : L.length ≤ 40) : (tabC L).take (L.length * 5) = L.flatMap Ty.dats := by
  have h1 : L.length * 5 ≤ (tds L).length := by rw [tds_len h]; omega
  unfold tabC
  rw [List.take_append_of_le_length h1]
  unfold tds pad
  rw [List.flatMap_append]
  have h2 : (L.flatMap Ty.dats).length = L.length * 5 := flat_len Ty.dats_len L
  rw [← h2, List.take_left]
theorem tabC_len {L : List Ty} (h : L.length ≤ 40) : (tabC L).length = 203 := by
  unfold tabC
  rw [List.length_append, tds_len h]
  rfl
theorem arrT : Tryd.prog.underlying 56 = some (.array (Tryd.prog.arrayLen 56) (Tryd.prog.elem 56)) := by kernel_rfl
theorem arrN : Tryd.prog.arrayLen 56 = 40 := by kernel_rfl
theorem arrE : sizeT Tryd.prog (Tryd.prog.elem 56) = some 5 := by kernel_rfl
theorem mapS : Tryd.prog.underlying 54 = some (.map 9 3) := by kernel_rfl
theorem mapI : Tryd.prog.underlying 55 = some (.map 3 4) := by kernel_rfl
theorem kfS : KeyF Tryd.prog 9 kS := keyStr str_9
theorem kfI : KeyF Tryd.prog 3 kI := keyInt int_3
theorem zI : zeroV Tryd.prog 3 = some (.int .i64 0) := by kernel_rfl
theorem zB : zeroV Tryd.prog 4 = some (.bool false) := by kernel_rfl
def findR (L : List Ty) (x : List UInt8) : IV := .tup [tyP ((ffind x L).getD ty0), bP (ffind x L).isSome]
set_option maxRecDepth 100000 in
theorem find_ef (gls : List (Nat × List Value)) (L : List Ty) (hL : TbOk L) (x : List UInt8) : EF Tryd.prog gls 9 [tabP L, sP x] (findR L x) := by
  have h40 := hL.2
  have hg := plc_get hL.1 x
  have hfi := ffind_idx x L
  refine ef_enter 26 Tryd.func9 rfl rfl rfl fun w D => ?_
  try refine e_fl ?_
  refine e_slot 0 rfl (Imp.ptr_ref _ _) ?_
  refine e_list ?_
  refine e_alloc 4 [.is (.string ⟨#[]⟩), .is (.bool false), .is (.int .i64 0), .is (.int .i64 0), .is (.int .i64 0)] rfl rfl rfl rfl zr_39 (fun w D M V => ⟨rfl, fun j x v h1 h2 => cfit_is _ h1 h2 rfl⟩) rfl rfl rfl rfl ?_
  refine l_as ?_
  refine e_nil ?_
  try refine e_fl ?_
  cases hf : fidx x L with
  | none =>
    rw [hf] at hg hfi
    try refine e_fl ?_
    refine e_plain (w_mv rfl rfl rfl rfl rfl (w_op rfl rfl rfl (s_nil_ref rfl (kn rfl)) (w_op rfl rfl rfl (s_faddr_refx rfl (kn rfl) off_58_2 (tab_drop h40 1)) (w_op rfl rfl rfl (s_load1_ref rfl (kn rfl) one_54) (w_mv rfl rfl rfl rfl rfl (w_op rfl rfl rfl (s_dlookx (kf := kS) x _ hg rfl (kn rfl) (kn rfl) kfS mapS zI) (w_mv rfl rfl rfl rfl rfl (w_op rfl rfl rfl (s_extract rfl (kn rfl) rfl) (w_op rfl rfl rfl (s_extract rfl (kn rfl) rfl) (w_as rfl rfl rfl rfl rfl (w_as rfl rfl rfl rfl rfl .nil))))))))))) ?_
    try refine e_fl ?_
    refine e_plain (w_mv rfl rfl rfl rfl rfl (w_op rfl rfl rfl (s_not rfl (kn rfl)) .nil)) ?_
    try refine e_fl ?_
    refine c_yes ?_
    try refine e_fl ?_
    refine e_list ?_
    refine l_op (s_build (ds := [_, _, _, _, _]) [] rfl trivial rfl pl_39 zr_39 (fun w D => .cons (.cell _) (.cons (.cell _) (.cons (.cell _) (.cons (.cell _) (.cons (.cell _) (.nil _ _)))))) rfl) ?_
    refine e_storew rfl rfl rfl (kn rfl) rfl (kn rfl) rfl rfl sz_39 ?_
    refine l_as ?_
    refine e_nil ?_
    try refine e_fl ?_
    exact e_return rfl rfl (.cell rfl rfl rfl agg_39 sz_39 rfl (.tmp (kn rfl) (.nil))) (Imp.of_eq (by unfold findR; rw [hfi]; rfl)) rfl
  | some j =>
    rw [hf] at hg hfi
    obtain ⟨t, ht, htx⟩ := fidx_lt hf
    obtain ⟨r, hr⟩ := tab_at ht
    have hj : j < L.length := (List.getElem?_eq_some_iff.1 ht).1
    have hfi2 : ffind x L = some t := hfi.trans ht
    try refine e_fl ?_
    refine e_plain (w_mv rfl rfl rfl rfl rfl (w_op rfl rfl rfl (s_nil_ref rfl (kn rfl)) (w_op rfl rfl rfl (s_faddr_refx rfl (kn rfl) off_58_2 (tab_drop h40 1)) (w_op rfl rfl rfl (s_load1_ref rfl (kn rfl) one_54) (w_mv rfl rfl rfl rfl rfl (w_op rfl rfl rfl (s_dlookx (kf := kS) x _ hg rfl (kn rfl) (kn rfl) kfS mapS zI) (w_mv rfl rfl rfl rfl rfl (w_op rfl rfl rfl (s_extract rfl (kn rfl) rfl) (w_op rfl rfl rfl (s_extract rfl (kn rfl) rfl) (w_as rfl rfl rfl rfl rfl (w_as rfl rfl rfl rfl rfl .nil))))))))))) ?_
    try refine e_fl ?_
    refine e_plain (w_mv rfl rfl rfl rfl rfl (w_op rfl rfl rfl (s_not rfl (kn rfl)) .nil)) ?_
    try refine e_fl ?_
    refine c_no ?_
    try refine e_fl ?_
    refine e_list ?_
    refine l_mv ?_
    refine l_mv ?_
    refine l_op (s_nil_ref rfl (kn rfl)) ?_
    refine l_op (s_faddr_refx rfl (kn rfl) off_58_0 rfl) ?_
    refine l_op (s_iaddr_refx (z := (j : Int)) rfl (kn rfl) (kn rfl) (by rw [arrN]; omega) arrT arrE hr) ?_
    refine l_op (s_loadk_ref 5 rfl (kn rfl) agg_39 sz_39 (by rw [List.length_append, Ty.dats_len]; omega)) ?_
    refine e_storew rfl rfl rfl (kn rfl) rfl (kn rfl) rfl rfl sz_39 ?_
    refine l_as ?_
    refine e_nil ?_
    try refine e_fl ?_
    exact e_return rfl rfl (.cell rfl rfl rfl agg_39 sz_39 rfl (.tmp (kn rfl) (.nil))) (Imp.of_eq (by unfold findR; rw [hfi2]; rfl)) rfl
def nmsT (en : Bool) (L : List Ty) : List (List UInt8) := (L.filter fun t => t.en == en).map (·.full)
theorem nmsT_len (en : Bool) (L : List Ty) : (nmsT en L).length = cnt en L := by
  unfold nmsT cnt
  rw [List.length_map]
theorem nmsT_snoc (en : Bool) (L : List Ty) (x : Ty) : nmsT en (L ++ [x]) = nmsT en L ++ (if (x.en == en) = true then [x.full] else []) := by
  unfold nmsT
  rw [List.filter_append, List.map_append]
  congr 1
  rw [List.filter_cons]
  split <;> rfl
theorem nmsT_le (en : Bool) (L : List Ty) : (nmsT en L).length ≤ L.length := by
  unfold nmsT
  rw [List.length_map]
  exact List.length_filter_le _ _
def nmsP (en : Bool) (L : List Ty) : Part := .one (.row 1 (nmsT en L).length ((nmsT en L).flatMap textDats))
set_option maxRecDepth 100000 in
theorem names_ef (gls : List (Nat × List Value)) (L : List Ty) (hL : TbOk L) (en : Bool) : EF Tryd.prog gls 34 [tabP L, bP en] (.part (nmsP en L)) := by
  have h40 := hL.2
  refine ef_enter 32 Tryd.func34 rfl rfl rfl fun w D => ?_
  try refine e_fl ?_
  refine e_slot 0 rfl (Imp.ptr_ref _ _) ?_
  refine e_plain (w_as rfl rfl rfl rfl rfl .nil) ?_
  try refine e_fl ?_
  refine e_plain (w_as rfl rfl rfl rfl rfl .nil) ?_
  try refine e_fl ?_
  refine e_draw mixed (by kernel_rfl) (w_mv rfl rfl rfl rfl rfl (w_op rfl rfl rfl (s_nil_ref rfl (kn rfl)) (w_op rfl rfl rfl (s_faddr_refx rfl (kn rfl) off_58_0 rfl) (w_mv rfl rfl rfl rfl rfl (w_op rfl rfl rfl (s_nil_ref rfl (kn rfl)) (w_op rfl rfl rfl (s_faddr_refx rfl (kn rfl) off_58_1 (tab_drop h40 0)) (w_op rfl rfl rfl (s_load1_ref rfl (kn rfl) one_3) (w_op rfl rfl rfl (s_aslice_ref (z := (L.length : Int)) rfl (kn rfl) (kn rfl) (by rw [arrN]; omega) (by rw [arrN]; omega) arrT arrE (by rw [List.drop_zero, tabC_len h40]; omega) (tab_head h40)) (w_op rfl rfl rfl (s_len rfl (kn rfl) sle_36) (w_mv rfl rfl rfl rfl rfl .nil)))))))))) ?_
  try refine e_fl ?_
  refine e_row_slot 5 100 9 1 rfl rfl rfl ?_
  refine e_loop (ι := { i : Nat // i ≤ L.length })
    (fun i => [(1, .is (.bool en)), (5, .own 100), (15, .part (.one (.row 5 L.length (L.flatMap Ty.dats)))), (16, .is (.int .i64 (L.length : Int))), (17, .is (.int .i64 (i.1 : Int)))])
    (fun _ => []) (fun i => [(100, ⟨9, 1, (nmsT en (L.take i.1)).length, (nmsT en (L.take i.1)).flatMap textDats, false⟩)]) (fun i => L.length - i.1)
    ⟨0, by omega⟩
    (fun K => e_sub ⟨s_t, s_t, s_t, s_t, s_t, trivial⟩ trivial ⟨rfl, trivial⟩) ?_
  rintro ⟨i, hi⟩
  dsimp only at hi ⊢
  try refine e_fl ?_
  refine e_plain (w_op rfl rfl rfl (s_bin rfl (kn rfl) (kn rfl) v_lss) .nil) ?_
  try refine e_fl ?_
  refine e_cond rfl (fun h => ?_) (fun h => ?_)
  · have hlt : i < L.length := by have := of_decide_eq_true h; omega
    obtain ⟨x, hx⟩ : ∃ x, L[i]? = some x := ⟨_, List.getElem?_eq_getElem hlt⟩
    have htk : L.take (i + 1) = L.take i ++ [x] := by rw [List.take_add_one, hx]; rfl
    have hsn := nmsT_snoc en (L.take i) x
    have hnl := nmsT_le en (L.take i)
    rw [List.length_take] at hnl
    rw [← htk] at hsn
    try refine e_fl ?_
    refine e_list ?_
    refine l_op (s_index rfl (kn rfl) (kn rfl) (by omega) hx Ty.dats_len sle_36 esz_36 rfl) ?_
    refine l_op (s_loadn_ref rfl (kn rfl) agg_39 sz_39) ?_
    refine e_alloc 7 [.is (.string ⟨#[]⟩), .is (.bool false), .is (.int .i64 0), .is (.int .i64 0), .is (.int .i64 0)] rfl rfl rfl rfl zr_39 (fun w D M V => ⟨rfl, fun j x v h1 h2 => cfit_is _ h1 h2 rfl⟩) rfl rfl rfl rfl ?_
    refine e_storew rfl rfl rfl (kn rfl) rfl (kn rfl) rfl rfl sz_39 ?_
    refine e_nil ?_
    try refine e_fl ?_
    refine e_plain (w_op rfl rfl rfl (s_faddr_box rfl (kn rfl) off_39_1) (w_op rfl rfl rfl (s_load1_box rfl (kn rfl) rfl rfl one_4) (w_mv rfl rfl rfl rfl rfl (w_op rfl rfl rfl (s_bin rfl (kn rfl) (kn rfl) (v_beq bool_4)) .nil)))) ?_
    try refine e_fl ?_
    refine e_cond rfl (fun h1 => ?_) (fun h1 => ?_)
    · rw [if_pos (by simpa using h1)] at hsn
      try refine e_fl ?_
      refine e_list ?_
      refine l_mv ?_
      refine l_op (s_faddr_box rfl (kn rfl) off_39_0) ?_
      refine l_op (s_load1_box rfl (kn rfl) rfl rfl one_9) ?_
      refine l_op (s_buildSlice (ds := [_]) [(0, _)] rfl ⟨rfl, (kn rfl), trivial⟩ rfl sl_45 sz_9 zr_9 (fun w D => .cons (.cell _) (.nil _ _)) rfl rfl rfl rfl rfl) ?_
      refine e_append rfl rfl rfl rfl (kn rfl) rfl (kn rfl) sl_45 ap_45 rfl rfl (by first | omega | (dsimp only; omega) | omega) (by first | omega | (dsimp only; omega) | omega) ?_
      refine l_as ?_
      refine e_nil ?_
      try refine e_fl ?_
      try refine e_fl ?_
      refine e_plain (w_op rfl rfl rfl (s_bin rfl (kn rfl) (kn rfl) (v_add64 (by first | omega | (dsimp only; omega) | omega))) (w_mv rfl rfl rfl rfl rfl .nil)) ?_
      try refine e_fl ?_
      refine e_again ⟨i + 1, by omega⟩ (by dsimp only; omega) (fun K => e_sub ⟨s_t, s_t, s_t, s_t, s_t, trivial⟩ trivial ⟨rowEq rfl (by rw [hsn]; simp) (by rw [hsn]; simp [textDats]), trivial⟩)
    · rw [if_neg (by simpa using h1), List.append_nil] at hsn
      try refine e_fl ?_
      refine e_plain (w_op rfl rfl rfl (s_bin rfl (kn rfl) (kn rfl) (v_add64 (by first | omega | (dsimp only; omega) | omega))) (w_mv rfl rfl rfl rfl rfl .nil)) ?_
      try refine e_fl ?_
      refine e_again ⟨i + 1, by omega⟩ (by dsimp only; omega) (fun K => e_sub ⟨s_t, s_t, s_t, s_t, s_t, trivial⟩ trivial ⟨rowEq rfl (by rw [hsn]) (by rw [hsn]), trivial⟩)
  · obtain rfl : i = L.length := by have := of_decide_eq_false h; omega
    rw [List.take_length]
    try refine e_fl ?_
    refine e_freeze_slot 5 100 rfl rfl rfl ?_
    refine e_plain (w_mv rfl rfl rfl rfl rfl (w_as rfl rfl rfl rfl rfl .nil)) ?_
    try refine e_fl ?_
    exact e_return rfl rfl (.tmp (kn rfl) (.nil)) (Imp.refl _) rfl
set_option maxRecDepth 100000 in
theorem types_ef (gls : List (Nat × List Value)) (L : List Ty) (hL : TbOk L) : EF Tryd.prog gls 8 [tabP L] (.part (.one (.row 5 L.length (L.flatMap Ty.dats)))) := by
  have h40 := hL.2
  have hone : (L.flatMap Ty.dats).all Dat.isOne = true := by
    rw [List.all_eq_true]
    intro d hd
    obtain ⟨x, _, hx⟩ := List.mem_flatMap.1 hd
    obtain ⟨v, hv, rfl⟩ := List.mem_map.1 hx
    have : x.vals.all (·.oneCell') = true := rfl
    exact List.all_eq_true.1 this v hv
  refine ef_enter 12 Tryd.func8 rfl rfl rfl fun w D => ?_
  try refine e_fl ?_
  refine e_slot 0 rfl (Imp.ptr_ref _ _) ?_
  refine e_plain (w_as rfl rfl rfl rfl rfl .nil) ?_
  try refine e_fl ?_
  refine e_draw_tail 8 mixed (by kernel_rfl) (w_mv rfl rfl rfl rfl rfl (w_op rfl rfl rfl (s_nil_ref rfl (kn rfl)) (w_op rfl rfl rfl (s_faddr_refx rfl (kn rfl) off_58_0 rfl) (w_mv rfl rfl rfl rfl rfl (w_op rfl rfl rfl (s_nil_ref rfl (kn rfl)) (w_op rfl rfl rfl (s_faddr_refx rfl (kn rfl) off_58_1 (tab_drop h40 0)) (w_op rfl rfl rfl (s_load1_ref rfl (kn rfl) one_3) (w_op rfl rfl rfl (s_aslice_ref (z := (L.length : Int)) rfl (kn rfl) (kn rfl) (by rw [arrN]; omega) (by rw [arrN]; omega) arrT arrE (by rw [List.drop_zero, tabC_len h40]; omega) (tab_head h40)) .nil)))))))) ?_
  refine e_append_nil 100 rfl rfl rfl rfl (kn rfl) sl_36 ap_36 rfl hone (by show 0 + L.length ≤ _; omega) (by show (0 + L.length) * _ ≤ _; omega) rfl rfl ?_
  refine l_as ?_
  refine e_nil ?_
  try refine e_fl ?_
  refine e_freeze_slot 2 100 rfl rfl rfl ?_
  exact e_return rfl rfl (.tmp (kn rfl) (.nil)) (Imp.of_eq (by show IV.part (.one (.row 5 (0 + L.length) ([] ++ L.flatMap Ty.dats))) = _; rw [Nat.zero_add, List.nil_append])) rfl
end Go.Proofs.YtekeanikgcpijaaDoor
