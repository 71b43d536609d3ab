/- Part 14 of what the last text of this claim is proved by: walks over the program, and the math behind them. Conditions: as each theorem says. -/
import Derived.Test.YtekeanikgcpijaaGreatDoorST13
import Derived.Laws.StructEq
import Derived.Test.YtekeanikgcpijaaGreatDoorProg
import Derived.Laws.BytesArg
import Derived.WalkSpells
import Derived.WalkLawsBesides
import Derived.Laws.Strings3
import Derived.Lib.BufferWrite
import Derived.Lib.UnsafeStr
import Derived.Laws.MakeOwn
import Derived.OwnWalk
import Derived.Lib.IndexMore
import Derived.Lib.IndexLaws
namespace Go.Proofs.YtekeanikgcpijaaGreatDoor
open Go.RowKit
inductive Alike3 (P : Program) (t : TypeId) : Value → Value → Prop where
  | int (k k' : IntKind) (a b : Int) (h : P.underlying t = some (.int k')) : Alike3 P t (.int k a) (.int k b)
  | str (a b : List UInt8) (h : P.underlying t = some .string) : Alike3 P t (.string (str a)) (.string (str b))
  | bool (a b : Bool) (h : P.underlying t = some .bool) : Alike3 P t (.bool a) (.bool b)
def Flat3 (P : Program) : Nat → List Field → List Value → List Value → Prop
  | _, [], [], [] => True
  | i, f :: fs, a :: aa, b :: bs => f.offset = i ∧ f.name ≠ "_" ∧ Alike3 P f.type a b ∧ Flat3 P (i + 1) fs aa bs
  | _, _, _, _ => False
theorem run_part_one3 {P : Program} {t : TypeId} {xs : Array Value} {i : Nat} {v : Value} (w : World) (ht : (P.underlying t = some .string ∨ P.underlying t = some .bool) ∨ ∃ k, P.underlying t = some (.int k)) (h : xs[i]? = some v) : (part t xs i).run P w = .ok v w := by
  rcases ht with (hu | hu) | ⟨k, hu⟩ <;> simp [part, isAgg, run_underlying hu, h]
theorem run_equal_alike3 {P : Program} {t : TypeId} {a b : Value} (d : Nat) (w : World) (h : Alike3 P t a b) : ∃ x, (Op.equalIn (d + 1) t a b).run P w = .ok x w ∧ (x = true ↔ a = b) := by
  cases h with
  | int k k' a b hu => exact ⟨_, run_equalIn_int w d t k k' a b hu, by simp⟩
  | bool a b hu => exact ⟨_, run_equalIn_bool' w d t a b hu, by simp⟩
  | str a b hu => exact ⟨_, run_equalIn_string w d t _ _ hu, by rw [str_toList, str_toList, beq_iff_eq]; constructor <;> intro h <;> first | (rw [h]) | (injection h with h; have := congrArg ByteArray.toList h; rwa [str_toList, str_toList] at this)⟩
theorem Alike3.plain {P : Program} {t : TypeId} {a b : Value} (h : Alike3 P t a b) : (P.underlying t = some .string ∨ P.underlying t = some .bool) ∨ ∃ k, P.underlying t = some (.int k) := by
  cases h with
  | int k k' a b hu => exact .inr ⟨k', hu⟩
  | str a b hu => exact .inl (.inl hu)
  | bool a b hu => exact .inl (.inr hu)
theorem run_eqFields_flat3 {P : Program} (d : Nat) (w : World) (xs ys : List Value) : ∀ (fs : List Field) (i : Nat) (aa bs : List Value), Flat3 P i fs aa bs → xs.drop i = aa → ys.drop i = bs →
    ∃ x, (Op.eqFields (d + 1) xs.toArray ys.toArray fs).run P w = .ok x w ∧ (x = true ↔ aa = bs)
  | [], i, [], [], _, _, _ => ⟨true, by simp [Op.eqFields], by simp⟩
  | f :: fs, i, a :: aa, b :: bs, h, hx, hy => by
    obtain ⟨h1, h2, h3, h4⟩ := h
    have hx1 : xs[i]? = some a := by rw [← Nat.add_zero i, ← List.getElem?_drop, hx]; rfl
    have hy1 : ys[i]? = some b := by rw [← Nat.add_zero i, ← List.getElem?_drop, hy]; rfl
    have hx2 : xs.drop (i + 1) = aa := by rw [← List.drop_drop, hx]; rfl
    have hy2 : ys.drop (i + 1) = bs := by rw [← List.drop_drop, hy]; rfl
    obtain ⟨x, e1, e2⟩ := run_equal_alike3 d w h3
    obtain ⟨y, e3, e4⟩ := run_eqFields_flat3 d w xs ys fs (i + 1) aa bs h4 hx2 hy2
    subst h1
    simp only [Op.eqFields, if_pos h2, Sem.run_bind, run_part_one3 (P := P) (xs := xs.toArray) w h3.plain (by simpa using hx1), run_part_one3 (P := P) (xs := ys.toArray) w h3.plain (by simpa using hy1), e1, Result.andThen_ok]
    cases x
    · refine ⟨false, by simp, ?_⟩
      simp only [Bool.false_eq_true, false_iff, List.cons.injEq, not_and]
      intro h
      exact absurd (e2.2 h) (by decide)
    · refine ⟨y, by simpa using e3, ?_⟩
      rw [e4, List.cons.injEq]
      exact ⟨fun h => ⟨e2.1 rfl, h⟩, fun h => h.2⟩
  | [], _, _ :: _, _, h, _, _ => h.elim
  | [], _, [], _ :: _, h, _, _ => h.elim
  | _ :: _, _, [], _, h, _, _ => h.elim
  | _ :: _, _, _ :: _, [], h, _, _ => h.elim
def flatB3 (P : Program) : Nat → List Field → List Nat → Bool
  | _, [], [] => true
  | i, f :: fs, k :: ks => Nat.beq f.offset i && !(f.name == "_") && (match P.underlying f.type with | some .string => Nat.beq k 1 | some (.int _) => Nat.beq k 0 | some .bool => Nat.beq k 2 | _ => false) && flatB3 P (i + 1) fs ks
  | _, _, _ => false
inductive KindsOf3 : List Nat → List Value → List Value → Prop where
  | nil : KindsOf3 [] [] []
  | str (a b : List UInt8) {ks : List Nat} {aa bs : List Value} (h : KindsOf3 ks aa bs) : KindsOf3 (1 :: ks) (.string (str a) :: aa) (.string (str b) :: bs)
  | int (k : IntKind) (a b : Int) {ks : List Nat} {aa bs : List Value} (h : KindsOf3 ks aa bs) : KindsOf3 (0 :: ks) (.int k a :: aa) (.int k b :: bs)
  | bool (a b : Bool) {ks : List Nat} {aa bs : List Value} (h : KindsOf3 ks aa bs) : KindsOf3 (2 :: ks) (.bool a :: aa) (.bool b :: bs)
theorem flat_of3 {P : Program} : ∀ {fs : List Field} {i : Nat} {ks : List Nat} {aa bs : List Value}, flatB3 P i fs ks = true → KindsOf3 ks aa bs → Flat3 P i fs aa bs
  | [], _, _, _, _, _, .nil => trivial
  | f :: fs, i, _, _, _, h, .str a b hk => by
    simp only [flatB3, Bool.and_eq_true] at h
    obtain ⟨⟨⟨h1, h2⟩, h3⟩, h4⟩ := h
    refine ⟨Nat.eq_of_beq_eq_true h1, fun e => by rw [e] at h2; exact absurd h2 (by decide), ?_, flat_of3 h4 hk⟩
    cases hu : P.underlying f.type with
    | none => rw [hu] at h3; cases h3
    | some d => cases d <;> rw [hu] at h3 <;> first | exact .str a b hu | (cases h3; done) | exact absurd h3 (by decide)
  | f :: fs, i, _, _, _, h, .int k a b hk => by
    simp only [flatB3, Bool.and_eq_true] at h
    obtain ⟨⟨⟨h1, h2⟩, h3⟩, h4⟩ := h
    refine ⟨Nat.eq_of_beq_eq_true h1, fun e => by rw [e] at h2; exact absurd h2 (by decide), ?_, flat_of3 h4 hk⟩
    cases hu : P.underlying f.type with
    | none => rw [hu] at h3; cases h3
    | some d => cases d <;> rw [hu] at h3 <;> first | exact .int k _ a b hu | (cases h3; done) | exact absurd h3 (by decide)
  | f :: fs, i, _, _, _, h, .bool a b hk => by
    simp only [flatB3, Bool.and_eq_true] at h
    obtain ⟨⟨⟨h1, h2⟩, h3⟩, h4⟩ := h
    refine ⟨Nat.eq_of_beq_eq_true h1, fun e => by rw [e] at h2; exact absurd h2 (by decide), ?_, flat_of3 h4 hk⟩
    cases hu : P.underlying f.type with
    | none => rw [hu] at h3; cases h3
    | some d => cases d <;> rw [hu] at h3 <;> first | exact .bool a b hu | (cases h3; done) | exact absurd h3 (by decide)
  | [], _, _, _, _, h, .str _ _ _ => by cases h
  | [], _, _, _, _, h, .int _ _ _ _ => by cases h
  | [], _, _, _, _, h, .bool _ _ _ => by cases h
  | _ :: _, _, _, _, _, h, .nil => by cases h
section
variable {P : Program} {cx : Cx} {T : TL} {B : BL} {R : RL} {o : Oper}
theorem v_stneq3 {t : TypeId} {cs ds : List Value} (ht : P.underlying t = some (.struct (P.fieldsOf t))) (hp : P.stoodInHeld t = false) (hm : P.eqGuardType P.depth t = false) (hf : Flat3 P 0 (P.fieldsOf t).toList cs ds) : BinV P .neq t (.agg cs.toArray) (.agg ds.toArray) (.bool (!cdec (cs = ds))) := fun x y w => by
  obtain ⟨z, h1, h2⟩ := run_eqFields_flat3 9998 w cs ds _ 0 cs ds hf rfl rfl
  rw [Sem.run_bind, run_eqGuard_agg w .neq t x y _ _ hm, Result.andThen_ok, run_neq_struct, run_equalIn_agg w 9999 t _ _ ht hp, h1, Result.andThen_ok, cdec_eq h2]
theorem s_ptr_dat {x : Operand} {t t' t2 : TypeId} {ds : List Dat} (ho : o.op = .binOp .eql t x (.const (.pointer none)) t') (hx : Kn T x (.part (.one (.ptr t2 ds)))) (hp : P.underlying t = some (.pointer (P.pointee t))) : LStep P cx B R o T (.is (.bool false)) := s_binw ho fun M V w a hk => by
  have h0 : Lies w (Dc cx B R M V w) (.ptr t2 ds) (a.eval x) := hk x _ (by simp [ho, Op.operands]) hx
  obtain ⟨b, h1⟩ : ∃ b, a.eval x = .pointer (some ⟨b, 0, none⟩) := by
    generalize a.eval x = v at h0
    cases h0 with
    | ptr b => exact ⟨b, rfl⟩
  rw [h1]
  exact binv_nil (some _) hp
end
end Go.Proofs.YtekeanikgcpijaaGreatDoor
namespace Go.Proofs.YtekeanikgcpijaaGreatDoor
open Go.RowKit
theorem str_index (l : List UInt8) (i : Nat) (h : i < l.length) (u : World) : (Instr.index 9 (.string (str l)) (.int .i64 (i : Int))).run Tryz.prog u = .ok (.int .u8 (l[i].toNat : Int)) u := by
  rw [run_index_string (P := Tryz.prog) u 9 (str l) .i64 i Tryz.underlying9, dif_pos ⟨by omega, by rw [strSize]; omega⟩]
  rfl
theorem str_from (l : List UInt8) (k : Nat) (h : k ≤ l.length) (u : World) : (Instr.slice 9 (.string (str l)) (some (.int .i64 (k : Int))) none none).run Tryz.prog u = .ok (.string (str (l.drop k))) u := by
  rw [run_slice_string_from_if (P := Tryz.prog) u 9 (str l) .i64 k Tryz.underlying9, if_pos ⟨by omega, by rw [strSize]; omega⟩, str_extract, strSize, Int.toNat_natCast, List.take_of_length_le (by rw [List.length_drop]; omega)]
theorem str_upto (l : List UInt8) (k : Nat) (h : k ≤ l.length) (u : World) : (Instr.slice 9 (.string (str l)) none (some (.int .i64 (k : Int))) none).run Tryz.prog u = .ok (.string (str (l.take k))) u := by
  rw [run_slice_string_to_if (P := Tryz.prog) u 9 (str l) .i64 k Tryz.underlying9, if_pos ⟨by omega, by rw [strSize]; omega⟩, str_extract, Int.toNat_natCast, List.drop_zero, Nat.sub_zero]
theorem str_mid (l : List UInt8) (j k : Nat) (hj : j ≤ k) (h : k ≤ l.length) (u : World) : (Instr.slice 9 (.string (str l)) (some (.int .i64 (j : Int))) (some (.int .i64 (k : Int))) none).run Tryz.prog u = .ok (.string (str ((l.drop j).take (k - j)))) u := by
  rw [run_slice_string (P := Tryz.prog) u 9 (str l) .i64 .i64 j k Tryz.underlying9 (by omega) (by omega) (by rw [strSize]; omega), str_extract, Int.toNat_natCast, Int.toNat_natCast]
end Go.Proofs.YtekeanikgcpijaaGreatDoor
namespace Go.Proofs.YtekeanikgcpijaaGreatDoor
open Go.RowKit
theorem infoByteC : (Tryz.prog.info? 5).map (fun i => (i.zero, i.size, i.bytes)) = some (some (.int .u8 0), 1, 1) := by kernel_rfl
theorem cellByteC : Tryz.prog.cellsOf 5 = 1 := by kernel_rfl
set_option maxRecDepth 100000 in
set_option maxHeartbeats 2000000 in
theorem cloneIn_any (w : World) (l : List UInt8) (hl : l.length ≤ 140737488351232) :
    Calls Tryz.prog 80 #[.string (str l)] w fun e w' => e = .returned (.string (str l)) ∧ Below w.heap.size w w' := by
  by_cases h0 : l = []
  · subst h0
    have hz : (str []).size = 0 := rfl
    go_enter Tryz.func80, Tryz.ntmps80
    go_wp2
    go_ret
    exact ⟨rfl, Below.refl _ _⟩
  · obtain ⟨i, hi, hz0, hz1, hz2⟩ := info_parts infoByteC
    have hpos : 0 < l.length := List.length_pos_iff.2 h0
    have hz : (str l).size = l.length := strSize l
    obtain ⟨M, hM⟩ : ∃ M, M = madeCells (Value.int .u8 0).cells (((l.length : Nat) : Int).toNat * i.size) := ⟨_, rfl⟩
    have hMs : M.size = l.length := by rw [hM, size_madeCells, hz1]; simp
    have hmk : ∀ W : World, (Instr.makeSlice 164 (.int .i64 (l.length : Int)) (.int .i64 (l.length : Int))).run Tryz.prog W = .ok (.slice (some ⟨W.heap.size, 0, none⟩) l.length l.length) (W.alloc (.cells M 5)) := fun W => by
      have h := run_make (P := Tryz.prog) W 164 5 i (.int .u8 0) Tryz.underlying164 hi hz0 .i64 .i64 (l.length : Int) (l.length : Int) (by omega) (by omega) (by rw [hz2]; omega) (by omega)
      rw [← hM] at h
      simpa using h
    clear hM
    have hcp := Lib.run_copy_row_string (P := Tryz.prog) (w.alloc (.cells M 5)) 164 9 3 5 w.heap.size 0 l.length l.length (str l) M 5 Tryz.underlying164 (by rw [hi]; simp [hz1]) (heap_alloc_new w _) (by rw [hz]; exact Nat.le_refl _) (by rw [hz]; omega)
    rw [hz] at hcp
    obtain ⟨Y, hY⟩ : ∃ Y, Y = (M.toList.take 0 ++ Lib.byteCells (str l).data.toList ++ M.toList.drop (0 + l.length)).toArray := ⟨_, rfl⟩
    rw [← hY] at hcp
    have hYl : Y = (l.map bv).toArray := by
      rw [hY, List.take_zero, List.nil_append, List.drop_of_length_le (by rw [Array.length_toList]; omega), List.append_nil]
      rfl
    clear hY
    obtain ⟨V, hV⟩ : ∃ V, V = (w.alloc (.cells M 5)).setRow w.heap.size Y := ⟨_, rfl⟩
    rw [← hV] at hcp
    have hk : Blk V w.heap.size 5 (l.map bv) := by
      unfold Blk
      rw [hV, ← hYl]
      exact setRow_heap _ _ M _ 5 (0, 0) (heap_alloc_new w _)
    have hus : (Builtin.unsafeString_ #[190, 3] 9 #[.pointer (some ⟨w.heap.size, 0, none⟩), .int .i64 (l.length : Int)]).run Tryz.prog V = .ok (.string (str l)) (V.freeze ⟨w.heap.size, 0, none⟩ l.length) :=
      Lib.run_unsafeString_row V _ _ _ 5 Tryz.underlying190 cellByteC w.heap.size (l.map bv).length (by unfold World.shape?; rw [hk]; simp) l h0 (by simp) (by omega) fun j x hx => by
        rw [Addr.add_lit, Nat.zero_add, hk.cell, List.getElem?_map, hx]
        rfl
    have hb : Below w.heap.size w V := by
      rw [hV]
      exact ((Below.refl _ w).alloc (Nat.le_refl _) _).trans ⟨rfl, rfl, rfl, by simp, fun k hk => setRow_other _ _ _ _ (by omega)⟩
    have HB := Lib.hid (Lib.below_freeze hb (p := ⟨w.heap.size, 0, none⟩) (Nat.le_refl _) l.length)
    clear hb hk hV hYl hi hz0 hz1 hz2 hMs h0
    have hne : ¬ (l.length : Int) = 0 := by omega
    have hne2 : ((l.length : Int) == 0) = false := by simpa using hne
    go_enter Tryz.func80, Tryz.ntmps80
    go_wp2
    go_ret
    exact ⟨rfl, HB.out⟩
set_option maxRecDepth 100000 in
theorem clone_any (w : World) (l : List UInt8) (hl : l.length ≤ 140737488351232) :
    Calls Tryz.prog 50 #[.string (str l)] w fun e w' => e = .returned (.string (str l)) ∧ Below w.heap.size w w' := by
  go_enter Tryz.func50, Tryz.ntmps50
  go_wp2_with fail
  refine (cloneIn_any w l hl).mono ?_
  rintro e w1 ⟨rfl, hb⟩
  go_wp2_with fail
  go_ret
  exact ⟨rfl, hb⟩
end Go.Proofs.YtekeanikgcpijaaGreatDoor
namespace Go.Proofs.YtekeanikgcpijaaGreatDoor
open Go Go.Lib
def lxGap (b : UInt8) : Bool := b == 32 || b == 9 || b == 13 || b == 10
def lxLet (b : UInt8) : Bool := decide (97 ≤ b.toNat ∧ b.toNat ≤ 122) || decide (65 ≤ b.toNat ∧ b.toNat ≤ 90) || b == 95
def lxFig (b : UInt8) : Bool := decide (48 ≤ b.toNat ∧ b.toNat ≤ 57)
def lxIn (b : UInt8) : Bool := lxLet b || lxFig b
def lxQuote (b : UInt8) : Bool := b == 34 || b == 39
def signs : List UInt8 := [123, 125, 91, 93, 60, 62, 40, 41, 59, 61, 44, 46, 45]
def lxSign (b : UInt8) : Bool := signs.contains b
def ldig (b : UInt8) : Nat :=
  if 48 ≤ b.toNat ∧ b.toNat ≤ 57 then b.toNat - 48 else if 97 ≤ b.toNat ∧ b.toNat ≤ 102 then b.toNat - 97 + 10
  else if 65 ≤ b.toNat ∧ b.toNat ≤ 70 then b.toNat - 65 + 10 else 16
def lspan (p : UInt8 → Bool) : List UInt8 → Nat
  | [] => 0
  | b :: l => if p b then lspan p l + 1 else 0
theorem lspan_le (p : UInt8 → Bool) : ∀ l, lspan p l ≤ l.length
  | [] => Nat.le_refl _
  | b :: l => by
    have := lspan_le p l
    unfold lspan
    split <;> simp <;> omega
theorem lspan_eq {p : UInt8 → Bool} : ∀ {l : List UInt8} {i : Nat}, i ≤ l.length → (∀ j b, j < i → l[j]? = some b → p b = true) → (∀ b, l[i]? = some b → p b = false) → lspan p l = i
  | [], i, hi, _, _ => by
    have : i = 0 := by simpa using hi
    subst this; rfl
  | b :: l, 0, _, _, hs => by
    have := hs b (by simp)
    simp [lspan, this]
  | b :: l, i + 1, hi, hj, hs => by
    have h0 := hj 0 b (by omega) (by simp)
    have := lspan_eq (p := p) (l := l) (i := i) (by simpa using hi) (fun j c h hc => hj (j + 1) c (by omega) (by simpa using hc)) (fun c hc => hs c (by simpa using hc))
    simp [lspan, h0, this]
theorem lspan_all {p : UInt8 → Bool} : ∀ {l : List UInt8} {j : Nat} {b : UInt8}, j < lspan p l → l[j]? = some b → p b = true
  | [], j, b, h, _ => by simp [lspan] at h
  | c :: l, j, b, h, hb => by
    unfold lspan at h
    split at h
    · rename_i hc
      cases j with
      | zero => simp at hb; exact hb ▸ hc
      | succ j => exact lspan_all (l := l) (j := j) (by omega) (by simpa using hb)
    · omega
theorem lspan_pos {p : UInt8 → Bool} {b : UInt8} {l : List UInt8} (h : p b = true) : lspan p (b :: l) = lspan p l + 1 := by simp [lspan, h]
def lval (base : Nat) (ds : List UInt8) : Nat := ds.foldl (fun n b => n * base + ldig b) 0
def lnb (base : Nat) (ds : List UInt8) : Nat × Nat :=
  if ds = [] ∨ (ds.all fun b => decide (ldig b < base)) = false then (0, 9) else if 2147483647 < lval base ds then (0, 1) else (lval base ds, 0)
def lnum (l : List UInt8) : Nat × Nat :=
  if l.take 2 = [48, 120] ∨ l.take 2 = [48, 88] then lnb 16 (l.drop 2) else if l.head? = some 48 then lnb 8 l else lnb 10 l
def lclosed (k : Nat) (e l : List UInt8) : Nat × Nat := if index (l.drop k) e < 0 then (0, 9) else (k + (index (l.drop k) e).toNat + e.length, 0)
def noLF (b : UInt8) : Bool := b != 10
def lcut (l : List UInt8) : Nat × Nat × Nat :=
  if lxGap (l.headD 0) then (0, lspan lxGap l, 0)
  else if l.take 2 = [47, 47] then (0, lspan noLF l, 0)
  else if l.take 2 = [47, 42] then (0, lclosed 2 [42, 47] l)
  else if lxLet (l.headD 0) then (1, lspan lxIn l, 0)
  else if lxFig (l.headD 0) then (2, lspan lxIn l, 0)
  else if lxQuote (l.headD 0) then (3, lclosed 1 [l.headD 0] l)
  else if lxSign (l.headD 0) then (4, 1, 0)
  else (0, 0, 9)
structure Tok where
  k : Nat
  t : List UInt8
  n : Nat
deriving DecidableEq
def ltoken (k : Nat) (p : List UInt8) : Tok × Nat :=
  if k = 0 then (⟨0, [], 0⟩, 0)
  else if k = 1 then (if 40 < p.length then (⟨0, [], 0⟩, 3) else (⟨1, p, 0⟩, 0))
  else if k = 2 then (if (lnum p).2 = 0 then (⟨2, p, (lnum p).1⟩, 0) else (⟨0, [], 0⟩, (lnum p).2))
  else if k = 3 then (if (92 : UInt8) ∈ (p.drop 1).take (p.length - 2) ∨ (10 : UInt8) ∈ (p.drop 1).take (p.length - 2) then (⟨0, [], 0⟩, 9) else (⟨3, (p.drop 1).take (p.length - 2), 0⟩, 0))
  else (⟨k, p, 0⟩, 0)
def lfirst (l : List UInt8) : Tok × Nat × Nat :=
  if (lcut l).2.2 ≠ 0 then (⟨0, [], 0⟩, 0, (lcut l).2.2)
  else if (ltoken (lcut l).1 (l.take (lcut l).2.1)).2 ≠ 0 then (⟨0, [], 0⟩, 0, (ltoken (lcut l).1 (l.take (lcut l).2.1)).2)
  else ((ltoken (lcut l).1 (l.take (lcut l).2.1)).1, (lcut l).2.1, 0)
theorem lclosed_size {k : Nat} {e l : List UInt8} (hk : k ≤ l.length) (h : (lclosed k e l).2 = 0) : k + e.length ≤ (lclosed k e l).1 ∧ (lclosed k e l).1 ≤ l.length := by
  unfold lclosed at h ⊢
  split
  · rename_i h0; rw [if_pos h0] at h; cases h
  · rename_i h0
    have := index_room (l.drop k) e (by omega)
    rw [List.length_drop] at this
    simp only
    omega
theorem lspan_first {p : UInt8 → Bool} {l : List UInt8} (h0 : 0 < l.length) (h : p (l.headD 0) = true) : 0 < lspan p l := by
  cases l with
  | nil => simp at h0
  | cons b l => rw [lspan_pos (by simpa using h)]; omega
theorem lcut_size {l : List UInt8} (h0 : 0 < l.length) (h : (lcut l).2.2 = 0) : 0 < (lcut l).2.1 ∧ (lcut l).2.1 ≤ l.length := by
  unfold lcut at h ⊢
  split
  · rename_i h1
    exact ⟨lspan_first h0 h1, lspan_le _ _⟩
  rename_i h1
  rw [if_neg h1] at h
  split
  · rename_i h2
    refine ⟨?_, lspan_le _ _⟩
    refine lspan_first h0 ?_
    match l, h2 with
    | b :: c :: l, h2 => simp at h2; simp [h2.1, noLF]
    | [b], h2 => simp at h2
  rename_i h2
  rw [if_neg h2] at h
  split
  · rename_i h3
    rw [if_pos h3] at h
    have hk : 2 ≤ l.length := by
      have := congrArg List.length h3
      rw [List.length_take] at this
      simp at this
      omega
    have := lclosed_size (k := 2) hk h
    simp only at this ⊢
    omega
  rename_i h3
  rw [if_neg h3] at h
  split
  · rename_i h4
    exact ⟨lspan_first h0 (by simp only [lxIn, h4, Bool.true_or]), lspan_le _ _⟩
  rename_i h4
  rw [if_neg h4] at h
  split
  · rename_i h5
    exact ⟨lspan_first h0 (by simp only [lxIn, h5, Bool.or_true]), lspan_le _ _⟩
  rename_i h5
  rw [if_neg h5] at h
  split
  · rename_i h6
    rw [if_pos h6] at h
    have := lclosed_size (k := 1) (by omega) h
    simp only at this ⊢
    omega
  rename_i h6
  rw [if_neg h6] at h
  split
  · exact ⟨by simp, h0⟩
  · rename_i h7
    rw [if_neg h7] at h
    simp at h
theorem lfirst_size {l : List UInt8} (h0 : 0 < l.length) (h : (lfirst l).2.2 = 0) : 0 < (lfirst l).2.1 ∧ (lfirst l).2.1 ≤ l.length ∧ (lcut l).2.2 = 0 ∧ (lfirst l).2.1 = (lcut l).2.1 ∧ (ltoken (lcut l).1 (l.take (lcut l).2.1)).2 = 0 ∧ (lfirst l).1 = (ltoken (lcut l).1 (l.take (lcut l).2.1)).1 := by
  unfold lfirst at h ⊢
  split
  · rename_i h1; rw [if_pos h1] at h; exact absurd h h1
  rename_i h1
  rw [if_neg h1] at h
  split
  · rename_i h2; rw [if_pos h2] at h; exact absurd h h2
  rename_i h2
  have := lcut_size h0 (by simpa using h1)
  exact ⟨this.1, this.2, by simpa using h1, rfl, by simpa using h2, rfl⟩
def lplace (p : Nat × Nat) (l : List UInt8) : Nat × Nat := l.foldl (fun p b => if b = 10 then (p.1 + 1, 1) else (p.1, p.2 + 1)) p
theorem lplace_append (p : Nat × Nat) (l m : List UInt8) : lplace p (l ++ m) = lplace (lplace p l) m := by simp [lplace]
theorem lplace_snoc (p : Nat × Nat) (l : List UInt8) (b : UInt8) : lplace p (l ++ [b]) = if b = 10 then ((lplace p l).1 + 1, 1) else ((lplace p l).1, (lplace p l).2 + 1) := by
  rw [lplace_append]; simp [lplace]
theorem lplace_le : ∀ (l : List UInt8) (p : Nat × Nat), (lplace p l).1 ≤ p.1 + l.length ∧ (lplace p l).2 ≤ p.2 + 1 + l.length
  | [], p => by simp only [lplace, List.foldl_nil, List.length_nil]; omega
  | b :: l, p => by
    have e : lplace p (b :: l) = lplace (if b = 10 then (p.1 + 1, 1) else (p.1, p.2 + 1)) l := rfl
    rw [e]
    split
    · have := lplace_le l (p.1 + 1, 1)
      simp only [List.length_cons] at this ⊢
      omega
    · have := lplace_le l (p.1, p.2 + 1)
      simp only [List.length_cons] at this ⊢
      omega
def placeAt (l : List UInt8) (at' : Nat) : Nat × Nat := lplace (1, 1) (l.take at')
theorem placeAt_more (l : List UInt8) (i n : Nat) : placeAt l (i + n) = lplace (placeAt l i) ((l.drop i).take n) := by
  unfold placeAt
  rw [← lplace_append, List.take_add]
theorem placeAt_le (l : List UInt8) (i : Nat) : (placeAt l i).1 ≤ 1 + l.length ∧ (placeAt l i).2 ≤ 2 + l.length := by
  have := lplace_le (l.take i) (1, 1)
  have h : (l.take i).length ≤ l.length := by rw [List.length_take]; omega
  unfold placeAt
  simp only at this ⊢
  omega
inductive Lex (l : List UInt8) : Nat → List (Tok × Nat) → Nat → Nat → Prop
  | done {i : Nat} : i = l.length → Lex l i [] 0 0
  | bad {i : Nat} : i < l.length → (lfirst (l.drop i)).2.2 ≠ 0 → Lex l i [] (lfirst (l.drop i)).2.2 i
  | gap {i : Nat} {ts e ea} : i < l.length → (lfirst (l.drop i)).2.2 = 0 → (lcut (l.drop i)).1 = 0 → Lex l (i + (lfirst (l.drop i)).2.1) ts e ea → Lex l i ts e ea
  | tok {i : Nat} {ts e ea} : i < l.length → (lfirst (l.drop i)).2.2 = 0 → (lcut (l.drop i)).1 ≠ 0 → Lex l (i + (lfirst (l.drop i)).2.1) ts e ea → Lex l i (((lfirst (l.drop i)).1, i) :: ts) e ea
theorem lex_total (l : List UInt8) : ∀ (n i : Nat), i + n = l.length → ∃ ts e ea, Lex l i ts e ea := by
  intro n
  induction n using Nat.strongRecOn with
  | ind n ih =>
    intro i hi
    by_cases h0 : i = l.length
    · exact ⟨_, _, _, .done h0⟩
    have hlt : i < l.length := by omega
    by_cases hb : (lfirst (l.drop i)).2.2 = 0
    · have hs := lfirst_size (l := l.drop i) (by rw [List.length_drop]; omega) hb
      rw [List.length_drop] at hs
      obtain ⟨ts, e, ea, hL⟩ := ih (n - (lfirst (l.drop i)).2.1) (by omega) (i + (lfirst (l.drop i)).2.1) (by omega)
      by_cases hk : (lcut (l.drop i)).1 = 0
      · exact ⟨_, _, _, .gap hlt hb hk hL⟩
      · exact ⟨_, _, _, .tok hlt hb hk hL⟩
    · exact ⟨_, _, _, .bad hlt hb⟩
end Go.Proofs.YtekeanikgcpijaaGreatDoor
namespace Go.Proofs.YtekeanikgcpijaaGreatDoor
open Go Go.Lib
abbrev Tk := Tok × Nat × Nat
structure Fld where
 name : List UInt8
 type : List UInt8
 mapKey : List UInt8
 key : List UInt8
 label : Int
 number : Int
 packed : Int
 oneof : Int
 line : Int
 col : Int
structure Val where
 name : List UInt8
 number : Int
 line : Int
 col : Int
structure Enm where
 name : List UInt8
 vals : List Val
 line : Int
 col : Int
inductive Msg where
 | mk (name : List UInt8) (fields : List Fld) (oneofs : List (List UInt8)) (msgs : List Msg) (enums : List Enm) (reserved : List (Int × Int)) (names : List (List UInt8)) (line col : Int)
structure Fil where
 package : List UInt8
 msgs : List Msg
 enums : List Enm
abbrev Ans8 (α : Type) := Except (Nat × Nat) α
def form8 {α : Type} (p : Nat) : Ans8 α := .error (p, 9)
def tkIs (l : List Tk) (p k : Nat) (t : List UInt8) : Bool :=
 match l[p]? with
 | none => false
 | some x => decide (x.1.k = k) && (decide (t = []) || decide (x.1.t = t))
def sWant (l : List Tk) (k : Nat) (t : List UInt8) (p : Nat) : Ans8 Nat := if tkIs l p k t then .ok (p + 1) else form8 p
def sName (l : List Tk) (p : Nat) : Ans8 (Tk × Nat) :=
 match l[p]? with
 | none => form8 p
 | some x => if x.1.k = 1 then .ok (x, p + 1) else form8 p
def sNumber (l : List Tk) (p : Nat) : Ans8 (Int × Nat) :=
 match l[p]? with
 | none => form8 p
 | some x => if x.1.k = 2 then .ok ((x.1.n : Int), p + 1) else form8 p
def sDots (l : List Tk) : Nat → List UInt8 → Nat → Ans8 (List UInt8 × Nat)
 | 0, _, p => form8 p
 | n + 1, s, p =>
  match sName l p with
  | .error e => .error e
  | .ok (x, q) => if tkIs l q 4 [46] then sDots l n (s ++ x.1.t ++ [46]) (q + 1) else .ok (s ++ x.1.t, q)
def sDotted (l : List Tk) (typ : Bool) (p : Nat) : Ans8 (List UInt8 × Nat) :=
 if typ && tkIs l p 4 [46] then sDots l (l.length + 1) [46] (p + 1) else sDots l (l.length + 1) [] p
def sOption (l : List Tk) (f : Fld) (p : Nat) : Ans8 (Fld × Nat) :=
 if tkIs l p 1 [112, 97, 99, 107, 101, 100] && decide (f.packed = 0) then
  match sWant l 4 [61] (p + 1) with
  | .error e => .error e
  | .ok q =>
   if tkIs l q 1 [116, 114, 117, 101] then .ok ({ f with packed := 1 }, q + 1)
   else if tkIs l q 1 [102, 97, 108, 115, 101] then .ok ({ f with packed := 2 }, q + 1)
   else form8 q
 else if tkIs l p 1 [107, 101, 121] && decide (f.key = []) then
  match sWant l 4 [61] (p + 1) with
  | .error e => .error e
  | .ok q =>
   match sName l q with
   | .error e => .error e
   | .ok (x, r) => .ok ({ f with key := x.1.t }, r)
 else form8 p
def sOpts (l : List Tk) : Nat → Fld → Nat → Ans8 (Fld × Nat)
 | 0, _, p => form8 p
 | n + 1, f, p =>
  match sOption l f (p + 1) with
  | .error e => .error e
  | .ok (g, q) =>
   if tkIs l q 4 [44] then sOpts l n g q
   else
    match sWant l 4 [93] q with
    | .error e => .error e
    | .ok r =>
     match sWant l 4 [59] r with
     | .error e => .error e
     | .ok s => .ok (g, s)
def sOptions (l : List Tk) (f : Fld) (p : Nat) : Ans8 (Fld × Nat) :=
 if tkIs l p 4 [91] then sOpts l (l.length + 1) f p
 else
  match sWant l 4 [59] p with
  | .error e => .error e
  | .ok s => .ok (f, s)
def sRest (l : List Tk) (f : Fld) (p : Nat) : Ans8 (Fld × Nat) :=
 match sName l p with
 | .error e => .error e
 | .ok (x, q) =>
  match sWant l 4 [61] q with
  | .error e => .error e
  | .ok r =>
   match sNumber l r with
   | .error e => .error e
   | .ok (n, s) => sOptions l { f with name := x.1.t, line := x.2.1, col := x.2.2, number := n } s
def fld0 (label oneof : Int) : Fld := ⟨[], [], [], [], label, 0, 0, oneof, 0, 0⟩
def sField (l : List Tk) (p : Nat) (label oneof : Int) : Ans8 (Fld × Nat) :=
 match sDotted l true p with
 | .error e => .error e
 | .ok (s, q) => sRest l { fld0 label oneof with type := s } q
def sMapped (l : List Tk) (p : Nat) : Ans8 (Fld × Nat) :=
 match sWant l 4 [60] p with
 | .error e => .error e
 | .ok q =>
  match sName l q with
  | .error e => .error e
  | .ok (x, r) =>
   match sWant l 4 [44] r with
   | .error e => .error e
   | .ok s =>
    match sDotted l true s with
    | .error e => .error e
    | .ok (t, u) =>
     match sWant l 4 [62] u with
     | .error e => .error e
     | .ok v => sRest l { fld0 4 0 with mapKey := x.1.t, type := t } v
def sSemis (l : List Tk) : Nat → Nat → Nat
 | 0, p => p
 | n + 1, p => if tkIs l p 4 [59] then sSemis l n (p + 1) else p
def semis (l : List Tk) (p : Nat) : Nat := sSemis l (l.length - p) p
def sHead (l : List Tk) (p : Nat) : Ans8 (Tk × Nat) :=
 match sName l p with
 | .error e => .error e
 | .ok (x, q) =>
  match sWant l 4 [123] q with
  | .error e => .error e
  | .ok r => .ok (x, r)
def sValue (l : List Tk) (p : Nat) : Ans8 (Val × Nat) :=
 match sName l p with
 | .error e => .error e
 | .ok (x, q) =>
  match sWant l 4 [61] q with
  | .error e => .error e
  | .ok r =>
   if tkIs l r 4 [45] then
    match sNumber l (r + 1) with
    | .error e => .error e
    | .ok (n, s) =>
     match sWant l 4 [59] s with
     | .error e => .error e
     | .ok t => .ok (⟨x.1.t, -n, x.2.1, x.2.2⟩, t)
   else
    match sNumber l r with
    | .error e => .error e
    | .ok (n, s) =>
     match sWant l 4 [59] s with
     | .error e => .error e
     | .ok t => .ok (⟨x.1.t, n, x.2.1, x.2.2⟩, t)
def sVals (l : List Tk) : Nat → List Val → Nat → Ans8 (List Val × Nat)
 | 0, _, p => form8 p
 | n + 1, vs, p0 =>
  let p := semis l p0
  if tkIs l p 4 [125] then (if vs = [] then form8 p else .ok (vs, p + 1))
  else
   match sValue l p with
   | .error e => .error e
   | .ok (v, q) => sVals l n (vs ++ [v]) q
def sEnum (l : List Tk) (p : Nat) : Ans8 (Enm × Nat) :=
 match sHead l p with
 | .error e => .error e
 | .ok (x, q) =>
  match sVals l (l.length + 1) [] q with
  | .error e => .error e
  | .ok (vs, r) => .ok (⟨x.1.t, vs, x.2.1, x.2.2⟩, r)
def sFlds (l : List Tk) (which : Int) : Nat → List Fld → Nat → Ans8 (List Fld × Nat)
 | 0, _, p => form8 p
 | n + 1, fs, p0 =>
  let p := semis l p0
  if tkIs l p 4 [125] then (if fs = [] then form8 p else .ok (fs, p + 1))
  else
   match sField l p 1 which with
   | .error e => .error e
   | .ok (f, q) => sFlds l which n (fs ++ [f]) q
def sOneof (l : List Tk) (p : Nat) (which : Int) : Ans8 ((List UInt8 × List Fld) × Nat) :=
 match sHead l p with
 | .error e => .error e
 | .ok (x, q) =>
  match sFlds l which (l.length + 1) [] q with
  | .error e => .error e
  | .ok (fs, r) => .ok ((x.1.t, fs), r)
def sRange (l : List Tk) (p : Nat) : Ans8 ((Int × Int) × Nat) :=
 match sNumber l p with
 | .error e => .error e
 | .ok (n, q) =>
  if tkIs l q 1 [116, 111] then
   if tkIs l (q + 1) 1 [109, 97, 120] then .ok ((n, 536870911), q + 2)
   else
    match sNumber l (q + 1) with
    | .error e => .error e
    | .ok (m, r) => .ok ((n, m), r)
  else .ok ((n, n), q)
def sRanges (l : List Tk) : Nat → List (Int × Int) → Nat → Ans8 (List (Int × Int) × Nat)
 | 0, _, p => form8 p
 | n + 1, rs, p =>
  match sRange l p with
  | .error e => .error e
  | .ok (x, q) =>
   if tkIs l q 4 [44] then sRanges l n (rs ++ [x]) (q + 1)
   else
    match sWant l 4 [59] q with
    | .error e => .error e
    | .ok r => .ok (rs ++ [x], r)
def sText (l : List Tk) (p : Nat) : Ans8 (List UInt8 × Nat) :=
 match l[p]? with
 | none => form8 p
 | some x => if x.1.k = 3 then .ok (x.1.t, p + 1) else form8 p
def sTexts (l : List Tk) : Nat → List (List UInt8) → Nat → Ans8 (List (List UInt8) × Nat)
 | 0, _, p => form8 p
 | n + 1, ts, p =>
  match sText l p with
  | .error e => .error e
  | .ok (x, q) =>
   if tkIs l q 4 [44] then sTexts l n (ts ++ [x]) (q + 1)
   else
    match sWant l 4 [59] q with
    | .error e => .error e
    | .ok r => .ok (ts ++ [x], r)
def isText (l : List Tk) (p : Nat) : Bool :=
 match l[p]? with
 | none => false
 | some x => decide (x.1.k = 3)
def sReserved (l : List Tk) (p : Nat) : Ans8 ((List (Int × Int) × List (List UInt8)) × Nat) :=
 if isText l p then
  match sTexts l (l.length + 1) [] p with
  | .error e => .error e
  | .ok (ts, q) => .ok (([], ts), q)
 else
  match sRanges l (l.length + 1) [] p with
  | .error e => .error e
  | .ok (rs, q) => .ok ((rs, []), q)
def wordAt (l : List Tk) (p : Nat) : List UInt8 :=
 match l[p]? with
 | none => []
 | some x => if x.1.k = 1 then x.1.t else []
def Msg.oneofs : Msg → List (List UInt8)
 | .mk _ _ os _ _ _ _ _ _ => os
def Msg.addMsg : Msg → Msg → Msg
 | .mk n f o m e r s l c, k => .mk n f o (m ++ [k]) e r s l c
def Msg.addEnum : Msg → Enm → Msg
 | .mk n f o m e r s l c, k => .mk n f o m (e ++ [k]) r s l c
def Msg.addOneof : Msg → List UInt8 × List Fld → Msg
 | .mk n f o m e r s l c, k => .mk n (f ++ k.2) (o ++ [k.1]) m e r s l c
def Msg.addReserved : Msg → List (Int × Int) × List (List UInt8) → Msg
 | .mk n f o m e r s l c, k => .mk n f o m e (r ++ k.1) (s ++ k.2) l c
def Msg.addField : Msg → Fld → Msg
 | .mk n f o m e r s l c, k => .mk n (f ++ [k]) o m e r s l c
def sPart (l : List Tk) (sub : Nat → Ans8 (Msg × Nat)) (m : Msg) (p : Nat) : Ans8 (Msg × Nat) :=
 let word := wordAt l p
 if word = [109, 101, 115, 115, 97, 103, 101] then
  match sub (p + 1) with
  | .error e => .error e
  | .ok (k, q) => .ok (m.addMsg k, q)
 else if word = [101, 110, 117, 109] then
  match sEnum l (p + 1) with
  | .error e => .error e
  | .ok (k, q) => .ok (m.addEnum k, q)
 else if word = [111, 110, 101, 111, 102] then
  match sOneof l (p + 1) ((m.oneofs.length : Int) + 1) with
  | .error e => .error e
  | .ok (k, q) => .ok (m.addOneof k, q)
 else if word = [114, 101, 115, 101, 114, 118, 101, 100] then
  match sReserved l (p + 1) with
  | .error e => .error e
  | .ok (k, q) => .ok (m.addReserved k, q)
 else
  match (if word = [114, 101, 112, 101, 97, 116, 101, 100] then sField l (p + 1) 3 0
   else if word = [111, 112, 116, 105, 111, 110, 97, 108] then sField l (p + 1) 2 0
   else if decide (word = [109, 97, 112]) && tkIs l (p + 1) 4 [60] then sMapped l (p + 1)
   else sField l p 1 0) with
  | .error e => .error e
  | .ok (k, q) => .ok (m.addField k, q)
def sBody (l : List Tk) (sub : Nat → Ans8 (Msg × Nat)) : Nat → Msg → Nat → Ans8 (Msg × Nat)
 | 0, _, p => form8 p
 | n + 1, m, p0 =>
  let p := semis l p0
  if tkIs l p 4 [125] then .ok (m, p + 1)
  else
   match sPart l sub m p with
   | .error e => .error e
   | .ok (m', q) => sBody l sub n m' q
def sMessage (l : List Tk) : Nat → Nat → Ans8 (Msg × Nat)
 | 0, p =>
  match sName l p with
  | .error e => .error e
  | .ok _ => .error (p, 8)
 | d + 1, p =>
  match sName l p with
  | .error e => .error e
  | .ok (x, q) =>
   match sWant l 4 [123] q with
   | .error e => .error e
   | .ok r => sBody l (sMessage l d) (l.length + 1) (.mk x.1.t [] [] [] [] [] [] x.2.1 x.2.2) r
def sParts (l : List Tk) : Nat → Fil → Nat → Ans8 Fil
 | 0, _, p => form8 p
 | n + 1, f, p =>
  if p < l.length then
   if tkIs l p 4 [59] then sParts l n f (p + 1)
   else if tkIs l p 1 [109, 101, 115, 115, 97, 103, 101] then
    match sMessage l 8 (p + 1) with
    | .error e => .error e
    | .ok (m, q) => sParts l n { f with msgs := f.msgs ++ [m] } q
   else if tkIs l p 1 [101, 110, 117, 109] then
    match sEnum l (p + 1) with
    | .error e => .error e
    | .ok (k, q) => sParts l n { f with enums := f.enums ++ [k] } q
   else form8 p
  else .ok f
def sPackage (l : List Tk) (p : Nat) : Ans8 (List UInt8 × Nat) :=
 if tkIs l p 1 [112, 97, 99, 107, 97, 103, 101] then
  match sDotted l false (p + 1) with
  | .error e => .error e
  | .ok (s, q) =>
   match sWant l 4 [59] q with
   | .error e => .error e
   | .ok r => .ok (s, r)
 else .ok ([], p)
def sFile (l : List Tk) : Ans8 Fil :=
 match sWant l 1 [115, 121, 110, 116, 97, 120] 0 with
 | .error e => .error e
 | .ok p =>
  match sWant l 4 [61] p with
  | .error e => .error e
  | .ok q =>
   match sText l q with
   | .error e => .error e
   | .ok (t, r) =>
    if t = [112, 114, 111, 116, 111, 51] then
     match sWant l 4 [59] r with
     | .error e => .error e
     | .ok s =>
      match sPackage l s with
      | .error e => .error e
      | .ok (pk, u) => sParts l (l.length + 1) ⟨pk, [], []⟩ u
    else form8 q
end Go.Proofs.YtekeanikgcpijaaGreatDoor
namespace Go.Proofs.YtekeanikgcpijaaGreatDoor
open Go.RowKit
def Fld.cells (f : Fld) : List Value := [.string (str f.name), .string (str f.type), .string (str f.mapKey), .string (str f.key), .int .i64 f.label, .int .i64 f.number, .int .i64 f.packed, .int .i64 f.oneof, .int .i64 f.line, .int .i64 f.col]
def Fld.dats (f : Fld) : List Dat := f.cells.map .cell
def Val.cells (v : Val) : List Value := [.string (str v.name), .int .i64 v.number, .int .i64 v.line, .int .i64 v.col]
def Val.dats (v : Val) : List Dat := v.cells.map .cell
def textDats (t : List UInt8) : List Dat := [.cell (.string (str t))]
def rangeDats (x : Int × Int) : List Dat := [.cell (.int .i64 x.1), .cell (.int .i64 x.2)]
def Enm.dats (e : Enm) : List Dat := [.cell (.string (str e.name)), .row 4 e.vals.length (e.vals.flatMap Val.dats), .cell (.int .i64 e.line), .cell (.int .i64 e.col)]
mutual
def Msg.dats : Msg → List Dat
 | .mk n f o m e r s l c => [.cell (.string (str n)), .row 10 f.length (f.flatMap Fld.dats), .row 1 o.length (o.flatMap textDats), .row 9 m.length (Msg.datss m), .row 4 e.length (e.flatMap Enm.dats), .row 2 r.length (r.flatMap rangeDats), .row 1 s.length (s.flatMap textDats), .cell (.int .i64 l), .cell (.int .i64 c)]
def Msg.datss : List Msg → List Dat
 | [] => []
 | k :: ks => k.dats ++ Msg.datss ks
end
theorem Msg.datss_eq : ∀ ms : List Msg, Msg.datss ms = ms.flatMap Msg.dats
 | [] => by simp [Msg.datss]
 | k :: ks => by rw [Msg.datss, Msg.datss_eq ks, List.flatMap_cons]
theorem Fld.dats_len (f : Fld) : f.dats.length = 10 := rfl
theorem Val.dats_len (f : Val) : f.dats.length = 4 := rfl
theorem textDats_len (t : List UInt8) : (textDats t).length = 1 := rfl
theorem rangeDats_len (x : Int × Int) : (rangeDats x).length = 2 := rfl
theorem Enm.dats_len (f : Enm) : f.dats.length = 4 := rfl
theorem Msg.dats_len (m : Msg) : m.dats.length = 9 := by cases m; rfl
def Fil.dats (f : Fil) : List Dat := [.cell (.string (str f.package)), .row 9 f.msgs.length (f.msgs.flatMap Msg.dats), .row 4 f.enums.length (f.enums.flatMap Enm.dats)]
theorem Msg.dats_mk (n : List UInt8) (f : List Fld) (o : List (List UInt8)) (m : List Msg) (e : List Enm) (r : List (Int × Int)) (s : List (List UInt8)) (l c : Int) :
  (Msg.mk n f o m e r s l c).dats = [.cell (.string (str n)), .row 10 f.length (f.flatMap Fld.dats), .row 1 o.length (o.flatMap textDats), .row 9 m.length (m.flatMap Msg.dats), .row 4 e.length (e.flatMap Enm.dats), .row 2 r.length (r.flatMap rangeDats), .row 1 s.length (s.flatMap textDats), .cell (.int .i64 l), .cell (.int .i64 c)] := by
 rw [Msg.dats, Msg.datss_eq]
theorem Msg.child_lt {n : List UInt8} {f : List Fld} {o : List (List UInt8)} {m : List Msg} {e : List Enm} {r : List (Int × Int)} {s : List (List UInt8)} {l c : Int} {k : Msg} (h : k ∈ m) : SizeOf.sizeOf k < SizeOf.sizeOf (Msg.mk n f o m e r s l c) := by
 have := List.sizeOf_lt_of_mem h
 simp
 omega
def tkCells (x : Tk) : List Value := [.int .i64 (x.1.k : Int), .string (str x.1.t), .int .i64 (x.1.n : Int), .int .i64 (x.2.1 : Int), .int .i64 (x.2.2 : Int)]
end Go.Proofs.YtekeanikgcpijaaGreatDoor
