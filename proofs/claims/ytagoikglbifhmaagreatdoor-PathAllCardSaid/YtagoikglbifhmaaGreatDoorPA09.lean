/- Part 9 of what the last text of this claim is proved by: walks over the program, and the math behind them. Conditions: as each theorem says. -/
import Derived.Test.YtagoikglbifhmaaGreatDoorPA08
import Derived.Test.YtagoikglbifhmaaGreatDoorProg
import Derived.Laws.Entries
import Derived.ChangeArms
import Derived.Deep.Slices
import Derived.Deep.Fields
import Derived.ChangeSame
import Derived.OpenShut
namespace Go.Proofs.YtagoikglbifhmaaGreatDoor
section
variable {P : Program} {cx : Cx} {T T' : TL} {B : BL} {R : RL} {ops : Array Oper} {Q : Exit → Act → World → Prop} {o : Oper} {l : List Oper} {d : Nat} {y : IV} {x : Operand} {ys : List IV}
theorem l_op (h : LStep P cx B R o T y) (hE : E cx ((d, y) :: T) B R (wpList P ops Q l)) (hg : o.guard = none := by exact rfl) (hd : o.dst = some d := by exact rfl) (hn : Nat.blt d cx.n = true := by exact rfl) : E cx T B R (wpList P ops Q (o :: l)) := e_list_op hg hd hn h hE
theorem l_mv (hE : E cx ((d, y) :: T) B R (wpList P ops Q l)) (hg : o.guard = none := by exact rfl) (hd : o.dst = some d := by exact rfl) (hn : Nat.blt d cx.n = true := by exact rfl) (ho : o.op = .move x := by exact rfl) (hk : ev T x = some y := by exact rfl) : E cx T B R (wpList P ops Q (o :: l)) := e_list_op hg hd hn (s_move ho (kn hk)) hE
theorem l_as (hE : E cx ((d, y) :: T) B R (wpList P ops Q l)) (hg : o.guard = none := by exact rfl) (hd : o.dst = some d := by exact rfl) (hn : Nat.blt d cx.n = true := by exact rfl) (ho : o.op = .assign x := by exact rfl) (hk : ev T x = some y := by exact rfl) : E cx T B R (wpList P ops Q (o :: l)) := e_list_op hg hd hn (s_assign ho (kn hk)) hE
theorem l_ex {i : Nat} {ps : List Part} {p : Part} (hE : E cx ((d, .part p) :: T) B R (wpList P ops Q l)) (hg : o.guard = none := by exact rfl) (hd : o.dst = some d := by exact rfl) (hn : Nat.blt d cx.n = true := by exact rfl) (ho : o.op = .extract x i := by exact rfl) (hk : ev T x = some (.tup ps) := by exact rfl) (hi : ps[i]? = some p := by exact rfl) : E cx T B R (wpList P ops Q (o :: l)) := e_list_op hg hd hn (s_extract ho (kn hk) hi) hE
theorem w_op (hg : o.guard = none) (hd : o.dst = some d) (hn : Nat.blt d cx.n = true) (h : LStep P cx B R o T y) (hW : Walk P cx B R ops l ((d, y) :: T) ys T') : Walk P cx B R ops (o :: l) T (y :: ys) T' := .op hg hd hn h hW
theorem w_mv (hg : o.guard = none) (hd : o.dst = some d) (hn : Nat.blt d cx.n = true) (ho : o.op = .move x) (hk : ev T x = some y) (hW : Walk P cx B R ops l ((d, y) :: T) ys T') : Walk P cx B R ops (o :: l) T (y :: ys) T' := .op hg hd hn (s_move ho (kn hk)) hW
theorem w_as (hg : o.guard = none) (hd : o.dst = some d) (hn : Nat.blt d cx.n = true) (ho : o.op = .assign x) (hk : ev T x = some y) (hW : Walk P cx B R ops l ((d, y) :: T) ys T') : Walk P cx B R ops (o :: l) T (y :: ys) T' := .op hg hd hn (s_assign ho (kn hk)) hW
theorem s_t {t : Nat} (h : lk t T = some y := by exact rfl) : ∃ z, lk t T = some z ∧ Imp z y := sub_refl y h
theorem s_b {b : Nat} {z : Bx} (h : lk b B = some z := by exact rfl) : ∃ u, lk b B = some u ∧ u.ty = z.ty ∧ ImpL u.cs z.cs := sb_refl z h
theorem c_no {c : Operand} {a b : Code} (h : E cx T B R (b.wp P Q)) (hc : ev T c = some (.is (.bool false)) := by exact rfl) : E cx T B R ((Code.cond c a b).wp P Q) := e_cond hc (fun h => (by cases h)) fun _ => h
theorem c_yes {c : Operand} {a b : Code} (h : E cx T B R (a.wp P Q)) (hc : ev T c = some (.is (.bool true)) := by exact rfl) : E cx T B R ((Code.cond c a b).wp P Q) := e_cond hc (fun _ => h) fun h => (by cases h)
end
end Go.Proofs.YtagoikglbifhmaaGreatDoor
namespace Go.Proofs.YtagoikglbifhmaaGreatDoor
open Go.RowKit
theorem one_3 : oneT Tryz.prog 3 = true := by kernel_rfl
theorem sz_3 : sizeT Tryz.prog 3 = some 1 := by kernel_rfl
theorem int_3 : Tryz.prog.underlying 3 = some (.int .i64) := by kernel_rfl
theorem zr_3 : zeroT Tryz.prog 3 = some [.int .i64 0] := by kernel_rfl
theorem one_4 : oneT Tryz.prog 4 = true := by kernel_rfl
theorem sz_5 : sizeT Tryz.prog 5 = some 1 := by kernel_rfl
theorem int_5 : Tryz.prog.underlying 5 = some (.int .u8) := by kernel_rfl
theorem zr_5 : zeroT Tryz.prog 5 = some [.int .u8 0] := by kernel_rfl
theorem one_9 : oneT Tryz.prog 9 = true := by kernel_rfl
theorem sz_9 : sizeT Tryz.prog 9 = some 1 := by kernel_rfl
theorem str_9 : Tryz.prog.underlying 9 = some .string := by kernel_rfl
theorem one_22 : oneT Tryz.prog 22 = true := by kernel_rfl
theorem sz_22 : sizeT Tryz.prog 22 = some 1 := by kernel_rfl
theorem int_22 : Tryz.prog.underlying 22 = some (.int .u64) := by kernel_rfl
theorem one_23 : oneT Tryz.prog 23 = true := by kernel_rfl
theorem sz_23 : sizeT Tryz.prog 23 = some 1 := by kernel_rfl
theorem sle_23 : Tryz.prog.underlying 23 = some (.slice (Tryz.prog.elem 23)) := by kernel_rfl
theorem esz_23 : sizeT Tryz.prog (Tryz.prog.elem 23) = some 8 := by kernel_rfl
theorem one_24 : oneT Tryz.prog 24 = true := by kernel_rfl
theorem sz_24 : sizeT Tryz.prog 24 = some 1 := by kernel_rfl
theorem sle_24 : Tryz.prog.underlying 24 = some (.slice (Tryz.prog.elem 24)) := by kernel_rfl
theorem esz_24 : sizeT Tryz.prog (Tryz.prog.elem 24) = some 7 := by kernel_rfl
theorem one_25 : oneT Tryz.prog 25 = true := by kernel_rfl
theorem sz_25 : sizeT Tryz.prog 25 = some 1 := by kernel_rfl
theorem sle_25 : Tryz.prog.underlying 25 = some (.slice (Tryz.prog.elem 25)) := by kernel_rfl
theorem esz_25 : sizeT Tryz.prog (Tryz.prog.elem 25) = some 14 := by kernel_rfl
theorem agg_27 : aggT Tryz.prog 27 = true := by kernel_rfl
theorem sz_27 : sizeT Tryz.prog 27 = some 7 := by kernel_rfl
theorem off_27_0 : foff Tryz.prog 27 0 = some 0 := by kernel_rfl
theorem off_27_1 : foff Tryz.prog 27 1 = some 1 := by kernel_rfl
theorem off_27_2 : foff Tryz.prog 27 2 = some 2 := by kernel_rfl
theorem off_27_3 : foff Tryz.prog 27 3 = some 3 := by kernel_rfl
theorem off_27_4 : foff Tryz.prog 27 4 = some 4 := by kernel_rfl
theorem off_27_5 : foff Tryz.prog 27 5 = some 5 := by kernel_rfl
theorem off_27_6 : foff Tryz.prog 27 6 = some 6 := by kernel_rfl
theorem pl_27 : placesT Tryz.prog 27 = some [(0, 1), (1, 1), (2, 1), (3, 1), (4, 1), (5, 1), (6, 1)] := by kernel_rfl
theorem zr_27 : zeroT Tryz.prog 27 = some [.int .i64 0, .int .u64 0, .string ⟨#[]⟩, .slice none 0 0, .string ⟨#[]⟩, .slice none 0 0, .slice none 0 0] := by kernel_rfl
theorem one_29 : oneT Tryz.prog 29 = true := by kernel_rfl
theorem sz_29 : sizeT Tryz.prog 29 = some 1 := by kernel_rfl
theorem sl_29 : Tryz.prog.underlying 29 = some (.slice 62) := by kernel_rfl
theorem sle_29 : Tryz.prog.underlying 29 = some (.slice (Tryz.prog.elem 29)) := by kernel_rfl
theorem esz_29 : sizeT Tryz.prog (Tryz.prog.elem 29) = some 10 := by kernel_rfl
theorem ap_29 : (Tryz.prog.info? 62).map (fun i => (i.size, i.bytes, i.zero.map (·.cells.size))) = some (10, 144, some 10) := by kernel_rfl
theorem zr_29 : zeroT Tryz.prog 29 = some [.slice none 0 0] := by kernel_rfl
theorem one_36 : oneT Tryz.prog 36 = true := by kernel_rfl
theorem sz_36 : sizeT Tryz.prog 36 = some 1 := by kernel_rfl
theorem sl_36 : Tryz.prog.underlying 36 = some (.slice 80) := by kernel_rfl
theorem sle_36 : Tryz.prog.underlying 36 = some (.slice (Tryz.prog.elem 36)) := by kernel_rfl
theorem esz_36 : sizeT Tryz.prog (Tryz.prog.elem 36) = some 8 := by kernel_rfl
theorem ap_36 : (Tryz.prog.info? 80).map (fun i => (i.size, i.bytes, i.zero.map (·.cells.size))) = some (8, 128, some 8) := by kernel_rfl
theorem one_37 : oneT Tryz.prog 37 = true := by kernel_rfl
theorem sz_37 : sizeT Tryz.prog 37 = some 1 := by kernel_rfl
theorem sl_37 : Tryz.prog.underlying 37 = some (.slice 40) := by kernel_rfl
theorem sle_37 : Tryz.prog.underlying 37 = some (.slice (Tryz.prog.elem 37)) := by kernel_rfl
theorem esz_37 : sizeT Tryz.prog (Tryz.prog.elem 37) = some 7 := by kernel_rfl
theorem ap_37 : (Tryz.prog.info? 40).map (fun i => (i.size, i.bytes, i.zero.map (·.cells.size))) = some (7, 120, some 7) := by kernel_rfl
theorem one_38 : oneT Tryz.prog 38 = true := by kernel_rfl
theorem sz_38 : sizeT Tryz.prog 38 = some 1 := by kernel_rfl
theorem sl_38 : Tryz.prog.underlying 38 = some (.slice 84) := by kernel_rfl
theorem sle_38 : Tryz.prog.underlying 38 = some (.slice (Tryz.prog.elem 38)) := by kernel_rfl
theorem esz_38 : sizeT Tryz.prog (Tryz.prog.elem 38) = some 14 := by kernel_rfl
theorem ap_38 : (Tryz.prog.info? 84).map (fun i => (i.size, i.bytes, i.zero.map (·.cells.size))) = some (14, 240, some 14) := by kernel_rfl
theorem agg_40 : aggT Tryz.prog 40 = true := by kernel_rfl
theorem sz_40 : sizeT Tryz.prog 40 = some 7 := by kernel_rfl
theorem off_40_0 : foff Tryz.prog 40 0 = some 0 := by kernel_rfl
theorem off_40_1 : foff Tryz.prog 40 1 = some 1 := by kernel_rfl
theorem off_40_2 : foff Tryz.prog 40 2 = some 2 := by kernel_rfl
theorem off_40_3 : foff Tryz.prog 40 3 = some 3 := by kernel_rfl
theorem off_40_4 : foff Tryz.prog 40 4 = some 4 := by kernel_rfl
theorem off_40_5 : foff Tryz.prog 40 5 = some 5 := by kernel_rfl
theorem off_40_6 : foff Tryz.prog 40 6 = some 6 := by kernel_rfl
theorem pl_40 : placesT Tryz.prog 40 = some [(0, 1), (1, 1), (2, 1), (3, 1), (4, 1), (5, 1), (6, 1)] := by kernel_rfl
theorem zr_40 : zeroT Tryz.prog 40 = some [.int .i64 0, .int .u64 0, .string ⟨#[]⟩, .slice none 0 0, .string ⟨#[]⟩, .slice none 0 0, .slice none 0 0] := by kernel_rfl
theorem one_44 : oneT Tryz.prog 44 = true := by kernel_rfl
theorem sz_44 : sizeT Tryz.prog 44 = some 1 := by kernel_rfl
theorem sl_44 : Tryz.prog.underlying 44 = some (.slice 76) := by kernel_rfl
theorem sle_44 : Tryz.prog.underlying 44 = some (.slice (Tryz.prog.elem 44)) := by kernel_rfl
theorem esz_44 : sizeT Tryz.prog (Tryz.prog.elem 44) = some 10 := by kernel_rfl
theorem ap_44 : (Tryz.prog.info? 76).map (fun i => (i.size, i.bytes, i.zero.map (·.cells.size))) = some (10, 144, some 10) := by kernel_rfl
theorem zr_44 : zeroT Tryz.prog 44 = some [.slice none 0 0] := by kernel_rfl
theorem one_49 : oneT Tryz.prog 49 = true := by kernel_rfl
theorem sz_49 : sizeT Tryz.prog 49 = some 1 := by kernel_rfl
theorem sl_49 : Tryz.prog.underlying 49 = some (.slice 29) := by kernel_rfl
theorem sle_49 : Tryz.prog.underlying 49 = some (.slice (Tryz.prog.elem 49)) := by kernel_rfl
theorem esz_49 : sizeT Tryz.prog (Tryz.prog.elem 49) = some 1 := by kernel_rfl
theorem ap_49 : (Tryz.prog.info? 29).map (fun i => (i.size, i.bytes, i.zero.map (·.cells.size))) = some (1, 24, some 1) := by kernel_rfl
theorem zr_49 : zeroT Tryz.prog 49 = some [.slice none 0 0] := by kernel_rfl
theorem sl_51 : Tryz.prog.underlying 51 = some (.slice 44) := by kernel_rfl
theorem sle_51 : Tryz.prog.underlying 51 = some (.slice (Tryz.prog.elem 51)) := by kernel_rfl
theorem esz_51 : sizeT Tryz.prog (Tryz.prog.elem 51) = some 1 := by kernel_rfl
theorem ap_51 : (Tryz.prog.info? 44).map (fun i => (i.size, i.bytes, i.zero.map (·.cells.size))) = some (1, 24, some 1) := by kernel_rfl
theorem one_56 : oneT Tryz.prog 56 = true := by kernel_rfl
noncomputable def ifcms_56 : Array (String × TypeId) := match Tryz.prog.underlying 56 with | some (.interface ms) => ms | _ => #[]
theorem ifc_56 : Tryz.prog.underlying 56 = some (.interface ifcms_56) := by kernel_rfl
theorem agg_62 : aggT Tryz.prog 62 = true := by kernel_rfl
theorem sz_62 : sizeT Tryz.prog 62 = some 10 := by kernel_rfl
theorem off_62_0 : foff Tryz.prog 62 0 = some 0 := by kernel_rfl
theorem off_62_1 : foff Tryz.prog 62 1 = some 1 := by kernel_rfl
theorem off_62_2 : foff Tryz.prog 62 2 = some 2 := by kernel_rfl
theorem off_62_3 : foff Tryz.prog 62 3 = some 3 := by kernel_rfl
theorem pl_62 : placesT Tryz.prog 62 = some [(0, 1), (1, 1), (2, 1), (3, 7)] := by kernel_rfl
theorem zr_62 : zeroT Tryz.prog 62 = some [.int .i64 0, .int .i64 0, .int .i64 0, .int .i64 0, .int .u64 0, .string ⟨#[]⟩, .slice none 0 0, .string ⟨#[]⟩, .slice none 0 0, .slice none 0 0] := by kernel_rfl
theorem agg_66 : aggT Tryz.prog 66 = true := by kernel_rfl
theorem sz_66 : sizeT Tryz.prog 66 = some 8 := by kernel_rfl
theorem off_66_0 : foff Tryz.prog 66 0 = some 0 := by kernel_rfl
theorem off_66_1 : foff Tryz.prog 66 1 = some 1 := by kernel_rfl
theorem zr_66 : zeroT Tryz.prog 66 = some [.int .i64 0, .int .i64 0, .int .u64 0, .string ⟨#[]⟩, .slice none 0 0, .string ⟨#[]⟩, .slice none 0 0, .slice none 0 0] := by kernel_rfl
theorem one_70 : oneT Tryz.prog 70 = true := by kernel_rfl
theorem agg_76 : aggT Tryz.prog 76 = true := by kernel_rfl
theorem sz_76 : sizeT Tryz.prog 76 = some 10 := by kernel_rfl
theorem off_76_0 : foff Tryz.prog 76 0 = some 0 := by kernel_rfl
theorem off_76_1 : foff Tryz.prog 76 1 = some 1 := by kernel_rfl
theorem off_76_2 : foff Tryz.prog 76 2 = some 2 := by kernel_rfl
theorem off_76_3 : foff Tryz.prog 76 3 = some 3 := by kernel_rfl
theorem pl_76 : placesT Tryz.prog 76 = some [(0, 1), (1, 1), (2, 1), (3, 7)] := by kernel_rfl
theorem zr_76 : zeroT Tryz.prog 76 = some [.int .i64 0, .int .i64 0, .int .i64 0, .int .i64 0, .int .u64 0, .string ⟨#[]⟩, .slice none 0 0, .string ⟨#[]⟩, .slice none 0 0, .slice none 0 0] := by kernel_rfl
theorem agg_80 : aggT Tryz.prog 80 = true := by kernel_rfl
theorem sz_80 : sizeT Tryz.prog 80 = some 8 := by kernel_rfl
theorem off_80_0 : foff Tryz.prog 80 0 = some 0 := by kernel_rfl
theorem off_80_1 : foff Tryz.prog 80 1 = some 1 := by kernel_rfl
theorem pl_80 : placesT Tryz.prog 80 = some [(0, 1), (1, 7)] := by kernel_rfl
theorem zr_80 : zeroT Tryz.prog 80 = some [.int .i64 0, .int .i64 0, .int .u64 0, .string ⟨#[]⟩, .slice none 0 0, .string ⟨#[]⟩, .slice none 0 0, .slice none 0 0] := by kernel_rfl
theorem agg_82 : aggT Tryz.prog 82 = true := by kernel_rfl
theorem sz_82 : sizeT Tryz.prog 82 = some 14 := by kernel_rfl
theorem off_82_0 : foff Tryz.prog 82 0 = some 0 := by kernel_rfl
theorem off_82_1 : foff Tryz.prog 82 1 = some 7 := by kernel_rfl
theorem zr_82 : zeroT Tryz.prog 82 = some [.int .i64 0, .int .u64 0, .string ⟨#[]⟩, .slice none 0 0, .string ⟨#[]⟩, .slice none 0 0, .slice none 0 0, .int .i64 0, .int .u64 0, .string ⟨#[]⟩, .slice none 0 0, .string ⟨#[]⟩, .slice none 0 0, .slice none 0 0] := by kernel_rfl
theorem agg_84 : aggT Tryz.prog 84 = true := by kernel_rfl
theorem sz_84 : sizeT Tryz.prog 84 = some 14 := by kernel_rfl
theorem off_84_0 : foff Tryz.prog 84 0 = some 0 := by kernel_rfl
theorem off_84_1 : foff Tryz.prog 84 1 = some 7 := by kernel_rfl
theorem pl_84 : placesT Tryz.prog 84 = some [(0, 7), (7, 7)] := by kernel_rfl
theorem zr_84 : zeroT Tryz.prog 84 = some [.int .i64 0, .int .u64 0, .string ⟨#[]⟩, .slice none 0 0, .string ⟨#[]⟩, .slice none 0 0, .slice none 0 0, .int .i64 0, .int .u64 0, .string ⟨#[]⟩, .slice none 0 0, .string ⟨#[]⟩, .slice none 0 0, .slice none 0 0] := by kernel_rfl
theorem one_89 : oneT Tryz.prog 89 = true := by kernel_rfl
theorem sz_89 : sizeT Tryz.prog 89 = some 1 := by kernel_rfl
theorem zr_89 : zeroT Tryz.prog 89 = some [.nilFunc] := by kernel_rfl
theorem sl_97 : Tryz.prog.underlying 97 = some (.slice 5) := by kernel_rfl
theorem ap_97 : (Tryz.prog.info? 5).map (fun i => (i.size, i.bytes, i.zero.map (·.cells.size))) = some (1, 1, some 1) := by kernel_rfl
theorem one_105 : oneT Tryz.prog 105 = true := by kernel_rfl
theorem int_131 : Tryz.prog.underlying 131 = some (.int .u64) := by kernel_rfl
theorem sz_145 : sizeT Tryz.prog 145 = some 256 := by kernel_rfl
theorem sl_156 : Tryz.prog.underlying 156 = some (.slice 3) := by kernel_rfl
theorem sle_156 : Tryz.prog.underlying 156 = some (.slice (Tryz.prog.elem 156)) := by kernel_rfl
theorem esz_156 : sizeT Tryz.prog (Tryz.prog.elem 156) = some 1 := by kernel_rfl
theorem mixed : Tryz.prog.follows .mixedOrders = true := by kernel_rfl
end Go.Proofs.YtagoikglbifhmaaGreatDoor
namespace Go.Proofs.YtagoikglbifhmaaGreatDoor
open Go.RowKit
theorem less_tcmp : ∀ a b : List UInt8, Op.bytesLess a b = decide (tcmp a b < 0)
  | [], [] => rfl
  | [], _ :: _ => rfl
  | _ :: _, [] => rfl
  | x :: a, y :: b => by
    rw [Op.bytesLess, tcmp, less_tcmp a b]
    by_cases h1 : x.toNat < y.toNat
    · have h1' : x < y := UInt8.lt_iff_toNat_lt.2 h1
      simp [h1, h1']
    · have h1' : ¬ x < y := fun h => h1 (UInt8.lt_iff_toNat_lt.1 h)
      by_cases h2 : y.toNat < x.toNat
      · have h3 : (x == y) = false := beq_eq_false_iff_ne.2 (fun e => by rw [e] at h2; omega)
        simp [h1, h1', h2, h3]
      · have h3 : x = y := UInt8.toNat_inj.1 (by omega)
        subst h3
        simp
section
variable {P : Program} {t : TypeId} {a b : List UInt8}
theorem v_slss : BinV P .lss t (.string (str a)) (.string (str b)) (.bool (decide (tcmp a b < 0))) := fun _ _ w => by
  simp only [eqGuard, binOp, Op.stringOp, str_toList, less_tcmp]
  rfl
theorem tcmp_gtr (a b : List UInt8) : (!(decide (tcmp a b < 0) || (a == b))) = decide (0 < tcmp a b) := by
  rw [list_beq]
  rcases tcmp_in a b with h | h | h
  · rw [h]; rfl
  · rw [h, tcmp_zero h]; simp
  · have hne : ¬ a = b := fun e => by rw [e] at h; have := tcmp_neg b b; omega
    rw [h, decide_eq_false hne]
    rfl
theorem v_sgtr : BinV P .gtr t (.string (str a)) (.string (str b)) (.bool (decide (0 < tcmp a b))) := fun _ _ w => by
  simp only [eqGuard, binOp, Op.stringOp, str_toList, less_tcmp, tcmp_gtr]
  rfl
end
theorem s_convk {P : Program} {cx : Cx} {T : TL} {B : BL} {R : RL} {o : Oper} {x : Operand} {src dst : TypeId} {k k' : IntKind} {n z : Int} (ho : o.op = .convert src dst x) (hx : Kn T x (.is (.int k n))) (hs : (P.underlying src).isSome = true) (hd : P.underlying dst = some (.int k')) (hi : P.intKind dst = k') (hz : k'.wrap n = z) : LStep P cx B R o T (.is (.int k' z)) := LStep.same fun M V w a _ hk => by
  have h1 := (hk x _ (by simp [ho, Op.operands]) hx).is_eq
  subst hi hz
  exact ⟨_, by simp [execOp, ho, h1, run_convert_int w src dst k n hs hd], .cell _⟩
theorem wrap_u64 (z : Int) (h1 : 0 ≤ z) (h2 : z ≤ 18446744073709551615) : IntKind.u64.wrap z = z := by
  simp only [IntKind.wrap, IntKind.bits, IntKind.signed]
  simp
  omega
end Go.Proofs.YtagoikglbifhmaaGreatDoor
namespace Go.Proofs.YtagoikglbifhmaaGreatDoor
open Go.RowKit
theorem flat_get {α : Type} {f : α → List Dat} {k : Nat} (hk : ∀ a, (f a).length = k) {qs : List α} {i r : Nat} {a : α} (ha : qs[i]? = some a) (hr : r < k) : (qs.flatMap f)[i * k + r]? = (f a)[r]? := by
  have h := flat_part hk qs i a ha
  rw [← h, List.getElem?_take, if_pos hr, List.getElem?_drop]
def Old (w : World) : Nat → Prop := fun g => g < w.heap.size
section
variable {H : Type} {enc : TypeId × Value → H} {P : Program} {w : World} {base : Nat} {spare : Nat → Bool} {held : Bool} {fuel : Nat} {t : TypeId} {cs : List Value} {x : DataW H × List MemPlace}
theorem open_row {e : TypeId} (ht : P.underlying t = some (.slice e)) {k : Nat} (hk0 : 0 < k) (hke : P.cellsOf e = k) {α : Type} [Inhabited α] {f : α → List Dat} (hk : ∀ a, (f a).length = k) {F : α → Prop}
    (elem : ∀ n, n < fuel → ∀ cs x, DataW.trod enc P w base spare held n e cs = some x → ∃ a, Fits w (Old w) (f a) cs ∧ F a) (h : DataW.trod enc P w base spare held fuel t cs = some x) :
    ∃ p, ∃ qs : List α, ∃ c, cs = [.slice p qs.length c] ∧ Lies w (Old w) (.row k qs.length (qs.flatMap f)) (.slice p qs.length c) ∧ (∀ a ∈ qs, F a) ∧ qs.length ≤ c ∧ c ≤ maxLen := by
  rcases DataW.trod_slice ht h with ⟨rfl, _⟩ | ⟨ad, len, cap, elems, rest, n, rfl, rfl, _, hb, hl, hm, hlen, hel, _, _⟩
  · exact ⟨none, [], 0, rfl, .none _ _ _, by simp, by simp, by simp⟩
  · rw [hke] at hel
    have hone : ∀ i, i < len → ∃ y : α × List Value, Fits w (Old w) (f y.1) y.2 ∧ F y.1 ∧ ∀ j, j < k → w.cell? (ad.add (i * k + j)) = y.2[j]? := fun i hi => by
      have key := hel i hi
      rw [List.getElem?_eq_getElem (by omega)] at key
      obtain ⟨cs', h1, h2⟩ := Option.bind_eq_some_iff.1 key
      obtain ⟨a, hF, hA⟩ := elem n (by omega) cs' _ h2
      obtain ⟨_, _, hat⟩ := World.cells?_some h1
      exact ⟨(a, cs'), hF, hA, fun j hj => by rw [← Go.Deep.add_add]; exact hat j hj⟩
    obtain ⟨Y, hY⟩ := Go.Deep.choose_lt (α := α × List Value) (p := fun i y => Fits w (Old w) (f y.1) y.2 ∧ F y.1 ∧ ∀ j, j < k → w.cell? (ad.add (i * k + j)) = y.2[j]?) hone
    have hlen' : ((List.range len).map fun i => (Y i).1).length = len := by simp
    have hget : ∀ i, i < len → ((List.range len).map fun i => (Y i).1)[i]? = some (Y i).1 := fun i hi => by rw [List.getElem?_map, List.getElem?_range hi]; rfl
    refine ⟨some ad, (List.range len).map fun i => (Y i).1, cap, by rw [hlen'], ?_, fun a ha => ?_, by omega, hm⟩
    · rw [hlen']
      rcases Nat.eq_zero_or_pos len with h0 | h0
      · subst h0
        exact .none _ _ _
      obtain ⟨b, o, s⟩ := ad
      have hcell : ∀ i, i < len → ∀ j, j < k → ∃ v, (Y i).2[j]? = some v := fun i hi j hj => by
        have hl' := (hY i hi).1.1
        rw [hk] at hl'
        exact ⟨_, List.getElem?_eq_getElem (by omega)⟩
      obtain rfl : s = none := by
        obtain ⟨v, hv⟩ := hcell 0 h0 0 hk0
        have := (hY 0 h0).2.2 0 hk0
        rw [hv] at this
        simpa [Addr.add] using World.cell?_spot this
      have hb' : b < w.heap.size := by
        obtain ⟨v, hv⟩ := hcell 0 h0 0 hk0
        have := (hY 0 h0).2.2 0 hk0
        rw [hv] at this
        have := World.block_lt_of_cell? _ _ this
        simpa [Addr.add_lit] using this
      have hfl : ((((List.range len).map fun i => (Y i).1)).flatMap f).length = len * k := by rw [flat_len hk, hlen']
      refine .row k len b o cap _ (fun j => ((Y (j / k)).2[j % k]?).getD default) h0 (by omega) hfl hb' (fun j hj => ?_) fun j d hd => ?_
      · rw [hfl] at hj
        have hi : j / k < len := Nat.div_lt_of_lt_mul (by rw [Nat.mul_comm]; exact hj)
        have hr : j % k < k := Nat.mod_lt _ hk0
        obtain ⟨v, hv⟩ := hcell _ hi _ hr
        have := (hY _ hi).2.2 _ hr
        rw [Addr.add_lit, Nat.div_add_mod' j k] at this
        rw [this, hv]
        rfl
      · have hj : j < len * k := by rw [← hfl]; exact (List.getElem?_eq_some_iff.1 hd).1
        have hi : j / k < len := Nat.div_lt_of_lt_mul (by rw [Nat.mul_comm]; exact hj)
        have hr : j % k < k := Nat.mod_lt _ hk0
        obtain ⟨v, hv⟩ := hcell _ hi _ hr
        rw [← Nat.div_add_mod' j k, flat_get hk (hget _ hi) hr] at hd
        show Lies w (Old w) d (((Y (j / k)).2[j % k]?).getD default)
        rw [hv]
        exact (hY _ hi).1.2 _ d v hd hv
    · obtain ⟨i, hi, rfl⟩ := List.mem_map.1 ha
      exact (hY i (by simpa using hi)).2.1
end
end Go.Proofs.YtagoikglbifhmaaGreatDoor
namespace Go.Proofs.YtagoikglbifhmaaGreatDoor
open Go.RowKit
mutual
def Vl.dats : Vl → List Dat
  | .mk k n t fs r ls ps => [.cell (.int .i64 k), .cell (.int .u64 (n : Int)), .cell (.string (str t)), .row 8 fs.length (fdats fs), .cell (.string (str r)), .row 7 ls.length (ldats ls), .row 14 ps.length (pdats ps)]
def fdats : List (Int × Vl) → List Dat
  | [] => []
  | (n, x) :: fs => (.cell (.int .i64 n) :: x.dats) ++ fdats fs
def ldats : List Vl → List Dat
  | [] => []
  | x :: ls => x.dats ++ ldats ls
def pdats : List (Vl × Vl) → List Dat
  | [] => []
  | (k, x) :: ps => (k.dats ++ x.dats) ++ pdats ps
end
def fieldDats (f : Int × Vl) : List Dat := .cell (.int .i64 f.1) :: f.2.dats
def pairDats (p : Vl × Vl) : List Dat := p.1.dats ++ p.2.dats
theorem fdats_eq : ∀ fs : List (Int × Vl), fdats fs = fs.flatMap fieldDats
  | [] => by simp [fdats]
  | (n, x) :: fs => by rw [fdats, fdats_eq fs, List.flatMap_cons]; rfl
theorem ldats_eq : ∀ ls : List Vl, ldats ls = ls.flatMap Vl.dats
  | [] => by simp [ldats]
  | x :: ls => by rw [ldats, ldats_eq ls, List.flatMap_cons]
theorem pdats_eq : ∀ ps : List (Vl × Vl), pdats ps = ps.flatMap pairDats
  | [] => by simp [pdats]
  | (k, x) :: ps => by rw [pdats, pdats_eq ps, List.flatMap_cons]; rfl
theorem Vl.dats_eq (v : Vl) : v.dats = [.cell (.int .i64 v.kind), .cell (.int .u64 (v.num : Int)), .cell (.string (str v.text)), .row 8 v.fields.length (v.fields.flatMap fieldDats), .cell (.string (str v.rest)), .row 7 v.list.length (v.list.flatMap Vl.dats), .row 14 v.pairs.length (v.pairs.flatMap pairDats)] := by
  cases v
  rw [Vl.dats, fdats_eq, ldats_eq, pdats_eq]
  rfl
theorem Vl.dats_len (v : Vl) : v.dats.length = 7 := by rw [v.dats_eq]; rfl
theorem fieldDats_len (f : Int × Vl) : (fieldDats f).length = 8 := by unfold fieldDats; rw [List.length_cons, Vl.dats_len]
theorem pairDats_len (p : Vl × Vl) : (pairDats p).length = 14 := by unfold pairDats; rw [List.length_append, Vl.dats_len, Vl.dats_len]
def vcells (v : Vl) (f l p : Value) : List Value := [.int .i64 v.kind, .int .u64 (v.num : Int), .string (str v.text), f, .string (str v.rest), l, p]
structure Vin (w : World) (D : Nat → Prop) (v : Vl) (pf : Option Addr) (cf : Nat) (pl : Option Addr) (cl : Nat) (pp : Option Addr) (cp : Nat) : Prop where
  fields : RowD w D 8 pf fieldDats v.fields
  list : RowD w D 7 pl Vl.dats v.list
  pairs : RowD w D 14 pp pairDats v.pairs
theorem Fits.seven {w : World} {D : Nat → Prop} {a b c d e f g : Dat} {xs : List Value} (h : Fits w D [a, b, c, d, e, f, g] xs) :
    ∃ x0 x1 x2 x3 x4 x5 x6, xs = [x0, x1, x2, x3, x4, x5, x6] ∧ Lies w D a x0 ∧ Lies w D b x1 ∧ Lies w D c x2 ∧ Lies w D d x3 ∧ Lies w D e x4 ∧ Lies w D f x5 ∧ Lies w D g x6 := by
  obtain ⟨x0, y0, rfl, h0, k0⟩ := Fits.head h
  obtain ⟨x1, y1, rfl, h1, k1⟩ := Fits.head k0
  obtain ⟨x2, y2, rfl, h2, k2⟩ := Fits.head k1
  obtain ⟨x3, y3, rfl, h3, k3⟩ := Fits.head k2
  obtain ⟨x4, y4, rfl, h4, k4⟩ := Fits.head k3
  obtain ⟨x5, y5, rfl, h5, k5⟩ := Fits.head k4
  obtain ⟨x6, y6, rfl, h6, k6⟩ := Fits.head k5
  obtain rfl : y6 = [] := List.eq_nil_of_length_eq_zero k6.1.symm
  exact ⟨x0, x1, x2, x3, x4, x5, x6, rfl, h0, h1, h2, h3, h4, h5, h6⟩
theorem Vl.lies {w : World} {D : Nat → Prop} {v : Vl} {f l p : Value} (h : Fits w D v.dats (vcells v f l p)) : Lies w D (.row 8 v.fields.length (v.fields.flatMap fieldDats)) f ∧ Lies w D (.row 7 v.list.length (v.list.flatMap Vl.dats)) l ∧ Lies w D (.row 14 v.pairs.length (v.pairs.flatMap pairDats)) p := by
  rw [v.dats_eq] at h
  obtain ⟨x0, x1, x2, x3, x4, x5, x6, e, h0, h1, h2, h3, h4, h5, h6⟩ := Fits.seven h
  simp only [vcells, List.cons.injEq, and_true] at e
  obtain ⟨_, _, _, rfl, _, rfl, rfl⟩ := e
  exact ⟨h3, h5, h6⟩
theorem Vl.shut {w : World} {D : Nat → Prop} {v : Vl} {f l p : Value} (hf : Lies w D (.row 8 v.fields.length (v.fields.flatMap fieldDats)) f) (hl : Lies w D (.row 7 v.list.length (v.list.flatMap Vl.dats)) l) (hp : Lies w D (.row 14 v.pairs.length (v.pairs.flatMap pairDats)) p) : Fits w D v.dats (vcells v f l p) := by
  rw [v.dats_eq]
  exact .cons (.cell _) (.cons (.cell _) (.cons (.cell _) (.cons hf (.cons (.cell _) (.cons hl (.cons hp (.nil _ _)))))))
theorem Vin.stay {w w' : World} {D : Nat → Prop} {v : Vl} {pf : Option Addr} {cf : Nat} {pl : Option Addr} {cl : Nat} {pp : Option Addr} {cp : Nat} (h : Vin w D v pf cf pl cl pp cp) (hk : Keeps D w w') : Vin w' D v pf cf pl cl pp cp := ⟨h.fields.stay hk, h.list.stay hk, h.pairs.stay hk⟩
theorem Fits.split {w : World} {D : Nat → Prop} {ds es : List Dat} {xs : List Value} (h : Fits w D (ds ++ es) xs) : ∃ ys zs, xs = ys ++ zs ∧ Fits w D ds ys ∧ Fits w D es zs := by
  have hl := h.1
  rw [List.length_append] at hl
  refine ⟨xs.take ds.length, xs.drop ds.length, (List.take_append_drop _ _).symm, ?_, ?_⟩
  · have := h.part 0 ds.length
    simpa using this
  · have := h.part ds.length es.length
    rw [List.drop_left, List.take_length] at this
    rwa [List.take_of_length_le (by rw [List.length_drop]; omega)] at this
inductive Vl.Fine : Vl → Prop where
  | mk (v : Vl) : -9223372036854775808 ≤ v.kind → v.kind < 9223372036854775808 → v.num < 18446744073709551616 → v.text.length ≤ maxLen → v.rest.length ≤ maxLen → v.fields.length ≤ maxLen → v.list.length ≤ maxLen → v.pairs.length ≤ maxLen →
    (∀ f ∈ v.fields, -9223372036854775808 ≤ f.1 ∧ f.1 < 9223372036854775808) → (∀ f ∈ v.fields, Fine f.2) → (∀ x ∈ v.list, Fine x) → (∀ p ∈ v.pairs, Fine p.1) → (∀ p ∈ v.pairs, Fine p.2) → Fine v
theorem Vl.Fine.bounds {v : Vl} (h : v.Fine) : v.num < 18446744073709551616 ∧ v.text.length ≤ maxLen ∧ v.rest.length ≤ maxLen ∧ v.fields.length ≤ maxLen ∧ v.list.length ≤ maxLen ∧ v.pairs.length ≤ maxLen ∧ -9223372036854775808 ≤ v.kind ∧ v.kind < 9223372036854775808 := by
  cases h
  exact ⟨‹_›, ‹_›, ‹_›, ‹_›, ‹_›, ‹_›, ‹_›, ‹_›⟩
theorem Vl.Fine.field {v : Vl} (h : v.Fine) {f : Int × Vl} (hf : f ∈ v.fields) : (-9223372036854775808 ≤ f.1 ∧ f.1 < 9223372036854775808) ∧ f.2.Fine := by
  cases h with
  | mk v a b c d e f g h i j k l m => exact ⟨i _ hf, j _ hf⟩
theorem Vl.Fine.elem {v : Vl} (h : v.Fine) {x : Vl} (hx : x ∈ v.list) : x.Fine := by
  cases h with
  | mk v a b c d e f g h i j k l m => exact k _ hx
theorem Vl.Fine.pair {v : Vl} (h : v.Fine) {p : Vl × Vl} (hp : p ∈ v.pairs) : p.1.Fine ∧ p.2.Fine := by
  cases h with
  | mk v a b c d e f g h i j k l m => exact ⟨l _ hp, m _ hp⟩
end Go.Proofs.YtagoikglbifhmaaGreatDoor
namespace Go.Proofs.YtagoikglbifhmaaGreatDoor
open Go
def gstep (g : Vl → Int → Int) (l : Int) (x : Vl) : Int := if 0 ≤ l then g x l else l
def gkids (v : Vl) : List Vl := v.fields.map (·.2) ++ (v.list ++ v.pairs.flatMap fun p => [p.1, p.2])
def vgreat : Nat → Vl → Int → Int
  | 0, _, _ => -1
  | d + 1, v, left => if 400 < v.text.length ∨ 400 < v.rest.length then -1 else (gkids v).foldl (gstep (vgreat d)) (left - 1)
theorem gfold_bd (g : Vl → Int → Int) (hg : ∀ x l, 0 ≤ l → -1 ≤ g x l ∧ g x l ≤ l - 1) : ∀ (xs : List Vl) (l : Int), -1 ≤ l → -1 ≤ xs.foldl (gstep g) l ∧ xs.foldl (gstep g) l ≤ l
  | [], l, h => ⟨h, Int.le_refl _⟩
  | x :: xs, l, h => by
    have h1 : -1 ≤ gstep g l x ∧ gstep g l x ≤ l := by
      unfold gstep
      split
      · rename_i h0
        have := hg x l h0
        omega
      · exact ⟨h, Int.le_refl _⟩
    have := gfold_bd g hg xs _ h1.1
    rw [List.foldl_cons]
    omega
theorem vgreat_bd : ∀ (d : Nat) (v : Vl) (left : Int), 0 ≤ left → -1 ≤ vgreat d v left ∧ vgreat d v left ≤ left - 1
  | 0, _, left, h => by unfold vgreat; omega
  | d + 1, v, left, h => by
    unfold vgreat
    split
    · omega
    · exact gfold_bd _ (fun x l hl => vgreat_bd d x l hl) _ _ (by omega)
inductive Small : Nat → Vl → Prop where
  | mk (d : Nat) (v : Vl) : v.text.length ≤ 400 → v.rest.length ≤ 400 → (∀ x ∈ gkids v, Small d x) → Small (d + 1) v
theorem gnodes (v : Vl) : vnodes v = 1 + lnodes (gkids v) := by
  have h : ∀ a b, lnodes (a ++ b) = lnodes a + lnodes b := fun a b => by
    induction a with
    | nil => simp [lnodes]
    | cons x a ih => rw [List.cons_append, lnodes, lnodes, ih]; omega
  have hf : ∀ fs : List (Int × Vl), lnodes (fs.map (·.2)) = fnodes fs := fun fs => by
    induction fs with
    | nil => simp [lnodes, fnodes]
    | cons f fs ih => obtain ⟨n, x⟩ := f; rw [List.map_cons, lnodes, fnodes, ih]
  have hp : ∀ ps : List (Vl × Vl), lnodes (ps.flatMap fun p => [p.1, p.2]) = pnodes ps := fun ps => by
    induction ps with
    | nil => simp [lnodes, pnodes]
    | cons p ps ih => obtain ⟨k, x⟩ := p; rw [List.flatMap_cons, h, ih, lnodes, lnodes, lnodes, pnodes]; dsimp only; omega
  unfold gkids
  rw [h, h, hf, hp, vnodes_eq]
  omega
theorem gfold_ok (g : Vl → Int → Int) (d : Nat) (hb : ∀ x l, 0 ≤ l → -1 ≤ g x l ∧ g x l ≤ l - 1) (hg : ∀ x l, 0 ≤ l → 0 ≤ g x l → (vnodes x : Int) ≤ l - g x l ∧ Small d x) : ∀ (xs : List Vl) (l : Int), -1 ≤ l → 0 ≤ xs.foldl (gstep g) l → (lnodes xs : Int) ≤ l - xs.foldl (gstep g) l ∧ ∀ x ∈ xs, Small d x
  | [], l, _, h => by simp [lnodes]
  | x :: xs, l, hl, h => by
    rw [List.foldl_cons] at h ⊢
    have h1 : -1 ≤ gstep g l x := by
      unfold gstep
      split
      · rename_i h0; exact (hb x l h0).1
      · exact hl
    have hle := (gfold_bd g hb xs _ h1).2
    obtain ⟨h2, h3⟩ := gfold_ok g d hb hg xs _ h1 h
    have h0 : 0 ≤ l := by
      rcases Int.lt_or_le l 0 with hn | hn
      · have : gstep g l x = l := if_neg (by omega)
        omega
      · exact hn
    have e : gstep g l x = g x l := if_pos h0
    rw [e] at h2 h hle ⊢
    obtain ⟨h4, h5⟩ := hg x l h0 (by omega)
    refine ⟨?_, fun y hy => ?_⟩
    · rw [lnodes]
      omega
    · rcases List.mem_cons.1 hy with h | h
      · rw [h]; exact h5
      · exact h3 y h
theorem vgreat_ok : ∀ (d : Nat) (v : Vl) (left : Int), 0 ≤ left → 0 ≤ vgreat d v left → (vnodes v : Int) ≤ left - vgreat d v left ∧ Small d v
  | 0, _, left, _, h => by unfold vgreat at h; omega
  | d + 1, v, left, hl, h => by
    unfold vgreat at h ⊢
    split at h
    · omega
    · rename_i ht
      rw [if_neg ht]
      obtain ⟨h1, h2⟩ := gfold_ok (vgreat d) d (fun x l hl => vgreat_bd d x l hl) (fun x l hl h => vgreat_ok d x l hl h) (gkids v) (left - 1) (by omega) h
      rw [gnodes]
      exact ⟨by omega, .mk d v (by omega) (by omega) h2⟩
theorem fold_take {g : Int → Vl → Int} {xs : List Vl} {l : Int} {k : Nat} {x : Vl} (h : xs[k]? = some x) : (xs.take (k + 1)).foldl g l = g ((xs.take k).foldl g l) x := by
  have hk := (List.getElem?_eq_some_iff.1 h).1
  rw [List.take_add_one, h, List.foldl_append]
  rfl
def gpairs (ps : List (Vl × Vl)) : List Vl := ps.flatMap fun p => [p.1, p.2]
theorem gpairs_take {g : Int → Vl → Int} {ps : List (Vl × Vl)} {l : Int} {k : Nat} {p : Vl × Vl} (h : ps[k]? = some p) : (gpairs (ps.take (k + 1))).foldl g l = g (g ((gpairs (ps.take k)).foldl g l) p.1) p.2 := by
  unfold gpairs
  rw [List.take_add_one, h, Option.toList_some, List.flatMap_append, List.foldl_append]
  rfl
def rkids (v : Vl) : List Vl := v.list ++ v.fields.map (·.2) ++ gpairs v.pairs
theorem lnodes_append : ∀ a b : List Vl, lnodes (a ++ b) = lnodes a + lnodes b
  | [], b => by simp [lnodes]
  | x :: a, b => by rw [List.cons_append, lnodes, lnodes, lnodes_append a b]; omega
theorem lnodes_fields : ∀ fs : List (Int × Vl), lnodes (fs.map (·.2)) = fnodes fs
  | [] => by simp [lnodes, fnodes]
  | (n, x) :: fs => by rw [List.map_cons, lnodes, fnodes, lnodes_fields fs]
theorem gpairs_cons (p : Vl × Vl) (ps : List (Vl × Vl)) : gpairs (p :: ps) = p.1 :: p.2 :: gpairs ps := by
  unfold gpairs
  rw [List.flatMap_cons]
  rfl
theorem lnodes_pairs : ∀ ps : List (Vl × Vl), lnodes (gpairs ps) = pnodes ps
  | [] => by simp [gpairs, lnodes, pnodes]
  | (k, x) :: ps => by rw [gpairs_cons, lnodes, lnodes, lnodes_pairs ps, pnodes]; dsimp only; omega
theorem rkids_nodes (v : Vl) : vnodes v = 1 + lnodes (rkids v) := by
  unfold rkids
  rw [lnodes_append, lnodes_append, lnodes_fields, lnodes_pairs, vnodes_eq]
  omega
theorem rkids_mem {v x : Vl} (h : x ∈ rkids v) : SizeOf.sizeOf x < SizeOf.sizeOf v ∧ (v.Fine → x.Fine) ∧ vnodes x < vnodes v := by
  have hn : vnodes x < vnodes v := by rw [rkids_nodes v]; have := lnodes_mem h; omega
  unfold rkids gpairs at h
  simp only [List.mem_append, List.mem_map, List.mem_flatMap, List.mem_cons, List.not_mem_nil, or_false] at h
  rcases h with (h | ⟨f, hf, rfl⟩) | ⟨p, hp, rfl | rfl⟩
  · exact ⟨Vl.list_lt h, fun k => k.elem h, hn⟩
  · exact ⟨Vl.field_lt hf, fun k => (k.field hf).2, hn⟩
  · exact ⟨(Vl.key_lt hp).1, fun k => (k.pair hp).1, hn⟩
  · exact ⟨(Vl.key_lt hp).2, fun k => (k.pair hp).2, hn⟩
theorem rkids_ind {P : Vl → Prop} (h : ∀ v : Vl, (∀ x ∈ rkids v, P x) → P v) (v : Vl) : P v := by
  generalize hn : SizeOf.sizeOf v = n
  induction n using Nat.strongRecOn generalizing v with
  | ind n ih =>
    subst hn
    exact h v fun x hx => ih _ (rkids_mem hx).1 _ rfl
theorem Small.parts {d : Nat} {v : Vl} (h : Small (d + 1) v) : v.text.length ≤ 400 ∧ v.rest.length ≤ 400 ∧ ∀ x ∈ gkids v, Small d x := by
  cases h
  exact ⟨‹_›, ‹_›, ‹_›⟩
end Go.Proofs.YtagoikglbifhmaaGreatDoor
