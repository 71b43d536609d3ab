/- The contracts of lexer.token and lexer.first: the token with which a text begins. Conditions: fewer than 1000000000 bytes; the errors' variables hold what the program's text lays. -/
import Derived.Test.YtgpihhigajmldaaDoorProg
import Derived.Test.YtgpihhigajmldaaDoorLexNum
import Derived.Test.YtgpihhigajmldaaDoorLexAny
import Derived.Test.YtgpihhigajmldaaDoorRet
import Derived.Deep.RegionHeld3
namespace Go.Proofs.YtgpihhigajmldaaDoor
open Go.RowKit

/-- A token as a value. -/
def tokCells (t : Tok) (li co : Nat) : List Value := [.int .i64 (t.k : Int), .string (str t.t), .int .i64 (t.n : Int), .int .i64 (li : Int), .int .i64 (co : Int)]
def tokV (t : Tok) : Value := .agg (tokCells t 0 0).toArray
theorem drew_cell {w : World} {p : Addr} {v : Value} (h : w.cell? p = some v) : w.drew.cell? p = some v := h
/-- What token answers. -/
def TokR (w : World) (A : Nat → Addr) (r : Tok × Nat) (e : Ending) (w' : World) : Prop :=
  e = .returned (.tuple #[tokV r.1, errOf A r.2]) ∧ Below w.heap.size w w'

set_option maxRecDepth 100000 in
theorem strClone_any (w : World) (l : List UInt8) (hl : l.length < 1000000000) : Calls Tryd.prog 53 #[.string (str l)] w fun e w' => e = .returned (.string (str l)) ∧ Below w.heap.size w w' := by
  go_enter Tryd.func53, Tryd.ntmps53
  go_wp2_with fail
  refine (Tryd.stringslite_Clone (str l) w (by rw [strSize]; omega)).mono ?_
  rintro e w1 ⟨rfl, hb⟩
  go_wp2_with fail
  go_ret
  exact ⟨rfl, hb⟩

set_option maxRecDepth 100000 in
theorem token_gap (w : World) (A : Nat → Addr) (p : List UInt8) : Calls Tryd.prog 35 #[.int .i64 0, .string (str p)] w (TokR w A (⟨0, [], 0⟩, 0)) := by
  go_enter Tryd.func35, Tryd.ntmps35
  go_wp2_with fail
  refine bodyPost_ret (results_row1 rfl _ _ w.heap.size 34 (tokCells ⟨0, [], 0⟩ 0 0) _ rfl ((Blk.new w _ _).alloc _) Tryd.underlying34 (by kernel_rfl)) rfl ⟨rfl, ((Below.refl _ _).alloc (Nat.le_refl _) _).alloc (by simp) _⟩

/-- The world behind token's first step: the result's place, and the token's own. -/
def tok0 (w : World) (k : Nat) : World := (w.alloc (.cells (tokCells ⟨0, [], 0⟩ 0 0).toArray 34)).alloc (.cells (tokCells ⟨k, [], 0⟩ 0 0).toArray 34)
theorem tok0_below (w : World) (k : Nat) : Below w.heap.size w (tok0 w k) := ((Below.refl _ _).alloc (Nat.le_refl _) _).alloc (by simp) _
theorem tok0_res (w : World) (k : Nat) : Blk (tok0 w k) w.heap.size 34 (tokCells ⟨0, [], 0⟩ 0 0) := (Blk.new w _ _).alloc _
theorem tok0_tok (w : World) (k : Nat) : Blk (tok0 w k) (w.heap.size + 1) 34 (tokCells ⟨k, [], 0⟩ 0 0) := by
  have h := Blk.new (w.alloc (.cells (tokCells ⟨0, [], 0⟩ 0 0).toArray 34)) 34 (tokCells ⟨k, [], 0⟩ 0 0)
  have e : (w.alloc (.cells (tokCells ⟨0, [], 0⟩ 0 0).toArray 34)).heap.size = w.heap.size + 1 := by simp
  rw [e] at h
  exact h
theorem Blk.cells5 {w : World} {g : Nat} {t : TypeId} {a b c d e : Value} (h : Blk w g t [a, b, c, d, e]) :
    w.cell? ⟨g, 0, none⟩ = some a ∧ w.cell? ⟨g, 1, none⟩ = some b ∧ w.cell? ⟨g, 2, none⟩ = some c ∧ w.cell? ⟨g, 3, none⟩ = some d ∧ w.cell? ⟨g, 4, none⟩ = some e :=
  ⟨h.cell 0, h.cell 1, h.cell 2, h.cell 3, h.cell 4⟩

set_option maxRecDepth 100000 in
set_option maxHeartbeats 1000000 in
theorem token_word (w : World) (A : Nat → Addr) (p : List UInt8) (hp : ¬ 40 < p.length) : Calls Tryd.prog 35 #[.int .i64 1, .string (str p)] w (TokR w A (⟨1, p, 0⟩, 0)) := by
  have hz : (str p).size = p.length := strSize p
  have hp' : ¬ (40 : Int) < (p.length : Int) := by omega
  have hk0 := tok0_res w 1
  have hk1 := tok0_tok w 1
  have hb0 := tok0_below w 1
  go_enter Tryd.func35, Tryd.ntmps35
  go_wp2_with fail
  refine (strClone_any (tok0 w 1) p (by omega)).mono ?_
  rintro e w3 ⟨rfl, hb3⟩
  replace hk0 := hk0.kept hb3
  replace hk1 := hk1.kept hb3
  have hB3 := hb0.trans (hb3.mono hb0.size)
  have f1 := hk1.frozen 1
  have f2 := hk1.frozen 2
  obtain ⟨c0, c1, c2, c3, c4⟩ := hk1.cells5
  obtain ⟨r0, r1, r2, r3, r4⟩ := hk0.cells5
  have fr0 := hk0.frozen 0
  have fr1 := hk0.frozen 1
  have fr2 := hk0.frozen 2
  have fr3 := hk0.frozen 3
  have fr4 := hk0.frozen 4
  go_wp2_with fail
  refine bodyPost_ret (results_row1 rfl _ _ w.heap.size 34 (tokCells ⟨1, p, 0⟩ 0 0) _ rfl ?_ Tryd.underlying34 (by kernel_rfl)) rfl ⟨rfl, ?_⟩
  · exact ((((((hk0.far (by simp only; omega) _).set_ 0 _).set_ 1 _).set_ 2 _).set_ 3 _).set_ 4 _)
  · exact ((((((hB3.setCell (by simp only; omega) _).setCell (by simp only; omega) _).setCell (by simp only; omega) _).setCell (by simp only; omega) _).setCell (by simp only; omega) _).setCell (by simp only; omega) _)

set_option maxRecDepth 100000 in
set_option maxHeartbeats 1000000 in
theorem token_long (w : World) (A : Nat → Addr) (m : Int) (hL : Lx w A m) (p : List UInt8) (hp : 40 < p.length) : Calls Tryd.prog 35 #[.int .i64 1, .string (str p)] w (TokR w A (⟨0, [], 0⟩, 3)) := by
  have hz : (str p).size = p.length := strSize p
  have hp' : (40 : Int) < (p.length : Int) := by omega
  have hk0 := tok0_res w 1
  have hk1 := tok0_tok w 1
  have hb0 := tok0_below w 1
  go_enter Tryd.func35, Tryd.ntmps35
  go_wp2_with fail
  obtain ⟨w3, hw3⟩ : ∃ w3, w3 = tok0 w 1 := ⟨_, rfl⟩
  have hB3 := hb0
  rw [← hw3] at hk0 hk1 hB3
  have f1 := hk1.frozen 1
  have f2 := hk1.frozen 2
  obtain ⟨c0, c1, c2, c3, c4⟩ := hk1.cells5
  obtain ⟨r0, r1, r2, r3, r4⟩ := hk0.cells5
  have fr0 := hk0.frozen 0
  have fr1 := hk0.frozen 1
  have fr2 := hk0.frozen 2
  have fr3 := hk0.frozen 3
  have fr4 := hk0.frozen 4
  show Code.wp Tryd.prog _ _ _ (tok0 w 1)
  rw [← hw3]
  clear hw3
  clear hb0
  have hlt := World.block_lt_of_cell? w ⟨0, 0, none⟩ hL.long
  have hlong := (hB3.cell (p := ⟨0, 0, none⟩) hlt).trans hL.long
  have hB5 := (((((hB3.setCell (p := ⟨w.heap.size, 0, none⟩) (Nat.le_refl _) (.int .i64 0)).setCell (p := ⟨w.heap.size, 1, none⟩) (Nat.le_refl _) (.string ⟨#[]⟩)).setCell (p := ⟨w.heap.size, 2, none⟩) (Nat.le_refl _) (.int .i64 0)).setCell (p := ⟨w.heap.size, 3, none⟩) (Nat.le_refl _) (.int .i64 0)).setCell (p := ⟨w.heap.size, 4, none⟩) (Nat.le_refl _) (.int .i64 0))
  have hS1 := (hB5.cell (p := ⟨0, 0, none⟩) hlt).trans hL.long
  have hlongd : w3.drew.cell? ⟨0, 0, none⟩ = some (errV A 2) := hlong
  have hS1d : (((((w3.setCell ⟨w.heap.size, 0, none⟩ (.int .i64 0)).setCell ⟨w.heap.size, 1, none⟩ (.string ⟨#[]⟩)).setCell ⟨w.heap.size, 2, none⟩ (.int .i64 0)).setCell ⟨w.heap.size, 3, none⟩ (.int .i64 0)).setCell ⟨w.heap.size, 4, none⟩ (.int .i64 0)).drew.cell? ⟨0, 0, none⟩ = some (errV A 2) := drew_cell hS1
  have hk5 := (((((hk0.set_ 0 (.int .i64 0)).set_ 1 (.string ⟨#[]⟩)).set_ 2 (.int .i64 0)).set_ 3 (.int .i64 0)).set_ 4 (.int .i64 0))
  go_region_held3 (fun w' => w'.cell? ⟨0, 0, none⟩ = some (errV A 2)) (first | with_reducible exact hlong | with_reducible exact hlongd | with_reducible exact hS1 | with_reducible exact hS1d) (fail)
  all_goals
    go_wp2_with fail
    refine bodyPost_ret (results_row1 rfl _ _ w.heap.size 34 _ _ rfl hk5.drew Tryd.underlying34 (by kernel_rfl)) rfl ⟨rfl, below_drewN hB5 1⟩

set_option maxRecDepth 100000 in
set_option maxHeartbeats 1000000 in
theorem token_int (w : World) (A : Nat → Addr) (m : Int) (hL : Lx w A m) (p : List UInt8) (h0 : 0 < p.length) (hl : p.length < 1000000000) (hok : (lnum p).2 = 0) : Calls Tryd.prog 35 #[.int .i64 2, .string (str p)] w (TokR w A (⟨2, p, (lnum p).1⟩, 0)) := by
  have HN := Lib.hid (number_any (tok0 w 2) A m (hL.below (tok0_below w 2)) p h0 hl)
  unfold NumR at HN
  rw [hok] at HN
  generalize (lnum p).1 = n at *
  have hk0 := tok0_res w 2
  have hk1 := tok0_tok w 2
  have hb0 := tok0_below w 2
  go_enter Tryd.func35, Tryd.ntmps35
  go_wp2_with fail
  refine HN.out.mono ?_
  rintro e w2 ⟨rfl, hb2⟩
  replace hk0 := hk0.kept hb2
  replace hk1 := hk1.kept hb2
  replace hb0 := hb0.trans (hb2.mono hb0.size)
  have g2 := hk1.frozen 2
  obtain ⟨d0, d1, d2, d3, d4⟩ := hk1.cells5
  rw [show errOf A 0 = Value.nilIface from rfl]
  go_wp2_with fail
  obtain ⟨w3', hw3'⟩ : ∃ w3', w3' = w2.setCell ⟨w.heap.size + 1, 2, none⟩ (.int .i64 (n : Int)) := ⟨_, rfl⟩
  replace hk0 : Blk w3' w.heap.size _ _ := hw3' ▸ hk0.far (p := ⟨w.heap.size + 1, 2, none⟩) (by simp only; omega) (.int .i64 (n : Int))
  replace hk1 : Blk w3' (w.heap.size + 1) _ _ := hw3' ▸ hk1.set_ 2 (.int .i64 (n : Int))
  replace hb0 : Below w.heap.size w w3' := hw3' ▸ hb0.setCell (p := ⟨w.heap.size + 1, 2, none⟩) (by simp only; omega) (.int .i64 (n : Int))
  rw [← hw3']
  clear hw3' g2 d0 d1 d2 d3 d4 hb2
  refine (strClone_any w3' p (by omega)).mono ?_
  rintro e w3 ⟨rfl, hb3⟩
  replace hk0 := hk0.kept hb3
  replace hk1 := hk1.kept hb3
  have hB3 := hb0.trans (hb3.mono hb0.size)
  have f1 := hk1.frozen 1
  have f2 := hk1.frozen 2
  obtain ⟨c0, c1, c2, c3, c4⟩ := hk1.cells5
  obtain ⟨r0, r1, r2, r3, r4⟩ := hk0.cells5
  have fr0 := hk0.frozen 0
  have fr1 := hk0.frozen 1
  have fr2 := hk0.frozen 2
  have fr3 := hk0.frozen 3
  have fr4 := hk0.frozen 4
  go_wp2_with fail
  refine bodyPost_ret (results_row1 rfl _ _ w.heap.size 34 (tokCells ⟨2, p, n⟩ 0 0) _ rfl ?_ Tryd.underlying34 (by kernel_rfl)) rfl ⟨rfl, ?_⟩
  · exact ((((((hk0.far (by simp only; omega) _).set_ 0 _).set_ 1 _).set_ 2 _).set_ 3 _).set_ 4 _)
  · exact ((((((hB3.setCell (by simp only; omega) _).setCell (by simp only; omega) _).setCell (by simp only; omega) _).setCell (by simp only; omega) _).setCell (by simp only; omega) _).setCell (by simp only; omega) _)

set_option maxRecDepth 100000 in
set_option maxHeartbeats 1000000 in
theorem token_nan (w : World) (A : Nat → Addr) (m : Int) (hL : Lx w A m) (p : List UInt8) (h0 : 0 < p.length) (hl : p.length < 1000000000) (b : Nat) (hbad : (lnum p).2 = b + 1) : Calls Tryd.prog 35 #[.int .i64 2, .string (str p)] w (TokR w A (⟨0, [], 0⟩, b + 1)) := by
  have HN := Lib.hid (number_any (tok0 w 2) A m (hL.below (tok0_below w 2)) p h0 hl)
  unfold NumR at HN
  rw [hbad, show errOf A (b + 1) = errV A b from rfl] at HN
  have hne := neq_errV A b
  generalize (lnum p).1 = n at *
  have hk0 := tok0_res w 2
  have hk1 := tok0_tok w 2
  have hb0 := tok0_below w 2
  go_enter Tryd.func35, Tryd.ntmps35
  go_wp2_with fail
  refine HN.out.mono ?_
  rintro e w3 ⟨rfl, hb3⟩
  replace hk0 := hk0.kept hb3
  replace hk1 := hk1.kept hb3
  have hB3 := hb0.trans (hb3.mono hb0.size)
  have f1 := hk1.frozen 1
  have f2 := hk1.frozen 2
  obtain ⟨c0, c1, c2, c3, c4⟩ := hk1.cells5
  obtain ⟨r0, r1, r2, r3, r4⟩ := hk0.cells5
  have fr0 := hk0.frozen 0
  have fr1 := hk0.frozen 1
  have fr2 := hk0.frozen 2
  have fr3 := hk0.frozen 3
  have fr4 := hk0.frozen 4
  go_wp2_with fail
  have hB5 := (((((hB3.setCell (p := ⟨w.heap.size, 0, none⟩) (Nat.le_refl _) (.int .i64 0)).setCell (p := ⟨w.heap.size, 1, none⟩) (Nat.le_refl _) (.string ⟨#[]⟩)).setCell (p := ⟨w.heap.size, 2, none⟩) (Nat.le_refl _) (.int .i64 0)).setCell (p := ⟨w.heap.size, 3, none⟩) (Nat.le_refl _) (.int .i64 0)).setCell (p := ⟨w.heap.size, 4, none⟩) (Nat.le_refl _) (.int .i64 0))
  have hk5 := (((((hk0.set_ 0 (.int .i64 0)).set_ 1 (.string ⟨#[]⟩)).set_ 2 (.int .i64 0)).set_ 3 (.int .i64 0)).set_ 4 (.int .i64 0))
  refine bodyPost_ret (results_row1 rfl _ _ w.heap.size 34 _ _ rfl hk5 Tryd.underlying34 (by kernel_rfl)) rfl ⟨rfl, hB5⟩

set_option maxRecDepth 100000 in
set_option maxHeartbeats 1000000 in
theorem token_text (w : World) (A : Nat → Addr) (p : List UInt8) (h2 : 2 ≤ p.length) (hl : p.length < 1000000000) (hb : decide ((92 : UInt8) ∈ (p.drop 1).take (p.length - 2) ∨ (10 : UInt8) ∈ (p.drop 1).take (p.length - 2)) = false) :
    Calls Tryd.prog 35 #[.int .i64 3, .string (str p)] w (TokR w A (⟨3, (p.drop 1).take (p.length - 2), 0⟩, 0)) := by
  have hz : (str p).size = p.length := strSize p
  have hmid : ∀ u, (Instr.slice 9 (.string (str p)) (some (.int .i64 1)) (some (.int .i64 ((p.length : Int) - 1))) none).run Tryd.prog u = .ok (.string (str ((p.drop 1).take (p.length - 2)))) u := fun u => by
    have h := str_mid p 1 (p.length - 1) (by omega) (by omega) u
    rw [show p.length - 1 - 1 = p.length - 2 by omega, show ((p.length - 1 : Nat) : Int) = (p.length : Int) - 1 by omega] at h
    exact h
  obtain ⟨q, hq⟩ : ∃ q, q = (p.drop 1).take (p.length - 2) := ⟨_, rfl⟩
  rw [← hq] at hmid hb  ⊢
  have hql : q.length < 1000000000 := by rw [hq, List.length_take]; omega
  clear hq
  have HC := Lib.hid (containsAny_any (tok0 w 3) q hql)
  rw [hb] at HC
  clear hb
  have hk0 := tok0_res w 3
  have hk1 := tok0_tok w 3
  have hb0 := tok0_below w 3
  go_enter Tryd.func35, Tryd.ntmps35
  go_wp2_with fail
  refine HC.out.mono ?_
  rintro e w2 ⟨rfl, hb2⟩
  replace hk0 := hk0.kept hb2
  replace hk1 := hk1.kept hb2
  replace hb0 := hb0.trans (hb2.mono hb0.size)
  go_wp2_with fail
  refine (strClone_any w2 q (by omega)).mono ?_
  rintro e w3 ⟨rfl, hb3⟩
  replace hk0 := hk0.kept hb3
  replace hk1 := hk1.kept hb3
  have hB3 := hb0.trans (hb3.mono hb0.size)
  have f1 := hk1.frozen 1
  have f2 := hk1.frozen 2
  obtain ⟨c0, c1, c2, c3, c4⟩ := hk1.cells5
  obtain ⟨r0, r1, r2, r3, r4⟩ := hk0.cells5
  have fr0 := hk0.frozen 0
  have fr1 := hk0.frozen 1
  have fr2 := hk0.frozen 2
  have fr3 := hk0.frozen 3
  have fr4 := hk0.frozen 4
  go_wp2_with fail
  refine bodyPost_ret (results_row1 rfl _ _ w.heap.size 34 (tokCells ⟨3, q, 0⟩ 0 0) _ rfl ?_ Tryd.underlying34 (by kernel_rfl)) rfl ⟨rfl, ?_⟩
  · exact ((((((hk0.far (by simp only; omega) _).set_ 0 _).set_ 1 _).set_ 2 _).set_ 3 _).set_ 4 _)
  · exact ((((((hB3.setCell (by simp only; omega) _).setCell (by simp only; omega) _).setCell (by simp only; omega) _).setCell (by simp only; omega) _).setCell (by simp only; omega) _).setCell (by simp only; omega) _)

set_option maxRecDepth 100000 in
set_option maxHeartbeats 1000000 in
theorem token_untext (w : World) (A : Nat → Addr) (m : Int) (hL : Lx w A m) (p : List UInt8) (h2 : 2 ≤ p.length) (hl : p.length < 1000000000) (hb : decide ((92 : UInt8) ∈ (p.drop 1).take (p.length - 2) ∨ (10 : UInt8) ∈ (p.drop 1).take (p.length - 2)) = true) :
    Calls Tryd.prog 35 #[.int .i64 3, .string (str p)] w (TokR w A (⟨0, [], 0⟩, 9)) := by
  have hz : (str p).size = p.length := strSize p
  have hmid : ∀ u, (Instr.slice 9 (.string (str p)) (some (.int .i64 1)) (some (.int .i64 ((p.length : Int) - 1))) none).run Tryd.prog u = .ok (.string (str ((p.drop 1).take (p.length - 2)))) u := fun u => by
    have h := str_mid p 1 (p.length - 1) (by omega) (by omega) u
    rw [show p.length - 1 - 1 = p.length - 2 by omega, show ((p.length - 1 : Nat) : Int) = (p.length : Int) - 1 by omega] at h
    exact h
  obtain ⟨q, hq⟩ : ∃ q, q = (p.drop 1).take (p.length - 2) := ⟨_, rfl⟩
  rw [← hq] at hmid hb
  have hql : q.length < 1000000000 := by rw [hq, List.length_take]; omega
  clear hq
  have HC := Lib.hid (containsAny_any (tok0 w 3) q hql)
  rw [hb] at HC
  clear hb
  have hk0 := tok0_res w 3
  have hk1 := tok0_tok w 3
  have hb0 := tok0_below w 3
  go_enter Tryd.func35, Tryd.ntmps35
  go_wp2_with fail
  refine HC.out.mono ?_
  rintro e w3 ⟨rfl, hb3⟩
  replace hk0 := hk0.kept hb3
  replace hk1 := hk1.kept hb3
  have hB3 := hb0.trans (hb3.mono hb0.size)
  have f1 := hk1.frozen 1
  have f2 := hk1.frozen 2
  obtain ⟨c0, c1, c2, c3, c4⟩ := hk1.cells5
  obtain ⟨r0, r1, r2, r3, r4⟩ := hk0.cells5
  have fr0 := hk0.frozen 0
  have fr1 := hk0.frozen 1
  have fr2 := hk0.frozen 2
  have fr3 := hk0.frozen 3
  have fr4 := hk0.frozen 4
  go_wp2_with fail
  have hlt := World.block_lt_of_cell? w ⟨8, 0, none⟩ hL.form
  have hlong := (hB3.cell (p := ⟨8, 0, none⟩) hlt).trans hL.form
  have hB5 := (((((hB3.setCell (p := ⟨w.heap.size, 0, none⟩) (Nat.le_refl _) (.int .i64 0)).setCell (p := ⟨w.heap.size, 1, none⟩) (Nat.le_refl _) (.string ⟨#[]⟩)).setCell (p := ⟨w.heap.size, 2, none⟩) (Nat.le_refl _) (.int .i64 0)).setCell (p := ⟨w.heap.size, 3, none⟩) (Nat.le_refl _) (.int .i64 0)).setCell (p := ⟨w.heap.size, 4, none⟩) (Nat.le_refl _) (.int .i64 0))
  have hS1 := (hB5.cell (p := ⟨8, 0, none⟩) hlt).trans hL.form
  have hlongd : w3.drew.cell? ⟨8, 0, none⟩ = some (errV A 8) := hlong
  have hS1d : (((((w3.setCell ⟨w.heap.size, 0, none⟩ (.int .i64 0)).setCell ⟨w.heap.size, 1, none⟩ (.string ⟨#[]⟩)).setCell ⟨w.heap.size, 2, none⟩ (.int .i64 0)).setCell ⟨w.heap.size, 3, none⟩ (.int .i64 0)).setCell ⟨w.heap.size, 4, none⟩ (.int .i64 0)).drew.cell? ⟨8, 0, none⟩ = some (errV A 8) := drew_cell hS1
  have hk5 := (((((hk0.set_ 0 (.int .i64 0)).set_ 1 (.string ⟨#[]⟩)).set_ 2 (.int .i64 0)).set_ 3 (.int .i64 0)).set_ 4 (.int .i64 0))
  go_region_held3 (fun w' => w'.cell? ⟨8, 0, none⟩ = some (errV A 8)) (first | with_reducible exact hlong | with_reducible exact hlongd | with_reducible exact hS1 | with_reducible exact hS1d) (fail)
  all_goals
    go_wp2_with fail
    refine bodyPost_ret (results_row1 rfl _ _ w.heap.size 34 _ _ rfl hk5.drew Tryd.underlying34 (by kernel_rfl)) rfl ⟨rfl, below_drewN hB5 1⟩

set_option maxRecDepth 100000 in
set_option maxHeartbeats 1000000 in
theorem token_sign (w : World) (A : Nat → Addr) (p : List UInt8) (hl : p.length < 1000000000) : Calls Tryd.prog 35 #[.int .i64 4, .string (str p)] w (TokR w A (⟨4, p, 0⟩, 0)) := by
  have hk0 := tok0_res w 4
  have hk1 := tok0_tok w 4
  have hb0 := tok0_below w 4
  go_enter Tryd.func35, Tryd.ntmps35
  go_wp2_with fail
  refine (strClone_any (tok0 w 4) p (by omega)).mono ?_
  rintro e w3 ⟨rfl, hb3⟩
  replace hk0 := hk0.kept hb3
  replace hk1 := hk1.kept hb3
  have hB3 := hb0.trans (hb3.mono hb0.size)
  have f1 := hk1.frozen 1
  have f2 := hk1.frozen 2
  obtain ⟨c0, c1, c2, c3, c4⟩ := hk1.cells5
  obtain ⟨r0, r1, r2, r3, r4⟩ := hk0.cells5
  have fr0 := hk0.frozen 0
  have fr1 := hk0.frozen 1
  have fr2 := hk0.frozen 2
  have fr3 := hk0.frozen 3
  have fr4 := hk0.frozen 4
  go_wp2_with fail
  refine bodyPost_ret (results_row1 rfl _ _ w.heap.size 34 (tokCells ⟨4, p, 0⟩ 0 0) _ rfl ?_ Tryd.underlying34 (by kernel_rfl)) rfl ⟨rfl, ?_⟩
  · exact ((((((hk0.far (by simp only; omega) _).set_ 0 _).set_ 1 _).set_ 2 _).set_ 3 _).set_ 4 _)
  · exact ((((((hB3.setCell (by simp only; omega) _).setCell (by simp only; omega) _).setCell (by simp only; omega) _).setCell (by simp only; omega) _).setCell (by simp only; omega) _).setCell (by simp only; omega) _)
end Go.Proofs.YtgpihhigajmldaaDoor
