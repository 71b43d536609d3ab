/- The contract of record.Parse: the record with which bytes begin. Conditions: fewer than 2^46 bytes; the errors' variables hold what the program's text lays. -/
import Derived.Test.YtlndejanojgjlaaDoorProg
import Derived.Test.YtlndejanojgjlaaDoorMem
import Derived.Test.YtlndejanojgjlaaDoorRet
import Derived.Test.YtlndejanojgjlaaDoorTag
import Derived.Test.YtlndejanojgjlaaDoorTparse
import Derived.Test.YtlndejanojgjlaaDoorRec
import Derived.Test.YtlndejanojgjlaaDoorRec2
import Derived.Test.YtlndejanojgjlaaDoorRec3
import Derived.Deep.RegionHeld3
namespace Go.Proofs.YtlndejanojgjlaaDoor
open Go.RowKit

/-- A record. -/
structure RecD where
  n : Nat
  k : Nat
  bits : Nat
  text : List UInt8
  raw : List UInt8
def RecD.val (r : RecD) : Value := recV r.n r.k r.bits r.text r.raw
/-- The record with which bytes begin, how many bytes it has, the error's number. -/
def rparse (l : List UInt8) : RecD × Nat × Nat :=
  if (tparse l).2.2.2 ≠ 0 then (⟨0, 0, 0, [], []⟩, 0, (tparse l).2.2.2)
  else if (rbody (tparse l).2.1 (l.drop (tparse l).2.2.1)).2.2.2 ≠ 0 then (⟨0, 0, 0, [], []⟩, 0, (rbody (tparse l).2.1 (l.drop (tparse l).2.2.1)).2.2.2)
  else (⟨(tparse l).1, (tparse l).2.1, (rbody (tparse l).2.1 (l.drop (tparse l).2.2.1)).1, (rbody (tparse l).2.1 (l.drop (tparse l).2.2.1)).2.1, l.take ((tparse l).2.2.1 + (rbody (tparse l).2.1 (l.drop (tparse l).2.2.1)).2.2.1)⟩,
    (tparse l).2.2.1 + (rbody (tparse l).2.1 (l.drop (tparse l).2.2.1)).2.2.1, 0)

theorem rbody_size (k : Nat) (m : List UInt8) (h : (rbody k m).2.2.2 = 0) : (rbody k m).2.2.1 ≤ m.length := by
  unfold rbody at h ⊢
  split at h
  · rename_i hk
    rw [if_pos hk]
    split at h
    · simp at h
    · rename_i h8
      rw [if_neg h8]
      simp only; omega
  · rename_i hk
    rw [if_neg hk]
    split at h
    · rename_i hk
      rw [if_pos hk]
      split at h
      · simp at h
      · rename_i h4
        rw [if_neg h4]
        simp only; omega
    · rename_i hk
      rw [if_neg hk]
      split at h
      · rename_i hb
        exact absurd h hb
      · rename_i hb
        rw [if_neg hb]
        have hv := vparse_size m (by omega)
        split at h
        · rename_i h0
          rw [if_pos h0]
          simp only; omega
        · rename_i h0
          rw [if_neg h0]
          split at h
          · simp at h
          · rename_i hx
            rw [if_neg hx]
            simp only; omega

theorem below_undrew {B : Nat} {w w' : World} (h : Below B w.drew w') : Below B w w' := ⟨h.os, h.tape, h.output, h.size, h.block⟩

theorem run_head (p : Option Addr) (n c k : Nat) (h : k ≤ c) (u : World) : (Instr.slice 22 (.slice p n c) none (some (.int .i64 (k : Int))) none).run Tryd.prog u = .ok (.slice p k c) u := by
  have h1 : (0 : Int) ≤ (k : Int) := by omega
  have h2 : (k : Int) ≤ (c : Int) := by omega
  go_simp
theorem run_tail (p : Option Addr) (n c k : Nat) (h : k ≤ n) (u : World) : (Instr.slice 22 (.slice p n c) (some (.int .i64 (k : Int))) none none).run Tryd.prog u = .ok (.slice (if c = k then p else Option.map (fun x => x.add k) p) (n - k) (c - k)) u := by
  have h1 : (0 : Int) ≤ (k : Int) := by omega
  have h2 : (k : Int) ≤ (n : Int) := by omega
  go_simp <;> rfl
theorem run_read (a b : Value) (u : World) : (Instr.field 63 (.agg #[a, b]) 0).run Tryd.prog u = .ok a u := by kernel_rfl
theorem run_put (a b : Value) (u : World) : (Instr.field 63 (.agg #[a, b]) 1).run Tryd.prog u = .ok b u := by kernel_rfl

/-- What tag.Parse answers, short. -/
abbrev PT (w : World) (p : Option Addr) (l : List UInt8) (c n k s : Nat) (v : Value) : Prop :=
  Calls Tryd.prog 21 #[.slice p l.length c] w fun e w' => e = .returned (.tuple #[tagV (n : Int) (k : Int), .int .i64 (s : Int), v]) ∧ Below w.heap.size w w'
/-- What record.Parse answers. -/
def Recs (w : World) (v : Value) (s : Int) (b : Value) (e : Ending) (w' : World) : Prop := e = .returned (.tuple #[v, .int .i64 s, b]) ∧ Below w.heap.size w w'

set_option maxRecDepth 100000 in
set_option maxHeartbeats 1000000 in
theorem recParse_tag (w : World) (A : Nat → Addr) (p : Option Addr) (l : List UInt8) (c n k s b : Nat) (HT : ∀ ws, Below w.heap.size w ws → PT ws p l c n k s (errV A b)) :
    Calls Tryd.prog 8 #[.slice p l.length c] w (Recs w (recV 0 0 0 [] []) 0 (errV A b)) := by
  obtain ⟨w1, hw1⟩ : ∃ w1, w1 = w.alloc (.cells #[.int .i64 0, .int .i64 0, .int .u64 0, .string .empty, .string .empty] 29) := ⟨_, rfl⟩
  have hb1 : Below w.heap.size w w1 := hw1 ▸ (Below.refl _ _).alloc (Nat.le_refl _) _
  have hk1 : Blk w1 w.heap.size 29 [.int .i64 0, .int .i64 0, .int .u64 0, .string .empty, .string .empty] := hw1 ▸ Blk.new w _ _
  have HP := HT w1 hb1
  clear HT
  rw [hw1] at HP
  have hne := neq_errV A b
  unfold PT tagV at HP
  go_enter Tryd.func8, Tryd.ntmps8
  go_wp2_with fail
  refine HP.mono ?_
  rintro e w2 ⟨rfl, hb2⟩
  rw [← hw1] at hb2
  clear HP hw1
  obtain ⟨w3, hw3⟩ : ∃ w3, w3 = w2.alloc (.cells #[.int .i64 (n : Int), .int .i64 (k : Int)] 26) := ⟨_, rfl⟩
  have hb3 : Below w2.heap.size w2 w3 := hw3 ▸ (Below.refl _ _).alloc (Nat.le_refl _) _
  have hk3 := (hk1.kept hb2).kept hb3
  have h02 := hb1.trans (hb2.mono hb1.size)
  have h03 := h02.trans (hb3.mono h02.size)
  have c0 := hk3.cell 0
  have c1 := hk3.cell 1
  have c2 := hk3.cell 2
  have c3 := hk3.cell 3
  have c4 := hk3.cell 4
  simp only [List.getElem?_cons_zero, List.getElem?_cons_succ] at c0 c1 c2 c3 c4
  have f0 := hk3.frozen 0
  have f1 := hk3.frozen 1
  have f2 := hk3.frozen 2
  have f3 := hk3.frozen 3
  have f4 := hk3.frozen 4
  rw [hw3] at c0 c1 c2 c3 c4 f0 f1 f2 f3 f4
  have hk4 := ((((hk3.set_ 0 (.int .i64 0)).set_ 1 (.int .i64 0)).set_ 2 (.int .u64 0)).set_ 3 (.string .empty)).set_ 4 (.string .empty)
  simp only [List.set_cons_zero, List.set_cons_succ] at hk4
  have h04 := ((((h03.setCell (p := ⟨w.heap.size, 0, none⟩) (Nat.le_refl _) (.int .i64 0)).setCell (p := ⟨w.heap.size, 1, none⟩) (Nat.le_refl _) (.int .i64 0)).setCell (p := ⟨w.heap.size, 2, none⟩) (Nat.le_refl _) (.int .u64 0)).setCell (p := ⟨w.heap.size, 3, none⟩) (Nat.le_refl _) (.string .empty)).setCell (p := ⟨w.heap.size, 4, none⟩) (Nat.le_refl _) (.string .empty)
  go_wp2_with fail
  rw [← hw3]
  refine bodyPost_ret (results_row2 rfl _ _ w.heap.size _ _ _ rfl hk4 Tryd.underlying29 (by kernel_rfl)) rfl ⟨rfl, h04⟩

set_option maxRecDepth 100000 in
set_option maxHeartbeats 2000000 in
theorem recParse_0_ok (w : World) (A : Nat → Addr) (p : Option Addr) (l : List UInt8) (c n s B : Nat) (R : Nat × List UInt8 × Nat × Nat) (hl : l.length ≤ 70368744177664) (hc : l.length ≤ c) (hB : B ≤ w.heap.size) (hs : Sl w B p l) (hsl : s ≤ l.length)
    (HT : Hid (∀ ws, Below w.heap.size w ws → PT ws p l c n 0 s .nilIface))
    (HR : Hid (∀ (ws : World) (r : Nat) (q : Option Addr), Below w.heap.size w ws → Blk ws r 29 (recCells n 0 0 [] []) → Sl ws B q (l.drop s) →  Calls Tryd.prog 38 #[.pointer (some ⟨r, 0, none⟩), .slice q (l.length - s) (c - s)] ws (Readed ws A r n 0 R)))
    (h0 : R.2.2.2 = 0) (hz : s + R.2.2.1 ≤ l.length) :
    Calls Tryd.prog 8 #[.slice p l.length c] w (Recs w (recV n 0 R.1 R.2.1 (l.take (s + R.2.2.1))) ((s + R.2.2.1 : Nat) : Int) .nilIface) := by
  obtain ⟨w1, hw1⟩ : ∃ w1, w1 = w.alloc (.cells #[.int .i64 0, .int .i64 0, .int .u64 0, .string .empty, .string .empty] 29) := ⟨_, rfl⟩
  have hb1 : Below w.heap.size w w1 := hw1 ▸ (Below.refl _ _).alloc (Nat.le_refl _) _
  have hk1 : Blk w1 w.heap.size 29 [.int .i64 0, .int .i64 0, .int .u64 0, .string .empty, .string .empty] := hw1 ▸ Blk.new w _ _
  have HP := HT.out w1 hb1
  clear HT
  obtain ⟨q, hq⟩ : ∃ q, q = if c = s then p else Option.map (fun x => x.add s) p := ⟨_, rfl⟩
  have hsq := hs.behind s c hc
  rw [← hq] at hsq
  have hslice := fun u : World => run_tail p l.length c s hsl u
  rw [← hq] at hslice
  clear hq
  rw [hw1] at HP
  unfold PT tagV at HP
  go_enter Tryd.func8, Tryd.ntmps8
  go_wp2_with fail
  refine HP.mono ?_
  rintro e w2 ⟨rfl, hb2⟩
  rw [← hw1] at hb2
  clear HP hw1
  obtain ⟨w3, hw3⟩ : ∃ w3, w3 = w2.alloc (.cells #[.int .i64 (n : Int), .int .i64 0] 26) := ⟨_, rfl⟩
  have hb3 : Below w2.heap.size w2 w3 := hw3 ▸ (Below.refl _ _).alloc (Nat.le_refl _) _
  have hk3 := (hk1.kept hb2).kept hb3
  have ht3 : Blk w3 w2.heap.size 26 [.int .i64 (n : Int), .int .i64 0] := hw3 ▸ Blk.new w2 _ _
  have h02 := hb1.trans (hb2.mono hb1.size)
  have h03 := h02.trans (hb3.mono h02.size)
  have c0 := hk3.cell 0
  have c1 := hk3.cell 1
  have t0 := ht3.cell 0
  have t1 := ht3.cell 1
  simp only [List.getElem?_cons_zero, List.getElem?_cons_succ] at c0 c1 t0 t1
  have f0 := hk3.frozen 0
  have f1 := hk3.frozen 1
  rw [hw3] at c0 c1 f0 f1 t0 t1
  have hne2 : w2.heap.size ≠ w.heap.size := ht3.ne hk3 (by simp)
  have HN := Lib.hid hne2
  clear hne2
  go_wp2_with fail
  rw [← hw3]
  clear hw3 t0 t1 c0 c1 f0 f1
  have hk4 := (hk3.set_ 0 (.int .i64 (n : Int))).set_ 1 (.int .i64 0)
  simp only [List.set_cons_zero, List.set_cons_succ] at hk4
  have ht4 := (ht3.far (p := ⟨w.heap.size, 0, none⟩) HN.out (.int .i64 (n : Int))).far (p := ⟨w.heap.size, 1, none⟩) HN.out (.int .i64 0)
  have h04 := (h03.setCell (p := ⟨w.heap.size, 0, none⟩) (Nat.le_refl _) (.int .i64 (n : Int))).setCell (p := ⟨w.heap.size, 1, none⟩) (Nat.le_refl _) (.int .i64 0)
  generalize (w3.setCell ⟨w.heap.size, 0, none⟩ (.int .i64 (n : Int))).setCell ⟨w.heap.size, 1, none⟩ (.int .i64 0) = w4 at *
  clear hk3 ht3 hb1 hk1 hb2 hb3 h02 h03
  have HK := Lib.hid (show ∀ w', Blk w' w2.heap.size 26 [.int .i64 (n : Int), .int .i64 0] → Below w.heap.size w w' → w'.cell? ⟨w2.heap.size, 0, none⟩ = some (.int .i64 (n : Int)) ∧ w'.cell? ⟨w2.heap.size, 1, none⟩ = some (.int .i64 0) ∧ Below w.heap.size w w' from fun w' h1 h2 => ⟨h1.cell 0, h1.cell 1, h2⟩)
  have hrd := run_read
  have hS0 := HK.out w4.drew ht4 h04.drew
  go_region_held3 (fun w' => w'.cell? ⟨w2.heap.size, 0, none⟩ = some (.int .i64 (n : Int)) ∧ w'.cell? ⟨w2.heap.size, 1, none⟩ = some (.int .i64 0) ∧ Below w.heap.size w w') (first | exact hS0 | exact hS1 | exact hS2)
    (first
      | (go_at_call 22; refine (bodyOf0 _).mono ?_; rintro e w5 ⟨rfl, hb5⟩; have hb5' : Below w4.heap.size w4 w5 := below_undrew hb5; have ht5 := ht4.kept hb5'; have hk5 := hk4.kept hb5'; have h05 := h04.trans (hb5'.mono h04.size); have hS1 := HK.out w5 ht5 h05)
      | (go_at_call 38; refine (HR.out w5 w.heap.size q h05 hk5 (hsq.below (h05.mono hB))).mono ?_; rintro e w6 ⟨size, bits, text, rfl, hok, hk6, hg6⟩; have ht6 := ht5.grown hg6 (fun h => HN.out (Option.some.inj h)); have h06 := h05.grown hg6 h05.size (fun g h => by cases h; exact Nat.le_refl _); have hS2 := HK.out w6 ht6 h06))
  have hcv := Sl.string ((hs.head (s + R.2.2.1)).below (h06.mono hB)) c
  rw [show (l.take (s + R.2.2.1)).length = s + R.2.2.1 by simp; omega] at hcv
  have hslice2 := fun u : World => run_head p l.length c (s + R.2.2.1) (by omega) u
  rw [Int.natCast_add] at hslice2
  obtain ⟨rfl, rfl, rfl⟩ := hok h0
  rw [show errOf A 0 = Value.nilIface from rfl]
  have d0 := hk6.cell 0
  have d1 := hk6.cell 1
  have d2 := hk6.cell 2
  have d3 := hk6.cell 3
  have d4 := hk6.cell 4
  simp only [recCells, List.getElem?_cons_zero, List.getElem?_cons_succ] at d0 d1 d2 d3 d4
  have g0 := hk6.frozen 0
  have g1 := hk6.frozen 1
  have g2 := hk6.frozen 2
  have g3 := hk6.frozen 3
  have g4 := hk6.frozen 4
  have hk7 := (((((hk6.set_ 4 (.string (str (l.take (s + R.2.2.1))))).set_ 0 (.int .i64 (n : Int))).set_ 1 (.int .i64 0)).set_ 2 (.int .u64 (R.1 : Int))).set_ 3 (.string (str R.2.1))).set_ 4 (.string (str (l.take (s + R.2.2.1))))
  simp only [recCells, List.set_cons_zero, List.set_cons_succ] at hk7
  have h07 := fun a b cc d e f : Value => (((((h06.setCell (p := ⟨w.heap.size, 4, none⟩) (Nat.le_refl _) a).setCell (p := ⟨w.heap.size, 0, none⟩) (Nat.le_refl _) b).setCell (p := ⟨w.heap.size, 1, none⟩) (Nat.le_refl _) cc).setCell (p := ⟨w.heap.size, 2, none⟩) (Nat.le_refl _) d).setCell (p := ⟨w.heap.size, 3, none⟩) (Nat.le_refl _) e).setCell (p := ⟨w.heap.size, 4, none⟩) (Nat.le_refl _) f
  clear HR HK hS0 hS1 hS2 hk4 ht4 hk5 ht5 ht6 hrd hslice hok
  have E := Lib.hid h0
  clear h0
  go_wp2_with fail
  refine bodyPost_ret (results_row2 rfl _ _ w.heap.size _ _ _ rfl hk7 Tryd.underlying29 (by kernel_rfl)) rfl ⟨rfl, h07 _ _ _ _ _ _⟩

set_option maxRecDepth 100000 in
set_option maxHeartbeats 2000000 in
theorem recParse_0_bad (w : World) (A : Nat → Addr) (p : Option Addr) (l : List UInt8) (c n s B b : Nat) (R : Nat × List UInt8 × Nat × Nat) (hc : l.length ≤ c) (hB : B ≤ w.heap.size) (hs : Sl w B p l) (hsl : s ≤ l.length)
    (HT : Hid (∀ ws, Below w.heap.size w ws → PT ws p l c n 0 s .nilIface))
    (HR : Hid (∀ (ws : World) (r : Nat) (q : Option Addr), Below w.heap.size w ws → Blk ws r 29 (recCells n 0 0 [] []) → Sl ws B q (l.drop s) →  Calls Tryd.prog 38 #[.pointer (some ⟨r, 0, none⟩), .slice q (l.length - s) (c - s)] ws (Readed ws A r n 0 R)))
    (h0 : R.2.2.2 = b + 1) :
    Calls Tryd.prog 8 #[.slice p l.length c] w (Recs w (recV 0 0 0 [] []) 0 (errV A b)) := by
  obtain ⟨w1, hw1⟩ : ∃ w1, w1 = w.alloc (.cells #[.int .i64 0, .int .i64 0, .int .u64 0, .string .empty, .string .empty] 29) := ⟨_, rfl⟩
  have hb1 : Below w.heap.size w w1 := hw1 ▸ (Below.refl _ _).alloc (Nat.le_refl _) _
  have hk1 : Blk w1 w.heap.size 29 [.int .i64 0, .int .i64 0, .int .u64 0, .string .empty, .string .empty] := hw1 ▸ Blk.new w _ _
  have HP := HT.out w1 hb1
  clear HT
  obtain ⟨q, hq⟩ : ∃ q, q = if c = s then p else Option.map (fun x => x.add s) p := ⟨_, rfl⟩
  have hsq := hs.behind s c hc
  rw [← hq] at hsq
  have hslice := fun u : World => run_tail p l.length c s hsl u
  rw [← hq] at hslice
  clear hq
  rw [hw1] at HP
  unfold PT tagV at HP
  go_enter Tryd.func8, Tryd.ntmps8
  go_wp2_with fail
  refine HP.mono ?_
  rintro e w2 ⟨rfl, hb2⟩
  rw [← hw1] at hb2
  clear HP hw1
  obtain ⟨w3, hw3⟩ : ∃ w3, w3 = w2.alloc (.cells #[.int .i64 (n : Int), .int .i64 0] 26) := ⟨_, rfl⟩
  have hb3 : Below w2.heap.size w2 w3 := hw3 ▸ (Below.refl _ _).alloc (Nat.le_refl _) _
  have hk3 := (hk1.kept hb2).kept hb3
  have ht3 : Blk w3 w2.heap.size 26 [.int .i64 (n : Int), .int .i64 0] := hw3 ▸ Blk.new w2 _ _
  have h02 := hb1.trans (hb2.mono hb1.size)
  have h03 := h02.trans (hb3.mono h02.size)
  have c0 := hk3.cell 0
  have c1 := hk3.cell 1
  have t0 := ht3.cell 0
  have t1 := ht3.cell 1
  simp only [List.getElem?_cons_zero, List.getElem?_cons_succ] at c0 c1 t0 t1
  have f0 := hk3.frozen 0
  have f1 := hk3.frozen 1
  rw [hw3] at c0 c1 f0 f1 t0 t1
  have hne2 : w2.heap.size ≠ w.heap.size := ht3.ne hk3 (by simp)
  have HN := Lib.hid hne2
  clear hne2
  go_wp2_with fail
  rw [← hw3]
  clear hw3 t0 t1 c0 c1 f0 f1
  have hk4 := (hk3.set_ 0 (.int .i64 (n : Int))).set_ 1 (.int .i64 0)
  simp only [List.set_cons_zero, List.set_cons_succ] at hk4
  have ht4 := (ht3.far (p := ⟨w.heap.size, 0, none⟩) HN.out (.int .i64 (n : Int))).far (p := ⟨w.heap.size, 1, none⟩) HN.out (.int .i64 0)
  have h04 := (h03.setCell (p := ⟨w.heap.size, 0, none⟩) (Nat.le_refl _) (.int .i64 (n : Int))).setCell (p := ⟨w.heap.size, 1, none⟩) (Nat.le_refl _) (.int .i64 0)
  generalize (w3.setCell ⟨w.heap.size, 0, none⟩ (.int .i64 (n : Int))).setCell ⟨w.heap.size, 1, none⟩ (.int .i64 0) = w4 at *
  clear hk3 ht3 hb1 hk1 hb2 hb3 h02 h03
  have HK := Lib.hid (show ∀ w', Blk w' w2.heap.size 26 [.int .i64 (n : Int), .int .i64 0] → Below w.heap.size w w' → w'.cell? ⟨w2.heap.size, 0, none⟩ = some (.int .i64 (n : Int)) ∧ w'.cell? ⟨w2.heap.size, 1, none⟩ = some (.int .i64 0) ∧ Below w.heap.size w w' from fun w' h1 h2 => ⟨h1.cell 0, h1.cell 1, h2⟩)
  have hrd := run_read
  have hS0 := HK.out w4.drew ht4 h04.drew
  go_region_held3 (fun w' => w'.cell? ⟨w2.heap.size, 0, none⟩ = some (.int .i64 (n : Int)) ∧ w'.cell? ⟨w2.heap.size, 1, none⟩ = some (.int .i64 0) ∧ Below w.heap.size w w') (first | exact hS0 | exact hS1 | exact hS2)
    (first
      | (go_at_call 22; refine (bodyOf0 _).mono ?_; rintro e w5 ⟨rfl, hb5⟩; have hb5' : Below w4.heap.size w4 w5 := below_undrew hb5; have ht5 := ht4.kept hb5'; have hk5 := hk4.kept hb5'; have h05 := h04.trans (hb5'.mono h04.size); have hS1 := HK.out w5 ht5 h05)
      | (go_at_call 38; refine (HR.out w5 w.heap.size q h05 hk5 (hsq.below (h05.mono hB))).mono ?_; rintro e w6 ⟨size, bits, text, rfl, hok, hk6, hg6⟩; have ht6 := ht5.grown hg6 (fun h => HN.out (Option.some.inj h)); have h06 := h05.grown hg6 h05.size (fun g h => by cases h; exact Nat.le_refl _); have hS2 := HK.out w6 ht6 h06))
  have d0 := hk6.cell 0
  have d1 := hk6.cell 1
  have d2 := hk6.cell 2
  have d3 := hk6.cell 3
  have d4 := hk6.cell 4
  simp only [recCells, List.getElem?_cons_zero, List.getElem?_cons_succ] at d0 d1 d2 d3 d4
  have g0 := hk6.frozen 0
  have g1 := hk6.frozen 1
  have g2 := hk6.frozen 2
  have g3 := hk6.frozen 3
  have g4 := hk6.frozen 4
  have hk7 := ((((hk6.set_ 0 (.int .i64 0)).set_ 1 (.int .i64 0)).set_ 2 (.int .u64 0)).set_ 3 (.string .empty)).set_ 4 (.string .empty)
  simp only [recCells, List.set_cons_zero, List.set_cons_succ] at hk7
  have h07 := fun b cc d e f : Value => ((((h06.setCell (p := ⟨w.heap.size, 0, none⟩) (Nat.le_refl _) b).setCell (p := ⟨w.heap.size, 1, none⟩) (Nat.le_refl _) cc).setCell (p := ⟨w.heap.size, 2, none⟩) (Nat.le_refl _) d).setCell (p := ⟨w.heap.size, 3, none⟩) (Nat.le_refl _) e).setCell (p := ⟨w.heap.size, 4, none⟩) (Nat.le_refl _) f
  clear HR HK hS0 hS1 hS2 hk4 ht4 hk5 ht5 ht6 hrd hslice hok
  have hne := neq_errV A b
  rw [show errOf A (b + 1) = errV A b from rfl]
  have E := Lib.hid h0
  clear h0
  go_wp2_with fail
  refine bodyPost_ret (results_row2 rfl _ _ w.heap.size _ _ _ rfl hk7 Tryd.underlying29 (by kernel_rfl)) rfl ⟨rfl, h07 _ _ _ _ _⟩

set_option maxRecDepth 100000 in
set_option maxHeartbeats 2000000 in
theorem recParse_2_ok (w : World) (A : Nat → Addr) (p : Option Addr) (l : List UInt8) (c n s B : Nat) (R : Nat × List UInt8 × Nat × Nat) (hl : l.length ≤ 70368744177664) (hc : l.length ≤ c) (hB : B ≤ w.heap.size) (hs : Sl w B p l) (hsl : s ≤ l.length)
    (HT : Hid (∀ ws, Below w.heap.size w ws → PT ws p l c n 2 s .nilIface))
    (HR : Hid (∀ (ws : World) (r : Nat) (q : Option Addr), Below w.heap.size w ws → Blk ws r 29 (recCells n 2 0 [] []) → Sl ws B q (l.drop s) →  Calls Tryd.prog 46 #[.pointer (some ⟨r, 0, none⟩), .slice q (l.length - s) (c - s)] ws (Readed ws A r n 2 R)))
    (h0 : R.2.2.2 = 0) (hz : s + R.2.2.1 ≤ l.length) :
    Calls Tryd.prog 8 #[.slice p l.length c] w (Recs w (recV n 2 R.1 R.2.1 (l.take (s + R.2.2.1))) ((s + R.2.2.1 : Nat) : Int) .nilIface) := by
  obtain ⟨w1, hw1⟩ : ∃ w1, w1 = w.alloc (.cells #[.int .i64 0, .int .i64 0, .int .u64 0, .string .empty, .string .empty] 29) := ⟨_, rfl⟩
  have hb1 : Below w.heap.size w w1 := hw1 ▸ (Below.refl _ _).alloc (Nat.le_refl _) _
  have hk1 : Blk w1 w.heap.size 29 [.int .i64 0, .int .i64 0, .int .u64 0, .string .empty, .string .empty] := hw1 ▸ Blk.new w _ _
  have HP := HT.out w1 hb1
  clear HT
  obtain ⟨q, hq⟩ : ∃ q, q = if c = s then p else Option.map (fun x => x.add s) p := ⟨_, rfl⟩
  have hsq := hs.behind s c hc
  rw [← hq] at hsq
  have hslice := fun u : World => run_tail p l.length c s hsl u
  rw [← hq] at hslice
  clear hq
  rw [hw1] at HP
  unfold PT tagV at HP
  go_enter Tryd.func8, Tryd.ntmps8
  go_wp2_with fail
  refine HP.mono ?_
  rintro e w2 ⟨rfl, hb2⟩
  rw [← hw1] at hb2
  clear HP hw1
  obtain ⟨w3, hw3⟩ : ∃ w3, w3 = w2.alloc (.cells #[.int .i64 (n : Int), .int .i64 2] 26) := ⟨_, rfl⟩
  have hb3 : Below w2.heap.size w2 w3 := hw3 ▸ (Below.refl _ _).alloc (Nat.le_refl _) _
  have hk3 := (hk1.kept hb2).kept hb3
  have ht3 : Blk w3 w2.heap.size 26 [.int .i64 (n : Int), .int .i64 2] := hw3 ▸ Blk.new w2 _ _
  have h02 := hb1.trans (hb2.mono hb1.size)
  have h03 := h02.trans (hb3.mono h02.size)
  have c0 := hk3.cell 0
  have c1 := hk3.cell 1
  have t0 := ht3.cell 0
  have t1 := ht3.cell 1
  simp only [List.getElem?_cons_zero, List.getElem?_cons_succ] at c0 c1 t0 t1
  have f0 := hk3.frozen 0
  have f1 := hk3.frozen 1
  rw [hw3] at c0 c1 f0 f1 t0 t1
  have hne2 : w2.heap.size ≠ w.heap.size := ht3.ne hk3 (by simp)
  have HN := Lib.hid hne2
  clear hne2
  go_wp2_with fail
  rw [← hw3]
  clear hw3 t0 t1 c0 c1 f0 f1
  have hk4 := (hk3.set_ 0 (.int .i64 (n : Int))).set_ 1 (.int .i64 2)
  simp only [List.set_cons_zero, List.set_cons_succ] at hk4
  have ht4 := (ht3.far (p := ⟨w.heap.size, 0, none⟩) HN.out (.int .i64 (n : Int))).far (p := ⟨w.heap.size, 1, none⟩) HN.out (.int .i64 2)
  have h04 := (h03.setCell (p := ⟨w.heap.size, 0, none⟩) (Nat.le_refl _) (.int .i64 (n : Int))).setCell (p := ⟨w.heap.size, 1, none⟩) (Nat.le_refl _) (.int .i64 2)
  generalize (w3.setCell ⟨w.heap.size, 0, none⟩ (.int .i64 (n : Int))).setCell ⟨w.heap.size, 1, none⟩ (.int .i64 2) = w4 at *
  clear hk3 ht3 hb1 hk1 hb2 hb3 h02 h03
  have HK := Lib.hid (show ∀ w', Blk w' w2.heap.size 26 [.int .i64 (n : Int), .int .i64 2] → Below w.heap.size w w' → w'.cell? ⟨w2.heap.size, 0, none⟩ = some (.int .i64 (n : Int)) ∧ w'.cell? ⟨w2.heap.size, 1, none⟩ = some (.int .i64 2) ∧ Below w.heap.size w w' from fun w' h1 h2 => ⟨h1.cell 0, h1.cell 1, h2⟩)
  have hrd := run_read
  have hS0 := HK.out w4.drew ht4 h04.drew
  go_region_held3 (fun w' => w'.cell? ⟨w2.heap.size, 0, none⟩ = some (.int .i64 (n : Int)) ∧ w'.cell? ⟨w2.heap.size, 1, none⟩ = some (.int .i64 2) ∧ Below w.heap.size w w') (first | exact hS0 | exact hS1 | exact hS2)
    (first
      | (go_at_call 22; refine (bodyOf2 _).mono ?_; rintro e w5 ⟨rfl, hb5⟩; have hb5' : Below w4.heap.size w4 w5 := below_undrew hb5; have ht5 := ht4.kept hb5'; have hk5 := hk4.kept hb5'; have h05 := h04.trans (hb5'.mono h04.size); have hS1 := HK.out w5 ht5 h05)
      | (go_at_call 46; refine (HR.out w5 w.heap.size q h05 hk5 (hsq.below (h05.mono hB))).mono ?_; rintro e w6 ⟨size, bits, text, rfl, hok, hk6, hg6⟩; have ht6 := ht5.grown hg6 (fun h => HN.out (Option.some.inj h)); have h06 := h05.grown hg6 h05.size (fun g h => by cases h; exact Nat.le_refl _); have hS2 := HK.out w6 ht6 h06))
  have hcv := Sl.string ((hs.head (s + R.2.2.1)).below (h06.mono hB)) c
  rw [show (l.take (s + R.2.2.1)).length = s + R.2.2.1 by simp; omega] at hcv
  have hslice2 := fun u : World => run_head p l.length c (s + R.2.2.1) (by omega) u
  rw [Int.natCast_add] at hslice2
  obtain ⟨rfl, rfl, rfl⟩ := hok h0
  rw [show errOf A 0 = Value.nilIface from rfl]
  have d0 := hk6.cell 0
  have d1 := hk6.cell 1
  have d2 := hk6.cell 2
  have d3 := hk6.cell 3
  have d4 := hk6.cell 4
  simp only [recCells, List.getElem?_cons_zero, List.getElem?_cons_succ] at d0 d1 d2 d3 d4
  have g0 := hk6.frozen 0
  have g1 := hk6.frozen 1
  have g2 := hk6.frozen 2
  have g3 := hk6.frozen 3
  have g4 := hk6.frozen 4
  have hk7 := (((((hk6.set_ 4 (.string (str (l.take (s + R.2.2.1))))).set_ 0 (.int .i64 (n : Int))).set_ 1 (.int .i64 2)).set_ 2 (.int .u64 (R.1 : Int))).set_ 3 (.string (str R.2.1))).set_ 4 (.string (str (l.take (s + R.2.2.1))))
  simp only [recCells, List.set_cons_zero, List.set_cons_succ] at hk7
  have h07 := fun a b cc d e f : Value => (((((h06.setCell (p := ⟨w.heap.size, 4, none⟩) (Nat.le_refl _) a).setCell (p := ⟨w.heap.size, 0, none⟩) (Nat.le_refl _) b).setCell (p := ⟨w.heap.size, 1, none⟩) (Nat.le_refl _) cc).setCell (p := ⟨w.heap.size, 2, none⟩) (Nat.le_refl _) d).setCell (p := ⟨w.heap.size, 3, none⟩) (Nat.le_refl _) e).setCell (p := ⟨w.heap.size, 4, none⟩) (Nat.le_refl _) f
  clear HR HK hS0 hS1 hS2 hk4 ht4 hk5 ht5 ht6 hrd hslice hok
  have E := Lib.hid h0
  clear h0
  go_wp2_with fail
  refine bodyPost_ret (results_row2 rfl _ _ w.heap.size _ _ _ rfl hk7 Tryd.underlying29 (by kernel_rfl)) rfl ⟨rfl, h07 _ _ _ _ _ _⟩

set_option maxRecDepth 100000 in
set_option maxHeartbeats 2000000 in
theorem recParse_2_bad (w : World) (A : Nat → Addr) (p : Option Addr) (l : List UInt8) (c n s B b : Nat) (R : Nat × List UInt8 × Nat × Nat) (hc : l.length ≤ c) (hB : B ≤ w.heap.size) (hs : Sl w B p l) (hsl : s ≤ l.length)
    (HT : Hid (∀ ws, Below w.heap.size w ws → PT ws p l c n 2 s .nilIface))
    (HR : Hid (∀ (ws : World) (r : Nat) (q : Option Addr), Below w.heap.size w ws → Blk ws r 29 (recCells n 2 0 [] []) → Sl ws B q (l.drop s) →  Calls Tryd.prog 46 #[.pointer (some ⟨r, 0, none⟩), .slice q (l.length - s) (c - s)] ws (Readed ws A r n 2 R)))
    (h0 : R.2.2.2 = b + 1) :
    Calls Tryd.prog 8 #[.slice p l.length c] w (Recs w (recV 0 0 0 [] []) 0 (errV A b)) := by
  obtain ⟨w1, hw1⟩ : ∃ w1, w1 = w.alloc (.cells #[.int .i64 0, .int .i64 0, .int .u64 0, .string .empty, .string .empty] 29) := ⟨_, rfl⟩
  have hb1 : Below w.heap.size w w1 := hw1 ▸ (Below.refl _ _).alloc (Nat.le_refl _) _
  have hk1 : Blk w1 w.heap.size 29 [.int .i64 0, .int .i64 0, .int .u64 0, .string .empty, .string .empty] := hw1 ▸ Blk.new w _ _
  have HP := HT.out w1 hb1
  clear HT
  obtain ⟨q, hq⟩ : ∃ q, q = if c = s then p else Option.map (fun x => x.add s) p := ⟨_, rfl⟩
  have hsq := hs.behind s c hc
  rw [← hq] at hsq
  have hslice := fun u : World => run_tail p l.length c s hsl u
  rw [← hq] at hslice
  clear hq
  rw [hw1] at HP
  unfold PT tagV at HP
  go_enter Tryd.func8, Tryd.ntmps8
  go_wp2_with fail
  refine HP.mono ?_
  rintro e w2 ⟨rfl, hb2⟩
  rw [← hw1] at hb2
  clear HP hw1
  obtain ⟨w3, hw3⟩ : ∃ w3, w3 = w2.alloc (.cells #[.int .i64 (n : Int), .int .i64 2] 26) := ⟨_, rfl⟩
  have hb3 : Below w2.heap.size w2 w3 := hw3 ▸ (Below.refl _ _).alloc (Nat.le_refl _) _
  have hk3 := (hk1.kept hb2).kept hb3
  have ht3 : Blk w3 w2.heap.size 26 [.int .i64 (n : Int), .int .i64 2] := hw3 ▸ Blk.new w2 _ _
  have h02 := hb1.trans (hb2.mono hb1.size)
  have h03 := h02.trans (hb3.mono h02.size)
  have c0 := hk3.cell 0
  have c1 := hk3.cell 1
  have t0 := ht3.cell 0
  have t1 := ht3.cell 1
  simp only [List.getElem?_cons_zero, List.getElem?_cons_succ] at c0 c1 t0 t1
  have f0 := hk3.frozen 0
  have f1 := hk3.frozen 1
  rw [hw3] at c0 c1 f0 f1 t0 t1
  have hne2 : w2.heap.size ≠ w.heap.size := ht3.ne hk3 (by simp)
  have HN := Lib.hid hne2
  clear hne2
  go_wp2_with fail
  rw [← hw3]
  clear hw3 t0 t1 c0 c1 f0 f1
  have hk4 := (hk3.set_ 0 (.int .i64 (n : Int))).set_ 1 (.int .i64 2)
  simp only [List.set_cons_zero, List.set_cons_succ] at hk4
  have ht4 := (ht3.far (p := ⟨w.heap.size, 0, none⟩) HN.out (.int .i64 (n : Int))).far (p := ⟨w.heap.size, 1, none⟩) HN.out (.int .i64 2)
  have h04 := (h03.setCell (p := ⟨w.heap.size, 0, none⟩) (Nat.le_refl _) (.int .i64 (n : Int))).setCell (p := ⟨w.heap.size, 1, none⟩) (Nat.le_refl _) (.int .i64 2)
  generalize (w3.setCell ⟨w.heap.size, 0, none⟩ (.int .i64 (n : Int))).setCell ⟨w.heap.size, 1, none⟩ (.int .i64 2) = w4 at *
  clear hk3 ht3 hb1 hk1 hb2 hb3 h02 h03
  have HK := Lib.hid (show ∀ w', Blk w' w2.heap.size 26 [.int .i64 (n : Int), .int .i64 2] → Below w.heap.size w w' → w'.cell? ⟨w2.heap.size, 0, none⟩ = some (.int .i64 (n : Int)) ∧ w'.cell? ⟨w2.heap.size, 1, none⟩ = some (.int .i64 2) ∧ Below w.heap.size w w' from fun w' h1 h2 => ⟨h1.cell 0, h1.cell 1, h2⟩)
  have hrd := run_read
  have hS0 := HK.out w4.drew ht4 h04.drew
  go_region_held3 (fun w' => w'.cell? ⟨w2.heap.size, 0, none⟩ = some (.int .i64 (n : Int)) ∧ w'.cell? ⟨w2.heap.size, 1, none⟩ = some (.int .i64 2) ∧ Below w.heap.size w w') (first | exact hS0 | exact hS1 | exact hS2)
    (first
      | (go_at_call 22; refine (bodyOf2 _).mono ?_; rintro e w5 ⟨rfl, hb5⟩; have hb5' : Below w4.heap.size w4 w5 := below_undrew hb5; have ht5 := ht4.kept hb5'; have hk5 := hk4.kept hb5'; have h05 := h04.trans (hb5'.mono h04.size); have hS1 := HK.out w5 ht5 h05)
      | (go_at_call 46; refine (HR.out w5 w.heap.size q h05 hk5 (hsq.below (h05.mono hB))).mono ?_; rintro e w6 ⟨size, bits, text, rfl, hok, hk6, hg6⟩; have ht6 := ht5.grown hg6 (fun h => HN.out (Option.some.inj h)); have h06 := h05.grown hg6 h05.size (fun g h => by cases h; exact Nat.le_refl _); have hS2 := HK.out w6 ht6 h06))
  have d0 := hk6.cell 0
  have d1 := hk6.cell 1
  have d2 := hk6.cell 2
  have d3 := hk6.cell 3
  have d4 := hk6.cell 4
  simp only [recCells, List.getElem?_cons_zero, List.getElem?_cons_succ] at d0 d1 d2 d3 d4
  have g0 := hk6.frozen 0
  have g1 := hk6.frozen 1
  have g2 := hk6.frozen 2
  have g3 := hk6.frozen 3
  have g4 := hk6.frozen 4
  have hk7 := ((((hk6.set_ 0 (.int .i64 0)).set_ 1 (.int .i64 0)).set_ 2 (.int .u64 0)).set_ 3 (.string .empty)).set_ 4 (.string .empty)
  simp only [recCells, List.set_cons_zero, List.set_cons_succ] at hk7
  have h07 := fun b cc d e f : Value => ((((h06.setCell (p := ⟨w.heap.size, 0, none⟩) (Nat.le_refl _) b).setCell (p := ⟨w.heap.size, 1, none⟩) (Nat.le_refl _) cc).setCell (p := ⟨w.heap.size, 2, none⟩) (Nat.le_refl _) d).setCell (p := ⟨w.heap.size, 3, none⟩) (Nat.le_refl _) e).setCell (p := ⟨w.heap.size, 4, none⟩) (Nat.le_refl _) f
  clear HR HK hS0 hS1 hS2 hk4 ht4 hk5 ht5 ht6 hrd hslice hok
  have hne := neq_errV A b
  rw [show errOf A (b + 1) = errV A b from rfl]
  have E := Lib.hid h0
  clear h0
  go_wp2_with fail
  refine bodyPost_ret (results_row2 rfl _ _ w.heap.size _ _ _ rfl hk7 Tryd.underlying29 (by kernel_rfl)) rfl ⟨rfl, h07 _ _ _ _ _⟩

set_option maxRecDepth 100000 in
set_option maxHeartbeats 2000000 in
theorem recParse_1_ok (w : World) (A : Nat → Addr) (p : Option Addr) (l : List UInt8) (c n s B : Nat) (R : Nat × List UInt8 × Nat × Nat) (hl : l.length ≤ 70368744177664) (hc : l.length ≤ c) (hB : B ≤ w.heap.size) (hs : Sl w B p l) (hsl : s ≤ l.length)
    (HT : Hid (∀ ws, Below w.heap.size w ws → PT ws p l c n 1 s .nilIface))
    (HR : Hid (∀ (ws : World) (r : Nat) (q : Option Addr), Below w.heap.size w ws → Blk ws r 29 (recCells n 1 0 [] []) → Sl ws B q (l.drop s) → ∀ (a b : Nat), Blk ws a 89 [.func (.func 41) #[] #[]] → Blk ws b 3 [.int .i64 8] → Calls Tryd.prog 54 #[.pointer (some ⟨r, 0, none⟩), .slice q (l.length - s) (c - s), .pointer (some ⟨a, 0, none⟩), .pointer (some ⟨b, 0, none⟩)] ws (Readed ws A r n 1 R)))
    (h0 : R.2.2.2 = 0) (hz : s + R.2.2.1 ≤ l.length) :
    Calls Tryd.prog 8 #[.slice p l.length c] w (Recs w (recV n 1 R.1 R.2.1 (l.take (s + R.2.2.1))) ((s + R.2.2.1 : Nat) : Int) .nilIface) := by
  obtain ⟨w1, hw1⟩ : ∃ w1, w1 = w.alloc (.cells #[.int .i64 0, .int .i64 0, .int .u64 0, .string .empty, .string .empty] 29) := ⟨_, rfl⟩
  have hb1 : Below w.heap.size w w1 := hw1 ▸ (Below.refl _ _).alloc (Nat.le_refl _) _
  have hk1 : Blk w1 w.heap.size 29 [.int .i64 0, .int .i64 0, .int .u64 0, .string .empty, .string .empty] := hw1 ▸ Blk.new w _ _
  have HP := HT.out w1 hb1
  clear HT
  obtain ⟨q, hq⟩ : ∃ q, q = if c = s then p else Option.map (fun x => x.add s) p := ⟨_, rfl⟩
  have hsq := hs.behind s c hc
  rw [← hq] at hsq
  have hslice := fun u : World => run_tail p l.length c s hsl u
  rw [← hq] at hslice
  clear hq
  rw [hw1] at HP
  unfold PT tagV at HP
  go_enter Tryd.func8, Tryd.ntmps8
  go_wp2_with fail
  refine HP.mono ?_
  rintro e w2 ⟨rfl, hb2⟩
  rw [← hw1] at hb2
  clear HP hw1
  obtain ⟨w3, hw3⟩ : ∃ w3, w3 = w2.alloc (.cells #[.int .i64 (n : Int), .int .i64 1] 26) := ⟨_, rfl⟩
  have hb3 : Below w2.heap.size w2 w3 := hw3 ▸ (Below.refl _ _).alloc (Nat.le_refl _) _
  have hk3 := (hk1.kept hb2).kept hb3
  have ht3 : Blk w3 w2.heap.size 26 [.int .i64 (n : Int), .int .i64 1] := hw3 ▸ Blk.new w2 _ _
  have h02 := hb1.trans (hb2.mono hb1.size)
  have h03 := h02.trans (hb3.mono h02.size)
  have c0 := hk3.cell 0
  have c1 := hk3.cell 1
  have t0 := ht3.cell 0
  have t1 := ht3.cell 1
  simp only [List.getElem?_cons_zero, List.getElem?_cons_succ] at c0 c1 t0 t1
  have f0 := hk3.frozen 0
  have f1 := hk3.frozen 1
  rw [hw3] at c0 c1 f0 f1 t0 t1
  have hne2 : w2.heap.size ≠ w.heap.size := ht3.ne hk3 (by simp)
  have HN := Lib.hid hne2
  clear hne2
  go_wp2_with fail
  rw [← hw3]
  clear hw3 t0 t1 c0 c1 f0 f1
  have hk4 := (hk3.set_ 0 (.int .i64 (n : Int))).set_ 1 (.int .i64 1)
  simp only [List.set_cons_zero, List.set_cons_succ] at hk4
  have ht4 := (ht3.far (p := ⟨w.heap.size, 0, none⟩) HN.out (.int .i64 (n : Int))).far (p := ⟨w.heap.size, 1, none⟩) HN.out (.int .i64 1)
  have h04 := (h03.setCell (p := ⟨w.heap.size, 0, none⟩) (Nat.le_refl _) (.int .i64 (n : Int))).setCell (p := ⟨w.heap.size, 1, none⟩) (Nat.le_refl _) (.int .i64 1)
  generalize (w3.setCell ⟨w.heap.size, 0, none⟩ (.int .i64 (n : Int))).setCell ⟨w.heap.size, 1, none⟩ (.int .i64 1) = w4 at *
  clear hk3 ht3 hb1 hk1 hb2 hb3 h02 h03
  have HK := Lib.hid (show ∀ w', Blk w' w2.heap.size 26 [.int .i64 (n : Int), .int .i64 1] → Below w.heap.size w w' → w'.cell? ⟨w2.heap.size, 0, none⟩ = some (.int .i64 (n : Int)) ∧ w'.cell? ⟨w2.heap.size, 1, none⟩ = some (.int .i64 1) ∧ Below w.heap.size w w' from fun w' h1 h2 => ⟨h1.cell 0, h1.cell 1, h2⟩)
  have hrd := run_read
  have hS0 := HK.out w4.drew ht4 h04.drew
  go_region_held3 (fun w' => w'.cell? ⟨w2.heap.size, 0, none⟩ = some (.int .i64 (n : Int)) ∧ w'.cell? ⟨w2.heap.size, 1, none⟩ = some (.int .i64 1) ∧ Below w.heap.size w w') (first | exact hS0 | exact hS1 | exact hS2)
    (first
      | (go_at_call 22; refine (bodyOf1 _).mono ?_; rintro e w5 ⟨ga, gb, gd, rfl, hga, hgb, hgd, hb5⟩; have hb5' : Below w4.heap.size w4 w5 := below_undrew hb5; have ht5 := ht4.kept hb5'; have hk5 := hk4.kept hb5'; have h05 := h04.trans (hb5'.mono h04.size); have hS1 := HK.out w5 ht5 h05)
      | (go_at_call 54; refine (HR.out w5 w.heap.size q h05 hk5 (hsq.below (h05.mono hB)) ga gb hga hgb).mono ?_; rintro e w6 ⟨size, bits, text, rfl, hok, hk6, hg6⟩; have ht6 := ht5.grown hg6 (fun h => HN.out (Option.some.inj h)); have h06 := h05.grown hg6 h05.size (fun g h => by cases h; exact Nat.le_refl _); have hS2 := HK.out w6 ht6 h06))
  have hcv := Sl.string ((hs.head (s + R.2.2.1)).below (h06.mono hB)) c
  rw [show (l.take (s + R.2.2.1)).length = s + R.2.2.1 by simp; omega] at hcv
  have hslice2 := fun u : World => run_head p l.length c (s + R.2.2.1) (by omega) u
  rw [Int.natCast_add] at hslice2
  obtain ⟨rfl, rfl, rfl⟩ := hok h0
  rw [show errOf A 0 = Value.nilIface from rfl]
  have d0 := hk6.cell 0
  have d1 := hk6.cell 1
  have d2 := hk6.cell 2
  have d3 := hk6.cell 3
  have d4 := hk6.cell 4
  simp only [recCells, List.getElem?_cons_zero, List.getElem?_cons_succ] at d0 d1 d2 d3 d4
  have g0 := hk6.frozen 0
  have g1 := hk6.frozen 1
  have g2 := hk6.frozen 2
  have g3 := hk6.frozen 3
  have g4 := hk6.frozen 4
  have hk7 := (((((hk6.set_ 4 (.string (str (l.take (s + R.2.2.1))))).set_ 0 (.int .i64 (n : Int))).set_ 1 (.int .i64 1)).set_ 2 (.int .u64 (R.1 : Int))).set_ 3 (.string (str R.2.1))).set_ 4 (.string (str (l.take (s + R.2.2.1))))
  simp only [recCells, List.set_cons_zero, List.set_cons_succ] at hk7
  have h07 := fun a b cc d e f : Value => (((((h06.setCell (p := ⟨w.heap.size, 4, none⟩) (Nat.le_refl _) a).setCell (p := ⟨w.heap.size, 0, none⟩) (Nat.le_refl _) b).setCell (p := ⟨w.heap.size, 1, none⟩) (Nat.le_refl _) cc).setCell (p := ⟨w.heap.size, 2, none⟩) (Nat.le_refl _) d).setCell (p := ⟨w.heap.size, 3, none⟩) (Nat.le_refl _) e).setCell (p := ⟨w.heap.size, 4, none⟩) (Nat.le_refl _) f
  clear HR HK hS0 hS1 hS2 hk4 ht4 hk5 ht5 ht6 hrd hslice hok
  have E := Lib.hid h0
  clear h0
  go_wp2_with fail
  refine bodyPost_ret (results_row2 rfl _ _ w.heap.size _ _ _ rfl hk7 Tryd.underlying29 (by kernel_rfl)) rfl ⟨rfl, h07 _ _ _ _ _ _⟩

set_option maxRecDepth 100000 in
set_option maxHeartbeats 2000000 in
theorem recParse_1_bad (w : World) (A : Nat → Addr) (p : Option Addr) (l : List UInt8) (c n s B b : Nat) (R : Nat × List UInt8 × Nat × Nat) (hc : l.length ≤ c) (hB : B ≤ w.heap.size) (hs : Sl w B p l) (hsl : s ≤ l.length)
    (HT : Hid (∀ ws, Below w.heap.size w ws → PT ws p l c n 1 s .nilIface))
    (HR : Hid (∀ (ws : World) (r : Nat) (q : Option Addr), Below w.heap.size w ws → Blk ws r 29 (recCells n 1 0 [] []) → Sl ws B q (l.drop s) → ∀ (a b : Nat), Blk ws a 89 [.func (.func 41) #[] #[]] → Blk ws b 3 [.int .i64 8] → Calls Tryd.prog 54 #[.pointer (some ⟨r, 0, none⟩), .slice q (l.length - s) (c - s), .pointer (some ⟨a, 0, none⟩), .pointer (some ⟨b, 0, none⟩)] ws (Readed ws A r n 1 R)))
    (h0 : R.2.2.2 = b + 1) :
    Calls Tryd.prog 8 #[.slice p l.length c] w (Recs w (recV 0 0 0 [] []) 0 (errV A b)) := by
  obtain ⟨w1, hw1⟩ : ∃ w1, w1 = w.alloc (.cells #[.int .i64 0, .int .i64 0, .int .u64 0, .string .empty, .string .empty] 29) := ⟨_, rfl⟩
  have hb1 : Below w.heap.size w w1 := hw1 ▸ (Below.refl _ _).alloc (Nat.le_refl _) _
  have hk1 : Blk w1 w.heap.size 29 [.int .i64 0, .int .i64 0, .int .u64 0, .string .empty, .string .empty] := hw1 ▸ Blk.new w _ _
  have HP := HT.out w1 hb1
  clear HT
  obtain ⟨q, hq⟩ : ∃ q, q = if c = s then p else Option.map (fun x => x.add s) p := ⟨_, rfl⟩
  have hsq := hs.behind s c hc
  rw [← hq] at hsq
  have hslice := fun u : World => run_tail p l.length c s hsl u
  rw [← hq] at hslice
  clear hq
  rw [hw1] at HP
  unfold PT tagV at HP
  go_enter Tryd.func8, Tryd.ntmps8
  go_wp2_with fail
  refine HP.mono ?_
  rintro e w2 ⟨rfl, hb2⟩
  rw [← hw1] at hb2
  clear HP hw1
  obtain ⟨w3, hw3⟩ : ∃ w3, w3 = w2.alloc (.cells #[.int .i64 (n : Int), .int .i64 1] 26) := ⟨_, rfl⟩
  have hb3 : Below w2.heap.size w2 w3 := hw3 ▸ (Below.refl _ _).alloc (Nat.le_refl _) _
  have hk3 := (hk1.kept hb2).kept hb3
  have ht3 : Blk w3 w2.heap.size 26 [.int .i64 (n : Int), .int .i64 1] := hw3 ▸ Blk.new w2 _ _
  have h02 := hb1.trans (hb2.mono hb1.size)
  have h03 := h02.trans (hb3.mono h02.size)
  have c0 := hk3.cell 0
  have c1 := hk3.cell 1
  have t0 := ht3.cell 0
  have t1 := ht3.cell 1
  simp only [List.getElem?_cons_zero, List.getElem?_cons_succ] at c0 c1 t0 t1
  have f0 := hk3.frozen 0
  have f1 := hk3.frozen 1
  rw [hw3] at c0 c1 f0 f1 t0 t1
  have hne2 : w2.heap.size ≠ w.heap.size := ht3.ne hk3 (by simp)
  have HN := Lib.hid hne2
  clear hne2
  go_wp2_with fail
  rw [← hw3]
  clear hw3 t0 t1 c0 c1 f0 f1
  have hk4 := (hk3.set_ 0 (.int .i64 (n : Int))).set_ 1 (.int .i64 1)
  simp only [List.set_cons_zero, List.set_cons_succ] at hk4
  have ht4 := (ht3.far (p := ⟨w.heap.size, 0, none⟩) HN.out (.int .i64 (n : Int))).far (p := ⟨w.heap.size, 1, none⟩) HN.out (.int .i64 1)
  have h04 := (h03.setCell (p := ⟨w.heap.size, 0, none⟩) (Nat.le_refl _) (.int .i64 (n : Int))).setCell (p := ⟨w.heap.size, 1, none⟩) (Nat.le_refl _) (.int .i64 1)
  generalize (w3.setCell ⟨w.heap.size, 0, none⟩ (.int .i64 (n : Int))).setCell ⟨w.heap.size, 1, none⟩ (.int .i64 1) = w4 at *
  clear hk3 ht3 hb1 hk1 hb2 hb3 h02 h03
  have HK := Lib.hid (show ∀ w', Blk w' w2.heap.size 26 [.int .i64 (n : Int), .int .i64 1] → Below w.heap.size w w' → w'.cell? ⟨w2.heap.size, 0, none⟩ = some (.int .i64 (n : Int)) ∧ w'.cell? ⟨w2.heap.size, 1, none⟩ = some (.int .i64 1) ∧ Below w.heap.size w w' from fun w' h1 h2 => ⟨h1.cell 0, h1.cell 1, h2⟩)
  have hrd := run_read
  have hS0 := HK.out w4.drew ht4 h04.drew
  go_region_held3 (fun w' => w'.cell? ⟨w2.heap.size, 0, none⟩ = some (.int .i64 (n : Int)) ∧ w'.cell? ⟨w2.heap.size, 1, none⟩ = some (.int .i64 1) ∧ Below w.heap.size w w') (first | exact hS0 | exact hS1 | exact hS2)
    (first
      | (go_at_call 22; refine (bodyOf1 _).mono ?_; rintro e w5 ⟨ga, gb, gd, rfl, hga, hgb, hgd, hb5⟩; have hb5' : Below w4.heap.size w4 w5 := below_undrew hb5; have ht5 := ht4.kept hb5'; have hk5 := hk4.kept hb5'; have h05 := h04.trans (hb5'.mono h04.size); have hS1 := HK.out w5 ht5 h05)
      | (go_at_call 54; refine (HR.out w5 w.heap.size q h05 hk5 (hsq.below (h05.mono hB)) ga gb hga hgb).mono ?_; rintro e w6 ⟨size, bits, text, rfl, hok, hk6, hg6⟩; have ht6 := ht5.grown hg6 (fun h => HN.out (Option.some.inj h)); have h06 := h05.grown hg6 h05.size (fun g h => by cases h; exact Nat.le_refl _); have hS2 := HK.out w6 ht6 h06))
  have d0 := hk6.cell 0
  have d1 := hk6.cell 1
  have d2 := hk6.cell 2
  have d3 := hk6.cell 3
  have d4 := hk6.cell 4
  simp only [recCells, List.getElem?_cons_zero, List.getElem?_cons_succ] at d0 d1 d2 d3 d4
  have g0 := hk6.frozen 0
  have g1 := hk6.frozen 1
  have g2 := hk6.frozen 2
  have g3 := hk6.frozen 3
  have g4 := hk6.frozen 4
  have hk7 := ((((hk6.set_ 0 (.int .i64 0)).set_ 1 (.int .i64 0)).set_ 2 (.int .u64 0)).set_ 3 (.string .empty)).set_ 4 (.string .empty)
  simp only [recCells, List.set_cons_zero, List.set_cons_succ] at hk7
  have h07 := fun b cc d e f : Value => ((((h06.setCell (p := ⟨w.heap.size, 0, none⟩) (Nat.le_refl _) b).setCell (p := ⟨w.heap.size, 1, none⟩) (Nat.le_refl _) cc).setCell (p := ⟨w.heap.size, 2, none⟩) (Nat.le_refl _) d).setCell (p := ⟨w.heap.size, 3, none⟩) (Nat.le_refl _) e).setCell (p := ⟨w.heap.size, 4, none⟩) (Nat.le_refl _) f
  clear HR HK hS0 hS1 hS2 hk4 ht4 hk5 ht5 ht6 hrd hslice hok
  have hne := neq_errV A b
  rw [show errOf A (b + 1) = errV A b from rfl]
  have E := Lib.hid h0
  clear h0
  go_wp2_with fail
  refine bodyPost_ret (results_row2 rfl _ _ w.heap.size _ _ _ rfl hk7 Tryd.underlying29 (by kernel_rfl)) rfl ⟨rfl, h07 _ _ _ _ _⟩

set_option maxRecDepth 100000 in
set_option maxHeartbeats 2000000 in
theorem recParse_5_ok (w : World) (A : Nat → Addr) (p : Option Addr) (l : List UInt8) (c n s B : Nat) (R : Nat × List UInt8 × Nat × Nat) (hl : l.length ≤ 70368744177664) (hc : l.length ≤ c) (hB : B ≤ w.heap.size) (hs : Sl w B p l) (hsl : s ≤ l.length)
    (HT : Hid (∀ ws, Below w.heap.size w ws → PT ws p l c n 5 s .nilIface))
    (HR : Hid (∀ (ws : World) (r : Nat) (q : Option Addr), Below w.heap.size w ws → Blk ws r 29 (recCells n 5 0 [] []) → Sl ws B q (l.drop s) → ∀ (a b : Nat), Blk ws a 95 [.func (.func 44) #[] #[]] → Blk ws b 3 [.int .i64 4] → Calls Tryd.prog 59 #[.pointer (some ⟨r, 0, none⟩), .slice q (l.length - s) (c - s), .pointer (some ⟨a, 0, none⟩), .pointer (some ⟨b, 0, none⟩)] ws (Readed ws A r n 5 R)))
    (h0 : R.2.2.2 = 0) (hz : s + R.2.2.1 ≤ l.length) :
    Calls Tryd.prog 8 #[.slice p l.length c] w (Recs w (recV n 5 R.1 R.2.1 (l.take (s + R.2.2.1))) ((s + R.2.2.1 : Nat) : Int) .nilIface) := by
  obtain ⟨w1, hw1⟩ : ∃ w1, w1 = w.alloc (.cells #[.int .i64 0, .int .i64 0, .int .u64 0, .string .empty, .string .empty] 29) := ⟨_, rfl⟩
  have hb1 : Below w.heap.size w w1 := hw1 ▸ (Below.refl _ _).alloc (Nat.le_refl _) _
  have hk1 : Blk w1 w.heap.size 29 [.int .i64 0, .int .i64 0, .int .u64 0, .string .empty, .string .empty] := hw1 ▸ Blk.new w _ _
  have HP := HT.out w1 hb1
  clear HT
  obtain ⟨q, hq⟩ : ∃ q, q = if c = s then p else Option.map (fun x => x.add s) p := ⟨_, rfl⟩
  have hsq := hs.behind s c hc
  rw [← hq] at hsq
  have hslice := fun u : World => run_tail p l.length c s hsl u
  rw [← hq] at hslice
  clear hq
  rw [hw1] at HP
  unfold PT tagV at HP
  go_enter Tryd.func8, Tryd.ntmps8
  go_wp2_with fail
  refine HP.mono ?_
  rintro e w2 ⟨rfl, hb2⟩
  rw [← hw1] at hb2
  clear HP hw1
  obtain ⟨w3, hw3⟩ : ∃ w3, w3 = w2.alloc (.cells #[.int .i64 (n : Int), .int .i64 5] 26) := ⟨_, rfl⟩
  have hb3 : Below w2.heap.size w2 w3 := hw3 ▸ (Below.refl _ _).alloc (Nat.le_refl _) _
  have hk3 := (hk1.kept hb2).kept hb3
  have ht3 : Blk w3 w2.heap.size 26 [.int .i64 (n : Int), .int .i64 5] := hw3 ▸ Blk.new w2 _ _
  have h02 := hb1.trans (hb2.mono hb1.size)
  have h03 := h02.trans (hb3.mono h02.size)
  have c0 := hk3.cell 0
  have c1 := hk3.cell 1
  have t0 := ht3.cell 0
  have t1 := ht3.cell 1
  simp only [List.getElem?_cons_zero, List.getElem?_cons_succ] at c0 c1 t0 t1
  have f0 := hk3.frozen 0
  have f1 := hk3.frozen 1
  rw [hw3] at c0 c1 f0 f1 t0 t1
  have hne2 : w2.heap.size ≠ w.heap.size := ht3.ne hk3 (by simp)
  have HN := Lib.hid hne2
  clear hne2
  go_wp2_with fail
  rw [← hw3]
  clear hw3 t0 t1 c0 c1 f0 f1
  have hk4 := (hk3.set_ 0 (.int .i64 (n : Int))).set_ 1 (.int .i64 5)
  simp only [List.set_cons_zero, List.set_cons_succ] at hk4
  have ht4 := (ht3.far (p := ⟨w.heap.size, 0, none⟩) HN.out (.int .i64 (n : Int))).far (p := ⟨w.heap.size, 1, none⟩) HN.out (.int .i64 5)
  have h04 := (h03.setCell (p := ⟨w.heap.size, 0, none⟩) (Nat.le_refl _) (.int .i64 (n : Int))).setCell (p := ⟨w.heap.size, 1, none⟩) (Nat.le_refl _) (.int .i64 5)
  generalize (w3.setCell ⟨w.heap.size, 0, none⟩ (.int .i64 (n : Int))).setCell ⟨w.heap.size, 1, none⟩ (.int .i64 5) = w4 at *
  clear hk3 ht3 hb1 hk1 hb2 hb3 h02 h03
  have HK := Lib.hid (show ∀ w', Blk w' w2.heap.size 26 [.int .i64 (n : Int), .int .i64 5] → Below w.heap.size w w' → w'.cell? ⟨w2.heap.size, 0, none⟩ = some (.int .i64 (n : Int)) ∧ w'.cell? ⟨w2.heap.size, 1, none⟩ = some (.int .i64 5) ∧ Below w.heap.size w w' from fun w' h1 h2 => ⟨h1.cell 0, h1.cell 1, h2⟩)
  have hrd := run_read
  have hS0 := HK.out w4.drew ht4 h04.drew
  go_region_held3 (fun w' => w'.cell? ⟨w2.heap.size, 0, none⟩ = some (.int .i64 (n : Int)) ∧ w'.cell? ⟨w2.heap.size, 1, none⟩ = some (.int .i64 5) ∧ Below w.heap.size w w') (first | exact hS0 | exact hS1 | exact hS2)
    (first
      | (go_at_call 22; refine (bodyOf5 _).mono ?_; rintro e w5 ⟨ga, gb, gd, rfl, hga, hgb, hgd, hb5⟩; have hb5' : Below w4.heap.size w4 w5 := below_undrew hb5; have ht5 := ht4.kept hb5'; have hk5 := hk4.kept hb5'; have h05 := h04.trans (hb5'.mono h04.size); have hS1 := HK.out w5 ht5 h05)
      | (go_at_call 59; refine (HR.out w5 w.heap.size q h05 hk5 (hsq.below (h05.mono hB)) ga gb hga hgb).mono ?_; rintro e w6 ⟨size, bits, text, rfl, hok, hk6, hg6⟩; have ht6 := ht5.grown hg6 (fun h => HN.out (Option.some.inj h)); have h06 := h05.grown hg6 h05.size (fun g h => by cases h; exact Nat.le_refl _); have hS2 := HK.out w6 ht6 h06))
  have hcv := Sl.string ((hs.head (s + R.2.2.1)).below (h06.mono hB)) c
  rw [show (l.take (s + R.2.2.1)).length = s + R.2.2.1 by simp; omega] at hcv
  have hslice2 := fun u : World => run_head p l.length c (s + R.2.2.1) (by omega) u
  rw [Int.natCast_add] at hslice2
  obtain ⟨rfl, rfl, rfl⟩ := hok h0
  rw [show errOf A 0 = Value.nilIface from rfl]
  have d0 := hk6.cell 0
  have d1 := hk6.cell 1
  have d2 := hk6.cell 2
  have d3 := hk6.cell 3
  have d4 := hk6.cell 4
  simp only [recCells, List.getElem?_cons_zero, List.getElem?_cons_succ] at d0 d1 d2 d3 d4
  have g0 := hk6.frozen 0
  have g1 := hk6.frozen 1
  have g2 := hk6.frozen 2
  have g3 := hk6.frozen 3
  have g4 := hk6.frozen 4
  have hk7 := (((((hk6.set_ 4 (.string (str (l.take (s + R.2.2.1))))).set_ 0 (.int .i64 (n : Int))).set_ 1 (.int .i64 5)).set_ 2 (.int .u64 (R.1 : Int))).set_ 3 (.string (str R.2.1))).set_ 4 (.string (str (l.take (s + R.2.2.1))))
  simp only [recCells, List.set_cons_zero, List.set_cons_succ] at hk7
  have h07 := fun a b cc d e f : Value => (((((h06.setCell (p := ⟨w.heap.size, 4, none⟩) (Nat.le_refl _) a).setCell (p := ⟨w.heap.size, 0, none⟩) (Nat.le_refl _) b).setCell (p := ⟨w.heap.size, 1, none⟩) (Nat.le_refl _) cc).setCell (p := ⟨w.heap.size, 2, none⟩) (Nat.le_refl _) d).setCell (p := ⟨w.heap.size, 3, none⟩) (Nat.le_refl _) e).setCell (p := ⟨w.heap.size, 4, none⟩) (Nat.le_refl _) f
  clear HR HK hS0 hS1 hS2 hk4 ht4 hk5 ht5 ht6 hrd hslice hok
  have E := Lib.hid h0
  clear h0
  go_wp2_with fail
  refine bodyPost_ret (results_row2 rfl _ _ w.heap.size _ _ _ rfl hk7 Tryd.underlying29 (by kernel_rfl)) rfl ⟨rfl, h07 _ _ _ _ _ _⟩

set_option maxRecDepth 100000 in
set_option maxHeartbeats 2000000 in
theorem recParse_5_bad (w : World) (A : Nat → Addr) (p : Option Addr) (l : List UInt8) (c n s B b : Nat) (R : Nat × List UInt8 × Nat × Nat) (hc : l.length ≤ c) (hB : B ≤ w.heap.size) (hs : Sl w B p l) (hsl : s ≤ l.length)
    (HT : Hid (∀ ws, Below w.heap.size w ws → PT ws p l c n 5 s .nilIface))
    (HR : Hid (∀ (ws : World) (r : Nat) (q : Option Addr), Below w.heap.size w ws → Blk ws r 29 (recCells n 5 0 [] []) → Sl ws B q (l.drop s) → ∀ (a b : Nat), Blk ws a 95 [.func (.func 44) #[] #[]] → Blk ws b 3 [.int .i64 4] → Calls Tryd.prog 59 #[.pointer (some ⟨r, 0, none⟩), .slice q (l.length - s) (c - s), .pointer (some ⟨a, 0, none⟩), .pointer (some ⟨b, 0, none⟩)] ws (Readed ws A r n 5 R)))
    (h0 : R.2.2.2 = b + 1) :
    Calls Tryd.prog 8 #[.slice p l.length c] w (Recs w (recV 0 0 0 [] []) 0 (errV A b)) := by
  obtain ⟨w1, hw1⟩ : ∃ w1, w1 = w.alloc (.cells #[.int .i64 0, .int .i64 0, .int .u64 0, .string .empty, .string .empty] 29) := ⟨_, rfl⟩
  have hb1 : Below w.heap.size w w1 := hw1 ▸ (Below.refl _ _).alloc (Nat.le_refl _) _
  have hk1 : Blk w1 w.heap.size 29 [.int .i64 0, .int .i64 0, .int .u64 0, .string .empty, .string .empty] := hw1 ▸ Blk.new w _ _
  have HP := HT.out w1 hb1
  clear HT
  obtain ⟨q, hq⟩ : ∃ q, q = if c = s then p else Option.map (fun x => x.add s) p := ⟨_, rfl⟩
  have hsq := hs.behind s c hc
  rw [← hq] at hsq
  have hslice := fun u : World => run_tail p l.length c s hsl u
  rw [← hq] at hslice
  clear hq
  rw [hw1] at HP
  unfold PT tagV at HP
  go_enter Tryd.func8, Tryd.ntmps8
  go_wp2_with fail
  refine HP.mono ?_
  rintro e w2 ⟨rfl, hb2⟩
  rw [← hw1] at hb2
  clear HP hw1
  obtain ⟨w3, hw3⟩ : ∃ w3, w3 = w2.alloc (.cells #[.int .i64 (n : Int), .int .i64 5] 26) := ⟨_, rfl⟩
  have hb3 : Below w2.heap.size w2 w3 := hw3 ▸ (Below.refl _ _).alloc (Nat.le_refl _) _
  have hk3 := (hk1.kept hb2).kept hb3
  have ht3 : Blk w3 w2.heap.size 26 [.int .i64 (n : Int), .int .i64 5] := hw3 ▸ Blk.new w2 _ _
  have h02 := hb1.trans (hb2.mono hb1.size)
  have h03 := h02.trans (hb3.mono h02.size)
  have c0 := hk3.cell 0
  have c1 := hk3.cell 1
  have t0 := ht3.cell 0
  have t1 := ht3.cell 1
  simp only [List.getElem?_cons_zero, List.getElem?_cons_succ] at c0 c1 t0 t1
  have f0 := hk3.frozen 0
  have f1 := hk3.frozen 1
  rw [hw3] at c0 c1 f0 f1 t0 t1
  have hne2 : w2.heap.size ≠ w.heap.size := ht3.ne hk3 (by simp)
  have HN := Lib.hid hne2
  clear hne2
  go_wp2_with fail
  rw [← hw3]
  clear hw3 t0 t1 c0 c1 f0 f1
  have hk4 := (hk3.set_ 0 (.int .i64 (n : Int))).set_ 1 (.int .i64 5)
  simp only [List.set_cons_zero, List.set_cons_succ] at hk4
  have ht4 := (ht3.far (p := ⟨w.heap.size, 0, none⟩) HN.out (.int .i64 (n : Int))).far (p := ⟨w.heap.size, 1, none⟩) HN.out (.int .i64 5)
  have h04 := (h03.setCell (p := ⟨w.heap.size, 0, none⟩) (Nat.le_refl _) (.int .i64 (n : Int))).setCell (p := ⟨w.heap.size, 1, none⟩) (Nat.le_refl _) (.int .i64 5)
  generalize (w3.setCell ⟨w.heap.size, 0, none⟩ (.int .i64 (n : Int))).setCell ⟨w.heap.size, 1, none⟩ (.int .i64 5) = w4 at *
  clear hk3 ht3 hb1 hk1 hb2 hb3 h02 h03
  have HK := Lib.hid (show ∀ w', Blk w' w2.heap.size 26 [.int .i64 (n : Int), .int .i64 5] → Below w.heap.size w w' → w'.cell? ⟨w2.heap.size, 0, none⟩ = some (.int .i64 (n : Int)) ∧ w'.cell? ⟨w2.heap.size, 1, none⟩ = some (.int .i64 5) ∧ Below w.heap.size w w' from fun w' h1 h2 => ⟨h1.cell 0, h1.cell 1, h2⟩)
  have hrd := run_read
  have hS0 := HK.out w4.drew ht4 h04.drew
  go_region_held3 (fun w' => w'.cell? ⟨w2.heap.size, 0, none⟩ = some (.int .i64 (n : Int)) ∧ w'.cell? ⟨w2.heap.size, 1, none⟩ = some (.int .i64 5) ∧ Below w.heap.size w w') (first | exact hS0 | exact hS1 | exact hS2)
    (first
      | (go_at_call 22; refine (bodyOf5 _).mono ?_; rintro e w5 ⟨ga, gb, gd, rfl, hga, hgb, hgd, hb5⟩; have hb5' : Below w4.heap.size w4 w5 := below_undrew hb5; have ht5 := ht4.kept hb5'; have hk5 := hk4.kept hb5'; have h05 := h04.trans (hb5'.mono h04.size); have hS1 := HK.out w5 ht5 h05)
      | (go_at_call 59; refine (HR.out w5 w.heap.size q h05 hk5 (hsq.below (h05.mono hB)) ga gb hga hgb).mono ?_; rintro e w6 ⟨size, bits, text, rfl, hok, hk6, hg6⟩; have ht6 := ht5.grown hg6 (fun h => HN.out (Option.some.inj h)); have h06 := h05.grown hg6 h05.size (fun g h => by cases h; exact Nat.le_refl _); have hS2 := HK.out w6 ht6 h06))
  have d0 := hk6.cell 0
  have d1 := hk6.cell 1
  have d2 := hk6.cell 2
  have d3 := hk6.cell 3
  have d4 := hk6.cell 4
  simp only [recCells, List.getElem?_cons_zero, List.getElem?_cons_succ] at d0 d1 d2 d3 d4
  have g0 := hk6.frozen 0
  have g1 := hk6.frozen 1
  have g2 := hk6.frozen 2
  have g3 := hk6.frozen 3
  have g4 := hk6.frozen 4
  have hk7 := ((((hk6.set_ 0 (.int .i64 0)).set_ 1 (.int .i64 0)).set_ 2 (.int .u64 0)).set_ 3 (.string .empty)).set_ 4 (.string .empty)
  simp only [recCells, List.set_cons_zero, List.set_cons_succ] at hk7
  have h07 := fun b cc d e f : Value => ((((h06.setCell (p := ⟨w.heap.size, 0, none⟩) (Nat.le_refl _) b).setCell (p := ⟨w.heap.size, 1, none⟩) (Nat.le_refl _) cc).setCell (p := ⟨w.heap.size, 2, none⟩) (Nat.le_refl _) d).setCell (p := ⟨w.heap.size, 3, none⟩) (Nat.le_refl _) e).setCell (p := ⟨w.heap.size, 4, none⟩) (Nat.le_refl _) f
  clear HR HK hS0 hS1 hS2 hk4 ht4 hk5 ht5 ht6 hrd hslice hok
  have hne := neq_errV A b
  rw [show errOf A (b + 1) = errV A b from rfl]
  have E := Lib.hid h0
  clear h0
  go_wp2_with fail
  refine bodyPost_ret (results_row2 rfl _ _ w.heap.size _ _ _ rfl hk7 Tryd.underlying29 (by kernel_rfl)) rfl ⟨rfl, h07 _ _ _ _ _⟩

end Go.Proofs.YtlndejanojgjlaaDoor
