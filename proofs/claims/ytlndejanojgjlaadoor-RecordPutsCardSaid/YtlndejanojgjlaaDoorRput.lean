/- The contracts of record.Put. Conditions: texts of fewer than 2^46 bytes; the errors' variables hold what the program's text lays. -/
import Derived.Test.YtlndejanojgjlaaDoorProg
import Derived.Test.YtlndejanojgjlaaDoorMem
import Derived.Test.YtlndejanojgjlaaDoorRet
import Derived.Test.YtlndejanojgjlaaDoorJoin
import Derived.Test.YtlndejanojgjlaaDoorTag
import Derived.Test.YtlndejanojgjlaaDoorRec2
import Derived.Test.YtlndejanojgjlaaDoorRec3
import Derived.Test.YtlndejanojgjlaaDoorRparse
import Derived.Test.YtlndejanojgjlaaDoorRcheck
namespace Go.Proofs.YtlndejanojgjlaaDoor
open Go.RowKit

/-- A body's bytes. -/
def rtail (k : Int) (bits : Nat) (text : List UInt8) : List UInt8 := if k = 0 then vput bits else if k = 1 then le bits 8 else if k = 5 then le bits 4 else vput text.length ++ text
/-- A right record's bytes. -/
def rput (n k : Int) (bits : Nat) (text : List UInt8) : List UInt8 := vput (tword n k) ++ rtail k bits text
/-- A slice of the call's own and no error. -/
def PutOk (w : World) (l : List UInt8) (e : Ending) (w' : World) : Prop := ∃ v, e = .returned (.tuple #[v, .nilIface]) ∧ w'.ownsRow w.heap.size 5 1 v l.length (l.map bv) ∧ Below w.heap.size w w'

set_option maxRecDepth 100000 in
theorem recPut_bad (w : World) (A : Nat → Addr) (hE : Errs w A) (n k : Int) (bits : Nat) (text raw : List UInt8) (h : rcheck n k bits text ≠ 0) :
    Calls Tryd.prog 16 #[recV n k bits text raw] w fun e w' => e = .returned (.tuple #[.slice none 0 0, errOf A (rcheck n k bits text)]) ∧ Below w.heap.size w w' := by
  obtain ⟨w1, hw1⟩ : ∃ w1, w1 = w.alloc (.cells #[.int .i64 n, .int .i64 k, .int .u64 (bits : Int), .string (str text), .string (str raw)] 29) := ⟨_, rfl⟩
  have hb1 : Below w.heap.size w w1 := hw1 ▸ (Below.refl _ _).alloc (Nat.le_refl _) _
  have HC := recCheck_any w1 A (hE.below hb1) n k bits text raw
  obtain ⟨b, hb⟩ := Nat.exists_eq_succ_of_ne_zero h
  rw [hb] at HC ⊢
  rw [show errOf A b.succ = errV A b from rfl] at HC ⊢
  have hne := neq_errV A b
  rw [hw1] at HC
  unfold recV at HC ⊢
  clear h hb
  go_enter Tryd.func16, Tryd.ntmps16
  go_wp2_with fail
  refine HC.mono ?_
  rintro e w2 ⟨rfl, hb2⟩
  rw [← hw1] at hb2
  clear HC hw1
  go_wp2_with fail
  go_ret2
  exact ⟨rfl, hb1.trans (hb2.mono hb1.size)⟩

theorem two_sl {w w' : World} {q r : Option Addr} {l m : List UInt8} {c d : Nat} (h1 : Sl w' w.heap.size q l) (hw : w.heap.size ≤ w'.heap.size) (h2 : Sl w' w'.heap.size r m) : ∀ x ∈ [(⟨q, l, c⟩ : Part), ⟨r, m, d⟩], Sl w' w'.heap.size x.p x.l := fun x hx => by
  simp only [List.mem_cons, List.not_mem_nil, or_false] at hx
  rcases hx with rfl | rfl
  · exact h1.more hw
  · exact h2

set_option maxRecDepth 100000 in
set_option maxHeartbeats 2000000 in
theorem recPut_0 (w : World) (n : Int) (bits : Nat) (text raw : List UInt8) (V X : List UInt8) (hV : V.length ≤ 10) (hX : X.length ≤ 70368744177700)
    (HC : ∀ ws, Below w.heap.size w ws → Calls Tryd.prog 17 #[recV n 0 bits text raw] ws fun e w' => e = .returned .nilIface ∧ Below ws.heap.size ws w')
    (HT : Hid (∀ ws, Calls Tryd.prog 29 #[tagV n 0] ws (PutOk ws V)))
    (HR : Hid (∀ ws, Calls Tryd.prog 39 #[recV n 0 bits text raw] ws (Owned ws X))) :
    Calls Tryd.prog 16 #[recV n 0 bits text raw] w (PutOk w (V ++ X)) := by
  obtain ⟨w1, hw1⟩ : ∃ w1, w1 = w.alloc (.cells #[.int .i64 n, .int .i64 0, .int .u64 (bits : Int), .string (str text), .string (str raw)] 29) := ⟨_, rfl⟩
  have hb1 : Below w.heap.size w w1 := hw1 ▸ (Below.refl _ _).alloc (Nat.le_refl _) _
  have hk1 : Blk w1 w.heap.size 29 (recCells n 0 bits text raw) := hw1 ▸ Blk.new w _ _
  have HP := HC w1 hb1
  rw [hw1] at HP
  unfold recV at HP HR ⊢
  unfold tagV at HT
  clear HC
  go_enter Tryd.func16, Tryd.ntmps16
  go_wp2_with fail
  refine HP.mono ?_
  rintro e w2 ⟨rfl, hb2⟩
  rw [← hw1] at hb2
  clear HP hw1
  have hk2 := hk1.kept hb2
  have h02 := hb1.trans (hb2.mono hb1.size)
  have c0 := hk2.cell 0
  have c1 := hk2.cell 1
  simp only [recCells, List.getElem?_cons_zero, List.getElem?_cons_succ] at c0 c1
  go_wp2_with fail
  refine (HT.out _).mono ?_
  rintro e w3 ⟨v3, rfl, hown3, hb3⟩
  obtain ⟨q3, c3, rfl, hs3, hc3, _⟩ := own_sl hown3
  have hk3 := hk2.kept hb3
  have h03 := h02.trans (hb3.mono h02.size)
  clear c0 c1 hown3 hb1 hb2 hb3 hk1 hk2 h02
  go_wp2_with fail
  have HK := Lib.hid (show ∀ w', Below w3.heap.size w3 w' → w'.cell? ⟨w.heap.size, 0, none⟩ = some (.int .i64 n) ∧ w'.cell? ⟨w.heap.size, 1, none⟩ = some (.int .i64 0) ∧ w'.cell? ⟨w.heap.size, 2, none⟩ = some (.int .u64 (bits : Int)) ∧ w'.cell? ⟨w.heap.size, 3, none⟩ = some (.string (str text)) ∧ w'.cell? ⟨w.heap.size, 4, none⟩ = some (.string (str raw)) from fun w' h =>
    ⟨(hk3.kept h).cell 0, (hk3.kept h).cell 1, (hk3.kept h).cell 2, (hk3.kept h).cell 3, (hk3.kept h).cell 4⟩)
  have hS0 := HK.out w3.drew (Below.refl _ _).drew
  have hpt := run_put
  go_region_held3 (fun w' => w'.cell? ⟨w.heap.size, 0, none⟩ = some (.int .i64 n) ∧ w'.cell? ⟨w.heap.size, 1, none⟩ = some (.int .i64 0) ∧ w'.cell? ⟨w.heap.size, 2, none⟩ = some (.int .u64 (bits : Int)) ∧ w'.cell? ⟨w.heap.size, 3, none⟩ = some (.string (str text)) ∧ w'.cell? ⟨w.heap.size, 4, none⟩ = some (.string (str raw))) (first | exact hS3 | exact hS2a | exact hS2 | exact hS1 | exact hS0)
    (first
      | (go_at_call 22; refine (bodyOf0 _).mono ?_; rintro e w5 ⟨rfl, hb5⟩; have h35 : Below w3.heap.size w3 w5 := below_undrew hb5; have hS1 := HK.out w5 h35)
      | (go_at_call 39; refine (HR.out w5).mono ?_; rintro e w6 ⟨v6, rfl, hown6, hb6⟩; obtain ⟨q6, c6, rfl, hs6, hc6, _⟩ := own_sl hown6; have h36 : Below w3.heap.size w3 w6 := h35.trans (hb6.mono h35.size); have hS2 := HK.out w6 h36; have hS2a := HK.out _ (h36.alloc h36.size (.cells #[.slice q3 V.length c3, .slice q6 X.length c6] 22)))
      | (go_at_call 30; refine (join_any _ _ [⟨q3, V, c3⟩, ⟨q6, X, c6⟩] 2 (w6.heap.size + 1) (by simp) (Parts.made (u := w6) (t := 22) (xs := [⟨q3, V, c3⟩, ⟨q6, X, c6⟩]) rfl (two_sl (hs3.below h36) h36.size hs6) (Nat.le_refl _)) (by simp) (by simp [flat]; omega)).mono ?_; rintro e w7 ⟨v7, rfl, hown7, hb7⟩; have h37 : Below w3.heap.size w3 w7 := (h36.alloc h36.size (.cells #[.slice q3 V.length c3, .slice q6 X.length c6] 22)).trans (hb7.mono (by simp; have := h36.size; omega)); have hS3 := HK.out w7 h37))
  have hfl : flat [⟨q3, V, c3⟩, ⟨q6, X, c6⟩] = V ++ X := by simp [flat]
  rw [hfl] at hown7
  have h07 := h03.trans (h37.mono h03.size)
  have hown8 : w7.ownsRow w.heap.size 5 1 v7 (V ++ X).length ((V ++ X).map bv) := World.ownsRow.mono hown7 (by simp; have := h36.size; have := h03.size; omega)
  clear hfl hown7 HK hS0 hS1 hS2 hS2a hS3 hpt
  go_wp2_with fail
  go_ret2
  exact ⟨v7, rfl, hown8, h07⟩

set_option maxRecDepth 100000 in
set_option maxHeartbeats 2000000 in
theorem recPut_2 (w : World) (n : Int) (bits : Nat) (text raw : List UInt8) (V X : List UInt8) (hV : V.length ≤ 10) (hX : X.length ≤ 70368744177700)
    (HC : ∀ ws, Below w.heap.size w ws → Calls Tryd.prog 17 #[recV n 2 bits text raw] ws fun e w' => e = .returned .nilIface ∧ Below ws.heap.size ws w')
    (HT : Hid (∀ ws, Calls Tryd.prog 29 #[tagV n 2] ws (PutOk ws V)))
    (HR : Hid (∀ ws, Calls Tryd.prog 47 #[recV n 2 bits text raw] ws (Owned ws X))) :
    Calls Tryd.prog 16 #[recV n 2 bits text raw] w (PutOk w (V ++ X)) := by
  obtain ⟨w1, hw1⟩ : ∃ w1, w1 = w.alloc (.cells #[.int .i64 n, .int .i64 2, .int .u64 (bits : Int), .string (str text), .string (str raw)] 29) := ⟨_, rfl⟩
  have hb1 : Below w.heap.size w w1 := hw1 ▸ (Below.refl _ _).alloc (Nat.le_refl _) _
  have hk1 : Blk w1 w.heap.size 29 (recCells n 2 bits text raw) := hw1 ▸ Blk.new w _ _
  have HP := HC w1 hb1
  rw [hw1] at HP
  unfold recV at HP HR ⊢
  unfold tagV at HT
  clear HC
  go_enter Tryd.func16, Tryd.ntmps16
  go_wp2_with fail
  refine HP.mono ?_
  rintro e w2 ⟨rfl, hb2⟩
  rw [← hw1] at hb2
  clear HP hw1
  have hk2 := hk1.kept hb2
  have h02 := hb1.trans (hb2.mono hb1.size)
  have c0 := hk2.cell 0
  have c1 := hk2.cell 1
  simp only [recCells, List.getElem?_cons_zero, List.getElem?_cons_succ] at c0 c1
  go_wp2_with fail
  refine (HT.out _).mono ?_
  rintro e w3 ⟨v3, rfl, hown3, hb3⟩
  obtain ⟨q3, c3, rfl, hs3, hc3, _⟩ := own_sl hown3
  have hk3 := hk2.kept hb3
  have h03 := h02.trans (hb3.mono h02.size)
  clear c0 c1 hown3 hb1 hb2 hb3 hk1 hk2 h02
  go_wp2_with fail
  have HK := Lib.hid (show ∀ w', Below w3.heap.size w3 w' → w'.cell? ⟨w.heap.size, 0, none⟩ = some (.int .i64 n) ∧ w'.cell? ⟨w.heap.size, 1, none⟩ = some (.int .i64 2) ∧ w'.cell? ⟨w.heap.size, 2, none⟩ = some (.int .u64 (bits : Int)) ∧ w'.cell? ⟨w.heap.size, 3, none⟩ = some (.string (str text)) ∧ w'.cell? ⟨w.heap.size, 4, none⟩ = some (.string (str raw)) from fun w' h =>
    ⟨(hk3.kept h).cell 0, (hk3.kept h).cell 1, (hk3.kept h).cell 2, (hk3.kept h).cell 3, (hk3.kept h).cell 4⟩)
  have hS0 := HK.out w3.drew (Below.refl _ _).drew
  have hpt := run_put
  go_region_held3 (fun w' => w'.cell? ⟨w.heap.size, 0, none⟩ = some (.int .i64 n) ∧ w'.cell? ⟨w.heap.size, 1, none⟩ = some (.int .i64 2) ∧ w'.cell? ⟨w.heap.size, 2, none⟩ = some (.int .u64 (bits : Int)) ∧ w'.cell? ⟨w.heap.size, 3, none⟩ = some (.string (str text)) ∧ w'.cell? ⟨w.heap.size, 4, none⟩ = some (.string (str raw))) (first | exact hS3 | exact hS2a | exact hS2 | exact hS1 | exact hS0)
    (first
      | (go_at_call 22; refine (bodyOf2 _).mono ?_; rintro e w5 ⟨rfl, hb5⟩; have h35 : Below w3.heap.size w3 w5 := below_undrew hb5; have hS1 := HK.out w5 h35)
      | (go_at_call 47; refine (HR.out w5).mono ?_; rintro e w6 ⟨v6, rfl, hown6, hb6⟩; obtain ⟨q6, c6, rfl, hs6, hc6, _⟩ := own_sl hown6; have h36 : Below w3.heap.size w3 w6 := h35.trans (hb6.mono h35.size); have hS2 := HK.out w6 h36; have hS2a := HK.out _ (h36.alloc h36.size (.cells #[.slice q3 V.length c3, .slice q6 X.length c6] 22)))
      | (go_at_call 30; refine (join_any _ _ [⟨q3, V, c3⟩, ⟨q6, X, c6⟩] 2 (w6.heap.size + 1) (by simp) (Parts.made (u := w6) (t := 22) (xs := [⟨q3, V, c3⟩, ⟨q6, X, c6⟩]) rfl (two_sl (hs3.below h36) h36.size hs6) (Nat.le_refl _)) (by simp) (by simp [flat]; omega)).mono ?_; rintro e w7 ⟨v7, rfl, hown7, hb7⟩; have h37 : Below w3.heap.size w3 w7 := (h36.alloc h36.size (.cells #[.slice q3 V.length c3, .slice q6 X.length c6] 22)).trans (hb7.mono (by simp; have := h36.size; omega)); have hS3 := HK.out w7 h37))
  have hfl : flat [⟨q3, V, c3⟩, ⟨q6, X, c6⟩] = V ++ X := by simp [flat]
  rw [hfl] at hown7
  have h07 := h03.trans (h37.mono h03.size)
  have hown8 : w7.ownsRow w.heap.size 5 1 v7 (V ++ X).length ((V ++ X).map bv) := World.ownsRow.mono hown7 (by simp; have := h36.size; have := h03.size; omega)
  clear hfl hown7 HK hS0 hS1 hS2 hS2a hS3 hpt
  go_wp2_with fail
  go_ret2
  exact ⟨v7, rfl, hown8, h07⟩

set_option maxRecDepth 100000 in
set_option maxHeartbeats 2000000 in
theorem recPut_1 (w : World) (n : Int) (bits : Nat) (text raw : List UInt8) (V X : List UInt8) (hV : V.length ≤ 10) (hX : X.length ≤ 70368744177700)
    (HC : ∀ ws, Below w.heap.size w ws → Calls Tryd.prog 17 #[recV n 1 bits text raw] ws fun e w' => e = .returned .nilIface ∧ Below ws.heap.size ws w')
    (HT : Hid (∀ ws, Calls Tryd.prog 29 #[tagV n 1] ws (PutOk ws V)))
    (HR : Hid (∀ (ws : World) (r : Nat), Blk ws r 92 [.func (.func 42) #[] #[]] → Calls Tryd.prog 56 #[recV n 1 bits text raw, .pointer (some ⟨r, 0, none⟩)] ws (Owned ws X))) :
    Calls Tryd.prog 16 #[recV n 1 bits text raw] w (PutOk w (V ++ X)) := by
  obtain ⟨w1, hw1⟩ : ∃ w1, w1 = w.alloc (.cells #[.int .i64 n, .int .i64 1, .int .u64 (bits : Int), .string (str text), .string (str raw)] 29) := ⟨_, rfl⟩
  have hb1 : Below w.heap.size w w1 := hw1 ▸ (Below.refl _ _).alloc (Nat.le_refl _) _
  have hk1 : Blk w1 w.heap.size 29 (recCells n 1 bits text raw) := hw1 ▸ Blk.new w _ _
  have HP := HC w1 hb1
  rw [hw1] at HP
  unfold recV at HP HR ⊢
  unfold tagV at HT
  clear HC
  go_enter Tryd.func16, Tryd.ntmps16
  go_wp2_with fail
  refine HP.mono ?_
  rintro e w2 ⟨rfl, hb2⟩
  rw [← hw1] at hb2
  clear HP hw1
  have hk2 := hk1.kept hb2
  have h02 := hb1.trans (hb2.mono hb1.size)
  have c0 := hk2.cell 0
  have c1 := hk2.cell 1
  simp only [recCells, List.getElem?_cons_zero, List.getElem?_cons_succ] at c0 c1
  go_wp2_with fail
  refine (HT.out _).mono ?_
  rintro e w3 ⟨v3, rfl, hown3, hb3⟩
  obtain ⟨q3, c3, rfl, hs3, hc3, _⟩ := own_sl hown3
  have hk3 := hk2.kept hb3
  have h03 := h02.trans (hb3.mono h02.size)
  clear c0 c1 hown3 hb1 hb2 hb3 hk1 hk2 h02
  go_wp2_with fail
  have HK := Lib.hid (show ∀ w', Below w3.heap.size w3 w' → w'.cell? ⟨w.heap.size, 0, none⟩ = some (.int .i64 n) ∧ w'.cell? ⟨w.heap.size, 1, none⟩ = some (.int .i64 1) ∧ w'.cell? ⟨w.heap.size, 2, none⟩ = some (.int .u64 (bits : Int)) ∧ w'.cell? ⟨w.heap.size, 3, none⟩ = some (.string (str text)) ∧ w'.cell? ⟨w.heap.size, 4, none⟩ = some (.string (str raw)) from fun w' h =>
    ⟨(hk3.kept h).cell 0, (hk3.kept h).cell 1, (hk3.kept h).cell 2, (hk3.kept h).cell 3, (hk3.kept h).cell 4⟩)
  have hS0 := HK.out w3.drew (Below.refl _ _).drew
  have hpt := run_put
  go_region_held3 (fun w' => w'.cell? ⟨w.heap.size, 0, none⟩ = some (.int .i64 n) ∧ w'.cell? ⟨w.heap.size, 1, none⟩ = some (.int .i64 1) ∧ w'.cell? ⟨w.heap.size, 2, none⟩ = some (.int .u64 (bits : Int)) ∧ w'.cell? ⟨w.heap.size, 3, none⟩ = some (.string (str text)) ∧ w'.cell? ⟨w.heap.size, 4, none⟩ = some (.string (str raw))) (first | exact hS3 | exact hS2a | exact hS2 | exact hS1 | exact hS0)
    (first
      | (go_at_call 22; refine (bodyOf1 _).mono ?_; rintro e w5 ⟨ga, gb, gd, rfl, hga, hgb, hgd, hb5⟩; have h35 : Below w3.heap.size w3 w5 := below_undrew hb5; have hS1 := HK.out w5 h35)
      | (go_at_call 56; refine (HR.out w5 gd hgd).mono ?_; rintro e w6 ⟨v6, rfl, hown6, hb6⟩; obtain ⟨q6, c6, rfl, hs6, hc6, _⟩ := own_sl hown6; have h36 : Below w3.heap.size w3 w6 := h35.trans (hb6.mono h35.size); have hS2 := HK.out w6 h36; have hS2a := HK.out _ (h36.alloc h36.size (.cells #[.slice q3 V.length c3, .slice q6 X.length c6] 22)))
      | (go_at_call 30; refine (join_any _ _ [⟨q3, V, c3⟩, ⟨q6, X, c6⟩] 2 (w6.heap.size + 1) (by simp) (Parts.made (u := w6) (t := 22) (xs := [⟨q3, V, c3⟩, ⟨q6, X, c6⟩]) rfl (two_sl (hs3.below h36) h36.size hs6) (Nat.le_refl _)) (by simp) (by simp [flat]; omega)).mono ?_; rintro e w7 ⟨v7, rfl, hown7, hb7⟩; have h37 : Below w3.heap.size w3 w7 := (h36.alloc h36.size (.cells #[.slice q3 V.length c3, .slice q6 X.length c6] 22)).trans (hb7.mono (by simp; have := h36.size; omega)); have hS3 := HK.out w7 h37))
  have hfl : flat [⟨q3, V, c3⟩, ⟨q6, X, c6⟩] = V ++ X := by simp [flat]
  rw [hfl] at hown7
  have h07 := h03.trans (h37.mono h03.size)
  have hown8 : w7.ownsRow w.heap.size 5 1 v7 (V ++ X).length ((V ++ X).map bv) := World.ownsRow.mono hown7 (by simp; have := h36.size; have := h03.size; omega)
  clear hfl hown7 HK hS0 hS1 hS2 hS2a hS3 hpt
  go_wp2_with fail
  go_ret2
  exact ⟨v7, rfl, hown8, h07⟩

set_option maxRecDepth 100000 in
set_option maxHeartbeats 2000000 in
theorem recPut_5 (w : World) (n : Int) (bits : Nat) (text raw : List UInt8) (V X : List UInt8) (hV : V.length ≤ 10) (hX : X.length ≤ 70368744177700)
    (HC : ∀ ws, Below w.heap.size w ws → Calls Tryd.prog 17 #[recV n 5 bits text raw] ws fun e w' => e = .returned .nilIface ∧ Below ws.heap.size ws w')
    (HT : Hid (∀ ws, Calls Tryd.prog 29 #[tagV n 5] ws (PutOk ws V)))
    (HR : Hid (∀ (ws : World) (r : Nat), Blk ws r 97 [.func (.func 45) #[] #[]] → Calls Tryd.prog 60 #[recV n 5 bits text raw, .pointer (some ⟨r, 0, none⟩)] ws (Owned ws X))) :
    Calls Tryd.prog 16 #[recV n 5 bits text raw] w (PutOk w (V ++ X)) := by
  obtain ⟨w1, hw1⟩ : ∃ w1, w1 = w.alloc (.cells #[.int .i64 n, .int .i64 5, .int .u64 (bits : Int), .string (str text), .string (str raw)] 29) := ⟨_, rfl⟩
  have hb1 : Below w.heap.size w w1 := hw1 ▸ (Below.refl _ _).alloc (Nat.le_refl _) _
  have hk1 : Blk w1 w.heap.size 29 (recCells n 5 bits text raw) := hw1 ▸ Blk.new w _ _
  have HP := HC w1 hb1
  rw [hw1] at HP
  unfold recV at HP HR ⊢
  unfold tagV at HT
  clear HC
  go_enter Tryd.func16, Tryd.ntmps16
  go_wp2_with fail
  refine HP.mono ?_
  rintro e w2 ⟨rfl, hb2⟩
  rw [← hw1] at hb2
  clear HP hw1
  have hk2 := hk1.kept hb2
  have h02 := hb1.trans (hb2.mono hb1.size)
  have c0 := hk2.cell 0
  have c1 := hk2.cell 1
  simp only [recCells, List.getElem?_cons_zero, List.getElem?_cons_succ] at c0 c1
  go_wp2_with fail
  refine (HT.out _).mono ?_
  rintro e w3 ⟨v3, rfl, hown3, hb3⟩
  obtain ⟨q3, c3, rfl, hs3, hc3, _⟩ := own_sl hown3
  have hk3 := hk2.kept hb3
  have h03 := h02.trans (hb3.mono h02.size)
  clear c0 c1 hown3 hb1 hb2 hb3 hk1 hk2 h02
  go_wp2_with fail
  have HK := Lib.hid (show ∀ w', Below w3.heap.size w3 w' → w'.cell? ⟨w.heap.size, 0, none⟩ = some (.int .i64 n) ∧ w'.cell? ⟨w.heap.size, 1, none⟩ = some (.int .i64 5) ∧ w'.cell? ⟨w.heap.size, 2, none⟩ = some (.int .u64 (bits : Int)) ∧ w'.cell? ⟨w.heap.size, 3, none⟩ = some (.string (str text)) ∧ w'.cell? ⟨w.heap.size, 4, none⟩ = some (.string (str raw)) from fun w' h =>
    ⟨(hk3.kept h).cell 0, (hk3.kept h).cell 1, (hk3.kept h).cell 2, (hk3.kept h).cell 3, (hk3.kept h).cell 4⟩)
  have hS0 := HK.out w3.drew (Below.refl _ _).drew
  have hpt := run_put
  go_region_held3 (fun w' => w'.cell? ⟨w.heap.size, 0, none⟩ = some (.int .i64 n) ∧ w'.cell? ⟨w.heap.size, 1, none⟩ = some (.int .i64 5) ∧ w'.cell? ⟨w.heap.size, 2, none⟩ = some (.int .u64 (bits : Int)) ∧ w'.cell? ⟨w.heap.size, 3, none⟩ = some (.string (str text)) ∧ w'.cell? ⟨w.heap.size, 4, none⟩ = some (.string (str raw))) (first | exact hS3 | exact hS2a | exact hS2 | exact hS1 | exact hS0)
    (first
      | (go_at_call 22; refine (bodyOf5 _).mono ?_; rintro e w5 ⟨ga, gb, gd, rfl, hga, hgb, hgd, hb5⟩; have h35 : Below w3.heap.size w3 w5 := below_undrew hb5; have hS1 := HK.out w5 h35)
      | (go_at_call 60; refine (HR.out w5 gd hgd).mono ?_; rintro e w6 ⟨v6, rfl, hown6, hb6⟩; obtain ⟨q6, c6, rfl, hs6, hc6, _⟩ := own_sl hown6; have h36 : Below w3.heap.size w3 w6 := h35.trans (hb6.mono h35.size); have hS2 := HK.out w6 h36; have hS2a := HK.out _ (h36.alloc h36.size (.cells #[.slice q3 V.length c3, .slice q6 X.length c6] 22)))
      | (go_at_call 30; refine (join_any _ _ [⟨q3, V, c3⟩, ⟨q6, X, c6⟩] 2 (w6.heap.size + 1) (by simp) (Parts.made (u := w6) (t := 22) (xs := [⟨q3, V, c3⟩, ⟨q6, X, c6⟩]) rfl (two_sl (hs3.below h36) h36.size hs6) (Nat.le_refl _)) (by simp) (by simp [flat]; omega)).mono ?_; rintro e w7 ⟨v7, rfl, hown7, hb7⟩; have h37 : Below w3.heap.size w3 w7 := (h36.alloc h36.size (.cells #[.slice q3 V.length c3, .slice q6 X.length c6] 22)).trans (hb7.mono (by simp; have := h36.size; omega)); have hS3 := HK.out w7 h37))
  have hfl : flat [⟨q3, V, c3⟩, ⟨q6, X, c6⟩] = V ++ X := by simp [flat]
  rw [hfl] at hown7
  have h07 := h03.trans (h37.mono h03.size)
  have hown8 : w7.ownsRow w.heap.size 5 1 v7 (V ++ X).length ((V ++ X).map bv) := World.ownsRow.mono hown7 (by simp; have := h36.size; have := h03.size; omega)
  clear hfl hown7 HK hS0 hS1 hS2 hS2a hS3 hpt
  go_wp2_with fail
  go_ret2
  exact ⟨v7, rfl, hown8, h07⟩


theorem recPut_ok (w : World) (A : Nat → Addr) (hE : Errs w A) (n k : Int) (bits : Nat) (text raw : List UInt8) (hb : bits < 18446744073709551616) (ht : text.length ≤ 70368744177664) (h : rcheck n k bits text = 0) :
    Calls Tryd.prog 16 #[recV n k bits text raw] w (PutOk w (rput n k bits text)) := by
  have htc : tcheck n k = 0 := by
    unfold rcheck at h
    split at h
    · rename_i h1; exact absurd h h1
    · omega
  have HC : ∀ ws, Below w.heap.size w ws → Calls Tryd.prog 17 #[recV n k bits text raw] ws fun e w' => e = .returned .nilIface ∧ Below ws.heap.size ws w' := fun ws hw => by
    have := recCheck_any ws A (hE.below hw) n k bits text raw
    rwa [h] at this
  have HT : ∀ ws, Calls Tryd.prog 29 #[tagV n k] ws (PutOk ws (vput (tword n k))) := fun ws => tagPut_ok ws n k htc
  have hv10 := vput_ten (tword n k) (by have := tword_lt htc; omega)
  have hW := rcheck_way bits text htc
  have hx := vput_ten bits hb
  have hy := vput_ten text.length (by omega)
  rw [h] at hW
  unfold rput
  cases hW with
  | ok2 hk hb0 =>
    subst hk
    exact recPut_2 w n bits text raw _ (vput text.length ++ text) hv10 (by rw [List.length_append]; omega) HC (Lib.hid HT) (Lib.hid fun ws => putText_any ws n 2 bits text raw ht)
  | ok0 hk ht0 =>
    subst hk
    exact recPut_0 w n bits text raw _ (vput bits) hv10 (by omega) HC (Lib.hid HT) (Lib.hid fun ws => putVarint_any ws n 0 bits text raw hb)
  | ok1 hk ht0 =>
    subst hk
    exact recPut_1 w n bits text raw _ (le bits 8) hv10 (by rw [le_length]; omega) HC (Lib.hid HT) (Lib.hid fun ws r hr => fixedPut64_any ws n 1 bits text raw r hr hb)
  | ok5 hk ht0 hb5 =>
    subst hk
    exact recPut_5 w n bits text raw _ (le bits 4) hv10 (by rw [le_length]; omega) HC (Lib.hid HT) (Lib.hid fun ws r hr => fixedPut32_any ws n 5 bits text raw r hr (by omega))
end Go.Proofs.YtlndejanojgjlaaDoor
