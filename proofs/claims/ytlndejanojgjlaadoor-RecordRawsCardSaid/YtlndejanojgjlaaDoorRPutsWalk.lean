/- The walk of RecordPuts: for every record the answer is true, and nothing that was there turns. Condition: the errors' variables hold different pointers, as the program's text lays them. -/
import Derived.Test.YtlndejanojgjlaaDoorProg
import Derived.Test.YtlndejanojgjlaaDoorMem
import Derived.Test.YtlndejanojgjlaaDoorNum
import Derived.Test.YtlndejanojgjlaaDoorText
import Derived.Test.YtlndejanojgjlaaDoorGrow
import Derived.Test.YtlndejanojgjlaaDoorHolds
import Derived.Test.YtlndejanojgjlaaDoorAlive04
import Derived.Test.YtlndejanojgjlaaDoorRef04b
import Derived.Test.YtlndejanojgjlaaDoorRef04c
import Derived.Test.YtlndejanojgjlaaDoorRef04d
import Derived.Test.YtlndejanojgjlaaDoorRmath
import Derived.Laws.StructEq
import Derived.Deep.DeepCutAuto
namespace Go.Proofs.YtlndejanojgjlaaDoor
open Go.RowKit

theorem cells5 {w : World} {g : Nat} {t : TypeId} {n k : Int} {bits : Nat} {text raw : List UInt8} (h : Blk w g t (recCells n k bits text raw)) :
    w.cell? ⟨g, 0, none⟩ = some (.int .i64 n) ∧ w.cell? ⟨g, 1, none⟩ = some (.int .i64 k) ∧ w.cell? ⟨g, 2, none⟩ = some (.int .u64 (bits : Int)) ∧ w.cell? ⟨g, 3, none⟩ = some (.string (str text)) ∧ w.cell? ⟨g, 4, none⟩ = some (.string (str raw)) :=
  ⟨h.cell 0, h.cell 1, h.cell 2, h.cell 3, h.cell 4⟩

set_option maxRecDepth 100000 in
set_option maxHeartbeats 2000000 in
theorem rputs_far (w : World) (A : Nat → Addr) (hE : Errs w A) (n k : Int) (bits : Nat) (text raw : List UInt8) (h : 300 < text.length ∨ 300 < raw.length) (ht : text.length ≤ maxLen) (hr : raw.length ≤ maxLen) :
    Calls Tryd.prog 4 #[recV n k bits text raw] w fun e w' => e = .returned (.bool true) ∧ Below w.heap.size w w' := by
  obtain ⟨w1, hw1⟩ : ∃ w1, w1 = w.alloc (.cells #[.int .i64 n, .int .i64 k, .int .u64 (bits : Int), .string (str text), .string (str raw)] 29) := ⟨_, rfl⟩
  have hb1 : Below w.heap.size w w1 := hw1 ▸ (Below.refl _ _).alloc (Nat.le_refl _) _
  have hk1 : Blk w1 w.heap.size 29 (recCells n k bits text raw) := hw1 ▸ Blk.new w _ _
  have HA := alive04_any w1 A (hE.below hb1)
  have h' : (300 : Int) < ((str text).size : Int) ∨ ¬ (300 : Int) < ((str text).size : Int) ∧ (300 : Int) < ((str raw).size : Int) := by rw [strSize, strSize]; omega
  have s1 : (str text).size ≤ 9223372036854775807 := by rw [strSize]; unfold maxLen at ht; omega
  have s2 : (str raw).size ≤ 9223372036854775807 := by rw [strSize]; unfold maxLen at hr; omega
  unfold recV
  clear ht hr h
  rcases h' with h1 | ⟨h1, h2⟩
  all_goals
    go_enter Tryd.func4, Tryd.ntmps4
    go_wp2_with fail
    rw [← hw1]
    refine HA.mono ?_
    rintro e w2 ⟨rfl, hb2⟩
    clear hw1 HA
    have hk2 := hk1.kept hb2
    have d3 := hk2.cell 3
    have d4 := hk2.cell 4
    simp only [recCells, List.getElem?_cons_zero, List.getElem?_cons_succ] at d3 d4
    go_wp2_with fail
    go_ret
    exact ⟨rfl, hb1.trans (hb2.mono hb1.size)⟩

/-- The walk's head: to the check's answers. -/
theorem size_in {t : List UInt8} (h : t.length ≤ 300) : (str t).size ≤ 300 := by rw [strSize]; exact h

set_option maxRecDepth 100000 in
set_option maxHeartbeats 2000000 in
theorem rputs_bad (w : World) (A : Nat → Addr) (hE : Errs w A) (n k : Int) (bits : Nat) (text raw : List UInt8) (ht : text.length ≤ 300) (hr : raw.length ≤ 300) (h : rcheck n k bits text ≠ 0) :
    Calls Tryd.prog 4 #[recV n k bits text raw] w fun e w' => e = .returned (.bool true) ∧ Below w.heap.size w w' := by
  have hle := rcheck_le n k bits text
  have HPB := fun ws hE => recPut_bad ws A hE n k bits text raw h
  have HRC := fun ws => refCheck04_any ws n k bits text raw (by omega)
  have HCC := fun ws hE => recCheck_any ws A hE n k bits text raw
  have HOF := fun ws => of_any ws n k bits text raw
  generalize rcheck n k bits text = b at *
  have hb0 : (b : Int) ≠ 0 := by omega
  have hb19 : b ≤ 19 := by omega
  obtain ⟨w1, hw1⟩ : ∃ w1, w1 = w.alloc (.cells #[.int .i64 n, .int .i64 k, .int .u64 (bits : Int), .string (str text), .string (str raw)] 29) := ⟨_, rfl⟩
  have hb1 : Below w.heap.size w w1 := hw1 ▸ (Below.refl _ _).alloc (Nat.le_refl _) _
  have hk1 : Blk w1 w.heap.size 29 (recCells n k bits text raw) := hw1 ▸ Blk.new w _ _
  have HA := alive04_any w1 A (hE.below hb1)
  have s1 := size_in ht
  have s2 := size_in hr
  unfold recV at *
  clear h hle
  go_enter Tryd.func4, Tryd.ntmps4
  go_wp2_with fail
  rw [← hw1]
  refine HA.mono ?_
  rintro e w2 ⟨rfl, hb2⟩
  clear hw1 HA
  have hk2 := hk1.kept hb2
  have h02 := hb1.trans (hb2.mono hb1.size)
  obtain ⟨d0, d1, d2, d3, d4⟩ := cells5 hk2
  go_wp2_with fail
  refine (HOF _).mono ?_
  rintro e w3 ⟨rfl, hb3⟩
  clear d0 d1 d2 d3 d4
  have hk3 := hk2.kept hb3
  have h03 := h02.trans (hb3.mono h02.size)
  go_wp2_with fail
  refine (HRC _).mono ?_
  rintro e w4 ⟨rfl, hb4⟩
  have hk4 := hk3.kept hb4
  have h04 := h03.trans (hb4.mono h03.size)
  obtain ⟨d0, d1, d2, d3, d4⟩ := cells5 hk4
  go_wp2_with fail
  refine (HPB _ (hE.below h04)).mono ?_
  rintro e w5 ⟨rfl, hb5⟩
  clear d0 d1 d2 d3 d4
  have hk5 := hk4.kept hb5
  have h05 := h04.trans (hb5.mono h04.size)
  obtain ⟨d0, d1, d2, d3, d4⟩ := cells5 hk5
  go_wp2_with fail
  refine (HCC _ (hE.below h05)).mono ?_
  rintro e w6 ⟨rfl, hb6⟩
  have h06 := h05.trans (hb6.mono h05.size)
  clear d0 d1 d2 d3 d4 hk1 hk2 hk3 hk4 hk5
  go_wp2_with fail
  refine (num_of w6 A (hE.below h06) b hb19).mono ?_
  rintro e w7 ⟨rfl, hb7⟩
  have h07 := h06.trans (hb7.mono h06.size)
  go_wp2_with fail
  refine (num_of w7 A (hE.below h07) b hb19).mono ?_
  rintro e w8 ⟨rfl, hb8⟩
  have h08 := h07.trans (hb8.mono h07.size)
  go_wp2_with fail
  go_ret
  exact ⟨rfl, h08⟩

set_option maxRecDepth 100000 in
set_option maxHeartbeats 4000000 in
theorem rputs_ok (w : World) (A : Nat → Addr) (hE : Errs w A) (n k : Int) (bits : Nat) (text raw : List UInt8) (hbits : bits < 18446744073709551616) (ht : text.length ≤ 300) (hr : raw.length ≤ 300) (h : rcheck n k bits text = 0) :
    Calls Tryd.prog 4 #[recV n k bits text raw] w fun e w' => e = .returned (.bool true) ∧ Below w.heap.size w w' := by
  have HPO := fun ws hE => recPut_ok ws A hE n k bits text raw hbits (by omega) h
  have HRC := fun ws => refCheck04_any ws n k bits text raw (by omega)
  have HCC := fun ws hE => recCheck_any ws A hE n k bits text raw
  have HOF := fun ws => of_any ws n k bits text raw
  have HRP := fun ws => refPut04_any ws n k bits text raw hbits (by omega) h
  have hrp := rparse_rput h hbits (by omega) []
  rw [List.append_nil] at hrp
  have hln := (rput_len h hbits (by omega)).2
  obtain ⟨_, _, hkk⟩ := tcheck_zero (rcheck_tag h)
  have en : (n.toNat : Int) = n := by omega
  have ek : (k.toNat : Int) = k := by omega
  rw [h] at HRC HCC
  rw [show errOf A 0 = Value.nilIface from rfl] at HCC
  generalize rput n k bits text = Z at *
  have HPZ : ∀ (ws : World) (q : Option Addr) (c B : Nat), Errs ws A → Z.length ≤ c → B ≤ ws.heap.size → Sl ws B q Z → Calls Tryd.prog 8 #[.slice q Z.length c] ws (Recs ws (recV n k bits text Z) (Z.length : Int) .nilIface) := fun ws q c B hE hc hB hs => by
    have := recParse_any ws A hE q Z c B (by omega) hc hB hs
    rw [hrp] at this
    unfold RecD.val at this
    simp only at this
    rw [en, ek] at this
    exact this
  clear hrp en ek hkk h
  obtain ⟨w1, hw1⟩ : ∃ w1, w1 = w.alloc (.cells #[.int .i64 n, .int .i64 k, .int .u64 (bits : Int), .string (str text), .string (str raw)] 29) := ⟨_, rfl⟩
  have hb1 : Below w.heap.size w w1 := hw1 ▸ (Below.refl _ _).alloc (Nat.le_refl _) _
  have hk1 : Blk w1 w.heap.size 29 (recCells n k bits text raw) := hw1 ▸ Blk.new w _ _
  have HA := alive04_any w1 A (hE.below hb1)
  have s1 := size_in ht
  have s2 := size_in hr
  unfold recV at *
  go_enter Tryd.func4, Tryd.ntmps4
  go_wp2_with fail
  rw [← hw1]
  refine HA.mono ?_
  rintro e w2 ⟨rfl, hb2⟩
  clear hw1 HA
  have hk2 := hk1.kept hb2
  have h02 := hb1.trans (hb2.mono hb1.size)
  obtain ⟨d0, d1, d2, d3, d4⟩ := cells5 hk2
  go_wp2_with fail
  refine (HOF _).mono ?_
  rintro e w3 ⟨rfl, hb3⟩
  clear d0 d1 d2 d3 d4
  have hk3 := hk2.kept hb3
  have h03 := h02.trans (hb3.mono h02.size)
  go_wp2_with fail
  refine (HRC _).mono ?_
  rintro e w4 ⟨rfl, hb4⟩
  have hk4 := hk3.kept hb4
  have h04 := h03.trans (hb4.mono h03.size)
  obtain ⟨d0, d1, d2, d3, d4⟩ := cells5 hk4
  go_wp2_with fail
  refine (HPO _ (hE.below h04)).mono ?_
  rintro e w5 ⟨v5, rfl, hown5, hb5⟩
  obtain ⟨q4, c4, rfl, hsl5, hc4, _⟩ := own_sl hown5
  clear d0 d1 d2 d3 d4 hown5
  have hk5 := hk4.kept hb5
  have h05 := h04.trans (hb5.mono h04.size)
  obtain ⟨d0, d1, d2, d3, d4⟩ := cells5 hk5
  go_wp2_with fail
  refine (HCC _ (hE.below h05)).mono ?_
  rintro e w6 ⟨rfl, hb6⟩
  have h06 := h05.trans (hb6.mono h05.size)
  have hk6 := hk5.kept hb6
  clear d0 d1 d2 d3 d4
  go_wp2_with fail
  refine (num_nil w6).mono ?_
  rintro e w7 ⟨rfl, rfl⟩
  go_wp2_with fail
  refine (num_nil w6).mono ?_
  rintro e w7 ⟨rfl, rfl⟩
  have hsl6 := hsl5.below hb6
  go_wp2_with fail
  refine (HPZ w6 q4 c4 w5.heap.size (hE.below h06) hc4 hb6.size hsl6).mono ?_
  rintro e w8 ⟨rfl, hb8⟩
  obtain ⟨w9, hw9⟩ : ∃ w9, w9 = w8.alloc (.cells #[.int .i64 n, .int .i64 k, .int .u64 (bits : Int), .string (str text), .string (str Z)] 29) := ⟨_, rfl⟩
  have hb9 : Below w8.heap.size w8 w9 := hw9 ▸ (Below.refl _ _).alloc (Nat.le_refl _) _
  have hk9 : Blk w9 w8.heap.size 29 (recCells n k bits text Z) := hw9 ▸ Blk.new w8 _ _
  have hk8 := (hk6.kept hb8).kept hb9
  have h69 : Below w6.heap.size w6 w9 := hb8.trans (hb9.mono hb8.size)
  have hsl9 := hsl6.below (h69.mono hb6.size)
  have h09 := h06.trans (h69.mono h06.size)
  have hq : w5.heap.size ≤ w9.heap.size := Nat.le_trans hb6.size h69.size
  go_upto_region 12 with fail
  rw [← hw9]
  clear hw9 hb1 hb2 hb3 hb4 hb5 hb6 hb8 hb9 hk1 hk2 hk3 hk4 hk5 hk6 hsl5 hsl6 h02 h03 h04 h05 h06 h69 HRC HPO HPZ HCC hE
  have hlt1 := hk8.lt
  have hlt6 := hk9.lt
  have hk1 := hk8
  have hk6 := hk9
  have hsl := hsl9
  clear hk8 hk9 hsl9
  go_cut [2] (fun s2 wx => s2 = .bool true ∧ Below w9.heap.size w9 wx)
  case first =>
    refine wp_region_grow (Below w9.heap.size w9) (fun u u' => Below u.heap.size u u') (.is (.slice q4 Z.length c4) :: .is (.string (str Z)) :: .is (.agg #[.int .i64 n, .int .i64 k, .int .u64 (bits : Int), .string (str text), .string (str raw)]) :: .is (.agg #[.int .i64 n, .int .i64 k, .int .u64 (bits : Int), .string (str text), .string (str raw)]) :: .of (Holds Z) :: .is (.string (str Z)) :: .is (.bool true) :: .is (.bool true) :: .is .nilIface :: .is (.bool true) :: .is (.bool true) :: .is (.bool true) :: .is (.int .i64 (Z.length : Int)) :: .is (.slice q4 Z.length c4) :: .is (.int .i64 (Z.length : Int)) :: .is (.bool true) :: .is (.bool true) :: .is (.bool true) :: .is (.pointer (some ⟨w8.heap.size, 0, none⟩)) :: .is (.agg #[.int .i64 n, .int .i64 k]) :: .is (.pointer (some ⟨w.heap.size, 0, none⟩)) :: .is (.agg #[.int .i64 n, .int .i64 k]) :: .is (.bool true) :: .is (.bool true) :: .is (.bool true) :: .is (.pointer (some ⟨w8.heap.size, 2, none⟩)) :: .is (.int .u64 (bits : Int)) :: .is (.pointer (some ⟨w.heap.size, 2, none⟩)) :: .is (.int .u64 (bits : Int)) :: .is (.bool true) :: .is (.bool true) :: .is (.bool true) :: .is (.pointer (some ⟨w8.heap.size, 3, none⟩)) :: .is (.string (str text)) :: .is (.pointer (some ⟨w.heap.size, 3, none⟩)) :: .is (.string (str text)) :: .is (.bool true) :: .is (.bool true) :: .is (.bool true) :: .is (.pointer (some ⟨w8.heap.size, 4, none⟩)) :: .is (.string (str Z)) :: .is (.slice q4 Z.length c4) :: .is (.string (str Z)) :: .is (.bool true) :: .is (.bool true) :: .is (.bool true) :: []) (by kernel_rfl) (by kernel_rfl) (fun u u' h hC => hC.trans (h.mono hC.size)) (by repeat (first | exact trivial | refine ⟨by first | exact stay_is | exact stay_holds _, ?_⟩)) ((Below.refl _ _).drew) ?h
    case h =>
      refine wpT_is (fun _ => Below.refl _ _) rfl (fun wx hC hS => by go_simp <;> rfl) ?_
      simp only [Act.put, List.setIfInBounds_toArray, List.set_cons_zero, List.set_cons_succ]
      refine wpT_is (fun _ => Below.refl _ _) rfl (fun wx hC hS => by have ex := (hsl.below (hC.mono hq)).string c4; go_simp <;> rfl) ?_
      simp only [Act.put, List.setIfInBounds_toArray, List.set_cons_zero, List.set_cons_succ]
      refine wpT_is (fun _ => Below.refl _ _) rfl (fun wx hC hS => by obtain ⟨e0, e1, e2, e3, e4⟩ := cells5 (hk1.below hC hlt1); go_simp <;> rfl) ?_
      simp only [Act.put, List.setIfInBounds_toArray, List.set_cons_zero, List.set_cons_succ]
      refine wpT_callIs rfl (fun wx hC _ => by go_simp <;> exact ⟨rfl, rfl⟩) (fun wx hC _ => (HOF wx).mono fun e w' h => h) ?_
      simp only [Act.put, List.setIfInBounds_toArray, List.set_cons_zero, List.set_cons_succ]
      refine wpT_call rfl (fun wx hC _ => by go_simp <;> exact ⟨rfl, rfl⟩) (fun wx hC _ => (HRP wx).mono fun e w' h => holds_of rfl h) (fun v1 => ?_)
      simp only [Act.put, List.setIfInBounds_toArray, List.set_cons_zero, List.set_cons_succ]
      refine wpT_is (fun _ => Below.refl _ _) rfl (fun wx hC hS => by obtain ⟨q5, c5, rfl, hs5⟩ : Holds Z v1 wx := hS.get (d := 54) (by repeat (first | exact List.mem_cons_self | apply List.mem_cons_of_mem)) rfl; have ex := hs5.string c5; go_simp <;> rfl) ?_
      simp only [Act.put, List.setIfInBounds_toArray, List.set_cons_zero, List.set_cons_succ]
      refine wpT_is (fun _ => Below.refl _ _) rfl (fun wx hC hS => by go_simp <;> rfl) ?_
      simp only [Act.put, List.setIfInBounds_toArray, List.set_cons_zero, List.set_cons_succ]
      refine wpT_is (fun _ => Below.refl _ _) rfl (fun wx hC hS => by go_simp <;> rfl) ?_
      simp only [Act.put, List.setIfInBounds_toArray, List.set_cons_zero, List.set_cons_succ]
      refine wpT_is (fun _ => Below.refl _ _) rfl (fun wx hC hS => by go_simp <;> rfl) ?_
      simp only [Act.put, List.setIfInBounds_toArray, List.set_cons_zero, List.set_cons_succ]
      refine wpT_is (fun _ => Below.refl _ _) rfl (fun wx hC hS => by go_simp <;> rfl) ?_
      simp only [Act.put, List.setIfInBounds_toArray, List.set_cons_zero, List.set_cons_succ]
      refine wpT_is (fun _ => Below.refl _ _) rfl (fun wx hC hS => by go_simp <;> rfl) ?_
      simp only [Act.put, List.setIfInBounds_toArray, List.set_cons_zero, List.set_cons_succ]
      refine wpT_is (fun _ => Below.refl _ _) rfl (fun wx hC hS => by go_simp <;> rfl) ?_
      simp only [Act.put, List.setIfInBounds_toArray, List.set_cons_zero, List.set_cons_succ]
      refine wpT_is (fun _ => Below.refl _ _) rfl (fun wx hC hS => by go_simp <;> rfl) ?_
      simp only [Act.put, List.setIfInBounds_toArray, List.set_cons_zero, List.set_cons_succ]
      refine wpT_is (fun _ => Below.refl _ _) rfl (fun wx hC hS => by go_simp <;> rfl) ?_
      simp only [Act.put, List.setIfInBounds_toArray, List.set_cons_zero, List.set_cons_succ]
      refine wpT_is (fun _ => Below.refl _ _) rfl (fun wx hC hS => by go_simp <;> rfl) ?_
      simp only [Act.put, List.setIfInBounds_toArray, List.set_cons_zero, List.set_cons_succ]
      refine wpT_is (fun _ => Below.refl _ _) rfl (fun wx hC hS => by go_simp <;> rfl) ?_
      simp only [Act.put, List.setIfInBounds_toArray, List.set_cons_zero, List.set_cons_succ]
      refine wpT_is (fun _ => Below.refl _ _) rfl (fun wx hC hS => by go_simp <;> rfl) ?_
      simp only [Act.put, List.setIfInBounds_toArray, List.set_cons_zero, List.set_cons_succ]
      refine wpT_is (fun _ => Below.refl _ _) rfl (fun wx hC hS => by go_simp <;> rfl) ?_
      simp only [Act.put, List.setIfInBounds_toArray, List.set_cons_zero, List.set_cons_succ]
      refine wpT_is (fun _ => Below.refl _ _) rfl (fun wx hC hS => by go_simp <;> rfl) ?_
      simp only [Act.put, List.setIfInBounds_toArray, List.set_cons_zero, List.set_cons_succ]
      refine wpT_is (fun _ => Below.refl _ _) rfl (fun wx hC hS => by obtain ⟨e0, e1, e2, e3, e4⟩ := cells5 (hk6.below hC hlt6); go_simp <;> rfl) ?_
      simp only [Act.put, List.setIfInBounds_toArray, List.set_cons_zero, List.set_cons_succ]
      refine wpT_is (fun _ => Below.refl _ _) rfl (fun wx hC hS => by go_simp <;> rfl) ?_
      simp only [Act.put, List.setIfInBounds_toArray, List.set_cons_zero, List.set_cons_succ]
      refine wpT_is (fun _ => Below.refl _ _) rfl (fun wx hC hS => by obtain ⟨e0, e1, e2, e3, e4⟩ := cells5 (hk1.below hC hlt1); go_simp <;> rfl) ?_
      simp only [Act.put, List.setIfInBounds_toArray, List.set_cons_zero, List.set_cons_succ]
      refine wpT_is (fun _ => Below.refl _ _) rfl (fun wx hC hS => by go_simp <;> rfl) ?_
      simp only [Act.put, List.setIfInBounds_toArray, List.set_cons_zero, List.set_cons_succ]
      refine wpT_is (fun _ => Below.refl _ _) rfl (fun wx hC hS => by go_simp <;> rfl) ?_
      simp only [Act.put, List.setIfInBounds_toArray, List.set_cons_zero, List.set_cons_succ]
      refine wpT_is (fun _ => Below.refl _ _) rfl (fun wx hC hS => by go_simp <;> rfl) ?_
      simp only [Act.put, List.setIfInBounds_toArray, List.set_cons_zero, List.set_cons_succ]
      refine wpT_is (fun _ => Below.refl _ _) rfl (fun wx hC hS => by go_simp <;> rfl) ?_
      simp only [Act.put, List.setIfInBounds_toArray, List.set_cons_zero, List.set_cons_succ]
      refine wpT_is (fun _ => Below.refl _ _) rfl (fun wx hC hS => by obtain ⟨e0, e1, e2, e3, e4⟩ := cells5 (hk6.below hC hlt6); go_simp <;> rfl) ?_
      simp only [Act.put, List.setIfInBounds_toArray, List.set_cons_zero, List.set_cons_succ]
      refine wpT_is (fun _ => Below.refl _ _) rfl (fun wx hC hS => by go_simp <;> rfl) ?_
      simp only [Act.put, List.setIfInBounds_toArray, List.set_cons_zero, List.set_cons_succ]
      refine wpT_is (fun _ => Below.refl _ _) rfl (fun wx hC hS => by obtain ⟨e0, e1, e2, e3, e4⟩ := cells5 (hk1.below hC hlt1); go_simp <;> rfl) ?_
      simp only [Act.put, List.setIfInBounds_toArray, List.set_cons_zero, List.set_cons_succ]
      refine wpT_is (fun _ => Below.refl _ _) rfl (fun wx hC hS => by go_simp <;> rfl) ?_
      simp only [Act.put, List.setIfInBounds_toArray, List.set_cons_zero, List.set_cons_succ]
      refine wpT_is (fun _ => Below.refl _ _) rfl (fun wx hC hS => by go_simp <;> rfl) ?_
      simp only [Act.put, List.setIfInBounds_toArray, List.set_cons_zero, List.set_cons_succ]
      refine wpT_is (fun _ => Below.refl _ _) rfl (fun wx hC hS => by go_simp <;> rfl) ?_
      simp only [Act.put, List.setIfInBounds_toArray, List.set_cons_zero, List.set_cons_succ]
      refine wpT_is (fun _ => Below.refl _ _) rfl (fun wx hC hS => by go_simp <;> rfl) ?_
      simp only [Act.put, List.setIfInBounds_toArray, List.set_cons_zero, List.set_cons_succ]
      refine wpT_is (fun _ => Below.refl _ _) rfl (fun wx hC hS => by obtain ⟨e0, e1, e2, e3, e4⟩ := cells5 (hk6.below hC hlt6); go_simp <;> rfl) ?_
      simp only [Act.put, List.setIfInBounds_toArray, List.set_cons_zero, List.set_cons_succ]
      refine wpT_is (fun _ => Below.refl _ _) rfl (fun wx hC hS => by go_simp <;> rfl) ?_
      simp only [Act.put, List.setIfInBounds_toArray, List.set_cons_zero, List.set_cons_succ]
      refine wpT_is (fun _ => Below.refl _ _) rfl (fun wx hC hS => by obtain ⟨e0, e1, e2, e3, e4⟩ := cells5 (hk1.below hC hlt1); go_simp <;> rfl) ?_
      simp only [Act.put, List.setIfInBounds_toArray, List.set_cons_zero, List.set_cons_succ]
      refine wpT_is (fun _ => Below.refl _ _) rfl (fun wx hC hS => by go_simp <;> rfl) ?_
      simp only [Act.put, List.setIfInBounds_toArray, List.set_cons_zero, List.set_cons_succ]
      refine wpT_is (fun _ => Below.refl _ _) rfl (fun wx hC hS => by go_simp <;> rfl) ?_
      simp only [Act.put, List.setIfInBounds_toArray, List.set_cons_zero, List.set_cons_succ]
      refine wpT_is (fun _ => Below.refl _ _) rfl (fun wx hC hS => by go_simp <;> rfl) ?_
      simp only [Act.put, List.setIfInBounds_toArray, List.set_cons_zero, List.set_cons_succ]
      refine wpT_is (fun _ => Below.refl _ _) rfl (fun wx hC hS => by go_simp <;> rfl) ?_
      simp only [Act.put, List.setIfInBounds_toArray, List.set_cons_zero, List.set_cons_succ]
      refine wpT_is (fun _ => Below.refl _ _) rfl (fun wx hC hS => by obtain ⟨e0, e1, e2, e3, e4⟩ := cells5 (hk6.below hC hlt6); go_simp <;> rfl) ?_
      simp only [Act.put, List.setIfInBounds_toArray, List.set_cons_zero, List.set_cons_succ]
      refine wpT_is (fun _ => Below.refl _ _) rfl (fun wx hC hS => by go_simp <;> rfl) ?_
      simp only [Act.put, List.setIfInBounds_toArray, List.set_cons_zero, List.set_cons_succ]
      refine wpT_is (fun _ => Below.refl _ _) rfl (fun wx hC hS => by have ex := (hsl.below (hC.mono hq)).string c4; go_simp <;> rfl) ?_
      simp only [Act.put, List.setIfInBounds_toArray, List.set_cons_zero, List.set_cons_succ]
      refine wpT_is (fun _ => Below.refl _ _) rfl (fun wx hC hS => by go_simp <;> rfl) ?_
      simp only [Act.put, List.setIfInBounds_toArray, List.set_cons_zero, List.set_cons_succ]
      refine wpT_is (fun _ => Below.refl _ _) rfl (fun wx hC hS => by go_simp <;> rfl) ?_
      simp only [Act.put, List.setIfInBounds_toArray, List.set_cons_zero, List.set_cons_succ]
      refine wpT_is (fun _ => Below.refl _ _) rfl (fun wx hC hS => by go_simp <;> rfl) ?_
      simp only [Act.put, List.setIfInBounds_toArray, List.set_cons_zero, List.set_cons_succ]
      refine wpT_nil fun wx hC _ => ?_
      go_wp2_with fail
      go_meet
      exact ⟨rfl, hC⟩
  case rest =>
    obtain ⟨rfl, hb10⟩ := hcut
    go_wp2_with fail
    go_ret
    exact ⟨rfl, h09.trans (hb10.mono h09.size)⟩

theorem rputs_any (w : World) (A : Nat → Addr) (hE : Errs w A) (n k : Int) (bits : Nat) (text raw : List UInt8) (hbits : bits < 18446744073709551616) (ht : text.length ≤ maxLen) (hr : raw.length ≤ maxLen) :
    Calls Tryd.prog 4 #[recV n k bits text raw] w fun e w' => e = .returned (.bool true) ∧ Below w.heap.size w w' := by
  by_cases h : 300 < text.length ∨ 300 < raw.length
  · exact rputs_far w A hE n k bits text raw h ht hr
  · by_cases hc : rcheck n k bits text = 0
    · exact rputs_ok w A hE n k bits text raw hbits (by omega) (by omega) hc
    · exact rputs_bad w A hE n k bits text raw (by omega) (by omega) hc
end Go.Proofs.YtlndejanojgjlaaDoor
