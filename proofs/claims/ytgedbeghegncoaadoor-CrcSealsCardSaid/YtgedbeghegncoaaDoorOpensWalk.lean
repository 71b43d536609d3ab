/- The walk of CrcOpens: for all bytes the answer is true, and nothing that was there turns. Condition: the errors' variables hold different pointers, as the program's text lays them. -/
import Derived.Test.YtgedbeghegncoaaDoorProg
import Derived.Test.YtgedbeghegncoaaDoorMem
import Derived.Test.YtgedbeghegncoaaDoorRow
import Derived.Test.YtgedbeghegncoaaDoorBytes
import Derived.Test.YtgedbeghegncoaaDoorKept
import Derived.Test.YtgedbeghegncoaaDoorText
import Derived.Test.YtgedbeghegncoaaDoorNum
import Derived.Test.YtgedbeghegncoaaDoorCrcMath
import Derived.Test.YtgedbeghegncoaaDoorCrcRef
import Derived.Test.YtgedbeghegncoaaDoorRefRead
import Derived.Test.YtgedbeghegncoaaDoorCrc
import Derived.Test.YtgedbeghegncoaaDoorSeal
import Derived.Test.YtgedbeghegncoaaDoorOpen
import Derived.Test.YtgedbeghegncoaaDoorAlive05
import Derived.Test.YtgedbeghegncoaaDoorGrow
import Derived.Test.YtgedbeghegncoaaDoorCut
import Derived.Test.YtgedbeghegncoaaDoorParts
import Derived.RegionTactic
import Derived.Deep.QuietTactic
import Derived.BigQuiet
namespace Go.Proofs.YtgedbeghegncoaaDoor
open Go.RowKit

theorem eql_errV (A : Nat → Addr) (b : Nat) (u : World) : (binOp .eql 26 (errV A b) .nilIface).run Tryd.prog u = .ok (.bool false) u := run_eql_held_nil (P := Tryd.prog) u 26 tE (.pointer (some (A b))) (by kernel_rfl)
theorem copy_sl {w : World} {g : Nat} {l : List UInt8} {rest : List Value} (h : Blk w g 5 (l.map bv ++ rest)) : Sl w (g + 1) (some ⟨g, 0, none⟩) l := Sl.of_blk h (by omega) fun i x hx => by
  have hi : i < l.length := by
    rcases Nat.lt_or_ge i l.length with h | h
    · exact h
    · rw [List.getElem?_eq_none h] at hx; cases hx
  rw [List.getElem?_append_left (by simpa using hi), List.getElem?_map, hx]
  rfl

set_option maxRecDepth 100000 in
set_option maxHeartbeats 4000000 in
theorem opens_short (w : World) (A : Nat → Addr) (hE : Errs w A) (p : Option Addr) (l : List UInt8) (c : Nat) (_hc : l.length ≤ c) (hm : c ≤ maxLen) (hl : l.length ≤ 400) (hs : Sl w w.heap.size p l) (h4 : l.length < 4) :
    Calls Tryd.prog 3 #[.slice p l.length c] w fun e w' => e = .returned (.bool true) ∧ Below w.heap.size w w' := by
  have hl' : ¬ 400 < l.length := by omega
  have hm6 : l.length + 6 ≤ maxLen := by unfold maxLen; omega
  have hm' : c ≤ 9223372036854775807 := hm
  have hc6 : l.length ≤ l.length + 6 := by omega
  go_enter Tryd.func3, Tryd.ntmps3
  go_wp2_with fail
  refine (alive05_any w).mono ?_
  rintro e w1 ⟨rfl, hb1⟩
  have hs1 := hs.below hb1
  go_wp2_with fail
  refine (bytes_any w1 p l c w.heap.size (by omega) hs1 hb1.size).mono ?_
  rintro e w2 ⟨rfl, hin, hb2⟩
  have h02 := hb1.trans (hb2.mono hb1.size)
  have hsi := copy_sl hin
  have hlt2 := hin.lt
  have hE2 := hE.below h02
  go_wp2_with fail
  refine (open_short w2 A _ l (l.length + 6) hE2 h4).mono ?_
  rintro e w3 ⟨rfl, hb3⟩
  have h03 := h02.trans (hb3.mono h02.size)
  have hin3 := hin.kept hb3
  have hlt3 := hin3.lt
  have hs3 := hs.below h03
  have hsi3 := copy_sl hin3
  have HRT := Lib.hid (fun wx (hC : Below w3.heap.size w3 wx) => (right_short wx (some ⟨w1.heap.size, 0, none⟩) l (l.length + 6) h4).mono fun e w' ⟨he, hw⟩ => (⟨he, hw ▸ Below.refl _ _⟩ : e = Ending.returned (.bool false) ∧ Below wx.heap.size wx w'))
  have HKEPT := Lib.hid (fun wx (hC : Below w3.heap.size w3 wx) => (kept_any wx w1.heap.size p l c w.heap.size (by omega) (hs3.below (hC.mono h03.size)) (hin3.below hC hlt3)).mono fun e w' ⟨he, hw⟩ => (⟨he, hw ▸ Below.refl _ _⟩ : e = Ending.returned (.bool true) ∧ Below wx.heap.size wx w'))
  clear hs1 hb1 hin hb2 hsi hE2 h02
  go_wp2_with fail
  refine wp_region_grow (Below w3.heap.size w3) (fun u u' => Below u.heap.size u u') (.is (.slice (some ⟨w1.heap.size, 0, none⟩) l.length (l.length + 6)) :: .is (.bool false) :: .is (errV A 1) :: .is (.bool false) :: .is (.bool false) :: .is (.bool false) :: .is (.slice (some ⟨w1.heap.size, 0, none⟩) l.length (l.length + 6)) :: .is (.slice p l.length c) :: .is (.bool true) :: .is (.bool false) :: .is (.bool false) :: []) (by kernel_rfl) (by kernel_rfl) (fun u u' h hC => hC.trans (h.mono hC.size)) (by repeat (first | exact trivial | refine ⟨by first | exact stay_is | exact stay_parts _, ?_⟩)) ((Below.refl _ _).drew) ?h
  case h =>
    refine wpT_is (fun _ => Below.refl _ _) rfl (fun wx hC hS => by go_simp <;> rfl) ?_
    simp only [Act.put, List.setIfInBounds_toArray, List.set_cons_zero, List.set_cons_succ]
    refine wpT_callIs rfl (fun wx hC _ => by go_simp <;> first | exact ⟨rfl, rfl⟩ | rfl) (fun wx hC hS => HRT.out wx hC) ?_
    simp only [Act.put, List.setIfInBounds_toArray, List.set_cons_zero, List.set_cons_succ]
    refine wpT_is (fun _ => Below.refl _ _) rfl (fun wx hC hS => by go_simp <;> rfl) ?_
    simp only [Act.put, List.setIfInBounds_toArray, List.set_cons_zero, List.set_cons_succ]
    refine wpT_is (fun _ => Below.refl _ _) rfl (fun wx hC hS => by have he := eql_errV A 1; go_simp <;> rfl) ?_
    simp only [Act.put, List.setIfInBounds_toArray, List.set_cons_zero, List.set_cons_succ]
    refine wpT_is (fun _ => Below.refl _ _) rfl (fun wx hC hS => by go_simp <;> rfl) ?_
    simp only [Act.put, List.setIfInBounds_toArray, List.set_cons_zero, List.set_cons_succ]
    refine wpT_is (fun _ => Below.refl _ _) rfl (fun wx hC hS => by go_simp <;> rfl) ?_
    simp only [Act.put, List.setIfInBounds_toArray, List.set_cons_zero, List.set_cons_succ]
    refine wpT_is (fun _ => Below.refl _ _) rfl (fun wx hC hS => by go_simp <;> rfl) ?_
    simp only [Act.put, List.setIfInBounds_toArray, List.set_cons_zero, List.set_cons_succ]
    refine wpT_is (fun _ => Below.refl _ _) rfl (fun wx hC hS => by go_simp <;> rfl) ?_
    simp only [Act.put, List.setIfInBounds_toArray, List.set_cons_zero, List.set_cons_succ]
    refine wpT_callIs rfl (fun wx hC _ => by go_simp <;> first | exact ⟨rfl, rfl⟩ | rfl) (fun wx hC hS => HKEPT.out wx hC) ?_
    simp only [Act.put, List.setIfInBounds_toArray, List.set_cons_zero, List.set_cons_succ]
    refine wpT_is (fun _ => Below.refl _ _) rfl (fun wx hC hS => by go_simp <;> rfl) ?_
    simp only [Act.put, List.setIfInBounds_toArray, List.set_cons_zero, List.set_cons_succ]
    refine wpT_is (fun _ => Below.refl _ _) rfl (fun wx hC hS => by go_simp <;> rfl) ?_
    simp only [Act.put, List.setIfInBounds_toArray, List.set_cons_zero, List.set_cons_succ]
    refine wpT_nil fun wb hbb _ => ?_
    have h0b := h03.trans (hbb.mono h03.size)
    have hEb := hE.below h0b
    have hsb := hs.below h0b
    go_wp2_with fail
    refine (num_err wb A hEb 1 (by decide)).mono ?_
    rintro e wd ⟨rfl, hbd⟩
    go_wp2_with fail
    go_ret
    exact ⟨rfl, h0b.trans (hbd.mono h0b.size)⟩

set_option maxRecDepth 100000 in
set_option maxHeartbeats 4000000 in
theorem opens_bad (w : World) (A : Nat → Addr) (hE : Errs w A) (p : Option Addr) (l : List UInt8) (c : Nat) (_hc : l.length ≤ c) (hm : c ≤ maxLen) (hl : l.length ≤ 400) (hs : Sl w w.heap.size p l) (h4 : 4 ≤ l.length) (hno : ¬ crcOk l) :
    Calls Tryd.prog 3 #[.slice p l.length c] w fun e w' => e = .returned (.bool true) ∧ Below w.heap.size w w' := by
  have hl' : ¬ 400 < l.length := by omega
  have hm6 : l.length + 6 ≤ maxLen := by unfold maxLen; omega
  have hm' : c ≤ 9223372036854775807 := hm
  have hc6 : l.length ≤ l.length + 6 := by omega
  have hc : l.length ≤ c := _hc
  have h4' : ¬ ((l.length : Int) - 4 < 0) := by omega
  have h44 : (0 : Int) ≤ (l.length : Int) - 4 := by omega
  have E4 := Lib.hid (show (l.length : Int) - 4 = ((l.length - 4 : Nat) : Int) by omega)
  have HLT := Lib.hid (show (l.take (l.length - 4)).length = l.length - 4 by rw [List.length_take]; omega)
  have HDT := Lib.hid (show (l.drop (l.length - 4)).take 4 = l.drop (l.length - 4) from List.take_of_length_le (by rw [List.length_drop]; omega))
  obtain ⟨CS, hCS⟩ : ∃ CS, crcSum (l.take (l.length - 4)) = CS := ⟨_, rfl⟩
  have hC32 : CS < 4294967296 := by rw [← hCS]; exact crcSum_lt _
  have HCS := Lib.hid hCS
  obtain ⟨N, hN⟩ : ∃ N, num (l.drop (l.length - 4)) = N := ⟨_, rfl⟩
  have hne : (CS : Int) ≠ (N : Int) := fun h => hno (by unfold crcOk; rw [hN, hCS]; omega)
  have HN := Lib.hid hN
  clear hN hCS
  go_enter Tryd.func3, Tryd.ntmps3
  go_wp2_with fail
  refine (alive05_any w).mono ?_
  rintro e w1 ⟨rfl, hb1⟩
  have hs1 := hs.below hb1
  go_wp2_with fail
  refine (bytes_any w1 p l c w.heap.size (by omega) hs1 hb1.size).mono ?_
  rintro e w2 ⟨rfl, hin, hb2⟩
  have h02 := hb1.trans (hb2.mono hb1.size)
  have hsi := copy_sl hin
  have hlt2 := hin.lt
  have hE2 := hE.below h02
  go_wp2_with fail
  refine (open_bad w2 A _ l (l.length + 6) hE2 h4 hc6 hm6 (by omega) (hsi.more hlt2) hno).mono ?_
  rintro e w3 ⟨rfl, hb3⟩
  have h03 := h02.trans (hb3.mono h02.size)
  have hin3 := hin.kept hb3
  have hlt3 := hin3.lt
  have hs3 := hs.below h03
  have hsi3 := copy_sl hin3
  have HRT := Lib.hid (fun wx (hC : Below w3.heap.size w3 wx) => (right_any wx (some ⟨w1.heap.size, 0, none⟩) l (l.length + 6) (w1.heap.size + 1) false (Nat.le_trans hlt3 hC.size) h4 (by omega) hm6 (by omega) (hsi3.below (hC.mono hlt3)) ⟨fun h => (by cases h), fun h => absurd h hno⟩))
  have HKEPT := Lib.hid (fun wx (hC : Below w3.heap.size w3 wx) => (kept_any wx w1.heap.size p l c w.heap.size (by omega) (hs3.below (hC.mono h03.size)) (hin3.below hC hlt3)).mono fun e w' ⟨he, hw⟩ => (⟨he, hw ▸ Below.refl _ _⟩ : e = Ending.returned (.bool true) ∧ Below wx.heap.size wx w'))
  clear hs1 hb1 hin hb2 hsi hE2 h02
  go_wp2_with fail
  refine wp_region_grow (Below w3.heap.size w3) (fun u u' => Below u.heap.size u u') (.is (.slice (some ⟨w1.heap.size, 0, none⟩) l.length (l.length + 6)) :: .is (.bool false) :: .is (errV A 17) :: .is (.bool false) :: .is (.bool false) :: .is (.bool false) :: .is (.slice (some ⟨w1.heap.size, 0, none⟩) l.length (l.length + 6)) :: .is (.slice p l.length c) :: .is (.bool true) :: .is (.bool false) :: .is (.bool false) :: []) (by kernel_rfl) (by kernel_rfl) (fun u u' h hC => hC.trans (h.mono hC.size)) (by repeat (first | exact trivial | refine ⟨by first | exact stay_is | exact stay_parts _, ?_⟩)) ((Below.refl _ _).drew) ?h
  case h =>
    refine wpT_is (fun _ => Below.refl _ _) rfl (fun wx hC hS => by go_simp <;> rfl) ?_
    simp only [Act.put, List.setIfInBounds_toArray, List.set_cons_zero, List.set_cons_succ]
    refine wpT_callIs rfl (fun wx hC _ => by go_simp <;> first | exact ⟨rfl, rfl⟩ | rfl) (fun wx hC hS => HRT.out wx hC) ?_
    simp only [Act.put, List.setIfInBounds_toArray, List.set_cons_zero, List.set_cons_succ]
    refine wpT_is (fun _ => Below.refl _ _) rfl (fun wx hC hS => by go_simp <;> rfl) ?_
    simp only [Act.put, List.setIfInBounds_toArray, List.set_cons_zero, List.set_cons_succ]
    refine wpT_is (fun _ => Below.refl _ _) rfl (fun wx hC hS => by have he := eql_errV A 17; go_simp <;> rfl) ?_
    simp only [Act.put, List.setIfInBounds_toArray, List.set_cons_zero, List.set_cons_succ]
    refine wpT_is (fun _ => Below.refl _ _) rfl (fun wx hC hS => by go_simp <;> rfl) ?_
    simp only [Act.put, List.setIfInBounds_toArray, List.set_cons_zero, List.set_cons_succ]
    refine wpT_is (fun _ => Below.refl _ _) rfl (fun wx hC hS => by go_simp <;> rfl) ?_
    simp only [Act.put, List.setIfInBounds_toArray, List.set_cons_zero, List.set_cons_succ]
    refine wpT_is (fun _ => Below.refl _ _) rfl (fun wx hC hS => by go_simp <;> rfl) ?_
    simp only [Act.put, List.setIfInBounds_toArray, List.set_cons_zero, List.set_cons_succ]
    refine wpT_is (fun _ => Below.refl _ _) rfl (fun wx hC hS => by go_simp <;> rfl) ?_
    simp only [Act.put, List.setIfInBounds_toArray, List.set_cons_zero, List.set_cons_succ]
    refine wpT_callIs rfl (fun wx hC _ => by go_simp <;> first | exact ⟨rfl, rfl⟩ | rfl) (fun wx hC hS => HKEPT.out wx hC) ?_
    simp only [Act.put, List.setIfInBounds_toArray, List.set_cons_zero, List.set_cons_succ]
    refine wpT_is (fun _ => Below.refl _ _) rfl (fun wx hC hS => by go_simp <;> rfl) ?_
    simp only [Act.put, List.setIfInBounds_toArray, List.set_cons_zero, List.set_cons_succ]
    refine wpT_is (fun _ => Below.refl _ _) rfl (fun wx hC hS => by go_simp <;> rfl) ?_
    simp only [Act.put, List.setIfInBounds_toArray, List.set_cons_zero, List.set_cons_succ]
    refine wpT_nil fun wb hbb _ => ?_
    have h0b := h03.trans (hbb.mono h03.size)
    have hEb := hE.below h0b
    have hsb := hs.below h0b
    have HSUM := refSum_any wb p (l.take (l.length - 4)) c w.heap.size (by rw [HLT.out]; omega) (hsb.head_ _)
    rw [HLT.out, HCS.out] at HSUM
    have HFX := fixed_any wb p l c (l.length - 4) 4 w.heap.size (by omega) (by omega) (by omega) hsb
    rw [HDT.out, HN.out] at HFX
    have HFX := Lib.hid HFX
    go_wp2_with fail
    refine HSUM.mono ?_
    rintro e wd ⟨rfl, rfl⟩
    go_wp2_with fail
    rw [E4.out]
    refine HFX.out.mono ?_
    rintro e wd ⟨rfl, rfl⟩
    go_wp2_with fail
    refine (num_err wb A hEb 17 (by decide)).mono ?_
    rintro e wd ⟨rfl, hbd⟩
    go_wp2_with fail
    go_ret
    exact ⟨rfl, h0b.trans (hbd.mono h0b.size)⟩

set_option maxRecDepth 100000 in
set_option maxHeartbeats 4000000 in
theorem opens_ok (w : World) (A : Nat → Addr) (hE : Errs w A) (p : Option Addr) (l : List UInt8) (c : Nat) (_hc : l.length ≤ c) (hm : c ≤ maxLen) (hl : l.length ≤ 400) (hs : Sl w w.heap.size p l) (h4 : 4 ≤ l.length) (hok : crcOk l) :
    Calls Tryd.prog 3 #[.slice p l.length c] w fun e w' => e = .returned (.bool true) ∧ Below w.heap.size w w' := by
  have hl' : ¬ 400 < l.length := by omega
  have hm6 : l.length + 6 ≤ maxLen := by unfold maxLen; omega
  have hm' : c ≤ 9223372036854775807 := hm
  have hc6 : l.length ≤ l.length + 6 := by omega
  have hc : l.length ≤ c := _hc
  have h4' : ¬ ((l.length : Int) - 4 < 0) := by omega
  have h44 : (0 : Int) ≤ (l.length : Int) - 4 := by omega
  have E4 := Lib.hid (show (l.length : Int) - 4 = ((l.length - 4 : Nat) : Int) by omega)
  have HLT := Lib.hid (show (l.take (l.length - 4)).length = l.length - 4 by rw [List.length_take]; omega)
  have HDT := Lib.hid (show (l.drop (l.length - 4)).take 4 = l.drop (l.length - 4) from List.take_of_length_le (by rw [List.length_drop]; omega))
  obtain ⟨CS, hCS⟩ : ∃ CS, crcSum (l.take (l.length - 4)) = CS := ⟨_, rfl⟩
  have hC32 : CS < 4294967296 := by rw [← hCS]; exact crcSum_lt _
  have HCS := Lib.hid hCS
  have HN := Lib.hid (show num (l.drop (l.length - 4)) = CS from by rw [← hCS]; exact hok)
  clear hCS
  go_enter Tryd.func3, Tryd.ntmps3
  go_wp2_with fail
  refine (alive05_any w).mono ?_
  rintro e w1 ⟨rfl, hb1⟩
  have hs1 := hs.below hb1
  go_wp2_with fail
  refine (bytes_any w1 p l c w.heap.size (by omega) hs1 hb1.size).mono ?_
  rintro e w2 ⟨rfl, hin, hb2⟩
  have h02 := hb1.trans (hb2.mono hb1.size)
  have hsi := copy_sl hin
  have hlt2 := hin.lt
  have hE2 := hE.below h02
  go_wp2_with fail
  refine (open_ok w2 _ l (l.length + 6) h4 hc6 hm6 (by omega) (hsi.more hlt2) hok).mono ?_
  rintro e w3 ⟨v3, rfl, hown3, hb3⟩
  have h03 := h02.trans (hb3.mono h02.size)
  obtain ⟨q3, c3, rfl, hsl3, hc3, hm3⟩ := own_sl hown3
  clear hown3
  have hin3 := hin.kept hb3
  have hlt3 := hin3.lt
  have hs3 := hs.below h03
  have hsi3 := copy_sl hin3
  have HRT := Lib.hid (fun wx (hC : Below w3.heap.size w3 wx) => (right_any wx (some ⟨w1.heap.size, 0, none⟩) l (l.length + 6) (w1.heap.size + 1) true (Nat.le_trans hlt3 hC.size) h4 (by omega) hm6 (by omega) (hsi3.below (hC.mono hlt3)) ⟨fun _ => hok, fun _ => rfl⟩))
  have HKEPT := Lib.hid (fun wx (hC : Below w3.heap.size w3 wx) => (kept_any wx w1.heap.size p l c w.heap.size (by omega) (hs3.below (hC.mono h03.size)) (hin3.below hC hlt3)).mono fun e w' ⟨he, hw⟩ => (⟨he, hw ▸ Below.refl _ _⟩ : e = Ending.returned (.bool true) ∧ Below wx.heap.size wx w'))
  clear hs1 hb1 hin hb2 hsi hE2 h02
  go_wp2_with fail
  refine wp_region_grow (Below w3.heap.size w3) (fun u u' => Below u.heap.size u u') (.is (.slice (some ⟨w1.heap.size, 0, none⟩) l.length (l.length + 6)) :: .is (.bool true) :: .is .nilIface :: .is (.bool true) :: .is (.bool false) :: .is (.bool false) :: .is (.slice (some ⟨w1.heap.size, 0, none⟩) l.length (l.length + 6)) :: .is (.slice p l.length c) :: .is (.bool true) :: .is (.bool false) :: .is (.bool false) :: []) (by kernel_rfl) (by kernel_rfl) (fun u u' h hC => hC.trans (h.mono hC.size)) (by repeat (first | exact trivial | refine ⟨by first | exact stay_is | exact stay_parts _, ?_⟩)) ((Below.refl _ _).drew) ?h
  case h =>
    refine wpT_is (fun _ => Below.refl _ _) rfl (fun wx hC hS => by go_simp <;> rfl) ?_
    simp only [Act.put, List.setIfInBounds_toArray, List.set_cons_zero, List.set_cons_succ]
    refine wpT_callIs rfl (fun wx hC _ => by go_simp <;> first | exact ⟨rfl, rfl⟩ | rfl) (fun wx hC hS => HRT.out wx hC) ?_
    simp only [Act.put, List.setIfInBounds_toArray, List.set_cons_zero, List.set_cons_succ]
    refine wpT_is (fun _ => Below.refl _ _) rfl (fun wx hC hS => by go_simp <;> rfl) ?_
    simp only [Act.put, List.setIfInBounds_toArray, List.set_cons_zero, List.set_cons_succ]
    refine wpT_is (fun _ => Below.refl _ _) rfl (fun wx hC hS => by go_simp <;> rfl) ?_
    simp only [Act.put, List.setIfInBounds_toArray, List.set_cons_zero, List.set_cons_succ]
    refine wpT_is (fun _ => Below.refl _ _) rfl (fun wx hC hS => by go_simp <;> rfl) ?_
    simp only [Act.put, List.setIfInBounds_toArray, List.set_cons_zero, List.set_cons_succ]
    refine wpT_is (fun _ => Below.refl _ _) rfl (fun wx hC hS => by go_simp <;> rfl) ?_
    simp only [Act.put, List.setIfInBounds_toArray, List.set_cons_zero, List.set_cons_succ]
    refine wpT_is (fun _ => Below.refl _ _) rfl (fun wx hC hS => by go_simp <;> rfl) ?_
    simp only [Act.put, List.setIfInBounds_toArray, List.set_cons_zero, List.set_cons_succ]
    refine wpT_is (fun _ => Below.refl _ _) rfl (fun wx hC hS => by go_simp <;> rfl) ?_
    simp only [Act.put, List.setIfInBounds_toArray, List.set_cons_zero, List.set_cons_succ]
    refine wpT_callIs rfl (fun wx hC _ => by go_simp <;> first | exact ⟨rfl, rfl⟩ | rfl) (fun wx hC hS => HKEPT.out wx hC) ?_
    simp only [Act.put, List.setIfInBounds_toArray, List.set_cons_zero, List.set_cons_succ]
    refine wpT_is (fun _ => Below.refl _ _) rfl (fun wx hC hS => by go_simp <;> rfl) ?_
    simp only [Act.put, List.setIfInBounds_toArray, List.set_cons_zero, List.set_cons_succ]
    refine wpT_is (fun _ => Below.refl _ _) rfl (fun wx hC hS => by go_simp <;> rfl) ?_
    simp only [Act.put, List.setIfInBounds_toArray, List.set_cons_zero, List.set_cons_succ]
    refine wpT_nil fun wb hbb _ => ?_
    have h0b := h03.trans (hbb.mono h03.size)
    have hEb := hE.below h0b
    have hsb := hs.below h0b
    have hslb := hsl3.below hbb
    have hz3b : w3.heap.size ≤ wb.heap.size := hbb.size
    have hcut := cut_head p l.length c (l.length - 4) (by omega)
    have HCUT := Lib.hid hcut
    have EX := Lib.hid (fun wx (hC : Below wb.heap.size wb wx) => by
      have h := (hslb.below (hC.mono hz3b)).string c3
      rw [HLT.out] at h
      exact h)
    have ET := Lib.hid (fun wx (hC : Below wb.heap.size wb wx) => by
      have h := ((hsb.head_ (l.length - 4)).below (hC.mono h0b.size)).string c
      rw [HLT.out] at h
      exact h)
    clear hcut
    have HSUM := refSum_any wb p (l.take (l.length - 4)) c w.heap.size (by rw [HLT.out]; omega) (hsb.head_ _)
    rw [HLT.out, HCS.out] at HSUM
    have HFX := fixed_any wb p l c (l.length - 4) 4 w.heap.size (by omega) (by omega) (by omega) hsb
    rw [HDT.out, HN.out] at HFX
    have HFX := Lib.hid HFX
    go_wp2_with fail
    refine HSUM.mono ?_
    rintro e wd ⟨rfl, rfl⟩
    go_wp2_with fail
    rw [E4.out]
    refine HFX.out.mono ?_
    rintro e wd ⟨rfl, rfl⟩
    go_wp2_with fail
    refine wp_region_grow (Below wb.heap.size wb) (fun u u' => Below u.heap.size u u') (.is .nilIface :: .is (.bool true) :: .is (.bool true) :: .is (.slice q3 (l.length - 4) c3) :: .is (.string (str (l.take (l.length - 4)))) :: .is (.slice p l.length c) :: .is (.int .i64 ((l.length - 4 : Nat) : Int)) :: .is (.slice p (l.length - 4) c) :: .is (.string (str (l.take (l.length - 4)))) :: .is (.bool true) :: .is (.bool true) :: .is (.bool true) :: []) (by kernel_rfl) (by kernel_rfl) (fun u u' h hC => hC.trans (h.mono hC.size)) (by repeat (first | exact trivial | refine ⟨by first | exact stay_is | exact stay_parts _, ?_⟩)) ((Below.refl _ _).drew) ?h9
    case h9 =>
      refine wpT_is (fun _ => Below.refl _ _) rfl (fun wx hC hS => by go_simp <;> rfl) ?_
      simp only [Act.put, List.setIfInBounds_toArray, List.set_cons_zero, List.set_cons_succ]
      refine wpT_is (fun _ => Below.refl _ _) rfl (fun wx hC hS => by go_simp <;> rfl) ?_
      simp only [Act.put, List.setIfInBounds_toArray, List.set_cons_zero, List.set_cons_succ]
      refine wpT_is (fun _ => Below.refl _ _) rfl (fun wx hC hS => by go_simp <;> rfl) ?_
      simp only [Act.put, List.setIfInBounds_toArray, List.set_cons_zero, List.set_cons_succ]
      refine wpT_is (fun _ => Below.refl _ _) rfl (fun wx hC hS => by go_simp <;> rfl) ?_
      simp only [Act.put, List.setIfInBounds_toArray, List.set_cons_zero, List.set_cons_succ]
      refine wpT_is (fun _ => Below.refl _ _) rfl (fun wx hC hS => by have ex := EX.out wx hC; go_simp <;> rfl) ?_
      simp only [Act.put, List.setIfInBounds_toArray, List.set_cons_zero, List.set_cons_succ]
      refine wpT_is (fun _ => Below.refl _ _) rfl (fun wx hC hS => by go_simp <;> rfl) ?_
      simp only [Act.put, List.setIfInBounds_toArray, List.set_cons_zero, List.set_cons_succ]
      refine wpT_is (fun _ => Below.refl _ _) rfl (fun wx hC hS => by go_simp <;> rfl) ?_
      simp only [Act.put, List.setIfInBounds_toArray, List.set_cons_zero, List.set_cons_succ]
      refine wpT_is (fun _ => Below.refl _ _) rfl (fun wx hC hS => by have ec := HCUT.out; go_simp <;> rfl) ?_
      simp only [Act.put, List.setIfInBounds_toArray, List.set_cons_zero, List.set_cons_succ]
      refine wpT_is (fun _ => Below.refl _ _) rfl (fun wx hC hS => by have ex := ET.out wx hC; go_simp <;> rfl) ?_
      simp only [Act.put, List.setIfInBounds_toArray, List.set_cons_zero, List.set_cons_succ]
      refine wpT_is (fun _ => Below.refl _ _) rfl (fun wx hC hS => by go_simp <;> rfl) ?_
      simp only [Act.put, List.setIfInBounds_toArray, List.set_cons_zero, List.set_cons_succ]
      refine wpT_is (fun _ => Below.refl _ _) rfl (fun wx hC hS => by go_simp <;> rfl) ?_
      simp only [Act.put, List.setIfInBounds_toArray, List.set_cons_zero, List.set_cons_succ]
      refine wpT_is (fun _ => Below.refl _ _) rfl (fun wx hC hS => by go_simp <;> rfl) ?_
      simp only [Act.put, List.setIfInBounds_toArray, List.set_cons_zero, List.set_cons_succ]
      refine wpT_nil fun wf hbf _ => ?_
      have h0f := h0b.trans (hbf.mono h0b.size)
      go_wp2_with fail
      go_ret
      exact ⟨rfl, h0f⟩

set_option maxRecDepth 100000 in
theorem opens_any (w : World) (A : Nat → Addr) (hE : Errs w A) (p : Option Addr) (l : List UInt8) (c : Nat) (hc : l.length ≤ c) (hm : c ≤ maxLen) (hs : Sl w w.heap.size p l) :
    Calls Tryd.prog 3 #[.slice p l.length c] w fun e w' => e = .returned (.bool true) ∧ Below w.heap.size w w' := by
  by_cases h : l.length ≤ 400
  · by_cases h4 : l.length < 4
    · exact opens_short w A hE p l c hc hm h hs h4
    · by_cases hok : crcOk l
      · exact opens_ok w A hE p l c hc hm h hs (by omega) hok
      · exact opens_bad w A hE p l c hc hm h hs (by omega) hok
  · have h' : 400 < l.length := by omega
    go_enter Tryd.func3, Tryd.ntmps3
    go_wp2_with fail
    refine (alive05_any w).mono ?_
    rintro e w1 ⟨rfl, hb1⟩
    go_wp2_with fail
    go_ret
    exact ⟨rfl, hb1⟩
end Go.Proofs.YtgedbeghegncoaaDoor
