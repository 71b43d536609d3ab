/- The walk of CrcSeals: for all bytes the answer is true, and nothing that was there turns. No condition. -/
import Derived.Test.YtgedbeghegncoaaDoorProg
import Derived.Test.YtgedbeghegncoaaDoorMem
import Derived.Test.YtgedbeghegncoaaDoorRow
import Derived.Test.YtgedbeghegncoaaDoorBytes
import Derived.Test.YtgedbeghegncoaaDoorKept
import Derived.Test.YtgedbeghegncoaaDoorText
import Derived.Test.YtgedbeghegncoaaDoorNum
import Derived.Test.YtgedbeghegncoaaDoorRefPut
import Derived.Test.YtgedbeghegncoaaDoorCrcMath
import Derived.Test.YtgedbeghegncoaaDoorCrcRef
import Derived.Test.YtgedbeghegncoaaDoorCrc
import Derived.Test.YtgedbeghegncoaaDoorSeal
import Derived.Test.YtgedbeghegncoaaDoorOpen
import Derived.Test.YtgedbeghegncoaaDoorAlive05
import Derived.Test.YtgedbeghegncoaaDoorGrow
import Derived.Test.YtgedbeghegncoaaDoorHolds
import Derived.Test.YtgedbeghegncoaaDoorCut
import Derived.Test.YtgedbeghegncoaaDoorOpensWalk
import Derived.RegionTactic
namespace Go.Proofs.YtgedbeghegncoaaDoor
open Go.RowKit

set_option maxRecDepth 100000 in
set_option maxHeartbeats 4000000 in
theorem seals_in (w : World) (p : Option Addr) (l : List UInt8) (c : Nat) (hl : l.length ≤ 400) (hs : Sl w w.heap.size p l) :
    Calls Tryd.prog 4 #[.slice p l.length c] w fun e w' => e = .returned (.bool true) ∧ Below w.heap.size w w' := by
  have hl' : ¬ 400 < l.length := by omega
  obtain ⟨S, hS⟩ : ∃ S, crcSum l = S := ⟨_, rfl⟩
  have hS32 : S < 4294967296 := by rw [← hS]; exact crcSum_lt _
  obtain ⟨X, hX⟩ : ∃ X, sealed l = X := ⟨_, rfl⟩
  have hXl : X.length = l.length + 4 := by rw [← hX]; simp [sealed, le_length]
  have HWR := Lib.hid (show IntKind.u64.wrap (S : Int) = (S : Int) from IntWalk.u64_in _ ⟨by omega, by omega⟩)
  have HSUM := Lib.hid hS
  have HX := Lib.hid hX
  have HXL := Lib.hid hXl
  have HXS := Lib.hid (show X = l ++ le S 4 by rw [← hX, ← hS]; rfl)
  have HOK := Lib.hid (show crcOk X by rw [← hX]; exact crcOk_sealed l)
  have HTK := Lib.hid (show X.take (X.length - 4) = l by rw [hXl, ← hX, Nat.add_sub_cancel]; unfold sealed; rw [List.take_left])
  clear hS hX hXl
  go_enter Tryd.func4, Tryd.ntmps4
  go_wp2_with fail
  refine (alive05_any w).mono ?_
  rintro e w1 ⟨rfl, hb1⟩
  have hs1 := hs.below hb1
  go_wp2_with fail
  refine (bytes_any w1 p l c w.heap.size (by omega) hs1 hb1.size).mono ?_
  rintro e w2 ⟨rfl, hin, hb2⟩
  have h02 := hb1.trans (hb2.mono hb1.size)
  have hsi := copy_sl hin
  have hlt2 := hin.lt
  go_wp2_with fail
  refine (seal_any w2 _ l (l.length + 6) (w1.heap.size + 1) hlt2 (by omega) hsi).mono ?_
  rintro e w3 ⟨v3, rfl, hown3, hb3⟩
  rw [HX.out] at hown3
  obtain ⟨q3, c3, rfl, hsl3, hc3, hm3⟩ := own_sl hown3
  rw [HXL.out]
  have h03 := h02.trans (hb3.mono h02.size)
  have hin3 := hin.kept hb3
  have hlt3 := hin3.lt
  have hs3 := hs.below h03
  have HREF := Lib.hid (fun wx (hC : Below w3.heap.size w3 wx) => by
    have h := refSum_any wx p l c w.heap.size (by omega) (hs3.below (hC.mono h03.size))
    rw [HSUM.out] at h
    exact h.mono fun e w' ⟨he, hw⟩ => (⟨he, hw ▸ Below.refl _ _⟩ : e = Ending.returned (.int .u32 (S : Int)) ∧ Below wx.heap.size wx w'))
  have HPUT := Lib.hid (fun wx (hC : Below w3.heap.size w3 wx) => (refPut4_any wx p l c S w.heap.size (Nat.le_trans h03.size hC.size) (by omega) (by omega) (hs3.below (hC.mono h03.size))).mono fun e w' h => holds_of HXS.out h)
  have HKEPT := Lib.hid (fun wx (hC : Below w3.heap.size w3 wx) => (kept_any wx w1.heap.size p l c w.heap.size (by omega) (hs3.below (hC.mono h03.size)) (hin3.below hC hlt3)).mono fun e w' ⟨he, hw⟩ => (⟨he, hw ▸ Below.refl _ _⟩ : e = Ending.returned (.bool true) ∧ Below wx.heap.size wx w'))
  have HXX := Lib.hid (fun wx (hC : Below w3.heap.size w3 wx) => (hsl3.below hC).more hC.size)
  have EX := Lib.hid (fun wx (hC : Below w3.heap.size w3 wx) => by
    have h := (HXX.out wx hC).string c3
    rw [HXL.out] at h
    exact h)
  clear hs1 hb1 hin hb2 hsi h02 hown3
  go_wp2_with fail
  refine wp_region_grow (Below w3.heap.size w3) (fun u u' => Below u.heap.size u u') (.is (.slice q3 (l.length + 4) c3) :: .is (.string (str X)) :: .is (.slice p l.length c) :: .is (.slice p l.length c) :: .is (.int .u32 (S : Int)) :: .is (.int .u64 (S : Int)) :: .of (Holds X) :: .is (.string (str X)) :: .is (.bool false) :: .is (.bool false) :: .is (.slice (some ⟨w1.heap.size, 0, none⟩) l.length (l.length + 6)) :: .is (.slice p l.length c) :: .is (.bool true) :: .is (.bool false) :: .is (.bool false) :: []) (by kernel_rfl) (by kernel_rfl) (fun u u' h hC => hC.trans (h.mono hC.size)) (by repeat (first | exact trivial | refine ⟨by first | exact stay_is | exact stay_holds _, ?_⟩)) ((Below.refl _ _).drew) ?h
  case h =>
    refine wpT_is (fun _ => Below.refl _ _) rfl (fun wx hC hS => by go_simp <;> rfl) ?_
    simp only [Act.put, List.setIfInBounds_toArray, List.set_cons_zero, List.set_cons_succ]
    refine wpT_is (fun _ => Below.refl _ _) rfl (fun wx hC hS => by have ex := EX.out wx hC; go_simp <;> rfl) ?_
    simp only [Act.put, List.setIfInBounds_toArray, List.set_cons_zero, List.set_cons_succ]
    refine wpT_is (fun _ => Below.refl _ _) rfl (fun wx hC hS => by go_simp <;> rfl) ?_
    simp only [Act.put, List.setIfInBounds_toArray, List.set_cons_zero, List.set_cons_succ]
    refine wpT_is (fun _ => Below.refl _ _) rfl (fun wx hC hS => by go_simp <;> rfl) ?_
    simp only [Act.put, List.setIfInBounds_toArray, List.set_cons_zero, List.set_cons_succ]
    refine wpT_callIs rfl (fun wx hC _ => by go_simp <;> first | exact ⟨rfl, rfl⟩ | rfl) (fun wx hC hS => HREF.out wx hC) ?_
    simp only [Act.put, List.setIfInBounds_toArray, List.set_cons_zero, List.set_cons_succ]
    refine wpT_is (fun _ => Below.refl _ _) rfl (fun wx hC hS => by have hw := HWR.out; go_simp <;> rfl) ?_
    simp only [Act.put, List.setIfInBounds_toArray, List.set_cons_zero, List.set_cons_succ]
    refine wpT_call rfl (fun wx hC _ => by go_simp <;> first | exact ⟨rfl, rfl⟩ | rfl) (fun wx hC hS => HPUT.out wx hC) (fun v1 => ?_)
    simp only [Act.put, List.setIfInBounds_toArray, List.set_cons_zero, List.set_cons_succ]
    refine wpT_is (fun _ => Below.refl _ _) rfl (fun wx hC hS => by obtain ⟨q5, c5, rfl, hs5⟩ : Holds X v1 wx := hS.get (d := 22) (by repeat (first | exact List.mem_cons_self | apply List.mem_cons_of_mem)) rfl; have ex := hs5.string c5; go_simp <;> rfl) ?_
    simp only [Act.put, List.setIfInBounds_toArray, List.set_cons_zero, List.set_cons_succ]
    refine wpT_is (fun _ => Below.refl _ _) rfl (fun wx hC hS => by go_simp <;> rfl) ?_
    simp only [Act.put, List.setIfInBounds_toArray, List.set_cons_zero, List.set_cons_succ]
    refine wpT_is (fun _ => Below.refl _ _) rfl (fun wx hC hS => by go_simp <;> rfl) ?_
    simp only [Act.put, List.setIfInBounds_toArray, List.set_cons_zero, List.set_cons_succ]
    refine wpT_is (fun _ => Below.refl _ _) rfl (fun wx hC hS => by go_simp <;> rfl) ?_
    simp only [Act.put, List.setIfInBounds_toArray, List.set_cons_zero, List.set_cons_succ]
    refine wpT_is (fun _ => Below.refl _ _) rfl (fun wx hC hS => by go_simp <;> rfl) ?_
    simp only [Act.put, List.setIfInBounds_toArray, List.set_cons_zero, List.set_cons_succ]
    refine wpT_callIs rfl (fun wx hC _ => by go_simp <;> first | exact ⟨rfl, rfl⟩ | rfl) (fun wx hC hS => HKEPT.out wx hC) ?_
    simp only [Act.put, List.setIfInBounds_toArray, List.set_cons_zero, List.set_cons_succ]
    refine wpT_is (fun _ => Below.refl _ _) rfl (fun wx hC hS => by go_simp <;> rfl) ?_
    simp only [Act.put, List.setIfInBounds_toArray, List.set_cons_zero, List.set_cons_succ]
    refine wpT_is (fun _ => Below.refl _ _) rfl (fun wx hC hS => by go_simp <;> rfl) ?_
    simp only [Act.put, List.setIfInBounds_toArray, List.set_cons_zero, List.set_cons_succ]
    refine wpT_nil fun wb hbb _ => ?_
    have h0b := h03.trans (hbb.mono h03.size)
    have hsb := hs.below h0b
    have HOP := open_ok wb q3 X c3 (by rw [HXL.out]; omega) hc3 hm3 (by rw [HXL.out]; omega) (HXX.out wb hbb) HOK.out
    rw [HTK.out, HXL.out] at HOP
    have HOP := Lib.hid HOP
    go_wp2_with fail
    refine HOP.out.mono ?_
    rintro e wd ⟨v4, rfl, hown4, hb4⟩
    obtain ⟨q4, c4, rfl, hsl4, _, _⟩ := own_sl hown4
    have h0d := h0b.trans (hb4.mono h0b.size)
    have ex := hsl4.string c4
    have ey := (hs.below h0d).string c
    clear hown4 HOP
    go_wp2_with fail
    go_ret
    exact ⟨rfl, h0d⟩

set_option maxRecDepth 100000 in
theorem seals_any (w : World) (p : Option Addr) (l : List UInt8) (c : Nat) (hs : Sl w w.heap.size p l) :
    Calls Tryd.prog 4 #[.slice p l.length c] w fun e w' => e = .returned (.bool true) ∧ Below w.heap.size w w' := by
  by_cases h : l.length ≤ 400
  · exact seals_in w p l c h hs
  · have h' : 400 < l.length := by omega
    go_enter Tryd.func4, Tryd.ntmps4
    go_wp2_with fail
    refine (alive05_any w).mono ?_
    rintro e w1 ⟨rfl, hb1⟩
    go_wp2_with fail
    go_ret
    exact ⟨rfl, hb1⟩
end Go.Proofs.YtgedbeghegncoaaDoor
