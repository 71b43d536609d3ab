/- The walk of CrcSums: for all bytes and every place the answer is true, and nothing that was there turns. No condition. -/
import Derived.Test.YtgedbeghegncoaaProg
import Derived.Test.YtgedbeghegncoaaMem
import Derived.Test.YtgedbeghegncoaaRow
import Derived.Test.YtgedbeghegncoaaBytes
import Derived.Test.YtgedbeghegncoaaKept
import Derived.Test.YtgedbeghegncoaaCut
import Derived.Test.YtgedbeghegncoaaCrcMath
import Derived.Test.YtgedbeghegncoaaCrcRef
import Derived.Test.YtgedbeghegncoaaCrc
import Derived.Test.YtgedbeghegncoaaCrcMore
import Derived.Test.YtgedbeghegncoaaSeal
import Derived.Test.YtgedbeghegncoaaAlive05
import Derived.Test.YtgedbeghegncoaaGrow
import Derived.Test.YtgedbeghegncoaaParts
import Derived.RegionTactic
namespace Go.Proofs.Ytgedbeghegncoaa
open Go.RowKit

theorem place_in (x : Int) (L : Nat) (hL : L ≤ 1000000) : ∃ k : Nat, k ≤ L ∧ wrap64 ((IntKind.u64.wrap x).tmod ((L : Int) + 1)) = (k : Int) := by
  obtain ⟨y, hy, h0, h1⟩ : ∃ y, IntKind.u64.wrap x = y ∧ 0 ≤ y ∧ y < 18446744073709551616 := ⟨_, rfl, by rw [IntKind.wrap_u64]; omega, by rw [IntKind.wrap_u64]; omega⟩
  rw [hy, Int.tmod_eq_emod_of_nonneg h0]
  have h2 : 0 ≤ y % ((L : Int) + 1) := Int.emod_nonneg _ (by omega)
  have h3 : y % ((L : Int) + 1) < (L : Int) + 1 := Int.emod_lt_of_pos _ (by omega)
  refine ⟨(y % ((L : Int) + 1)).toNat, by omega, ?_⟩
  simp only [wrap64]
  omega
theorem sum_take_drop (l : List UInt8) (k : Nat) : crcF (crcSum (l.take k) ^^^ 4294967295) (l.drop k) ^^^ 4294967295 = crcSum l := by
  conv => rhs; rw [← List.take_append_drop k l, crcSum_append]

set_option maxRecDepth 100000 in
set_option maxHeartbeats 4000000 in
theorem sums_in (w : World) (p : Option Addr) (l : List UInt8) (c : Nat) (x : Int) (hl : l.length ≤ 400) (hc : l.length ≤ c) (hs : Sl w w.heap.size p l) :
    Calls Try.prog 3 #[.slice p l.length c, .int .i64 x] w fun e w' => e = .returned (.bool true) ∧ Below w.heap.size w w' := by
  have hl' : ¬ 400 < l.length := by omega
  obtain ⟨k, hk, hkx⟩ := place_in x l.length (by omega)
  obtain ⟨S, hS⟩ : ∃ S, crcSum l = S := ⟨_, rfl⟩
  obtain ⟨R, hR⟩ : ∃ R, crcSum (l.take k) = R := ⟨_, rfl⟩
  obtain ⟨q, hq⟩ : ∃ q, q = if c = k then p else Option.map (fun x => x.add k) p := ⟨_, rfl⟩
  have hsq : Sl w w.heap.size q (l.drop k) := by rw [hq]; exact hs.behind k c hc
  have hR32 : R < 4294967296 := by rw [← hR]; exact crcSum_lt _
  have HSUM := Lib.hid hS
  have HRR := Lib.hid hR
  have HMM := Lib.hid (show crcF (R ^^^ 4294967295) (l.drop k) ^^^ 4294967295 = S from by rw [← hR, ← hS]; exact sum_take_drop l k)
  have HLT := Lib.hid (show (l.take k).length = k by rw [List.length_take]; omega)
  have HLD := Lib.hid (show (l.drop k).length = l.length - k by rw [List.length_drop])
  have HX1 := Lib.hid (show ∀ x ∈ ([⟨some ⟨0, 0, none⟩, l, l.length + 6⟩] : List Part), x.l.length ≤ 140737488351232 from fun x hx => by rw [List.mem_singleton] at hx; subst hx; simp only; omega)
  have HCI := Lib.hid (fun g => cut_head (some ⟨g, 0, none⟩) l.length (l.length + 6) k (by omega))
  have HCP := Lib.hid (cut_head p l.length c k (by omega))
  have hcq := cut_tail p l.length c k hk
  rw [← hq] at hcq
  have HCQ := Lib.hid hcq
  clear HX1 hS hR hq hcq
  go_enter Try.func3, Try.ntmps3
  go_wp2_with fail
  refine (alive05_any w).mono ?_
  rintro e w1 ⟨rfl, hb1⟩
  have hs1 := hs.below hb1
  have HKX := Lib.hid hkx
  clear hkx
  go_wp2_with fail
  rw [HKX.out]
  refine (bytes_any w1 p l c w.heap.size (by omega) hs1 hb1.size).mono ?_
  rintro e w2 ⟨rfl, hin, hb2⟩
  have h02 := hb1.trans (hb2.mono hb1.size)
  have hs2 := hs.below h02
  have hq2 := hsq.below h02
  have hsi : Sl w2 (w1.heap.size + 1) (some ⟨w1.heap.size, 0, none⟩) l := Sl.of_blk hin (by omega) fun i x hx => by
    have hi : i < l.length := by
      rcases Nat.lt_or_ge i l.length with h | h
      · exact h
      · rw [List.getElem?_eq_none h] at hx; cases hx
    rw [List.getElem?_append_left (by simpa using hi), List.getElem?_map, hx]
    rfl
  have hlt2 := hin.lt
  go_wp2_with fail
  refine (refSum_any w2 p l c w.heap.size (by omega) hs2).mono ?_
  rintro e w3 ⟨he, rfl⟩
  rw [HSUM.out] at he
  subst he
  have HSI := Lib.hid (fun wx (hC : Below w2.heap.size w2 wx) => (hsi.below (hC.mono hlt2)).more (Nat.le_trans hlt2 hC.size))
  have HST := Lib.hid (fun wx (hC : Below w2.heap.size w2 wx) => (HSI.out wx hC).head_ k)
  have HSD := Lib.hid (fun wx (hC : Below w2.heap.size w2 wx) => (hq2.below (hC.mono h02.size)).more (Nat.le_trans h02.size hC.size))
  have HX1 := Lib.hid (show ∀ x ∈ ([⟨some ⟨w1.heap.size, 0, none⟩, l, l.length + 6⟩] : List Part), x.l.length ≤ 140737488351232 from fun x hx => by rw [List.mem_singleton] at hx; subst hx; simp only; omega)
  have HX2 := Lib.hid (show ∀ x ∈ ([⟨some ⟨w1.heap.size, 0, none⟩, l.take k, l.length + 6⟩, ⟨q, l.drop k, c - k⟩] : List Part), x.l.length ≤ 140737488351232 from fun x hx => by
    simp only [List.mem_cons, List.not_mem_nil, or_false] at hx
    rcases hx with rfl | rfl
    · simp only [HLT.out]; omega
    · simp only [HLD.out]; omega)
  have HS1 := Lib.hid (show crcSum (flat [⟨some ⟨w1.heap.size, 0, none⟩, l, l.length + 6⟩]) = S from by rw [flat_one]; exact HSUM.out)
  have HS2 := Lib.hid (show crcSum (flat [⟨some ⟨w1.heap.size, 0, none⟩, l.take k, l.length + 6⟩, ⟨q, l.drop k, c - k⟩]) = S from by
    rw [show flat [⟨some ⟨w1.heap.size, 0, none⟩, l.take k, l.length + 6⟩, ⟨q, l.drop k, c - k⟩] = l.take k ++ l.drop k from by simp [flat], List.take_append_drop]
    exact HSUM.out)
  have HREF := Lib.hid (fun wx (hC : Below w2.heap.size w2 wx) => by
    have h := refSum_any wx p (l.take k) c w.heap.size (by rw [HLT.out]; omega) ((hs2.below (hC.mono h02.size)).head_ k)
    rw [HLT.out, HRR.out] at h
    exact h.mono fun e w' ⟨he, hw⟩ => (⟨he, hw ▸ Below.refl _ _⟩ : e = Ending.returned (.int .u32 (R : Int)) ∧ Below wx.heap.size wx w'))
  have HMORE := Lib.hid (fun wx (hC : Below w2.heap.size w2 wx) => by
    have h := more_any wx R q (l.drop k) (c - k) w.heap.size (Nat.le_trans h02.size hC.size) hR32 (by rw [HLD.out]; omega) (hq2.below (hC.mono h02.size))
    rw [HLD.out, HMM.out] at h
    exact h)
  have HKEPT := Lib.hid (fun wx (hC : Below w2.heap.size w2 wx) => (kept_any wx w1.heap.size p l c w.heap.size (by omega) (hs2.below (hC.mono h02.size)) (hin.below hC hlt2)).mono fun e w' ⟨he, hw⟩ => (⟨he, hw ▸ Below.refl _ _⟩ : e = Ending.returned (.bool true) ∧ Below wx.heap.size wx w'))
  replace HCI := Lib.hid (HCI.out w1.heap.size)
  clear hs1 hs2 hq2 hsi hin hb2 hs hsq hb1
  go_wp2_with fail
  refine wp_region_grow (Below w2.heap.size w2) (fun u u' => Below u.heap.size u u') (.is (.slice (some ⟨w1.heap.size, 0, none⟩) l.length (l.length + 6)) :: .of (PartsV [⟨some ⟨w1.heap.size, 0, none⟩, l, l.length + 6⟩]) :: .is (.int .u32 (S : Int)) :: .is (.int .u32 (S : Int)) :: .is (.bool true) :: .is (.bool true) :: .is (.slice (some ⟨w1.heap.size, 0, none⟩) l.length (l.length + 6)) :: .is (.int .i64 (k : Int)) :: .is (.slice (some ⟨w1.heap.size, 0, none⟩) k (l.length + 6)) :: .is (.slice p l.length c) :: .is (.int .i64 (k : Int)) :: .is (.slice q (l.length - k) (c - k)) :: .of (PartsV [⟨some ⟨w1.heap.size, 0, none⟩, l.take k, l.length + 6⟩, ⟨q, l.drop k, c - k⟩]) :: .is (.int .u32 (S : Int)) :: .is (.int .u32 (S : Int)) :: .is (.bool true) :: .is (.bool true) :: .is (.bool true) :: .is (.slice p l.length c) :: .is (.int .i64 (k : Int)) :: .is (.slice p k c) :: .is (.int .u32 (R : Int)) :: .is (.slice p l.length c) :: .is (.int .i64 (k : Int)) :: .is (.slice q (l.length - k) (c - k)) :: .is (.int .u32 (S : Int)) :: .is (.int .u32 (S : Int)) :: .is (.bool true) :: .is (.bool true) :: .is (.bool true) :: .is (.int .u32 0) :: .is (.bool true) :: .is (.bool true) :: .is (.bool true) :: .is (.slice (some ⟨w1.heap.size, 0, none⟩) l.length (l.length + 6)) :: .is (.slice p l.length c) :: .is (.bool true) :: .is (.bool true) :: .is (.bool true) :: []) (by kernel_rfl) (by kernel_rfl) (fun u u' h hC => hC.trans (h.mono hC.size)) (by repeat (first | exact trivial | refine ⟨by first | exact stay_is | exact stay_parts _, ?_⟩)) ((Below.refl _ _).drew) ?h
  case h =>
    refine wpT_is (fun _ => Below.refl _ _) rfl (fun wx hC hS => by go_simp <;> rfl) ?_
    simp only [Act.put, List.setIfInBounds_toArray, List.set_cons_zero, List.set_cons_succ]
    refine wpT_val rfl (fun wx hC hS => ⟨_, _, by go_simp <;> rfl, (Below.refl _ _).alloc (Nat.le_refl _) _, partsV_one _ l _ _ rfl (HSI.out wx hC)⟩) (fun v1 => ?_)
    simp only [Act.put, List.setIfInBounds_toArray, List.set_cons_zero, List.set_cons_succ]
    refine wpT_callIs rfl (fun wx hC _ => by go_simp <;> first | exact ⟨rfl, rfl⟩ | rfl) (fun wx hC hS => (sum_parts (xs := [⟨some ⟨w1.heap.size, 0, none⟩, l, l.length + 6⟩]) (hS.get (d := 26) (by repeat (first | exact List.mem_cons_self | apply List.mem_cons_of_mem)) rfl) (HX1.out) (by simp) HS1.out)) ?_
    simp only [Act.put, List.setIfInBounds_toArray, List.set_cons_zero, List.set_cons_succ]
    refine wpT_is (fun _ => Below.refl _ _) rfl (fun wx hC hS => by go_simp <;> rfl) ?_
    simp only [Act.put, List.setIfInBounds_toArray, List.set_cons_zero, List.set_cons_succ]
    refine wpT_is (fun _ => Below.refl _ _) rfl (fun wx hC hS => by go_simp <;> rfl) ?_
    simp only [Act.put, List.setIfInBounds_toArray, List.set_cons_zero, List.set_cons_succ]
    refine wpT_is (fun _ => Below.refl _ _) rfl (fun wx hC hS => by go_simp <;> rfl) ?_
    simp only [Act.put, List.setIfInBounds_toArray, List.set_cons_zero, List.set_cons_succ]
    refine wpT_is (fun _ => Below.refl _ _) rfl (fun wx hC hS => by go_simp <;> rfl) ?_
    simp only [Act.put, List.setIfInBounds_toArray, List.set_cons_zero, List.set_cons_succ]
    refine wpT_is (fun _ => Below.refl _ _) rfl (fun wx hC hS => by go_simp <;> rfl) ?_
    simp only [Act.put, List.setIfInBounds_toArray, List.set_cons_zero, List.set_cons_succ]
    refine wpT_is (fun _ => Below.refl _ _) rfl (fun wx hC hS => by have ec := HCI.out; go_simp <;> rfl) ?_
    simp only [Act.put, List.setIfInBounds_toArray, List.set_cons_zero, List.set_cons_succ]
    refine wpT_is (fun _ => Below.refl _ _) rfl (fun wx hC hS => by go_simp <;> rfl) ?_
    simp only [Act.put, List.setIfInBounds_toArray, List.set_cons_zero, List.set_cons_succ]
    refine wpT_is (fun _ => Below.refl _ _) rfl (fun wx hC hS => by go_simp <;> rfl) ?_
    simp only [Act.put, List.setIfInBounds_toArray, List.set_cons_zero, List.set_cons_succ]
    refine wpT_is (fun _ => Below.refl _ _) rfl (fun wx hC hS => by have ec := HCQ.out; go_simp <;> rfl) ?_
    simp only [Act.put, List.setIfInBounds_toArray, List.set_cons_zero, List.set_cons_succ]
    refine wpT_val rfl (fun wx hC hS => ⟨_, _, by go_simp <;> rfl, (Below.refl _ _).alloc (Nat.le_refl _) _, partsV_two _ _ (l.take k) (l.drop k) _ _ _ _ HLT.out HLD.out (HST.out wx hC) (HSD.out wx hC)⟩) (fun v2 => ?_)
    simp only [Act.put, List.setIfInBounds_toArray, List.set_cons_zero, List.set_cons_succ]
    refine wpT_callIs rfl (fun wx hC _ => by go_simp <;> first | exact ⟨rfl, rfl⟩ | rfl) (fun wx hC hS => (sum_parts (xs := [⟨some ⟨w1.heap.size, 0, none⟩, l.take k, l.length + 6⟩, ⟨q, l.drop k, c - k⟩]) (hS.get (d := 37) (by repeat (first | exact List.mem_cons_self | apply List.mem_cons_of_mem)) rfl) (HX2.out) (by simp) HS2.out)) ?_
    simp only [Act.put, List.setIfInBounds_toArray, List.set_cons_zero, List.set_cons_succ]
    refine wpT_is (fun _ => Below.refl _ _) rfl (fun wx hC hS => by go_simp <;> rfl) ?_
    simp only [Act.put, List.setIfInBounds_toArray, List.set_cons_zero, List.set_cons_succ]
    refine wpT_is (fun _ => Below.refl _ _) rfl (fun wx hC hS => by go_simp <;> rfl) ?_
    simp only [Act.put, List.setIfInBounds_toArray, List.set_cons_zero, List.set_cons_succ]
    refine wpT_is (fun _ => Below.refl _ _) rfl (fun wx hC hS => by go_simp <;> rfl) ?_
    simp only [Act.put, List.setIfInBounds_toArray, List.set_cons_zero, List.set_cons_succ]
    refine wpT_is (fun _ => Below.refl _ _) rfl (fun wx hC hS => by go_simp <;> rfl) ?_
    simp only [Act.put, List.setIfInBounds_toArray, List.set_cons_zero, List.set_cons_succ]
    refine wpT_is (fun _ => Below.refl _ _) rfl (fun wx hC hS => by go_simp <;> rfl) ?_
    simp only [Act.put, List.setIfInBounds_toArray, List.set_cons_zero, List.set_cons_succ]
    refine wpT_is (fun _ => Below.refl _ _) rfl (fun wx hC hS => by go_simp <;> rfl) ?_
    simp only [Act.put, List.setIfInBounds_toArray, List.set_cons_zero, List.set_cons_succ]
    refine wpT_is (fun _ => Below.refl _ _) rfl (fun wx hC hS => by have ec := HCP.out; go_simp <;> rfl) ?_
    simp only [Act.put, List.setIfInBounds_toArray, List.set_cons_zero, List.set_cons_succ]
    refine wpT_callIs rfl (fun wx hC _ => by go_simp <;> first | exact ⟨rfl, rfl⟩ | rfl) (fun wx hC hS => HREF.out wx hC) ?_
    simp only [Act.put, List.setIfInBounds_toArray, List.set_cons_zero, List.set_cons_succ]
    refine wpT_is (fun _ => Below.refl _ _) rfl (fun wx hC hS => by go_simp <;> rfl) ?_
    simp only [Act.put, List.setIfInBounds_toArray, List.set_cons_zero, List.set_cons_succ]
    refine wpT_is (fun _ => Below.refl _ _) rfl (fun wx hC hS => by go_simp <;> rfl) ?_
    simp only [Act.put, List.setIfInBounds_toArray, List.set_cons_zero, List.set_cons_succ]
    refine wpT_is (fun _ => Below.refl _ _) rfl (fun wx hC hS => by have ec := HCQ.out; go_simp <;> rfl) ?_
    simp only [Act.put, List.setIfInBounds_toArray, List.set_cons_zero, List.set_cons_succ]
    refine wpT_callIs rfl (fun wx hC _ => by go_simp <;> first | exact ⟨rfl, rfl⟩ | rfl) (fun wx hC hS => HMORE.out wx hC) ?_
    simp only [Act.put, List.setIfInBounds_toArray, List.set_cons_zero, List.set_cons_succ]
    refine wpT_is (fun _ => Below.refl _ _) rfl (fun wx hC hS => by go_simp <;> rfl) ?_
    simp only [Act.put, List.setIfInBounds_toArray, List.set_cons_zero, List.set_cons_succ]
    refine wpT_is (fun _ => Below.refl _ _) rfl (fun wx hC hS => by go_simp <;> rfl) ?_
    simp only [Act.put, List.setIfInBounds_toArray, List.set_cons_zero, List.set_cons_succ]
    refine wpT_is (fun _ => Below.refl _ _) rfl (fun wx hC hS => by go_simp <;> rfl) ?_
    simp only [Act.put, List.setIfInBounds_toArray, List.set_cons_zero, List.set_cons_succ]
    refine wpT_is (fun _ => Below.refl _ _) rfl (fun wx hC hS => by go_simp <;> rfl) ?_
    simp only [Act.put, List.setIfInBounds_toArray, List.set_cons_zero, List.set_cons_succ]
    refine wpT_callIs rfl (fun wx hC _ => by go_simp <;> first | exact ⟨rfl, rfl⟩ | rfl) (fun wx hC hS => sum_none wx) ?_
    simp only [Act.put, List.setIfInBounds_toArray, List.set_cons_zero, List.set_cons_succ]
    refine wpT_is (fun _ => Below.refl _ _) rfl (fun wx hC hS => by go_simp <;> rfl) ?_
    simp only [Act.put, List.setIfInBounds_toArray, List.set_cons_zero, List.set_cons_succ]
    refine wpT_is (fun _ => Below.refl _ _) rfl (fun wx hC hS => by go_simp <;> rfl) ?_
    simp only [Act.put, List.setIfInBounds_toArray, List.set_cons_zero, List.set_cons_succ]
    refine wpT_is (fun _ => Below.refl _ _) rfl (fun wx hC hS => by go_simp <;> rfl) ?_
    simp only [Act.put, List.setIfInBounds_toArray, List.set_cons_zero, List.set_cons_succ]
    refine wpT_is (fun _ => Below.refl _ _) rfl (fun wx hC hS => by go_simp <;> rfl) ?_
    simp only [Act.put, List.setIfInBounds_toArray, List.set_cons_zero, List.set_cons_succ]
    refine wpT_is (fun _ => Below.refl _ _) rfl (fun wx hC hS => by go_simp <;> rfl) ?_
    simp only [Act.put, List.setIfInBounds_toArray, List.set_cons_zero, List.set_cons_succ]
    refine wpT_callIs rfl (fun wx hC _ => by go_simp <;> first | exact ⟨rfl, rfl⟩ | rfl) (fun wx hC hS => HKEPT.out wx hC) ?_
    simp only [Act.put, List.setIfInBounds_toArray, List.set_cons_zero, List.set_cons_succ]
    refine wpT_is (fun _ => Below.refl _ _) rfl (fun wx hC hS => by go_simp <;> rfl) ?_
    simp only [Act.put, List.setIfInBounds_toArray, List.set_cons_zero, List.set_cons_succ]
    refine wpT_is (fun _ => Below.refl _ _) rfl (fun wx hC hS => by go_simp <;> rfl) ?_
    simp only [Act.put, List.setIfInBounds_toArray, List.set_cons_zero, List.set_cons_succ]
    refine wpT_nil fun wb hbb _ => ?_
    have hbe := h02.trans (hbb.mono h02.size)
    go_wp2_with fail
    go_ret
    exact ⟨rfl, hbe⟩

set_option maxRecDepth 100000 in
theorem sums_any (w : World) (p : Option Addr) (l : List UInt8) (c : Nat) (x : Int) (hc : l.length ≤ c) (hs : Sl w w.heap.size p l) :
    Calls Try.prog 3 #[.slice p l.length c, .int .i64 x] w fun e w' => e = .returned (.bool true) ∧ Below w.heap.size w w' := by
  by_cases h : l.length ≤ 400
  · exact sums_in w p l c x h hc hs
  · have h' : 400 < l.length := by omega
    go_enter Try.func3, Try.ntmps3
    go_wp2_with fail
    refine (alive05_any w).mono ?_
    rintro e w1 ⟨rfl, hb1⟩
    go_wp2_with fail
    go_ret
    exact ⟨rfl, hb1⟩
end Go.Proofs.Ytgedbeghegncoaa
