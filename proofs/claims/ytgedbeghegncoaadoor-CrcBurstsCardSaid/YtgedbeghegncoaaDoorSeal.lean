/- The contracts of crc.split, Right and Seal. Condition: fewer than 2^46 bytes. -/
import Derived.Test.YtgedbeghegncoaaDoorProg
import Derived.Test.YtgedbeghegncoaaDoorMem
import Derived.Test.YtgedbeghegncoaaDoorRow
import Derived.Test.YtgedbeghegncoaaDoorNums
import Derived.Test.YtgedbeghegncoaaDoorJoin
import Derived.Test.YtgedbeghegncoaaDoorPut
import Derived.Test.YtgedbeghegncoaaDoorStr
import Derived.Test.YtgedbeghegncoaaDoorCrcMath
import Derived.Test.YtgedbeghegncoaaDoorCrc
import Derived.Deep.QuietTactic
import Derived.BigQuiet
import Derived.WalkSpells
namespace Go.Proofs.YtgedbeghegncoaaDoor
open Go.RowKit

theorem Sl.head_ {w : World} {B : Nat} {p : Option Addr} {l : List UInt8} (h : Sl w B p l) (k : Nat) : Sl w B p (l.take k) := fun hl => by
  obtain ⟨b, o, e, hlt, hc⟩ := h (by rw [List.length_take] at hl; omega)
  refine ⟨b, o, e, hlt, fun i x hx => hc i x ?_⟩
  rw [List.getElem?_take] at hx
  split at hx
  · exact hx
  · cases hx
theorem num_inj : ∀ (a b : List UInt8), a.length = b.length → num a = num b → a = b
  | [], [], _, _ => rfl
  | x :: a, y :: b, hl, h => by
    have hx := x.toNat_lt
    have hy := y.toNat_lt
    simp only [num] at h
    have h1 : x.toNat = y.toNat := by omega
    have h2 : num a = num b := by omega
    rw [UInt8.toNat_inj.1 h1, num_inj a b (by simpa using hl) h2]
  | [], _ :: _, h, _ => by simp at h
  | _ :: _, [], h, _ => by simp at h
theorem le_eq_num (t : List UInt8) (n : Nat) (ht : t.length = 4) (hn : n < 4294967296) : (t == le n 4) = decide (num t = n) := by
  have h4 : num (le n 4) = n := by rw [num_le]; exact Nat.mod_eq_of_lt (by simpa using hn)
  by_cases h : num t = n
  · have e : t = le n 4 := num_inj _ _ (by rw [ht, le_length]) (by rw [h, h4])
    simp [e, h4]
  · have e : ¬ t = le n 4 := fun e => h (by rw [e, h4])
    simp [h, e]

set_option maxRecDepth 100000 in
set_option maxHeartbeats 1000000 in
theorem split_any (w : World) (p : Option Addr) (l : List UInt8) (c B : Nat) (h4 : 4 ≤ l.length) (hc : l.length ≤ c) (hm : c ≤ maxLen) (hs : Sl w B p l) :
    Calls Tryd.prog 17 #[.slice p l.length c] w fun e w' => ∃ c1 q c2 n, e = .returned (.tuple #[.slice p (l.take (l.length - 4)).length c1, .slice q (l.drop (l.length - 4)).length c2]) ∧
      Sl w B q (l.drop (l.length - 4)) ∧ w' = w.drewN n := by
  have hsl := hs.after (l.length - 4)
  have hm' : c ≤ 9223372036854775807 := hm
  clear hm
  go_enter Tryd.func17, Tryd.ntmps17
  go_wp2_with fail
  go_quiet (fail)
  go_wp2_with fail
  go_ret2
  refine ⟨c, _, c - (l.length - 4), nq, ?_, hsl, rfl⟩
  rw [List.length_take, List.length_drop, Nat.min_eq_left (by omega)]
  rfl

/-- The one part that a call of Sum gets. -/
theorem one_part {w : World} {B : Nat} {p : Option Addr} {l : List UInt8} (c : Nat) (t : TypeId) (hs : Sl w B p l) (hB : B ≤ w.heap.size) :
    Parts (w.alloc (.cells #[.slice p l.length c] t)) (w.heap.size + 1) (some ⟨w.heap.size, 0, none⟩) [⟨p, l, c⟩] := by
  have h := Parts.made (u := w) (B := B) (t := t) (cs := #[.slice p l.length c]) (xs := [⟨p, l, c⟩]) rfl (by
    intro x hx
    rw [List.mem_singleton] at hx
    subst hx
    exact hs) hB
  exact h
theorem flat_one (p : Option Addr) (l : List UInt8) (c : Nat) : flat [⟨p, l, c⟩] = l := by simp [flat]
/-- Sum of one row. -/
theorem sum_one (w : World) (p : Option Addr) (l : List UInt8) (c B : Nat) (t : TypeId) (hB : B ≤ w.heap.size) (hl : l.length ≤ 140737488351232) (hs : Sl w B p l) :
    Calls Tryd.prog 16 #[.slice (some ⟨w.heap.size, 0, none⟩) 1 1] (w.alloc (.cells #[.slice p l.length c] t)) fun e w' => e = .returned (.int .u32 (crcSum l : Nat)) ∧ Below w.heap.size w w' := by
  refine (sum_any _ _ [⟨p, l, c⟩] 1 (w.heap.size + 1) (by simp) (one_part c t hs hB) (fun x hx => by rw [List.mem_singleton] at hx; subst hx; exact hl) (by simp)).mono ?_
  rintro e w' ⟨he, hb⟩
  rw [flat_one] at he
  exact ⟨he, ((Below.refl _ _).alloc (Nat.le_refl _) _).trans (hb.mono (by simp))⟩

set_option maxRecDepth 100000 in
theorem right_short (w : World) (p : Option Addr) (l : List UInt8) (c : Nat) (h4 : l.length < 4) :
    Calls Tryd.prog 9 #[.slice p l.length c] w fun e w' => e = .returned (.bool false) ∧ w = w' := by
  go_enter Tryd.func9, Tryd.ntmps9
  go_wp2_with fail
  go_ret
  exact ⟨rfl, rfl⟩
set_option maxRecDepth 100000 in
set_option maxHeartbeats 1000000 in
theorem right_any (w : World) (p : Option Addr) (l : List UInt8) (c B : Nat) (b : Bool) (hB : B ≤ w.heap.size) (h4 : 4 ≤ l.length) (hc : l.length ≤ c) (hm : c ≤ maxLen) (hl : l.length ≤ 140737488351232) (hs : Sl w B p l) (hb : b = true ↔ crcOk l) :
    Calls Tryd.prog 9 #[.slice p l.length c] w fun e w' => e = .returned (.bool b) ∧ Below w.heap.size w w' := by
  have h4' : ¬ l.length < 4 := by omega
  have hdl : (l.drop (l.length - 4)).length = 4 := by rw [List.length_drop]; omega
  have htl : (l.take (l.length - 4)).length ≤ 140737488351232 := by rw [List.length_take]; omega
  have hst : Sl w B p (l.take (l.length - 4)) := hs.head_ _
  have hbe := le_eq_num (l.drop (l.length - 4)) (crcSum (l.take (l.length - 4))) hdl (crcSum_lt _)
  have hbb : (l.drop (l.length - 4) == le (crcSum (l.take (l.length - 4))) 4) = b := by
    rw [hbe, Bool.eq_iff_iff, decide_eq_true_iff, hb]
    rfl
  have HBB := Lib.hid hbb
  have HDL := Lib.hid hdl
  clear hbe hbb hb hdl
  go_enter Tryd.func9, Tryd.ntmps9
  go_wp2_with fail
  refine (split_any w p l c B h4 hc hm hs).mono ?_
  rintro e w1 ⟨c1, q, c2, n, rfl, hsq, rfl⟩
  generalize hT : l.take (l.length - 4) = T at *
  generalize hD : l.drop (l.length - 4) = D at *
  clear hT hD
  have hsT : Sl (w.drewN n) B p T := hst
  have hsD : Sl (w.drewN n) B q D := hsq
  have b1 : Below w.heap.size w (w.drewN n) := below_drewN (Below.refl _ _) n
  have hB1 : B ≤ (w.drewN n).heap.size := hB
  have hz1 : w.heap.size ≤ (w.drewN n).heap.size := Nat.le_refl _
  generalize w.drewN n = w1 at *
  go_wp2_with fail
  refine (sum_one w1 p T c1 B _ hB1 htl hsT).mono ?_
  rintro e w2 ⟨rfl, b2⟩
  go_wp2_with fail
  refine (put32_any w2 none [] 0 (crcSum T) 0 (Nat.zero_le _) (by simp) (crcSum_lt T) (Sl.nil _ _ _)).mono ?_
  rintro e w3 ⟨v3, rfl, hown3, b3⟩
  rw [List.nil_append] at hown3
  obtain ⟨q3, c3, rfl, hsl3, hc3, hm3⟩ := own_sl hown3
  have hsD3 : Sl w3 w3.heap.size q D := ((hsD.below (b2.mono hB1)).below (b3.mono (Nat.le_trans hB1 b2.size))).more (Nat.le_trans hB1 (Nat.le_trans b2.size b3.size))
  go_wp2_with fail
  refine (equal_any w3 q q3 D (le (crcSum T) 4) c2 c3 w3.heap.size hsD3 hsl3).mono ?_
  rintro e w4 ⟨rfl, rfl⟩
  rw [HBB.out]
  go_wp2_with fail
  go_ret
  exact ⟨rfl, b1.trans ((b2.trans (b3.mono b2.size)).mono hz1)⟩

set_option maxRecDepth 100000 in
set_option maxHeartbeats 1000000 in
theorem seal_any (w : World) (p : Option Addr) (l : List UInt8) (c B : Nat) (hB : B ≤ w.heap.size) (hl : l.length ≤ 70368744177664) (hs : Sl w B p l) :
    Calls Tryd.prog 14 #[.slice p l.length c] w (Owned w (sealed l)) := by
  go_enter Tryd.func14, Tryd.ntmps14
  go_wp2_with fail
  refine (sum_one w p l c B _ hB (by omega) hs).mono ?_
  rintro e w2 ⟨rfl, b2⟩
  have hs2 := hs.below (b2.mono hB)
  go_wp2_with fail
  refine (put32_any w2 p l c (crcSum l) B (Nat.le_trans hB b2.size) hl (crcSum_lt l) hs2).mono ?_
  rintro e w3 ⟨v3, rfl, hown3, b3⟩
  go_wp2_with fail
  go_ret
  exact ⟨_, rfl, own_base hown3 b2.size, b2.trans (b3.mono b2.size)⟩
end Go.Proofs.YtgedbeghegncoaaDoor
