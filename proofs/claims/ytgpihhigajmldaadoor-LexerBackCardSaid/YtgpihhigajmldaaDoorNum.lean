/- The contract of redlinenum.Num: the number of nil, and of each of package api's errors. Condition: the errors' variables hold pointers to different errors that errors.New made, as the program's text lays them. -/
import Derived.Test.YtgpihhigajmldaaDoorProg
import Derived.Test.YtgpihhigajmldaaDoorMem
import Derived.Test.YtgpihhigajmldaaDoorIs
import Derived.Stop.LaidErr
import Derived.WideLaws
namespace Go.Proofs.YtgpihhigajmldaaDoor
open Go.RowKit Go.ChangeShapes

/-- The errors' variables, in the order of their numbers. -/
def errGs : List Nat := [1, 2, 0, 3, 4, 5, 6, 7, 8, 9, 10, 11, 12, 13, 14, 15, 16, 17, 18]
abbrev errV (A : Nat → Addr) (i : Nat) : Value := .iface tE (.pointer (some (A i)))
/-- The variables hold pointers to different errors. -/
structure Errs (w : World) (A : Nat → Addr) : Prop where
  holds : ∀ i g, errGs[i]? = some g → w.cell? ⟨g, 0, none⟩ = some (errV A i)
  blocks : ∀ i, i < 19 → ∃ c t, w.heap[(A i).block]? = some (.cells c t (0, 0))
  apart : ∀ i j, i < 19 → j < 19 → i ≠ j → A i ≠ A j
theorem Errs.lt {w : World} {A : Nat → Addr} (h : Errs w A) {i g : Nat} (hi : errGs[i]? = some g) : g < w.heap.size := World.block_lt_of_cell? w ⟨g, 0, none⟩ (h.holds i g hi)
theorem Errs.below {w w' : World} {A : Nat → Addr} (h : Errs w A) (hb : Below w.heap.size w w') : Errs w' A :=
  ⟨fun i g hg => (hb.cell (p := ⟨g, 0, none⟩) (h.lt hg)).trans (h.holds i g hg), fun i hi => by
    obtain ⟨c, t, hc⟩ := h.blocks i hi
    exact ⟨c, t, (hb.block _ (Array.getElem?_eq_some_iff.1 hc).1).trans hc⟩, h.apart⟩
/-- One block that is none of theirs turns. -/
theorem Errs.only {w w' : World} {A : Nat → Addr} {r B : Nat} (h : Errs w A) (hb : w.grownBy w' (some r)) (hr : B ≤ r) (hB : ∀ (i g : Nat), errGs[i]? = some g → g < B) (hA : ∀ i, i < 19 → (A i).block < B) : Errs w' A :=
  ⟨fun i g hg => (World.cell?_of_block (hb.block g (h.lt hg) (by have := hB i g hg; simp; omega))).trans (h.holds i g hg), fun i hi => by
    obtain ⟨c, t, hc⟩ := h.blocks i hi
    exact ⟨c, t, (hb.block _ (Array.getElem?_eq_some_iff.1 hc).1 (by have := hA i hi; simp; omega)).trans hc⟩, h.apart⟩

set_option maxRecDepth 100000 in
theorem all_any (w : World) (A : Nat → Addr) (h : Errs w A) :
    Calls Tryd.prog 29 #[] w fun e w' => e = .returned (.slice (some ⟨w.heap.size, 0, none⟩) 19 19) ∧ Blk w' w.heap.size 25 ((List.range 19).map (errV A)) ∧ Below w.heap.size w w' := by
  have e0 : w.cell? ⟨1, 0, none⟩ = some (.iface tE (.pointer (some (A 0)))) := h.holds 0 _ rfl
  have e1 : w.cell? ⟨2, 0, none⟩ = some (.iface tE (.pointer (some (A 1)))) := h.holds 1 _ rfl
  have e2 : w.cell? ⟨0, 0, none⟩ = some (.iface tE (.pointer (some (A 2)))) := h.holds 2 _ rfl
  have e3 : w.cell? ⟨3, 0, none⟩ = some (.iface tE (.pointer (some (A 3)))) := h.holds 3 _ rfl
  have e4 : w.cell? ⟨4, 0, none⟩ = some (.iface tE (.pointer (some (A 4)))) := h.holds 4 _ rfl
  have e5 : w.cell? ⟨5, 0, none⟩ = some (.iface tE (.pointer (some (A 5)))) := h.holds 5 _ rfl
  have e6 : w.cell? ⟨6, 0, none⟩ = some (.iface tE (.pointer (some (A 6)))) := h.holds 6 _ rfl
  have e7 : w.cell? ⟨7, 0, none⟩ = some (.iface tE (.pointer (some (A 7)))) := h.holds 7 _ rfl
  have e8 : w.cell? ⟨8, 0, none⟩ = some (.iface tE (.pointer (some (A 8)))) := h.holds 8 _ rfl
  have e9 : w.cell? ⟨9, 0, none⟩ = some (.iface tE (.pointer (some (A 9)))) := h.holds 9 _ rfl
  have e10 : w.cell? ⟨10, 0, none⟩ = some (.iface tE (.pointer (some (A 10)))) := h.holds 10 _ rfl
  have e11 : w.cell? ⟨11, 0, none⟩ = some (.iface tE (.pointer (some (A 11)))) := h.holds 11 _ rfl
  have e12 : w.cell? ⟨12, 0, none⟩ = some (.iface tE (.pointer (some (A 12)))) := h.holds 12 _ rfl
  have e13 : w.cell? ⟨13, 0, none⟩ = some (.iface tE (.pointer (some (A 13)))) := h.holds 13 _ rfl
  have e14 : w.cell? ⟨14, 0, none⟩ = some (.iface tE (.pointer (some (A 14)))) := h.holds 14 _ rfl
  have e15 : w.cell? ⟨15, 0, none⟩ = some (.iface tE (.pointer (some (A 15)))) := h.holds 15 _ rfl
  have e16 : w.cell? ⟨16, 0, none⟩ = some (.iface tE (.pointer (some (A 16)))) := h.holds 16 _ rfl
  have e17 : w.cell? ⟨17, 0, none⟩ = some (.iface tE (.pointer (some (A 17)))) := h.holds 17 _ rfl
  have e18 : w.cell? ⟨18, 0, none⟩ = some (.iface tE (.pointer (some (A 18)))) := h.holds 18 _ rfl
  go_enter Tryd.func29, Tryd.ntmps29
  go_wp2
  go_ret
  refine ⟨rfl, ?_, (Below.refl _ _).alloc (Nat.le_refl _) _⟩
  exact Blk.new w 25 ((List.range 19).map (errV A))

set_option maxRecDepth 100000 in
theorem num_nil (w : World) : Calls Tryd.prog 16 #[.nilIface] w fun e w' => e = .returned (.int .i64 0) ∧ w = w' := by
  go_enter Tryd.func16, Tryd.ntmps16
  go_wp2
  go_ret
  exact ⟨rfl, rfl⟩

set_option maxHeartbeats 1000000 in
set_option maxRecDepth 100000 in
theorem num_err (w : World) (A : Nat → Addr) (h : Errs w A) (k : Nat) (hk : k < 19) :
    Calls Tryd.prog 16 #[errV A k] w fun e w' => e = .returned (.int .i64 ((k : Int) + 1)) ∧ Below w.heap.size w w' := by
  have hnil := run_eql_held_nil (P := Tryd.prog) w 25 tE (.pointer (some (A k))) (by kernel_rfl)
  unfold errV
  go_enter Tryd.func16, Tryd.ntmps16
  go_wp2_with fail
  refine (all_any w A h).mono ?_
  rintro e w1 ⟨rfl, hb, hbl⟩
  have h1 := h.below hbl
  go_wp2_with fail
  go_loop [9] (fun i => ∃ j : Nat, j ≤ k ∧ i = .int .i64 j) (fun i => 19 - (intOf i).toNat)
  case atStart => exact ⟨0, by omega, rfl⟩
  case round =>
    obtain ⟨j, hj, rfl⟩ := hrel
    have hc : w1.cell? ⟨w.heap.size, j, none⟩ = some (.iface tE (.pointer (some (A j)))) := by
      rw [hb.cell]
      simp [show j < 19 by omega, errV]
    have hj19 : j < 19 := by omega
    by_cases hlt : j < k
    · obtain ⟨ca, ta, ha⟩ := h1.blocks k hk
      obtain ⟨cb, tb, hbb⟩ := h1.blocks j hj19
      have hne := h1.apart k j hk hj19 (by omega)
      have HA := Lib.hid ha
      have HB := Lib.hid hbb
      clear ha hbb
      go_wp2_with fail
      refine (is_other (A k) (A j) ca cb ta tb w1 hne HA.out HB.out).mono ?_
      rintro e w2 ⟨rfl, rfl⟩
      go_wp2_with fail
      go_round
      case rel => exact ⟨j + 1, by omega, by go_num⟩
      case measure => simp [intOf]; omega
    · obtain rfl : j = k := by omega
      go_wp2_with fail
      refine (is_same (A j) w1).mono ?_
      rintro e w2 ⟨rfl, rfl⟩
      go_wp2_with fail
      go_ret
      exact ⟨rfl, hbl⟩
end Go.Proofs.YtgpihhigajmldaaDoor
