/- The bodies of records: the contracts of the functions that put one, of those that read a varint or a text, of fixed and of bodyOf. Conditions: fewer than 2^46 bytes; the errors' variables hold what the program's text lays. -/
import Derived.Test.YtlndejanojgjlaaDoorProg
import Derived.Test.YtlndejanojgjlaaDoorMem
import Derived.Test.YtlndejanojgjlaaDoorRet
import Derived.Test.YtlndejanojgjlaaDoorRec
import Derived.Laws.IdiomStrings
import Derived.Deep.Onto
import Derived.Test.YtlndejanojgjlaaDoorGrow
import Derived.Test.YtlndejanojgjlaaDoorHolds
import Derived.IntWalk
import Derived.Laws.EntriesVeiled
namespace Go.Proofs.YtlndejanojgjlaaDoor
open Go.RowKit

/-- A record's value. -/
def recV (n k : Int) (bits : Nat) (text raw : List UInt8) : Value := .agg #[.int .i64 n, .int .i64 k, .int .u64 (bits : Int), .string (str text), .string (str raw)]

theorem Owned.above {w w1 w' : World} {l : List UInt8} {e : Ending} (h : Owned w1 l e w') (hb : Below w.heap.size w w1) : Owned w l e w' := by
  obtain ⟨v, he, ho, hb'⟩ := h
  exact ⟨v, he, World.ownsRow.mono ho hb.size, hb.trans (hb'.mono hb.size)⟩

set_option maxRecDepth 100000 in
theorem putVarint_any (w : World) (n k : Int) (bits : Nat) (text raw : List UInt8) (hb : bits < 18446744073709551616) :
    Calls Tryd.prog 39 #[recV n k bits text raw] w (Owned w (vput bits)) := by
  unfold recV
  go_enter Tryd.func39, Tryd.ntmps39
  go_wp2_with fail
  refine (vPut_any _ none [] 0 bits 0 (Nat.zero_le _) (by simp) hb (Sl.nil _ _ _)).mono ?_
  rintro e w1 h
  obtain ⟨v, rfl, hown, hb1⟩ := h.above ((Below.refl _ _).alloc (Nat.le_refl _) _)
  rw [List.nil_append] at hown
  go_wp2_with fail
  go_ret
  exact ⟨v, rfl, hown, hb1⟩

set_option maxRecDepth 100000 in
theorem fixedPut64_any (w : World) (n k : Int) (bits : Nat) (text raw : List UInt8) (cc : Nat) (hc : Blk w cc 92 [.func (.func 42) #[] #[]]) (hb : bits < 18446744073709551616) :
    Calls Tryd.prog 56 #[recV n k bits text raw, .pointer (some ⟨cc, 0, none⟩)] w (Owned w (le bits 8)) := by
  obtain ⟨w1, hw1⟩ : ∃ w1, w1 = w.alloc (.cells #[.int .i64 n, .int .i64 k, .int .u64 (bits : Int), .string (str text), .string (str raw)] 29) := ⟨_, rfl⟩
  have hb1 : Below w.heap.size w w1 := hw1 ▸ (Below.refl _ _).alloc (Nat.le_refl _) _
  have cc1 : w1.cell? ⟨cc, 0, none⟩ = some (.func (.func 42) #[] #[]) := (hc.kept hb1).cell 0
  rw [hw1] at cc1
  unfold recV
  go_enter Tryd.func56, Tryd.ntmps56
  go_wp2_with fail
  refine (put64_any _ none [] 0 bits 0 (Nat.zero_le _) (by simp) hb (Sl.nil _ _ _)).mono ?_
  rintro e w2 h
  obtain ⟨v, rfl, hown, hb2⟩ := h.above ((Below.refl _ _).alloc (Nat.le_refl _) _)
  rw [List.nil_append] at hown
  clear h
  go_wp2_with fail
  go_ret
  exact ⟨v, rfl, hown, hb2⟩

set_option maxRecDepth 100000 in
theorem fixedPut32_any (w : World) (n k : Int) (bits : Nat) (text raw : List UInt8) (cc : Nat) (hc : Blk w cc 97 [.func (.func 45) #[] #[]]) (hb : bits < 4294967296) :
    Calls Tryd.prog 60 #[recV n k bits text raw, .pointer (some ⟨cc, 0, none⟩)] w (Owned w (le bits 4)) := by
  obtain ⟨w1, hw1⟩ : ∃ w1, w1 = w.alloc (.cells #[.int .i64 n, .int .i64 k, .int .u64 (bits : Int), .string (str text), .string (str raw)] 29) := ⟨_, rfl⟩
  have hb1 : Below w.heap.size w w1 := hw1 ▸ (Below.refl _ _).alloc (Nat.le_refl _) _
  have cc1 : w1.cell? ⟨cc, 0, none⟩ = some (.func (.func 45) #[] #[]) := (hc.kept hb1).cell 0
  rw [hw1] at cc1
  unfold recV
  go_enter Tryd.func60, Tryd.ntmps60
  go_wp2_with fail
  refine (put32_any _ none [] 0 bits 0 (Nat.zero_le _) (by simp) hb (Sl.nil _ _ _)).mono ?_
  rintro e w2 h
  obtain ⟨v, rfl, hown, hb2⟩ := h.above ((Below.refl _ _).alloc (Nat.le_refl _) _)
  rw [List.nil_append] at hown
  clear h
  go_wp2_with fail
  go_ret
  exact ⟨v, rfl, hown, hb2⟩

/-- The block of a string's bytes. -/
def strObj (w : World) (l : List UInt8) : Obj := .cells (bytesRow (str l) (grownCap w (str l).size 0 5)) 5 ((bytesRow (str l) (grownCap w (str l).size 0 5)).size, (bytesRow (str l) (grownCap w (str l).size 0 5)).size + 1)
def strCap (w : World) (l : List UInt8) : Nat := grownCap w (str l).size 0 5
theorem run_strBytes (w : World) (l : List UInt8) : (convert 9 22 (.string (str l))).run Tryd.prog w = .ok (.slice (some ⟨w.heap.size, 0, none⟩) l.length (strCap w l)) (w.alloc (strObj w l)).drew := by
  rw [run_bytes_of_string w 9 22 5 (str l) Tryd.underlying9 Tryd.underlying22 Tryd.underlying5, strSize]
  unfold strObj strCap
  rw [strSize]
  rfl
theorem strObj_sl (w u : World) (l : List UInt8) : Sl (u.alloc (strObj w l)) (u.heap.size + 1) (some ⟨u.heap.size, 0, none⟩) l := fun hl => by
  refine ⟨_, _, rfl, by omega, fun i x hx => ?_⟩
  have h := heap_alloc_new u (strObj w l)
  unfold strObj at h ⊢
  rw [cell_of_row _ _ _ _ _ _ h, Nat.zero_add]
  have hi : i < l.length := (List.getElem?_eq_some_iff.1 hx).1
  obtain ⟨_, rfl⟩ := List.getElem?_eq_some_iff.1 hx
  unfold bytesRow str bv
  simp [Array.getElem?_append, hi]


set_option maxRecDepth 100000 in
set_option maxHeartbeats 1000000 in
theorem putText_any (w : World) (n k : Int) (bits : Nat) (text raw : List UInt8) (ht : text.length ≤ 70368744177664) :
    Calls Tryd.prog 47 #[recV n k bits text raw] w (Owned w (vput text.length ++ text)) := by
  obtain ⟨w1, hw1⟩ : ∃ w1, w1 = w.alloc (.cells #[.int .i64 n, .int .i64 k, .int .u64 (bits : Int), .string (str text), .string (str raw)] 29) := ⟨_, rfl⟩
  have hb1 : Below w.heap.size w w1 := hw1 ▸ (Below.refl _ _).alloc (Nat.le_refl _) _
  have hk1 : Blk w1 w.heap.size 29 (recCells n k bits text raw) := hw1 ▸ Blk.new w _ _
  have HT := Lib.hid (fun wx (h : Below w1.heap.size w1 wx) => (show wx.cell? ⟨w.heap.size, 3, none⟩ = some (.string (str text)) from (hk1.kept h).cell 3))
  have hv10 := vput_ten text.length (by omega)
  have hwr : IntKind.u64.wrap ((str text).size : Int) = (text.length : Int) := by rw [strSize]; exact IntWalk.u64_in _ ⟨by omega, by omega⟩
  unfold recV
  clear hk1
  go_enter Tryd.func47, Tryd.ntmps47
  go_wp2_with fail
  rw [← hw1]
  clear hw1
  refine wp_region_grow (Below w1.heap.size w1) (fun u u' => Below u.heap.size u u') [.is (.pointer (some ⟨w.heap.size, 3, none⟩)), .is (.string (str text)), .is ?_, .is (.int .u64 (text.length : Int)), .of (Holds (vput text.length)), .is (.pointer (some ⟨w.heap.size, 3, none⟩)), .is (.string (str text)), .of (Holds text), .of (HoldsTwo (vput text.length) text), .of (OwnsL w1.heap.size (vput text.length ++ text)), .of (OwnsL w1.heap.size (vput text.length ++ text))] (by kernel_rfl) (by kernel_rfl) (fun u u' h hC => hC.trans (h.mono hC.size)) ?st ((Below.refl _ _).drew) ?h
  case st => repeat (first | exact trivial | refine ⟨by first | exact stay_is | exact stay_holds _ | exact stay_holdsTwo _ _ | exact stay_ownsL _ _, ?_⟩)
  case h =>
    refine wpT_is (fun _ => Below.refl _ _) rfl (fun wx hC _ => by go_simp <;> rfl) ?_
    simp only [Act.put, List.setIfInBounds_toArray, List.set_cons_zero, List.set_cons_succ]
    refine wpT_is (fun _ => Below.refl _ _) rfl (fun wx hC _ => by have ex := HT.out wx hC; go_simp <;> rfl) ?_
    simp only [Act.put, List.setIfInBounds_toArray, List.set_cons_zero, List.set_cons_succ]
    refine wpT_is (fun _ => Below.refl _ _) rfl (fun wx hC _ => by go_simp <;> rfl) ?_
    simp only [Act.put, List.setIfInBounds_toArray, List.set_cons_zero, List.set_cons_succ]
    refine wpT_is (fun _ => Below.refl _ _) rfl (fun wx hC _ => by go_simp <;> rfl) ?_
    simp only [Act.put, List.setIfInBounds_toArray, List.set_cons_zero, List.set_cons_succ]
    refine wpT_call rfl (fun wx hC _ => by go_simp; exact ⟨rfl, rfl⟩) (fun wx hC _ => ?k1) (fun v1 => ?_)
    case k1 => exact (vPut_any wx none [] 0 text.length 0 (Nat.zero_le _) (by simp) (by omega) (Sl.nil _ _ _)).mono fun e w' h => holds_of (List.nil_append _).symm h
    simp only [Act.put, List.setIfInBounds_toArray, List.set_cons_zero, List.set_cons_succ]
    refine wpT_is (fun _ => Below.refl _ _) rfl (fun wx hC _ => by go_simp <;> rfl) ?_
    simp only [Act.put, List.setIfInBounds_toArray, List.set_cons_zero, List.set_cons_succ]
    refine wpT_is (fun _ => Below.refl _ _) rfl (fun wx hC _ => by have ex := HT.out wx hC; go_simp <;> rfl) ?_
    simp only [Act.put, List.setIfInBounds_toArray, List.set_cons_zero, List.set_cons_succ]
    refine wpT_val rfl (fun wx hC _ => ⟨.slice (some ⟨wx.heap.size, 0, none⟩) text.length (strCap wx text), (wx.alloc (strObj wx text)).drew, by have hcv := run_strBytes wx text; go_simp, ((Below.refl _ _).alloc (Nat.le_refl _) _).drew, ⟨_, _, rfl, (strObj_sl wx wx text).more (by simp)⟩⟩) (fun v2 => ?_)
    simp only [Act.put, List.setIfInBounds_toArray, List.set_cons_zero, List.set_cons_succ]
    refine wpT_val rfl (fun wx hC hS => by
      have h1 : Holds (vput text.length) v1 wx := hS.get (d := 7) (by repeat (first | exact List.mem_cons_self | apply List.mem_cons_of_mem)) rfl
      have h2 : Holds text v2 wx := hS.get (d := 10) (by repeat (first | exact List.mem_cons_self | apply List.mem_cons_of_mem)) rfl
      have h3 := holdsTwo_of (t := 22) h1 h2
      obtain ⟨q, c, rfl, _⟩ := h1
      obtain ⟨r, d, rfl, _⟩ := h2
      exact ⟨_, _, by go_simp <;> rfl, (Below.refl _ _).alloc (Nat.le_refl _) _, h3⟩) (fun v3 => ?_)
    simp only [Act.put, List.setIfInBounds_toArray, List.set_cons_zero, List.set_cons_succ]
    refine wpT_call rfl (fun wx hC _ => by go_simp; exact ⟨rfl, rfl⟩) (fun wx hC hS => ?k2) (fun v4 => ?_)
    case k2 =>
      obtain ⟨pp, q, c, r, d, rfl, hp⟩ : HoldsTwo (vput text.length) text v3 wx := hS.get (d := 11) (by repeat (first | exact List.mem_cons_self | apply List.mem_cons_of_mem)) rfl
      refine (join_any wx pp [⟨q, vput text.length, c⟩, ⟨r, text, d⟩] 2 wx.heap.size (Nat.le_refl _) hp (by simp) (by simp [flat]; omega)).mono fun e w' h => ?_
      obtain ⟨v, he, hown, hb⟩ := h
      have hfl : flat [⟨q, vput text.length, c⟩, ⟨r, text, d⟩] = vput text.length ++ text := by simp [flat]
      rw [hfl] at hown
      exact ⟨v, he, hb, World.ownsRow.mono hown hC.size⟩
    simp only [Act.put, List.setIfInBounds_toArray, List.set_cons_zero, List.set_cons_succ]
    refine wpT_val rfl (fun wx hC hS => ⟨v4, wx, by go_simp <;> rfl, Below.refl _ _, hS.get (d := 12) (by repeat (first | exact List.mem_cons_self | apply List.mem_cons_of_mem)) rfl⟩) (fun v5 => ?_)
    simp only [Act.put, List.setIfInBounds_toArray, List.set_cons_zero, List.set_cons_succ]
    refine wpT_nil fun wx hC hS => ?_
    have hown : OwnsL w1.heap.size (vput text.length ++ text) v5 wx := hS _ List.mem_cons_self
    go_wp2_with fail
    go_ret
    exact ⟨v5, rfl, World.ownsRow.mono hown hb1.size, hb1.trans (hC.mono hb1.size)⟩

end Go.Proofs.YtlndejanojgjlaaDoor
