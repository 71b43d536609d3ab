/- The contracts of octets.Reader's methods where a number is out of its range, or fewer bytes are left: the error, and the reader stays; and of Byte and Take where there are as many. Condition: the errors' variables hold what the program's text lays. -/
import Derived.Test.YtpimoipjomikiaaDoorProg
import Derived.Test.YtpimoipjomikiaaDoorMem
import Derived.Test.YtpimoipjomikiaaDoorReader
import Derived.Test.YtpimoipjomikiaaDoorNumber
import Derived.Test.YtpimoipjomikiaaDoorNum
namespace Go.Proofs.YtpimoipjomikiaaDoor
open Go.RowKit

/-- Which error: 0: the number is out of its range; 1: fewer are left. -/
def Bad (l : List UInt8) (k : Nat) (n : Int) (b : Nat) : Prop := b = 0 ∧ n < 0 ∨ b = 1 ∧ 0 ≤ n ∧ (l.length : Int) - (k : Int) < n
theorem neq_err (A : Nat → Addr) (b : Nat) (u : World) : (binOp .neq 31 (errV A b) .nilIface).run Tryd.prog u = .ok (.bool true) u := run_neq_held_nil (P := Tryd.prog) u 31 tE (.pointer (some (A b))) (by kernel_rfl)

set_option maxHeartbeats 1000000 in
theorem next_bad (w : World) (A : Nat → Addr) (hE : Errs w A) (r : Nat) (l : List UInt8) (k : Nat) (n : Int) (b : Nat) (hr : Rd w r l k) (hl : l.length ≤ 70368744177672) (hk : k ≤ l.length) (hb : Bad l k n b) :
    Calls Tryd.prog 27 #[.pointer (some ⟨r, 0, none⟩), .int .i64 n] w fun e w' => e = .returned (.tuple #[.slice none 0 0, errV A b]) ∧ ∃ m, w' = w.drewN m := by
  have g0 : w.cell? ⟨0, 0, none⟩ = some (errV A 0) := hE.holds 0 _ rfl
  have g1 : w.cell? ⟨1, 0, none⟩ = some (errV A 1) := hE.holds 1 _ rfl
  rcases hb with ⟨rfl, hn⟩ | ⟨rfl, hn0, hn⟩
  · go_enter Tryd.func27, Tryd.ntmps27
    go_wp2_with fail
    go_quiet (fail)
    go_wp2_with fail
    go_ret2
    exact ⟨rfl, _, rfl⟩
  · have hn' : ¬ n < 0 := by omega
    go_enter Tryd.func27, Tryd.ntmps27
    go_wp2_with fail
    refine (left_any w r l k hr hl hk).mono ?_
    rintro e w1 ⟨rfl, n1, rfl⟩
    go_wp2_with fail
    go_quiet (fail)
    go_wp2_with fail
    go_ret2
    exact ⟨rfl, by first | exact ⟨_, rfl⟩ | (simp only [World.drewN_drewN]; exact ⟨_, rfl⟩)⟩

theorem number_bad (w : World) (A : Nat → Addr) (hE : Errs w A) (r : Nat) (l : List UInt8) (k : Nat) (n : Int) (b : Nat) (hr : Rd w r l k) (hl : l.length ≤ 70368744177672) (hk : k ≤ l.length) (hb : Bad l k n b) :
    Calls Tryd.prog 28 #[.pointer (some ⟨r, 0, none⟩), .int .i64 n] w fun e w' => e = .returned (.tuple #[.int .u64 0, errV A b]) ∧ ∃ m, w' = w.drewN m := by
  have hne := neq_err A b
  go_enter Tryd.func28, Tryd.ntmps28
  go_wp2_with fail
  refine (next_bad w A hE r l k n b hr hl hk hb).mono ?_
  rintro e w1 ⟨rfl, n1, rfl⟩
  go_wp2_with fail
  go_ret2
  exact ⟨rfl, _, rfl⟩
theorem byte_bad (w : World) (A : Nat → Addr) (hE : Errs w A) (r : Nat) (l : List UInt8) (k : Nat) (b : Nat) (hr : Rd w r l k) (hl : l.length ≤ 70368744177672) (hk : k ≤ l.length) (hb : Bad l k 1 b) :
    Calls Tryd.prog 10 #[.pointer (some ⟨r, 0, none⟩)] w fun e w' => e = .returned (.tuple #[.int .u8 0, errV A b]) ∧ ∃ m, w' = w.drewN m := by
  have hne := neq_err A b
  go_enter Tryd.func10, Tryd.ntmps10
  go_wp2_with fail
  refine (next_bad w A hE r l k 1 b hr hl hk hb).mono ?_
  rintro e w1 ⟨rfl, n1, rfl⟩
  go_wp2_with fail
  go_ret2
  exact ⟨rfl, _, rfl⟩
theorem take_bad (w : World) (A : Nat → Addr) (hE : Errs w A) (r : Nat) (l : List UInt8) (k : Nat) (n : Int) (b : Nat) (hr : Rd w r l k) (hl : l.length ≤ 70368744177672) (hk : k ≤ l.length) (hb : Bad l k n b) :
    Calls Tryd.prog 11 #[.pointer (some ⟨r, 0, none⟩), .int .i64 n] w fun e w' => e = .returned (.tuple #[.slice none 0 0, errV A b]) ∧ ∃ m, w' = w.drewN m := by
  have hne := neq_err A b
  go_enter Tryd.func11, Tryd.ntmps11
  go_wp2_with fail
  refine (next_bad w A hE r l k n b hr hl hk hb).mono ?_
  rintro e w1 ⟨rfl, n1, rfl⟩
  go_wp2_with fail
  go_ret2
  exact ⟨rfl, _, rfl⟩
theorem skip_bad (w : World) (A : Nat → Addr) (hE : Errs w A) (r : Nat) (l : List UInt8) (k : Nat) (n : Int) (b : Nat) (hr : Rd w r l k) (hl : l.length ≤ 70368744177672) (hk : k ≤ l.length) (hb : Bad l k n b) :
    Calls Tryd.prog 15 #[.pointer (some ⟨r, 0, none⟩), .int .i64 n] w fun e w' => e = .returned (errV A b) ∧ ∃ m, w' = w.drewN m := by
  go_enter Tryd.func15, Tryd.ntmps15
  go_wp2_with fail
  refine (next_bad w A hE r l k n b hr hl hk hb).mono ?_
  rintro e w1 ⟨rfl, n1, rfl⟩
  go_wp2_with fail
  go_ret
  exact ⟨rfl, _, rfl⟩
theorem fixed32_bad (w : World) (A : Nat → Addr) (hE : Errs w A) (r : Nat) (l : List UInt8) (k : Nat) (b : Nat) (hr : Rd w r l k) (hl : l.length ≤ 70368744177672) (hk : k ≤ l.length) (hb : Bad l k 4 b) :
    Calls Tryd.prog 12 #[.pointer (some ⟨r, 0, none⟩)] w fun e w' => e = .returned (.tuple #[.int .u32 0, errV A b]) ∧ ∃ m, w' = w.drewN m := by
  go_enter Tryd.func12, Tryd.ntmps12
  go_wp2_with fail
  refine (number_bad w A hE r l k 4 b hr hl hk hb).mono ?_
  rintro e w1 ⟨rfl, n1, rfl⟩
  go_wp2_with fail
  go_ret2
  exact ⟨rfl, _, rfl⟩
theorem fixed64_bad (w : World) (A : Nat → Addr) (hE : Errs w A) (r : Nat) (l : List UInt8) (k : Nat) (b : Nat) (hr : Rd w r l k) (hl : l.length ≤ 70368744177672) (hk : k ≤ l.length) (hb : Bad l k 8 b) :
    Calls Tryd.prog 14 #[.pointer (some ⟨r, 0, none⟩)] w fun e w' => e = .returned (.tuple #[.int .u64 0, errV A b]) ∧ ∃ m, w' = w.drewN m := by
  go_enter Tryd.func14, Tryd.ntmps14
  go_wp2_with fail
  refine (number_bad w A hE r l k 8 b hr hl hk hb).mono ?_
  rintro e w1 ⟨rfl, n1, rfl⟩
  go_wp2_with fail
  go_ret2
  exact ⟨rfl, _, rfl⟩

/-- Byte, where one is left. -/
theorem byte_any (w : World) (r : Nat) (l : List UInt8) (k : Nat) (hr : Rd w r l k) (hl : l.length ≤ 70368744177672) (hk : k < l.length) :
    Calls Tryd.prog 10 #[.pointer (some ⟨r, 0, none⟩)] w fun e w' => e = .returned (.tuple #[.int .u8 (l[k].toNat : Int), .nilIface]) ∧ Rd w' r l (k + 1) ∧ w.grownBy w' (some r) := by
  go_enter Tryd.func10, Tryd.ntmps10
  go_wp2_with fail
  refine (next_any w r l k 1 hr hl (by omega)).mono ?_
  rintro e w1 ⟨q, c, rfl, hs, hrd, hg⟩
  have ht : (l.drop k).take 1 = [l[k]] := by rw [List.drop_eq_getElem_cons hk]; rfl
  rw [ht] at hs
  obtain ⟨b, o, rfl, _, hc⟩ := hs.at_ (i := 0) (by simp)
  simp only [List.getElem_cons_zero, Nat.add_zero] at hc
  clear hs ht
  go_wp2_with fail
  go_ret2
  exact ⟨rfl, hrd, hg⟩

/-- What Take gives: the bytes asked for, in memory of their own, and the reader goes on behind them. -/
def Takes (w : World) (r : Nat) (l : List UInt8) (k n : Nat) (e : Ending) (w' : World) : Prop :=
  ∃ v, e = .returned (.tuple #[v, .nilIface]) ∧ w'.ownsRow w.heap.size 5 1 v ((l.drop k).take n).length (((l.drop k).take n).map bv) ∧ Rd w' r l (k + n) ∧ w.grownBy w' (some r)
set_option maxHeartbeats 1000000 in
theorem take_any (w : World) (r : Nat) (l : List UInt8) (k n : Nat) (hr : Rd w r l k) (hl : l.length ≤ 70368744177672) (hk : k + n ≤ l.length) :
    Calls Tryd.prog 11 #[.pointer (some ⟨r, 0, none⟩), .int .i64 (n : Int)] w (Takes w r l k n) := by
  obtain ⟨t, ht⟩ : ∃ t, t = (l.drop k).take n := ⟨_, rfl⟩
  have htl : t.length = n := by rw [ht]; simp; omega
  have HT := Lib.hid ht
  clear ht
  go_enter Tryd.func11, Tryd.ntmps11
  go_wp2_with fail
  refine (next_any w r l k n hr hl hk).mono ?_
  rintro e w1 ⟨q, c, rfl, hs, hrd, hg⟩
  rw [← HT.out] at hs
  have hlt := hrd.lt
  obtain rfl : n = t.length := htl.symm
  clear htl
  go_wp2_with fail
  have hp : Parts (w1.alloc (Obj.cells #[Value.slice q t.length c] 22)) (w1.heap.size + 1) (some ⟨w1.heap.size, 0, none⟩) [⟨q, t, c⟩] :=
    Parts.made (u := w1) (t := 22) (xs := [⟨q, t, c⟩]) rfl (fun x hx => by rw [List.mem_singleton.1 hx]; exact hs.more (Nat.le_of_lt hlt)) (Nat.le_refl _)
  refine (join_any _ _ [⟨q, t, c⟩] 1 (w1.heap.size + 1) (by simp) hp (by simp) (by simp [flat]; omega)).mono ?_
  rintro e w2 ⟨v, rfl, hown, hb⟩
  have hfl : flat [⟨q, t, c⟩] = t := by simp [flat]
  rw [hfl] at hown
  have hb1 : Below w1.heap.size w1 w2 := ((Below.refl _ _).alloc (Nat.le_refl _) _).trans (hb.mono (by simp))
  clear hfl hp hb
  go_wp2_with fail
  go_ret2
  refine ⟨_, rfl, ?_, hrd.kept hb1, only_trans hg (only_of_below hb1 _)⟩
  rw [← HT.out]
  exact own_base hown (by have := hg.size; simp; omega)
end Go.Proofs.YtpimoipjomikiaaDoor
