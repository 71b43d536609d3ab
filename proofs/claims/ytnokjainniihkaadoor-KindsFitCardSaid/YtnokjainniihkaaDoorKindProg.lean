/- The contracts of package kinds' calls: what is told of a kind, what bits say, a number's bits. Conditions: the table of the kinds holds what the program lays (TabK); numbers are of their types. -/
import Derived.Test.YtnokjainniihkaaDoorProg
import Derived.Test.YtnokjainniihkaaDoorMem
import Derived.Test.YtnokjainniihkaaDoorStrs
import Derived.Test.YtnokjainniihkaaDoorZig
import Derived.Test.YtnokjainniihkaaDoorKindMath
import Derived.Test.YtnokjainniihkaaDoorRets
import Derived.WalkSpells
import Derived.Laws.EntriesVeiled
import Derived.Laws.Bits64
import Derived.Laws.BitsLemmas
namespace Go.Proofs.YtnokjainniihkaaDoor
open Go.RowKit

/-- The table is as the program lays it. -/
structure TabK (w : World) : Prop where
  name : ∀ i, i < 18 → w.cell? ⟨0, i * 4, none⟩ = some (.string (str (kname i)))
  wire : ∀ i, i < 18 → w.cell? ⟨0, i * 4 + 1, none⟩ = some (.int .i64 (kwire i))
  num : ∀ i, i < 18 → w.cell? ⟨0, i * 4 + 2, none⟩ = some (.bool (knumB i))
  key : ∀ i, i < 18 → w.cell? ⟨0, i * 4 + 3, none⟩ = some (.bool (kkeyB i))
theorem TabK.below {w w' : World} (h : TabK w) (hb : Below w.heap.size w w') : TabK w' := by
  have h0 : 0 < w.heap.size := World.block_lt_of_cell? _ _ (h.name 0 (by decide))
  exact ⟨fun i hi => (hb.cell (p := ⟨_, _, none⟩) h0).trans (h.name i hi), fun i hi => (hb.cell (p := ⟨_, _, none⟩) h0).trans (h.wire i hi), fun i hi => (hb.cell (p := ⟨_, _, none⟩) h0).trans (h.num i hi), fun i hi => (hb.cell (p := ⟨_, _, none⟩) h0).trans (h.key i hi)⟩
theorem TabK.alloc {w : World} (h : TabK w) (o : Obj) : TabK (w.alloc o) := h.below ((Below.refl _ _).alloc (Nat.le_refl _) o)

/-- What rowOf answers. -/
def RowSays (w : World) (z : Int) : Prop := Calls Tryd.prog 23 #[.int .i64 z] w fun e w' => e = .returned (.agg #[.string (str (kname (kn z))), .int .i64 (kwire (kn z)), .bool (knumB (kn z)), .bool (kkeyB (kn z))]) ∧ Below w.heap.size w w'

set_option maxRecDepth 100000 in
theorem rowOf_none (w : World) (hT : TabK w) (z : Int) (h : z < 1 ∨ 17 < z) : RowSays w z := by
  unfold RowSays
  have e : kn z = 0 := by rcases h with h | h; exact kn_low z h; exact kn_high z h
  rw [e]
  have c0 : ∀ o, (w.alloc o).cell? ⟨0, 0, none⟩ = some (.string (str (kname 0))) := fun o => (hT.alloc o).name 0 (by decide)
  have c1 : ∀ o, (w.alloc o).cell? ⟨0, 1, none⟩ = some (.int .i64 (kwire 0)) := fun o => (hT.alloc o).wire 0 (by decide)
  have c2 : ∀ o, (w.alloc o).cell? ⟨0, 2, none⟩ = some (.bool (knumB 0)) := fun o => (hT.alloc o).num 0 (by decide)
  have c3 : ∀ o, (w.alloc o).cell? ⟨0, 3, none⟩ = some (.bool (kkeyB 0)) := fun o => (hT.alloc o).key 0 (by decide)
  clear e hT
  by_cases h1 : z < 1
  · clear h
    go_enter Tryd.func23, Tryd.ntmps23
    go_wp2
    exact bodyPost_ret (results_1 rfl (rv_cell w.heap.size [.string (str (kname 0)), .int .i64 (kwire 0), .bool (knumB 0), .bool (kkeyB 0)] _ _ rfl (Blk.new _ _ _) Tryd.underlying33 (by kernel_rfl))) rfl ⟨rfl, (Below.refl _ _).alloc (Nat.le_refl _) _⟩
  · have h2 : 17 < z := by omega
    clear h
    go_enter Tryd.func23, Tryd.ntmps23
    go_wp2
    exact bodyPost_ret (results_1 rfl (rv_cell w.heap.size [.string (str (kname 0)), .int .i64 (kwire 0), .bool (knumB 0), .bool (kkeyB 0)] _ _ rfl (Blk.new _ _ _) Tryd.underlying33 (by kernel_rfl))) rfl ⟨rfl, (Below.refl _ _).alloc (Nat.le_refl _) _⟩
set_option maxRecDepth 100000 in
theorem rowOf_at (w : World) (hT : TabK w) (i : Nat) (h1 : 1 ≤ i) (h2 : i ≤ 17) : RowSays w (i : Int) := by
  unfold RowSays
  rw [kn_at i h1 h2]
  have c0 : ∀ o, (w.alloc o).cell? ⟨0, i * 4, none⟩ = some (.string (str (kname i))) := fun o => (hT.alloc o).name i (by omega)
  have c1 : ∀ o, (w.alloc o).cell? ⟨0, i * 4 + 1, none⟩ = some (.int .i64 (kwire i)) := fun o => (hT.alloc o).wire i (by omega)
  have c2 : ∀ o, (w.alloc o).cell? ⟨0, i * 4 + 2, none⟩ = some (.bool (knumB i)) := fun o => (hT.alloc o).num i (by omega)
  have c3 : ∀ o, (w.alloc o).cell? ⟨0, i * 4 + 3, none⟩ = some (.bool (kkeyB i)) := fun o => (hT.alloc o).key i (by omega)
  clear hT
  go_enter Tryd.func23, Tryd.ntmps23
  go_wp2
  exact bodyPost_ret (results_1 rfl (rv_cell w.heap.size [.string (str (kname i)), .int .i64 (kwire i), .bool (knumB i), .bool (kkeyB i)] _ _ rfl (Blk.new _ _ _) Tryd.underlying33 (by kernel_rfl))) rfl ⟨rfl, (Below.refl _ _).alloc (Nat.le_refl _) _⟩
theorem rowOf_any (w : World) (hT : TabK w) (z : Int) : RowSays w z := by
  by_cases h : z < 1 ∨ 17 < z
  · exact rowOf_none w hT z h
  · have e : ((z.toNat : Nat) : Int) = z := by omega
    rw [← e]
    exact rowOf_at w hT z.toNat (by omega) (by omega)
/-- What a call answers that makes memory at most. -/
def Tells (f : FuncId) (w : World) (args : Array Value) (v : Value) : Prop := Calls Tryd.prog f args w fun e w' => e = .returned v ∧ Below w.heap.size w w'
theorem fld0 (a b c d : Value) (u : World) : (Instr.field 33 (.agg #[a, b, c, d]) 0).run Tryd.prog u = .ok a u := by kernel_rfl
theorem fld1 (a b c d : Value) (u : World) : (Instr.field 33 (.agg #[a, b, c, d]) 1).run Tryd.prog u = .ok b u := by kernel_rfl
theorem fld2 (a b c d : Value) (u : World) : (Instr.field 33 (.agg #[a, b, c, d]) 2).run Tryd.prog u = .ok c u := by kernel_rfl
theorem fld3 (a b c d : Value) (u : World) : (Instr.field 33 (.agg #[a, b, c, d]) 3).run Tryd.prog u = .ok d u := by kernel_rfl
theorem cfld0 (a b : Value) (u : World) : (Instr.field 40 (.agg #[a, b]) 0).run Tryd.prog u = .ok a u := by kernel_rfl
theorem cfld1 (a b : Value) (u : World) : (Instr.field 40 (.agg #[a, b]) 1).run Tryd.prog u = .ok b u := by kernel_rfl
set_option maxRecDepth 100000 in
theorem kName_any (w : World) (hT : TabK w) (z : Int) : Tells 10 w #[.int .i64 z] (.string (str (kname (kn z)))) := by
  unfold Tells
  have H := Lib.hid (rowOf_any w hT z)
  unfold RowSays at H
  have hf := fld0
  generalize kn z = i at *
  clear hT
  go_enter Tryd.func10, Tryd.ntmps10
  go_wp2_with fail
  refine H.out.mono ?_
  rintro e w1 ⟨rfl, hb⟩
  go_wp2_with fail
  go_ret
  exact ⟨rfl, hb⟩
set_option maxRecDepth 100000 in
theorem kNumber_any (w : World) (hT : TabK w) (z : Int) : Tells 11 w #[.int .i64 z] (.bool (knumB (kn z))) := by
  unfold Tells
  have H := Lib.hid (rowOf_any w hT z)
  unfold RowSays at H
  have hf := fld2
  generalize kn z = i at *
  clear hT
  go_enter Tryd.func11, Tryd.ntmps11
  go_wp2_with fail
  refine H.out.mono ?_
  rintro e w1 ⟨rfl, hb⟩
  go_wp2_with fail
  go_ret
  exact ⟨rfl, hb⟩
set_option maxRecDepth 100000 in
theorem kWire_any (w : World) (hT : TabK w) (z : Int) : Tells 15 w #[.int .i64 z] (.int .i64 (kwire (kn z))) := by
  unfold Tells
  have H := Lib.hid (rowOf_any w hT z)
  unfold RowSays at H
  have hf := fld1
  generalize kn z = i at *
  clear hT
  go_enter Tryd.func15, Tryd.ntmps15
  go_wp2_with fail
  refine H.out.mono ?_
  rintro e w1 ⟨rfl, hb⟩
  go_wp2_with fail
  go_ret
  exact ⟨rfl, hb⟩
set_option maxRecDepth 100000 in
theorem kKeys_any (w : World) (hT : TabK w) (z : Int) : Tells 13 w #[.int .i64 z] (.bool (kkeyB (kn z))) := by
  unfold Tells
  have H := Lib.hid (rowOf_any w hT z)
  unfold RowSays at H
  have hf := fld3
  generalize kn z = i at *
  clear hT
  go_enter Tryd.func13, Tryd.ntmps13
  go_wp2_with fail
  refine H.out.mono ?_
  rintro e w1 ⟨rfl, hb⟩
  go_wp2_with fail
  go_ret
  exact ⟨rfl, hb⟩
set_option maxRecDepth 100000 in
theorem kPacks_any (w : World) (hT : TabK w) (z : Int) : Tells 12 w #[.int .i64 z] (.bool (knumB (kn z))) := by
  unfold Tells
  have H := Lib.hid (kNumber_any w hT z)
  unfold Tells at H
  generalize kn z = i at *
  clear hT
  go_enter Tryd.func12, Tryd.ntmps12
  go_wp2_with fail
  refine H.out.mono ?_
  rintro e w1 ⟨rfl, hb⟩
  go_wp2_with fail
  go_ret
  exact ⟨rfl, hb⟩

/-- A word's step leaves the world as it is. -/
def Step (f : FuncId) (w : World) (n m : Nat) : Prop := Calls Tryd.prog f #[.int .u64 (n : Int)] w fun e w' => e = .returned (.int .u64 (m : Int)) ∧ w = w'
theorem ret_u64 {a b : Int} (h : a = b) : Ending.returned (.int .u64 a) = .returned (.int .u64 b) := by rw [h]
set_option maxRecDepth 100000 in
theorem same_any (w : World) (n : Nat) : Step 28 w n n := by
  unfold Step
  go_enter Tryd.func28, Tryd.ntmps28
  go_wp2
  go_ret
  exact ⟨rfl, rfl⟩
set_option maxRecDepth 100000 in
theorem low_any (w : World) (n : Nat) : Step 29 w n (n % 4294967296) := by
  unfold Step
  go_enter Tryd.func29, Tryd.ntmps29
  go_wp2
  go_ret
  exact ⟨rfl, rfl⟩
theorem sgn_is (n : Nat) : IntKind.u64.wrap (wrap32 (n : Int)) = (ksgn n : Int) := by
  rw [IntKind.wrap_u64]
  unfold wrap32 ksgn
  split <;> omega
theorem zag_is (m : Nat) (h : m < 18446744073709551616) : IntKind.u64.wrap (zag m) = (kzag m : Int) := by
  rw [IntKind.wrap_u64]
  unfold zag kzag
  split <;> omega
theorem zig_is (n : Nat) (h : n < 18446744073709551616) : (zig (wrap64 (n : Int)) : Int) = (kzig n : Int) := by
  unfold wrap64 zig kzig
  split <;> split <;> omega
theorem wrap64_bd (n : Int) : -9223372036854775808 ≤ wrap64 n ∧ wrap64 n < 9223372036854775808 := by
  unfold wrap64
  omega
set_option maxRecDepth 100000 in
theorem signed_any (w : World) (n : Nat) : Step 27 w n (ksgn n) := by
  unfold Step
  go_enter Tryd.func27, Tryd.ntmps27
  go_wp2
  go_ret
  exact ⟨ret_u64 (sgn_is n), rfl⟩
set_option maxRecDepth 100000 in
theorem truth_any (w : World) (n : Nat) : Step 33 w n (if n = 0 then 0 else 1) := by
  unfold Step
  by_cases h0 : n = 0
  · subst h0
    go_enter Tryd.func33, Tryd.ntmps33
    go_wp2
    go_ret
    exact ⟨rfl, rfl⟩
  · rw [if_neg h0]
    by_cases h1 : n = 1
    · subst h1
      go_enter Tryd.func33, Tryd.ntmps33
      go_wp2
      go_ret
      exact ⟨rfl, rfl⟩
    · have h2 : (1 : Int) < (n : Int) := by omega
      go_enter Tryd.func33, Tryd.ntmps33
      go_wp2
      go_ret
      exact ⟨rfl, rfl⟩
set_option maxRecDepth 100000 in
theorem wzag_any (w : World) (n : Nat) (h : n < 18446744073709551616) : Step 32 w n (kzag n) := by
  unfold Step
  have e := Lib.hid (zag_is n h)
  have H := Lib.hid (zag_any w n h)
  generalize zag n = z at *
  generalize kzag n = k at *
  clear h
  go_enter Tryd.func32, Tryd.ntmps32
  go_wp2_with fail
  refine H.out.mono ?_
  rintro _ w1 ⟨rfl, rfl⟩
  go_wp2_with fail
  go_ret
  exact ⟨ret_u64 e.out, rfl⟩
set_option maxRecDepth 100000 in
theorem wzagLow_any (w : World) (n : Nat) : Step 30 w n (kzag (n % 4294967296)) := by
  unfold Step
  have H := Lib.hid (wzag_any w (n % 4294967296) (by omega))
  have G := Lib.hid (low_any w n)
  unfold Step at H G
  generalize n % 4294967296 = m at *
  go_enter Tryd.func30, Tryd.ntmps30
  go_wp2_with fail
  refine G.out.mono ?_
  rintro e w1 ⟨rfl, rfl⟩
  go_wp2_with fail
  refine H.out.mono ?_
  rintro e w1 ⟨rfl, rfl⟩
  go_wp2_with fail
  go_ret
  exact ⟨rfl, rfl⟩
set_option maxRecDepth 100000 in
theorem wzig_any (w : World) (n : Nat) (h : n < 18446744073709551616) : Step 31 w n (kzig n) := by
  unfold Step
  have e := Lib.hid (zig_is n h)
  have hb := wrap64_bd (n : Int)
  have H := Lib.hid (zig_any w (wrap64 (n : Int)) hb.1 hb.2)
  clear h hb
  go_enter Tryd.func31, Tryd.ntmps31
  go_wp2_with fail
  refine H.out.mono ?_
  rintro _ w1 ⟨rfl, rfl⟩
  go_wp2_with fail
  go_ret
  exact ⟨ret_u64 e.out, rfl⟩

/-- What codeOf answers: two steps. -/
def CodeSays (w : World) (z : Int) (F B : FuncId) : Prop := Calls Tryd.prog 24 #[.int .i64 z] w fun e w' => e = .returned (.agg #[.func (.func F) #[] #[], .func (.func B) #[] #[]]) ∧ Below w.heap.size w w'
set_option maxRecDepth 100000 in
theorem code_1 (w : World) : CodeSays w 1 28 28 := by
  unfold CodeSays
  go_enter Tryd.func24, Tryd.ntmps24
  go_wp2
  exact bodyPost_ret (results_1 rfl (rv_cell w.heap.size [.func (.func 28) #[] #[], .func (.func 28) #[] #[]] _ _ rfl (Blk.new _ _ _) Tryd.underlying40 (by kernel_rfl))) rfl ⟨rfl, (Below.refl _ _).alloc (Nat.le_refl _) _⟩
set_option maxRecDepth 100000 in
theorem code_2 (w : World) : CodeSays w 2 29 28 := by
  unfold CodeSays
  go_enter Tryd.func24, Tryd.ntmps24
  go_wp2
  exact bodyPost_ret (results_1 rfl (rv_cell w.heap.size [.func (.func 29) #[] #[], .func (.func 28) #[] #[]] _ _ rfl (Blk.new _ _ _) Tryd.underlying40 (by kernel_rfl))) rfl ⟨rfl, (Below.refl _ _).alloc (Nat.le_refl _) _⟩
set_option maxRecDepth 100000 in
theorem code_3 (w : World) : CodeSays w 3 27 28 := by
  unfold CodeSays
  go_enter Tryd.func24, Tryd.ntmps24
  go_wp2
  exact bodyPost_ret (results_1 rfl (rv_cell w.heap.size [.func (.func 27) #[] #[], .func (.func 28) #[] #[]] _ _ rfl (Blk.new _ _ _) Tryd.underlying40 (by kernel_rfl))) rfl ⟨rfl, (Below.refl _ _).alloc (Nat.le_refl _) _⟩
set_option maxRecDepth 100000 in
theorem code_4 (w : World) : CodeSays w 4 28 28 := by
  unfold CodeSays
  go_enter Tryd.func24, Tryd.ntmps24
  go_wp2
  exact bodyPost_ret (results_1 rfl (rv_cell w.heap.size [.func (.func 28) #[] #[], .func (.func 28) #[] #[]] _ _ rfl (Blk.new _ _ _) Tryd.underlying40 (by kernel_rfl))) rfl ⟨rfl, (Below.refl _ _).alloc (Nat.le_refl _) _⟩
set_option maxRecDepth 100000 in
theorem code_5 (w : World) : CodeSays w 5 29 28 := by
  unfold CodeSays
  go_enter Tryd.func24, Tryd.ntmps24
  go_wp2
  exact bodyPost_ret (results_1 rfl (rv_cell w.heap.size [.func (.func 29) #[] #[], .func (.func 28) #[] #[]] _ _ rfl (Blk.new _ _ _) Tryd.underlying40 (by kernel_rfl))) rfl ⟨rfl, (Below.refl _ _).alloc (Nat.le_refl _) _⟩
set_option maxRecDepth 100000 in
theorem code_6 (w : World) : CodeSays w 6 28 28 := by
  unfold CodeSays
  go_enter Tryd.func24, Tryd.ntmps24
  go_wp2
  exact bodyPost_ret (results_1 rfl (rv_cell w.heap.size [.func (.func 28) #[] #[], .func (.func 28) #[] #[]] _ _ rfl (Blk.new _ _ _) Tryd.underlying40 (by kernel_rfl))) rfl ⟨rfl, (Below.refl _ _).alloc (Nat.le_refl _) _⟩
set_option maxRecDepth 100000 in
theorem code_7 (w : World) : CodeSays w 7 30 31 := by
  unfold CodeSays
  go_enter Tryd.func24, Tryd.ntmps24
  go_wp2
  exact bodyPost_ret (results_1 rfl (rv_cell w.heap.size [.func (.func 30) #[] #[], .func (.func 31) #[] #[]] _ _ rfl (Blk.new _ _ _) Tryd.underlying40 (by kernel_rfl))) rfl ⟨rfl, (Below.refl _ _).alloc (Nat.le_refl _) _⟩
set_option maxRecDepth 100000 in
theorem code_8 (w : World) : CodeSays w 8 32 31 := by
  unfold CodeSays
  go_enter Tryd.func24, Tryd.ntmps24
  go_wp2
  exact bodyPost_ret (results_1 rfl (rv_cell w.heap.size [.func (.func 32) #[] #[], .func (.func 31) #[] #[]] _ _ rfl (Blk.new _ _ _) Tryd.underlying40 (by kernel_rfl))) rfl ⟨rfl, (Below.refl _ _).alloc (Nat.le_refl _) _⟩
set_option maxRecDepth 100000 in
theorem code_9 (w : World) : CodeSays w 9 29 28 := by
  unfold CodeSays
  go_enter Tryd.func24, Tryd.ntmps24
  go_wp2
  exact bodyPost_ret (results_1 rfl (rv_cell w.heap.size [.func (.func 29) #[] #[], .func (.func 28) #[] #[]] _ _ rfl (Blk.new _ _ _) Tryd.underlying40 (by kernel_rfl))) rfl ⟨rfl, (Below.refl _ _).alloc (Nat.le_refl _) _⟩
set_option maxRecDepth 100000 in
theorem code_10 (w : World) : CodeSays w 10 28 28 := by
  unfold CodeSays
  go_enter Tryd.func24, Tryd.ntmps24
  go_wp2
  exact bodyPost_ret (results_1 rfl (rv_cell w.heap.size [.func (.func 28) #[] #[], .func (.func 28) #[] #[]] _ _ rfl (Blk.new _ _ _) Tryd.underlying40 (by kernel_rfl))) rfl ⟨rfl, (Below.refl _ _).alloc (Nat.le_refl _) _⟩
set_option maxRecDepth 100000 in
theorem code_11 (w : World) : CodeSays w 11 27 29 := by
  unfold CodeSays
  go_enter Tryd.func24, Tryd.ntmps24
  go_wp2
  exact bodyPost_ret (results_1 rfl (rv_cell w.heap.size [.func (.func 27) #[] #[], .func (.func 29) #[] #[]] _ _ rfl (Blk.new _ _ _) Tryd.underlying40 (by kernel_rfl))) rfl ⟨rfl, (Below.refl _ _).alloc (Nat.le_refl _) _⟩
set_option maxRecDepth 100000 in
theorem code_12 (w : World) : CodeSays w 12 28 28 := by
  unfold CodeSays
  go_enter Tryd.func24, Tryd.ntmps24
  go_wp2
  exact bodyPost_ret (results_1 rfl (rv_cell w.heap.size [.func (.func 28) #[] #[], .func (.func 28) #[] #[]] _ _ rfl (Blk.new _ _ _) Tryd.underlying40 (by kernel_rfl))) rfl ⟨rfl, (Below.refl _ _).alloc (Nat.le_refl _) _⟩
set_option maxRecDepth 100000 in
theorem code_13 (w : World) : CodeSays w 13 33 28 := by
  unfold CodeSays
  go_enter Tryd.func24, Tryd.ntmps24
  go_wp2
  exact bodyPost_ret (results_1 rfl (rv_cell w.heap.size [.func (.func 33) #[] #[], .func (.func 28) #[] #[]] _ _ rfl (Blk.new _ _ _) Tryd.underlying40 (by kernel_rfl))) rfl ⟨rfl, (Below.refl _ _).alloc (Nat.le_refl _) _⟩
set_option maxRecDepth 100000 in
theorem code_16 (w : World) : CodeSays w 16 27 28 := by
  unfold CodeSays
  go_enter Tryd.func24, Tryd.ntmps24
  go_wp2
  exact bodyPost_ret (results_1 rfl (rv_cell w.heap.size [.func (.func 27) #[] #[], .func (.func 28) #[] #[]] _ _ rfl (Blk.new _ _ _) Tryd.underlying40 (by kernel_rfl))) rfl ⟨rfl, (Below.refl _ _).alloc (Nat.le_refl _) _⟩
def FitFn (F : FuncId) : Prop := F = 27 ∨ F = 29 ∨ F = 30 ∨ F = 32 ∨ F = 33 ∨ F = 28
def BackFn (F : FuncId) : Prop := F = 29 ∨ F = 31 ∨ F = 28
/-- Of a number's kind: the two steps, and what they do. -/
theorem code_any (w : World) (i : Nat) (hn : knumB i = true) : ∃ F B, CodeSays w (i : Int) F B ∧ FitFn F ∧ BackFn B ∧ ∀ (u : World) (n : Nat), n < 18446744073709551616 → Step F u n (kfit i n) ∧ Step B u n (kback i n) := by
  have hi : (1 ≤ i ∧ i ≤ 13) ∨ i = 16 := by simpa [knumB] using hn
  have hi' : i ≤ 16 := by omega
  clear hn
  match i, hi, hi' with
  | 0, h, _ => exact absurd h (by decide)
  | 1, _, _ => exact ⟨_, _, code_1 w, by unfold FitFn; decide, by unfold BackFn; decide, fun u n _ => ⟨same_any u n, same_any u n⟩⟩
  | 2, _, _ => exact ⟨_, _, code_2 w, by unfold FitFn; decide, by unfold BackFn; decide, fun u n _ => ⟨low_any u n, same_any u n⟩⟩
  | 3, _, _ => exact ⟨_, _, code_3 w, by unfold FitFn; decide, by unfold BackFn; decide, fun u n _ => ⟨signed_any u n, same_any u n⟩⟩
  | 4, _, _ => exact ⟨_, _, code_4 w, by unfold FitFn; decide, by unfold BackFn; decide, fun u n _ => ⟨same_any u n, same_any u n⟩⟩
  | 5, _, _ => exact ⟨_, _, code_5 w, by unfold FitFn; decide, by unfold BackFn; decide, fun u n _ => ⟨low_any u n, same_any u n⟩⟩
  | 6, _, _ => exact ⟨_, _, code_6 w, by unfold FitFn; decide, by unfold BackFn; decide, fun u n _ => ⟨same_any u n, same_any u n⟩⟩
  | 7, _, _ => exact ⟨_, _, code_7 w, by unfold FitFn; decide, by unfold BackFn; decide, fun u n h => ⟨wzagLow_any u n, wzig_any u n h⟩⟩
  | 8, _, _ => exact ⟨_, _, code_8 w, by unfold FitFn; decide, by unfold BackFn; decide, fun u n h => ⟨wzag_any u n h, wzig_any u n h⟩⟩
  | 9, _, _ => exact ⟨_, _, code_9 w, by unfold FitFn; decide, by unfold BackFn; decide, fun u n _ => ⟨low_any u n, same_any u n⟩⟩
  | 10, _, _ => exact ⟨_, _, code_10 w, by unfold FitFn; decide, by unfold BackFn; decide, fun u n _ => ⟨same_any u n, same_any u n⟩⟩
  | 11, _, _ => exact ⟨_, _, code_11 w, by unfold FitFn; decide, by unfold BackFn; decide, fun u n _ => ⟨signed_any u n, low_any u n⟩⟩
  | 12, _, _ => exact ⟨_, _, code_12 w, by unfold FitFn; decide, by unfold BackFn; decide, fun u n _ => ⟨same_any u n, same_any u n⟩⟩
  | 13, _, _ => exact ⟨_, _, code_13 w, by unfold FitFn; decide, by unfold BackFn; decide, fun u n _ => ⟨truth_any u n, same_any u n⟩⟩
  | 14, h, _ => exact absurd h (by decide)
  | 15, h, _ => exact absurd h (by decide)
  | 16, _, _ => exact ⟨_, _, code_16 w, by unfold FitFn; decide, by unfold BackFn; decide, fun u n _ => ⟨signed_any u n, same_any u n⟩⟩
  | n + 17, _, h => omega
set_option maxRecDepth 100000 in
theorem kFit_num (w : World) (hT : TabK w) (i : Nat) (n : Nat) (hn : knumB i = true) (h : n < 18446744073709551616) : Tells 17 w #[.int .i64 (i : Int), .int .u64 (n : Int)] (.int .u64 (kfit i n : Int)) := by
  unfold Tells
  have hi : (1 ≤ i ∧ i ≤ 13) ∨ i = 16 := by simpa [knumB] using hn
  have H := kNumber_any w hT (i : Int)
  rw [kn_at i (by omega) (by omega), hn] at H
  unfold Tells at H
  have H1 := Lib.hid H
  have HC := Lib.hid (fun u : World => code_any u i hn)
  have hf := cfld0
  have Hh := Lib.hid h
  generalize hR : kfit i n = R at *
  have HR := Lib.hid hR
  clear hT H hi hn hR h
  go_enter Tryd.func17, Tryd.ntmps17
  go_wp2_with fail
  refine H1.out.mono ?_
  rintro e w1 ⟨rfl, hb⟩
  go_wp2_with fail
  obtain ⟨F, B, HC1, HF0, HF1, HS⟩ := HC.out w1
  have HS1 := Lib.hid (fun u => (HS u n Hh.out).1)
  clear HS
  refine HC1.mono ?_
  rintro e w2 ⟨rfl, hb2⟩
  go_wp2_with fail
  have HS2 := HS1.out w2
  rw [HR.out] at HS2
  clear HS1 HC1 HF1
  unfold FitFn at HF0
  rcases HF0 with rfl | rfl | rfl | rfl | rfl | rfl
  all_goals
    refine HS2.mono ?_
    rintro e w3 ⟨rfl, rfl⟩
    go_wp2_with fail
    go_ret
    exact ⟨rfl, hb.trans (hb2.mono hb.size)⟩
set_option maxRecDepth 100000 in
theorem kFit_any (w : World) (hT : TabK w) (z : Int) (n : Nat) (h : n < 18446744073709551616) : Tells 17 w #[.int .i64 z, .int .u64 (n : Int)] (.int .u64 (kfit (kn z) n : Int)) := by
  rcases hB : knumB (kn z) with _ | _
  · rw [(kright_num (kn z) n hB).2.1]
    unfold Tells
    have H := kNumber_any w hT z
    rw [hB] at H
    unfold Tells at H
    have H1 := Lib.hid H
    clear hT H hB h
    go_enter Tryd.func17, Tryd.ntmps17
    go_wp2_with fail
    refine H1.out.mono ?_
    rintro e w1 ⟨rfl, hb⟩
    go_wp2_with fail
    go_ret
    exact ⟨rfl, hb⟩
  · by_cases hz : 1 ≤ z ∧ z ≤ 17
    · obtain ⟨i, rfl⟩ : ∃ i : Nat, z = (i : Int) := ⟨z.toNat, by omega⟩
      rw [kn_at i (by omega) (by omega)] at hB ⊢
      exact kFit_num w hT i n hB h
    · exfalso
      unfold kn at hB
      rw [if_neg hz] at hB
      exact absurd hB (by decide)
set_option maxRecDepth 100000 in
theorem kBack_num (w : World) (hT : TabK w) (i : Nat) (n : Nat) (hn : knumB i = true) (h : n < 18446744073709551616) : Tells 19 w #[.int .i64 (i : Int), .int .u64 (n : Int)] (.int .u64 (kback i n : Int)) := by
  unfold Tells
  have hi : (1 ≤ i ∧ i ≤ 13) ∨ i = 16 := by simpa [knumB] using hn
  have H := kNumber_any w hT (i : Int)
  rw [kn_at i (by omega) (by omega), hn] at H
  unfold Tells at H
  have H1 := Lib.hid H
  have HC := Lib.hid (fun u : World => code_any u i hn)
  have hf := cfld1
  have Hh := Lib.hid h
  generalize hR : kback i n = R at *
  have HR := Lib.hid hR
  clear hT H hi hn hR h
  go_enter Tryd.func19, Tryd.ntmps19
  go_wp2_with fail
  refine H1.out.mono ?_
  rintro e w1 ⟨rfl, hb⟩
  go_wp2_with fail
  obtain ⟨F, B, HC1, HF0, HF1, HS⟩ := HC.out w1
  have HS1 := Lib.hid (fun u => (HS u n Hh.out).2)
  clear HS
  refine HC1.mono ?_
  rintro e w2 ⟨rfl, hb2⟩
  go_wp2_with fail
  have HS2 := HS1.out w2
  rw [HR.out] at HS2
  clear HS1 HC1 HF0
  unfold BackFn at HF1
  rcases HF1 with rfl | rfl | rfl
  all_goals
    refine HS2.mono ?_
    rintro e w3 ⟨rfl, rfl⟩
    go_wp2_with fail
    go_ret
    exact ⟨rfl, hb.trans (hb2.mono hb.size)⟩
set_option maxRecDepth 100000 in
theorem kBack_any (w : World) (hT : TabK w) (z : Int) (n : Nat) (h : n < 18446744073709551616) : Tells 19 w #[.int .i64 z, .int .u64 (n : Int)] (.int .u64 (kback (kn z) n : Int)) := by
  rcases hB : knumB (kn z) with _ | _
  · rw [(kright_num (kn z) n hB).2.2]
    unfold Tells
    have H := kNumber_any w hT z
    rw [hB] at H
    unfold Tells at H
    have H1 := Lib.hid H
    clear hT H hB h
    go_enter Tryd.func19, Tryd.ntmps19
    go_wp2_with fail
    refine H1.out.mono ?_
    rintro e w1 ⟨rfl, hb⟩
    go_wp2_with fail
    go_ret
    exact ⟨rfl, hb⟩
  · by_cases hz : 1 ≤ z ∧ z ≤ 17
    · obtain ⟨i, rfl⟩ : ∃ i : Nat, z = (i : Int) := ⟨z.toNat, by omega⟩
      rw [kn_at i (by omega) (by omega)] at hB ⊢
      exact kBack_num w hT i n hB h
    · exfalso
      unfold kn at hB
      rw [if_neg hz] at hB
      exact absurd hB (by decide)
end Go.Proofs.YtnokjainniihkaaDoor
