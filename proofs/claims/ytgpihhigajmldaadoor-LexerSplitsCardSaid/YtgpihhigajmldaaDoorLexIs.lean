/- The contract of errors.Is at faults that wrap one another and one of package api's errors: whether it is that error; and the number of such an error. Condition: the errors' variables hold what the program's text lays. -/
import Derived.Test.YtgpihhigajmldaaDoorProg
import Derived.Test.YtgpihhigajmldaaDoorMem
import Derived.Test.YtgpihhigajmldaaDoorLexWhere
import Derived.Test.YtgpihhigajmldaaDoorLexSpan
import Derived.Deep.LoopGhost
namespace Go.Proofs.YtgpihhigajmldaaDoor
open Go.RowKit Go.Extern.Stop Go.Stop Go.Extern

/-- An error of package api, behind n faults. -/
def Chain (w : World) (A : Nat → Addr) (k : Nat) : Nat → Value → Prop
  | 0, v => v = errV A k
  | n + 1, v => ∃ (b : Nat) (li co : Int) (v' : Value), v = .iface tFlt (.pointer (some ⟨b, 0, none⟩)) ∧ Blk w b 40 [.int .i64 li, .int .i64 co, v'] ∧ Chain w A k n v'
theorem Chain.drewN {w : World} {A : Nat → Addr} {k : Nat} : ∀ {n : Nat} {v : Value} (m : Nat), Chain w A k n v → Chain (w.drewN m) A k n v
  | 0, _, _, h => h
  | _ + 1, _, m, ⟨b, li, co, v', h1, h2, h3⟩ => ⟨b, li, co, v', h1, h2.drewN m, h3.drewN m⟩
theorem Chain.below {w w' : World} {A : Nat → Addr} {k : Nat} (hb : Below w.heap.size w w') : ∀ {n : Nat} {v : Value}, Chain w A k n v → Chain w' A k n v
  | 0, _, h => h
  | _ + 1, _, ⟨b, li, co, v', h1, h2, h3⟩ => ⟨b, li, co, v', h1, h2.kept hb, h3.below hb⟩

theorem Chain.held {w : World} {A : Nat → Addr} {k n : Nat} {v : Value} (h : Chain w A k n v) : ∃ u x, v = .iface u x ∧ ∀ w0, (binOp .eql 25 (.iface u x) .nilIface).run Tryd.prog w0 = .ok (.bool false) w0 := by
  cases n with
  | zero => exact ⟨tE, .pointer (some (A k)), h, fun w0 => run_eql_held_nil (P := Tryd.prog) w0 25 tE (.pointer (some (A k))) (by kernel_rfl)⟩
  | succ g =>
    obtain ⟨b2, _, _, _, h2, _, _⟩ := h
    exact ⟨tFlt, _, h2, fun w0 => run_eql_held_nil (P := Tryd.prog) w0 25 tFlt _ (by kernel_rfl)⟩

theorem noIsF (v : Value) (xT : TypeId) (w : World) : (Instr.typeAssert (.iface tFlt v) xT 102 true).run Tryd.prog w = .ok (.tuple #[.nilIface, .bool false]) w := run_typeAssert_lacksB Tryd.underlying102 (by kernel_rfl) (by kernel_rfl) v xT w
theorem unwrapF (v : Value) (xT : TypeId) (w : World) : (Instr.typeAssert (.iface tFlt v) xT 99 true).run Tryd.prog w = .ok (.tuple #[.iface tFlt v, .bool true]) w := run_typeAssert_hasB Tryd.underlying99 (by kernel_rfl) v xT w
theorem methodF (v : Value) (w : World) : (Go.method 264 tFlt v "Unwrap").run Tryd.prog w = .ok (17, v) w := by kernel_rfl
theorem eqlF (v u : Value) (w : World) : (binOp .eql 25 (.iface tFlt v) (.iface tE u)).run Tryd.prog w = .ok (.bool false) w := run_eql_iface_types tFlt tE v u Tryd.underlying25 (by decide) w

set_option maxRecDepth 100000 in
theorem unwrap_any (w : World) (b : Nat) (li co : Int) (v : Value) (hk : Blk w b 40 [.int .i64 li, .int .i64 co, v]) : Calls Tryd.prog 17 #[.pointer (some ⟨b, 0, none⟩)] w (Qui v w) := by
  have c2 : w.cell? ⟨b, 2, none⟩ = some v := hk.cell 2
  go_enter Tryd.func17, Tryd.ntmps17
  go_wp2_with fail
  go_ret
  exact ⟨rfl, 0, rfl⟩

set_option maxRecDepth 100000 in
set_option maxHeartbeats 1000000 in
theorem isIn_chain (w : World) (A : Nat → Addr) (hE : Errs w A) (k j : Nat) (hk : k < 19) (hj : j < 19) (n : Nat) (v : Value) (hc : Chain w A k n v) :
    Calls Tryd.prog 44 #[v, errV A j, .bool true] w (Qui (.bool (decide (k = j))) w) := by
  have HC := Lib.hid hc
  clear hc
  unfold errV
  go_enter Tryd.func44, Tryd.ntmps44
  go_wp2_with fail
  go_loopg [0] n (fun g x wx => Hid (Chain w A k g x) ∧ ∃ m, wx = w.drewN m)
  case atStart => exact ⟨HC, 0, rfl⟩
  case round =>
    obtain ⟨HC, m, rfl⟩ := hrel
    cases gk with
    | zero =>
      obtain rfl := HC.out
      obtain ⟨i, hi, hcmp⟩ := Option.map_eq_some_iff.1 isComp
      obtain ⟨i2, hi2, hjs⟩ := Option.map_eq_some_iff.1 isSize
      unfold errV
      by_cases hkj : k = j
      · subst hkj
        have heq := run_eql_iface_ptr_same (P := Tryd.prog) (w.drewN m) (A k) Tryd.underlying25 Tryd.underlying133 hi hcmp hi2
        clear hi hi2 hcmp hjs
        go_wp2_with fail
        go_ret
        exact ⟨by simp, m, rfl⟩
      · obtain ⟨ca, ta, ha⟩ := hE.blocks k hk
        obtain ⟨cb, tb, hb⟩ := hE.blocks j hj
        have heq := run_eql_iface_ptr_other (P := Tryd.prog) (w.drewN m) Tryd.underlying25 Tryd.underlying133 hi hcmp hi2 (by rw [hjs]; decide) (hE.apart k j hk hj hkj) ha hb
        have nE := noIs
        have uE := noUnwrap
        have vE := noUnwraps
        clear hi hi2 hcmp hjs ha hb
        go_wp2_with fail
        go_ret
        exact ⟨by simp [hkj], m, rfl⟩
    | succ g =>
      obtain ⟨b, li, co, v', rfl, hb, hc'⟩ := HC.out
      obtain ⟨u', x', rfl, hnil⟩ := hc'.held
      have HC' := Lib.hid hc'
      have HU := Lib.hid (unwrap_any (w.drewN m) b li co (.iface u' x') (hb.drewN m))
      have nE := noIsF
      have uE := unwrapF
      have mE := methodF
      have eE := eqlF
      clear hc' hb HC
      go_wp2_with fail
      refine HU.out.mono ?_
      rintro e w' ⟨rfl, m2, rfl⟩
      go_wp2_with fail
      go_roundg g
      case measure => omega
      case rel => exact ⟨HC', m + m2, rfl⟩

set_option maxRecDepth 100000 in
theorem is_chain (w : World) (A : Nat → Addr) (hE : Errs w A) (k j : Nat) (hk : k < 19) (hj : j < 19) (n : Nat) (v : Value) (hc : Chain w A k n v) :
    Calls Tryd.prog 33 #[v, errV A j] w (Qui (.bool (decide (k = j))) w) := by
  have HI := Lib.hid (isIn_chain w A hE k j hk hj n v hc)
  obtain ⟨uv, xv, rfl, hnil⟩ := hc.held
  have hnil2 := run_eql_held_nil (P := Tryd.prog) w 25 tE (.pointer (some (A j))) (by kernel_rfl)
  have h8 := @run_callFunc_extern Tryd.prog 43 _ Extern.ReflectliteType.typeOf Tryd.func43 (by kernel_rfl) (by kernel_rfl) (by kernel_rfl) (by kernel_rfl)
  have h32 := @run_callFunc_extern Tryd.prog 110 _ cmpM Tryd.func110 (by kernel_rfl) (by kernel_rfl) (by kernel_rfl) (by kernel_rfl)
  have tT := isTypeOf
  have cT := isComparable
  have mR := isMethod
  clear hc
  unfold errV at *
  go_enter Tryd.func33, Tryd.ntmps33
  go_wp2_with fail
  refine HI.out.mono ?_
  rintro e w' ⟨rfl, m, rfl⟩
  go_wp2_with fail
  go_ret
  exact ⟨rfl, m, rfl⟩

set_option maxHeartbeats 1000000 in
set_option maxRecDepth 100000 in
/-- The number of an error of package api behind faults. -/
theorem num_chain (w : World) (A : Nat → Addr) (h : Errs w A) (k : Nat) (hk : k < 19) (n : Nat) (v : Value) (hc : Chain w A k n v) :
    Calls Tryd.prog 16 #[v] w fun e w' => e = .returned (.int .i64 ((k : Int) + 1)) ∧ Below w.heap.size w w' := by
  obtain ⟨uv, xv, rfl, hnil⟩ := hc.held
  have HC := Lib.hid hc
  clear hc
  go_enter Tryd.func16, Tryd.ntmps16
  go_wp2_with fail
  refine (all_any w A h).mono ?_
  rintro e w1 ⟨rfl, hb, hbl⟩
  have h1 := h.below hbl
  have HC1 := Lib.hid (HC.out.below hbl)
  go_wp2_with fail
  go_loopg [9] (k + 1) (fun g i wx => ∃ j : Nat, j + g = k + 1 ∧ j ≤ k ∧ i = .int .i64 (j : Int) ∧ ∃ m, wx = w1.drewN m)
  case atStart => exact ⟨0, by omega, by omega, rfl, 0, rfl⟩
  case round =>
    obtain ⟨j, hjg, hjk, rfl, m, rfl⟩ := hrel
    have hcell : w1.cell? ⟨w.heap.size, j, none⟩ = some (.iface tE (.pointer (some (A j)))) := by
      rw [hb.cell]
      simp [show j < 19 by omega, errV]
    have hj19 : j < 19 := by omega
    have hji : (j : Int) < 19 := by omega
    have HI := Lib.hid (is_chain (w1.drewN m) A ⟨h1.holds, h1.blocks, h1.apart⟩ k j hk hj19 n _ (HC1.out.drewN m))
    unfold errV at HI
    by_cases hlt : k = j
    · rw [decide_eq_true hlt] at HI
      go_wp2_with fail
      refine HI.out.mono ?_
      rintro e w2 ⟨rfl, m2, rfl⟩
      go_wp2_with fail
      go_ret
      exact ⟨by rw [hlt]; rfl, below_drewN hbl (m + m2)⟩
    · rw [decide_eq_false hlt] at HI
      go_wp2_with fail
      refine HI.out.mono ?_
      rintro e w2 ⟨rfl, m2, rfl⟩
      go_wp2_with fail
      go_roundg (k + 1 - (j + 1))
      case measure => omega
      case rel => exact ⟨j + 1, by omega, by omega, by go_num, m + m2, rfl⟩
end Go.Proofs.YtgpihhigajmldaaDoor
