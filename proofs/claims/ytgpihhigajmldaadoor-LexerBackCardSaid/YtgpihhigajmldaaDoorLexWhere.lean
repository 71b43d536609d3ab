/- The contracts of lexer.Where, of a fault's Unwrap, and of errors.Is at a fault: where a fault is, and what it wraps. Conditions: the library's variable errors.errorType holds what it lays; the errors' variables hold what the program's text lays. -/
import Derived.Test.YtgpihhigajmldaaDoorProg
import Derived.Test.YtgpihhigajmldaaDoorMem
import Derived.Test.YtgpihhigajmldaaDoorLexAs
import Derived.Test.YtgpihhigajmldaaDoorErrOf
import Derived.Test.YtgpihhigajmldaaDoorRet
import Derived.Defers
import Derived.Recover
import Derived.Laws.Pointers
import Derived.Deep.RegionHeld3
namespace Go.Proofs.YtgpihhigajmldaaDoor
open Go.RowKit Go.Extern.Stop Go.Stop Go.Extern

abbrev tFlt : TypeId := 37
/-- The library's variable holds the type of an error. -/
def ErrT (w : World) : Prop := w.cell? ⟨19, 0, none⟩ = some (.iface 92 (.agg #[.pointer (some ⟨24, 25, none⟩)]))
theorem ErrT.below {w w' : World} (h : ErrT w) (hb : Below w.heap.size w w') : ErrT w' := (hb.cell (p := ⟨_, 0, none⟩) (World.block_lt_of_cell? w ⟨_, 0, none⟩ h)).trans h

/-- The deferred closure of Where finds nothing to recover. -/
theorem where_idle (p q r : Addr) (w : World) :
    CallsD Tryd.prog 30 #[.pointer (some p), .pointer (some q), .pointer (some r)] .returning w fun e u' w' => e = .returned (.tuple #[]) ∧ u' = .returning ∧ w' = w := by
  refine callsD_of_wpS Tryd.func30 rfl fun c₀ cs hu => ?_
  apply wpS_seq
  apply wpS_region
  simp [wpOpsS, go_sem, recoverD, hu, Tryd.ntmps30, Exit.thenS]
  refine wpS_cond (t := false) (by simp [Act.eval, Array.replicate]) ?_
  simp only [Bool.false_eq_true, if_false]
  refine wpS_of_wp (wp_skip ?_)
  cases c₀
  simp_all [bodyPostS, results, Tryd.results30]

theorem fa_assignableE (w : World) : (ReflectliteType.relation "AssignableTo" ReflectliteType.assignableTo #[.agg #[.pointer (some ⟨24, tE, none⟩)], .iface 92 (.agg #[.pointer (some ⟨24, 37, none⟩)])]).run Tryd.prog w = .ok (.bool false) w := by kernel_rfl
theorem fa_noAs (v : Value) (xT : TypeId) (w : World) : (Instr.typeAssert (.iface tE v) xT 96 true).run Tryd.prog w = .ok (.tuple #[.nilIface, .bool false]) w := run_typeAssert_lacksB Tryd.underlying96 (by kernel_rfl) (by kernel_rfl) v xT w

set_option maxHeartbeats 4000000 in
theorem as_miss (v : Value) (t : Addr) (old : Value) (w : World) (hg : w.cell? ⟨19, 0, none⟩ = some (.iface 92 (.agg #[.pointer (some ⟨24, 25, none⟩)]))) (ht0 : w.cell? t = some old) (_hf0 : w.frozen? t = false) :
    Calls Tryd.prog 31 #[.iface tE v, .iface 63 (.pointer (some t))] w fun ev w' => ev = .returned (.bool false) ∧ w' = (((w.alloc (.cells #[.pointer (some t)] 63)).alloc (.cells #[.pointer (some ⟨24, 63, none⟩), .pointer (some ⟨w.heap.size, 0, none⟩), .int .u64 150] 73)).alloc (.cells #[.pointer (some ⟨24, 63, none⟩), .pointer (some ⟨w.heap.size, 0, none⟩), .int .u64 150] 73)) := by
  have h6 := @run_callFunc_extern Tryd.prog 38 _ (fun args => ReflectliteValue.unpack (args.getD 0 (.tuple #[]))) Tryd.func38 (by kernel_rfl) (by kernel_rfl) (by kernel_rfl) (by kernel_rfl)
  have h7 := @run_callFunc_extern Tryd.prog 39 _ (ReflectliteValue.methodAny (ReflectliteValue.valueError "reflectlite.Value.Type" 0) (fun t _ _ _ => ReflectliteType.toType t)) Tryd.func39 (by kernel_rfl) (by kernel_rfl) (by kernel_rfl) (by kernel_rfl)
  have h8 := @run_callFunc_extern Tryd.prog 40 _ (ReflectliteValue.method (ReflectliteValue.valueError "reflectlite.Value.IsNil" 0) ReflectliteValue.isNil) Tryd.func40 (by kernel_rfl) (by kernel_rfl) (by kernel_rfl) (by kernel_rfl)
  have h27 := @run_callFunc_extern Tryd.prog 102 _ (ReflectliteType.abiMethod fun t => do pure (.int .u8 (← Rtype.kind t))) Tryd.func102 (by kernel_rfl) (by kernel_rfl) (by kernel_rfl) (by kernel_rfl)
  have h37 := @run_callFunc_extern Tryd.prog 111 _ (ReflectliteType.method ReflectliteType.elem) Tryd.func111 (by kernel_rfl) (by kernel_rfl) (by kernel_rfl) (by kernel_rfl)
  have h38 := @run_callFunc_extern Tryd.prog 112 _ (ReflectliteType.relation "Implements" ReflectliteType.implements_) Tryd.func112 (by kernel_rfl) (by kernel_rfl) (by kernel_rfl) (by kernel_rfl)
  have h10 := @run_callFunc_extern Tryd.prog 43 _ ReflectliteType.typeOf Tryd.func43 (by kernel_rfl) (by kernel_rfl) (by kernel_rfl) (by kernel_rfl)
  have h35 := @run_callFunc_extern Tryd.prog 109 _ (ReflectliteType.relation "AssignableTo" ReflectliteType.assignableTo) Tryd.func109 (by kernel_rfl) (by kernel_rfl) (by kernel_rfl) (by kernel_rfl)
  have tO := isTypeOf
  have nA := fa_noAs
  have uE := noUnwrap
  have vE := noUnwraps
  have mA := fa_methodAssignableTo
  have a25 := fa_assignableE
  have f6 := fa_valueOf27
  have f7 := fa_type27
  have mK := fa_methodKind
  have mE := fa_methodElem
  have mI := fa_methodImplements
  have k27 := fa_kind27
  have k25 := fa_kind25
  have e27 := fa_elem27
  have i25 := fa_implements25
  have n8 := fa_isNil27 ⟨w.heap.size, 0, none⟩ t ((w.alloc (.cells #[.pointer (some t)] 63)).alloc (.cells #[.pointer (some ⟨24, 63, none⟩), .pointer (some ⟨w.heap.size, 0, none⟩), .int .u64 150] 73)) (by simp)
  have hlt : 19 < w.heap.size := World.block_lt_of_cell? w ⟨19, 0, none⟩ hg
  have hg2 : ((w.alloc (.cells #[.pointer (some t)] 63)).alloc (.cells #[.pointer (some ⟨24, 63, none⟩), .pointer (some ⟨w.heap.size, 0, none⟩), .int .u64 150] 73)).cell? ⟨19, 0, none⟩ = some (.iface 92 (.agg #[.pointer (some ⟨24, 25, none⟩)])) := by
    rw [World.cell?_alloc_lt _ _ ⟨19, 0, none⟩ (by simp; omega), World.cell?_alloc_lt _ _ ⟨19, 0, none⟩ hlt]; exact hg
  have htl : t.block < w.heap.size := by
    rcases Nat.lt_or_ge t.block w.heap.size with h | h
    · exact h
    · simp [World.cell?, Array.getElem?_eq_none h] at ht0
  go_enter Tryd.func31, Tryd.ntmps31
  go_wp2
  refine wp_loop_rounds 1 ?_
  rw [rounds_succ]
  go_wp2
  go_ret
  exact ⟨rfl, rfl⟩
theorem drewc {w : World} {p : Addr} {v : Value} (h : w.cell? p = some v) : w.drew.cell? p = some v := h
theorem where_two (w : World) : Blk ((w.alloc (.cells #[.int .i64 0] 3)).alloc (.cells #[.int .i64 0] 3)) (w.heap.size + 1) 3 [.int .i64 0] := by
  have h := Blk.new (w.alloc (.cells #[.int .i64 0] 3)) 3 [.int .i64 0]
  have e : (w.alloc (.cells #[.int .i64 0] 3)).heap.size = w.heap.size + 1 := by simp
  rw [e] at h
  exact h
theorem where_three (w : World) : Blk (((w.alloc (.cells #[.int .i64 0] 3)).alloc (.cells #[.int .i64 0] 3)).alloc (.cells #[.bool false] 4)) (w.heap.size + 1 + 1) 4 [.bool false] := by
  have h := Blk.new ((w.alloc (.cells #[.int .i64 0] 3)).alloc (.cells #[.int .i64 0] 3)) 4 [.bool false]
  have e : ((w.alloc (.cells #[.int .i64 0] 3)).alloc (.cells #[.int .i64 0] 3)).heap.size = w.heap.size + 1 + 1 := by simp
  rw [e] at h
  exact h
theorem where_fault (w : World) (b : Nat) : Blk ((((w.alloc (.cells #[.int .i64 0] 3)).alloc (.cells #[.int .i64 0] 3)).alloc (.cells #[.bool false] 4)).alloc (.cells #[.pointer (some ⟨b, 0, none⟩)] 37)) (w.heap.size + 1 + 1 + 1) 37 [.pointer (some ⟨b, 0, none⟩)] := by
  have h := Blk.new (((w.alloc (.cells #[.int .i64 0] 3)).alloc (.cells #[.int .i64 0] 3)).alloc (.cells #[.bool false] 4)) 37 [.pointer (some ⟨b, 0, none⟩)]
  have e : (((w.alloc (.cells #[.int .i64 0] 3)).alloc (.cells #[.int .i64 0] 3)).alloc (.cells #[.bool false] 4)).heap.size = w.heap.size + 1 + 1 + 1 := by simp
  rw [e] at h
  exact h
theorem where_four (w : World) : Blk ((((w.alloc (.cells #[.int .i64 0] 3)).alloc (.cells #[.int .i64 0] 3)).alloc (.cells #[.bool false] 4)).alloc (.cells #[.pointer none] 37)) (w.heap.size + 1 + 1 + 1) 37 [.pointer none] := by
  have h := Blk.new (((w.alloc (.cells #[.int .i64 0] 3)).alloc (.cells #[.int .i64 0] 3)).alloc (.cells #[.bool false] 4)) 37 [.pointer none]
  have e : (((w.alloc (.cells #[.int .i64 0] 3)).alloc (.cells #[.int .i64 0] 3)).alloc (.cells #[.bool false] 4)).heap.size = w.heap.size + 1 + 1 + 1 := by simp
  rw [e] at h
  exact h
theorem where_world (w : World) : Below w.heap.size w ((((w.alloc (.cells #[.int .i64 0] 3)).alloc (.cells #[.int .i64 0] 3)).alloc (.cells #[.bool false] 4)).alloc (.cells #[.pointer none] 37)) := ((((Below.refl _ _).alloc (Nat.le_refl _) _).alloc (by simp) _).alloc (by simp; omega) _).alloc (by simp; omega) _
set_option maxRecDepth 100000 in
set_option maxHeartbeats 2000000 in
theorem where_nil (w : World) : Calls Tryd.prog 13 #[.nilIface] w fun e w' => e = .returned (.tuple #[.int .i64 0, .int .i64 0, .bool false]) ∧ Below w.heap.size w w' := by
  have hmf : ∀ (fn : Fn) (first cap : Array Value) (w : World), (Instr.makeFunc fn first cap).run Tryd.prog w = .ok (.func fn first cap) w := fun _ _ _ _ => rfl
  go_enter_defers Tryd.func13, Tryd.ntmps13
  go_wp2_with fail
  refine (as_nil _ _).mono ?_
  rintro e w' ⟨rfl, rfl⟩
  go_wp2_with fail
  refine leaves_cons (f := 30) (args := #[.pointer (some ⟨w.heap.size, 0, none⟩), .pointer (some ⟨w.heap.size + 1, 0, none⟩), .pointer (some ⟨w.heap.size + 1 + 1, 0, none⟩)]) (by simp) (by simp [go_sem]) ?_
  refine (where_idle _ _ _ _).mono ?_
  rintro e u' w'' ⟨rfl, rfl, rfl⟩
  simp [Leaves, settle, results, Tryd.results13, go_sem]
  exact where_world w

set_option maxRecDepth 100000 in
set_option maxHeartbeats 2000000 in
theorem where_miss (w : World) (hT : ErrT w) (v : Value) : Calls Tryd.prog 13 #[.iface tE v] w fun e w' => e = .returned (.tuple #[.int .i64 0, .int .i64 0, .bool false]) ∧ Below w.heap.size w w' := by
  have hmf : ∀ (fn : Fn) (first cap : Array Value) (w : World), (Instr.makeFunc fn first cap).run Tryd.prog w = .ok (.func fn first cap) w := fun _ _ _ _ => rfl
  have hb4 := where_world w
  have hgA : ErrT ((((w.alloc (.cells #[.int .i64 0] 3)).alloc (.cells #[.int .i64 0] 3)).alloc (.cells #[.bool false] 4)).alloc (.cells #[.pointer none] 37)) := hT.below (hb4.mono (Nat.le_refl _))
  have htA : (((((w.alloc (.cells #[.int .i64 0] 3)).alloc (.cells #[.int .i64 0] 3)).alloc (.cells #[.bool false] 4)).alloc (.cells #[.pointer none] 37))).cell? ⟨w.heap.size + 1 + 1 + 1, 0, none⟩ = some (.pointer none) := (where_four w).cell 0
  have hfA : (((((w.alloc (.cells #[.int .i64 0] 3)).alloc (.cells #[.int .i64 0] 3)).alloc (.cells #[.bool false] 4)).alloc (.cells #[.pointer none] 37))).frozen? ⟨w.heap.size + 1 + 1 + 1, 0, none⟩ = false := (where_four w).frozen 0
  go_enter_defers Tryd.func13, Tryd.ntmps13
  go_wp2_with fail
  refine (as_miss v _ (.pointer none) _ hgA htA hfA).mono ?_
  rintro e w' ⟨rfl, rfl⟩
  clear hgA htA hfA
  go_wp2_with fail
  refine leaves_cons (f := 30) (args := #[.pointer (some ⟨w.heap.size, 0, none⟩), .pointer (some ⟨w.heap.size + 1, 0, none⟩), .pointer (some ⟨w.heap.size + 1 + 1, 0, none⟩)]) (by simp) (by simp [go_sem]) ?_
  refine (where_idle _ _ _ _).mono ?_
  rintro e u' w'' ⟨rfl, rfl, rfl⟩
  simp [Leaves, settle, results, Tryd.results13, go_sem]
  exact ((hb4.alloc (by simp; omega) _).alloc (by simp; omega) _).alloc (by simp; omega) _

set_option maxRecDepth 100000 in
set_option maxHeartbeats 2000000 in
theorem where_hit (w : World) (hT : ErrT w) (b : Nat) (line col : Int) (er : Value) (hk : Blk w b 40 [.int .i64 line, .int .i64 col, er]) : Calls Tryd.prog 13 #[.iface tFlt (.pointer (some ⟨b, 0, none⟩))] w fun e w' => e = .returned (.tuple #[.int .i64 line, .int .i64 col, .bool true]) ∧ Below w.heap.size w w' := by
  have hmf : ∀ (fn : Fn) (first cap : Array Value) (w : World), (Instr.makeFunc fn first cap).run Tryd.prog w = .ok (.func fn first cap) w := fun _ _ _ _ => rfl
  have hb4 := where_world w
  have hgA : ErrT ((((w.alloc (.cells #[.int .i64 0] 3)).alloc (.cells #[.int .i64 0] 3)).alloc (.cells #[.bool false] 4)).alloc (.cells #[.pointer none] 37)) := hT.below (hb4.mono (Nat.le_refl _))
  have htA : (((((w.alloc (.cells #[.int .i64 0] 3)).alloc (.cells #[.int .i64 0] 3)).alloc (.cells #[.bool false] 4)).alloc (.cells #[.pointer none] 37))).cell? ⟨w.heap.size + 1 + 1 + 1, 0, none⟩ = some (.pointer none) := (where_four w).cell 0
  have hfA : (((((w.alloc (.cells #[.int .i64 0] 3)).alloc (.cells #[.int .i64 0] 3)).alloc (.cells #[.bool false] 4)).alloc (.cells #[.pointer none] 37))).frozen? ⟨w.heap.size + 1 + 1 + 1, 0, none⟩ = false := (where_four w).frozen 0
  go_enter_defers Tryd.func13, Tryd.ntmps13
  go_wp2_with fail
  refine (as_hit ⟨b, 0, none⟩ _ (.pointer none) _ hgA htA hfA).mono ?_
  rintro e w' ⟨rfl, rfl⟩
  clear hgA htA hfA
  go_wp2_with fail
  obtain ⟨w8, hw8⟩ : ∃ w8, w8 = ((((((((w.alloc (.cells #[.int .i64 0] 3)).alloc (.cells #[.int .i64 0] 3)).alloc (.cells #[.bool false] 4)).alloc (.cells #[.pointer (some ⟨b, 0, none⟩)] 37)).alloc (.cells #[.pointer (some ⟨w.heap.size + 1 + 1 + 1, 0, none⟩)] 63)).alloc (.cells #[.pointer (some ⟨24, 63, none⟩), .pointer (some ⟨w.heap.size + 1 + 1 + 1 + 1, 0, none⟩), .int .u64 150] 73)).alloc (.cells #[.pointer (some ⟨24, 63, none⟩), .pointer (some ⟨w.heap.size + 1 + 1 + 1 + 1, 0, none⟩), .int .u64 150] 73)).alloc (.cells #[.pointer (some ⟨b, 0, none⟩)] 37)) := ⟨_, rfl⟩
  have hblt := hk.lt
  have k0 : Blk w8 w.heap.size 3 [.int .i64 0] := hw8 ▸ (((((((Blk.new w 3 [.int .i64 0]).alloc _).alloc _).alloc _).alloc _).alloc _).alloc _).alloc _
  have k1 : Blk w8 (w.heap.size + 1) 3 [.int .i64 0] := hw8 ▸ (((((((where_two w).alloc _).alloc _).alloc _).alloc _).alloc _).alloc _)
  have k2 : Blk w8 (w.heap.size + 1 + 1) 4 [.bool false] := hw8 ▸ ((((((where_three w).alloc _).alloc _).alloc _).alloc _).alloc _)
  have k3 : Blk w8 (w.heap.size + 1 + 1 + 1) 37 [.pointer (some ⟨b, 0, none⟩)] := hw8 ▸ (((((where_fault w b).alloc _).alloc _).alloc _).alloc _)
  have hB8 : Below w.heap.size w w8 := hw8 ▸ ((((((((Below.refl _ _).alloc (Nat.le_refl _) _).alloc (by simp) _).alloc (by simp; omega) _).alloc (by simp; omega) _).alloc (by simp; omega) _).alloc (by simp; omega) _).alloc (by simp; omega) _).alloc (by simp; omega) _
  have kb : Blk w8 b 40 [.int .i64 line, .int .i64 col, er] := hk.kept hB8
  rw [← hw8]
  clear hw8
  have hne : b < w.heap.size := hk.lt
  have l0 : w8.cell? ⟨b, 0, none⟩ = some (.int .i64 line) := kb.cell 0
  have l1 : w8.cell? ⟨b, 1, none⟩ = some (.int .i64 col) := kb.cell 1
  have lf : w8.cell? ⟨w.heap.size + 1 + 1 + 1, 0, none⟩ = some (.pointer (some ⟨b, 0, none⟩)) := k3.cell 0
  have r0 : w8.cell? ⟨w.heap.size, 0, none⟩ = some (.int .i64 0) := k0.cell 0
  have r1 : w8.cell? ⟨w.heap.size + 1, 0, none⟩ = some (.int .i64 0) := k1.cell 0
  have r2 : w8.cell? ⟨w.heap.size + 1 + 1, 0, none⟩ = some (.bool false) := k2.cell 0
  have z0 : w8.frozen? ⟨w.heap.size, 0, none⟩ = false := k0.frozen 0
  have z1 : w8.frozen? ⟨w.heap.size + 1, 0, none⟩ = false := k1.frozen 0
  have z2 : w8.frozen? ⟨w.heap.size + 1 + 1, 0, none⟩ = false := k2.frozen 0
  have S0 : w8.cell? ⟨w.heap.size + 1 + 1 + 1, 0, none⟩ = some (.pointer (some ⟨b, 0, none⟩)) ∧ w8.cell? ⟨b, 0, none⟩ = some (.int .i64 line) ∧ w8.cell? ⟨b, 1, none⟩ = some (.int .i64 col) := ⟨k3.cell 0, kb.cell 0, kb.cell 1⟩
  have D0 : w8.drew.cell? ⟨w.heap.size + 1 + 1 + 1, 0, none⟩ = some (.pointer (some ⟨b, 0, none⟩)) ∧ w8.drew.cell? ⟨b, 0, none⟩ = some (.int .i64 line) ∧ w8.drew.cell? ⟨b, 1, none⟩ = some (.int .i64 col) := ⟨drewc S0.1, drewc S0.2.1, drewc S0.2.2⟩
  have S1 : (w8.setCell ⟨w.heap.size, 0, none⟩ (.int .i64 line)).cell? ⟨w.heap.size + 1 + 1 + 1, 0, none⟩ = some (.pointer (some ⟨b, 0, none⟩)) ∧ (w8.setCell ⟨w.heap.size, 0, none⟩ (.int .i64 line)).cell? ⟨b, 0, none⟩ = some (.int .i64 line) ∧ (w8.setCell ⟨w.heap.size, 0, none⟩ (.int .i64 line)).cell? ⟨b, 1, none⟩ = some (.int .i64 col) := ⟨(k3.far (p := ⟨w.heap.size, 0, none⟩) (by simp only; omega) (.int .i64 line)).cell 0, (kb.far (p := ⟨w.heap.size, 0, none⟩) (by simp only; omega) (.int .i64 line)).cell 0, (kb.far (p := ⟨w.heap.size, 0, none⟩) (by simp only; omega) (.int .i64 line)).cell 1⟩
  have D1 : (w8.setCell ⟨w.heap.size, 0, none⟩ (.int .i64 line)).drew.cell? ⟨w.heap.size + 1 + 1 + 1, 0, none⟩ = some (.pointer (some ⟨b, 0, none⟩)) ∧ (w8.setCell ⟨w.heap.size, 0, none⟩ (.int .i64 line)).drew.cell? ⟨b, 0, none⟩ = some (.int .i64 line) ∧ (w8.setCell ⟨w.heap.size, 0, none⟩ (.int .i64 line)).drew.cell? ⟨b, 1, none⟩ = some (.int .i64 col) := ⟨drewc S1.1, drewc S1.2.1, drewc S1.2.2⟩
  have S2 : ((w8.setCell ⟨w.heap.size, 0, none⟩ (.int .i64 line)).setCell ⟨w.heap.size + 1, 0, none⟩ (.int .i64 col)).cell? ⟨w.heap.size + 1 + 1 + 1, 0, none⟩ = some (.pointer (some ⟨b, 0, none⟩)) ∧ ((w8.setCell ⟨w.heap.size, 0, none⟩ (.int .i64 line)).setCell ⟨w.heap.size + 1, 0, none⟩ (.int .i64 col)).cell? ⟨b, 0, none⟩ = some (.int .i64 line) ∧ ((w8.setCell ⟨w.heap.size, 0, none⟩ (.int .i64 line)).setCell ⟨w.heap.size + 1, 0, none⟩ (.int .i64 col)).cell? ⟨b, 1, none⟩ = some (.int .i64 col) := ⟨((k3.far (p := ⟨w.heap.size, 0, none⟩) (by simp only; omega) (.int .i64 line)).far (p := ⟨w.heap.size + 1, 0, none⟩) (by simp only; omega) (.int .i64 col)).cell 0, ((kb.far (p := ⟨w.heap.size, 0, none⟩) (by simp only; omega) (.int .i64 line)).far (p := ⟨w.heap.size + 1, 0, none⟩) (by simp only; omega) (.int .i64 col)).cell 0, ((kb.far (p := ⟨w.heap.size, 0, none⟩) (by simp only; omega) (.int .i64 line)).far (p := ⟨w.heap.size + 1, 0, none⟩) (by simp only; omega) (.int .i64 col)).cell 1⟩
  have D2 : ((w8.setCell ⟨w.heap.size, 0, none⟩ (.int .i64 line)).setCell ⟨w.heap.size + 1, 0, none⟩ (.int .i64 col)).drew.cell? ⟨w.heap.size + 1 + 1 + 1, 0, none⟩ = some (.pointer (some ⟨b, 0, none⟩)) ∧ ((w8.setCell ⟨w.heap.size, 0, none⟩ (.int .i64 line)).setCell ⟨w.heap.size + 1, 0, none⟩ (.int .i64 col)).drew.cell? ⟨b, 0, none⟩ = some (.int .i64 line) ∧ ((w8.setCell ⟨w.heap.size, 0, none⟩ (.int .i64 line)).setCell ⟨w.heap.size + 1, 0, none⟩ (.int .i64 col)).drew.cell? ⟨b, 1, none⟩ = some (.int .i64 col) := ⟨drewc S2.1, drewc S2.2.1, drewc S2.2.2⟩
  have S3 : (((w8.setCell ⟨w.heap.size, 0, none⟩ (.int .i64 line)).setCell ⟨w.heap.size + 1, 0, none⟩ (.int .i64 col)).setCell ⟨w.heap.size + 1 + 1, 0, none⟩ (.bool true)).cell? ⟨w.heap.size + 1 + 1 + 1, 0, none⟩ = some (.pointer (some ⟨b, 0, none⟩)) ∧ (((w8.setCell ⟨w.heap.size, 0, none⟩ (.int .i64 line)).setCell ⟨w.heap.size + 1, 0, none⟩ (.int .i64 col)).setCell ⟨w.heap.size + 1 + 1, 0, none⟩ (.bool true)).cell? ⟨b, 0, none⟩ = some (.int .i64 line) ∧ (((w8.setCell ⟨w.heap.size, 0, none⟩ (.int .i64 line)).setCell ⟨w.heap.size + 1, 0, none⟩ (.int .i64 col)).setCell ⟨w.heap.size + 1 + 1, 0, none⟩ (.bool true)).cell? ⟨b, 1, none⟩ = some (.int .i64 col) := ⟨(((k3.far (p := ⟨w.heap.size, 0, none⟩) (by simp only; omega) (.int .i64 line)).far (p := ⟨w.heap.size + 1, 0, none⟩) (by simp only; omega) (.int .i64 col)).far (p := ⟨w.heap.size + 1 + 1, 0, none⟩) (by simp only; omega) (.bool true)).cell 0, (((kb.far (p := ⟨w.heap.size, 0, none⟩) (by simp only; omega) (.int .i64 line)).far (p := ⟨w.heap.size + 1, 0, none⟩) (by simp only; omega) (.int .i64 col)).far (p := ⟨w.heap.size + 1 + 1, 0, none⟩) (by simp only; omega) (.bool true)).cell 0, (((kb.far (p := ⟨w.heap.size, 0, none⟩) (by simp only; omega) (.int .i64 line)).far (p := ⟨w.heap.size + 1, 0, none⟩) (by simp only; omega) (.int .i64 col)).far (p := ⟨w.heap.size + 1 + 1, 0, none⟩) (by simp only; omega) (.bool true)).cell 1⟩
  have D3 : (((w8.setCell ⟨w.heap.size, 0, none⟩ (.int .i64 line)).setCell ⟨w.heap.size + 1, 0, none⟩ (.int .i64 col)).setCell ⟨w.heap.size + 1 + 1, 0, none⟩ (.bool true)).drew.cell? ⟨w.heap.size + 1 + 1 + 1, 0, none⟩ = some (.pointer (some ⟨b, 0, none⟩)) ∧ (((w8.setCell ⟨w.heap.size, 0, none⟩ (.int .i64 line)).setCell ⟨w.heap.size + 1, 0, none⟩ (.int .i64 col)).setCell ⟨w.heap.size + 1 + 1, 0, none⟩ (.bool true)).drew.cell? ⟨b, 0, none⟩ = some (.int .i64 line) ∧ (((w8.setCell ⟨w.heap.size, 0, none⟩ (.int .i64 line)).setCell ⟨w.heap.size + 1, 0, none⟩ (.int .i64 col)).setCell ⟨w.heap.size + 1 + 1, 0, none⟩ (.bool true)).drew.cell? ⟨b, 1, none⟩ = some (.int .i64 col) := ⟨drewc S3.1, drewc S3.2.1, drewc S3.2.2⟩
  go_region_held3 (fun w' => w'.cell? ⟨w.heap.size + 1 + 1 + 1, 0, none⟩ = some (.pointer (some ⟨b, 0, none⟩)) ∧ w'.cell? ⟨b, 0, none⟩ = some (.int .i64 line) ∧ w'.cell? ⟨b, 1, none⟩ = some (.int .i64 col)) (first | with_reducible exact S0 | with_reducible exact D0 | with_reducible exact S1 | with_reducible exact D1 | with_reducible exact S2 | with_reducible exact D2 | with_reducible exact S3 | with_reducible exact D3) (fail)
  obtain ⟨w9, hw9⟩ : ∃ w9, w9 = (((w8.setCell ⟨w.heap.size, 0, none⟩ (.int .i64 line)).setCell ⟨w.heap.size + 1, 0, none⟩ (.int .i64 col)).setCell ⟨w.heap.size + 1 + 1, 0, none⟩ (.bool true)).drew := ⟨_, rfl⟩
  have q0 : w9.cell? ⟨w.heap.size, 0, none⟩ = some (.int .i64 line) := hw9 ▸ (((k0.set_ 0 (.int .i64 line)).far (p := ⟨w.heap.size + 1, 0, none⟩) (by simp only; omega) (.int .i64 col)).far (p := ⟨w.heap.size + 1 + 1, 0, none⟩) (by simp only; omega) (.bool true)).drew.cell 0
  have q1 : w9.cell? ⟨w.heap.size + 1, 0, none⟩ = some (.int .i64 col) := hw9 ▸ (((k1.far (p := ⟨w.heap.size, 0, none⟩) (by simp only; omega) (.int .i64 line)).set_ 0 (.int .i64 col)).far (p := ⟨w.heap.size + 1 + 1, 0, none⟩) (by simp only; omega) (.bool true)).drew.cell 0
  have q2 : w9.cell? ⟨w.heap.size + 1 + 1, 0, none⟩ = some (.bool true) := hw9 ▸ (((k2.far (p := ⟨w.heap.size, 0, none⟩) (by simp only; omega) (.int .i64 line)).far (p := ⟨w.heap.size + 1, 0, none⟩) (by simp only; omega) (.int .i64 col)).set_ 0 (.bool true)).drew.cell 0
  have hB9 : Below w.heap.size w w9 := hw9 ▸ below_drewN (((hB8.setCell (p := ⟨w.heap.size, 0, none⟩) (Nat.le_refl _) (.int .i64 line)).setCell (p := ⟨w.heap.size + 1, 0, none⟩) (by simp only; omega) (.int .i64 col)).setCell (p := ⟨w.heap.size + 1 + 1, 0, none⟩) (by simp only; omega) (.bool true)) 1
  rw [← hw9]
  clear hw9 S0 S1 S2 S3 D0 D1 D2 D3
  go_wp2_with fail
  refine leaves_cons (f := 30) (args := #[.pointer (some ⟨w.heap.size, 0, none⟩), .pointer (some ⟨w.heap.size + 1, 0, none⟩), .pointer (some ⟨w.heap.size + 1 + 1, 0, none⟩)]) (by simp) (by simp [go_sem]) ?_
  refine (where_idle _ _ _ _).mono ?_
  rintro e u' w'' ⟨rfl, rfl, rfl⟩
  simp [Leaves, settle, results, Tryd.results13, go_sem, q0, q1, q2]
  exact hB9
end Go.Proofs.YtgpihhigajmldaaDoor
