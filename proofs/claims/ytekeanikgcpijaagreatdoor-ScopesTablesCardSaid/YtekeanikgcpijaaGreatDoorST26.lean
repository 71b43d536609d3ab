/- Part 26 of what the last text of this claim is proved by: walks over the program, and the math behind them. Conditions: as each theorem says. -/
import Derived.Test.YtekeanikgcpijaaGreatDoorST25
import Derived.Test.YtekeanikgcpijaaGreatDoorProg
import Derived.Defers
import Derived.Recover
import Derived.Laws.Pointers
import Derived.Deep.RegionHeld3
import Derived.WalkKit
import Derived.Lib.Hide
import Derived.Deep.LoopGhost
namespace Go.Proofs.YtekeanikgcpijaaGreatDoor
open Go.RowKit Go.Extern.Stop Go.Stop Go.Extern
abbrev tFlt : TypeId := 96
def ErrT (w : World) : Prop := w.cell? ⟨2, 0, none⟩ = some (.iface 173 (.agg #[.pointer (some ⟨21, 28, none⟩)]))
theorem ErrT.below {w w' : World} (h : ErrT w) (hb : Below w.heap.size w w') : ErrT w' := (hb.cell (p := ⟨_, 0, none⟩) (World.block_lt_of_cell? w ⟨_, 0, none⟩ h)).trans h
theorem where_idle (p q r : Addr) (w : World) :
    CallsD Tryz.prog 36 #[.pointer (some p), .pointer (some q), .pointer (some r)] .returning w fun e u' w' => e = .returned (.tuple #[]) ∧ u' = .returning ∧ w' = w := by
  refine callsD_of_wpS Tryz.func36 rfl fun c₀ cs hu => ?_
  apply wpS_seq
  apply wpS_region
  simp [wpOpsS, go_sem, recoverD, hu, Tryz.ntmps36, Exit.thenS]
  refine wpS_cond (t := false) (by simp [Act.eval, Array.replicate]) ?_
  simp only [Bool.false_eq_true, if_false]
  refine wpS_of_wp (wp_skip ?_)
  cases c₀
  simp_all [bodyPostS, results, Tryz.results36]
theorem drewc {w : World} {p : Addr} {v : Value} (h : w.cell? p = some v) : w.drew.cell? p = some v := h
theorem where_two (w : World) : Blk ((w.alloc (.cells #[.int .i64 0] 3)).alloc (.cells #[.int .i64 0] 3)) (w.heap.size + 1) 3 [.int .i64 0] := by
  have h := Blk.new (w.alloc (.cells #[.int .i64 0] 3)) 3 [.int .i64 0]
  have e : (w.alloc (.cells #[.int .i64 0] 3)).heap.size = w.heap.size + 1 := by simp
  rw [e] at h
  exact h
theorem where_three (w : World) : Blk (((w.alloc (.cells #[.int .i64 0] 3)).alloc (.cells #[.int .i64 0] 3)).alloc (.cells #[.bool false] 4)) (w.heap.size + 1 + 1) 4 [.bool false] := by
  have h := Blk.new ((w.alloc (.cells #[.int .i64 0] 3)).alloc (.cells #[.int .i64 0] 3)) 4 [.bool false]
  have e : ((w.alloc (.cells #[.int .i64 0] 3)).alloc (.cells #[.int .i64 0] 3)).heap.size = w.heap.size + 1 + 1 := by simp
  rw [e] at h
  exact h
theorem where_fault (w : World) (b : Nat) : Blk ((((w.alloc (.cells #[.int .i64 0] 3)).alloc (.cells #[.int .i64 0] 3)).alloc (.cells #[.bool false] 4)).alloc (.cells #[.pointer (some ⟨b, 0, none⟩)] 96)) (w.heap.size + 1 + 1 + 1) 96 [.pointer (some ⟨b, 0, none⟩)] := by
  have h := Blk.new (((w.alloc (.cells #[.int .i64 0] 3)).alloc (.cells #[.int .i64 0] 3)).alloc (.cells #[.bool false] 4)) 96 [.pointer (some ⟨b, 0, none⟩)]
  have e : (((w.alloc (.cells #[.int .i64 0] 3)).alloc (.cells #[.int .i64 0] 3)).alloc (.cells #[.bool false] 4)).heap.size = w.heap.size + 1 + 1 + 1 := by simp
  rw [e] at h
  exact h
theorem where_four (w : World) : Blk ((((w.alloc (.cells #[.int .i64 0] 3)).alloc (.cells #[.int .i64 0] 3)).alloc (.cells #[.bool false] 4)).alloc (.cells #[.pointer none] 96)) (w.heap.size + 1 + 1 + 1) 96 [.pointer none] := by
  have h := Blk.new (((w.alloc (.cells #[.int .i64 0] 3)).alloc (.cells #[.int .i64 0] 3)).alloc (.cells #[.bool false] 4)) 96 [.pointer none]
  have e : (((w.alloc (.cells #[.int .i64 0] 3)).alloc (.cells #[.int .i64 0] 3)).alloc (.cells #[.bool false] 4)).heap.size = w.heap.size + 1 + 1 + 1 := by simp
  rw [e] at h
  exact h
theorem where_world (w : World) : Below w.heap.size w ((((w.alloc (.cells #[.int .i64 0] 3)).alloc (.cells #[.int .i64 0] 3)).alloc (.cells #[.bool false] 4)).alloc (.cells #[.pointer none] 96)) := ((((Below.refl _ _).alloc (Nat.le_refl _) _).alloc (by simp) _).alloc (by simp; omega) _).alloc (by simp; omega) _
set_option maxRecDepth 100000 in
set_option maxHeartbeats 2000000 in
theorem where_nil (w : World) : Calls Tryz.prog 26 #[.nilIface] w fun e w' => e = .returned (.tuple #[.int .i64 0, .int .i64 0, .bool false]) ∧ Below w.heap.size w w' := by
  have hmf : ∀ (fn : Fn) (first cap : Array Value) (w : World), (Instr.makeFunc fn first cap).run Tryz.prog w = .ok (.func fn first cap) w := fun _ _ _ _ => rfl
  go_enter_defers Tryz.func26, Tryz.ntmps26
  go_wp2_with fail
  refine (as_nil _ _).mono ?_
  rintro e w' ⟨rfl, rfl⟩
  go_wp2_with fail
  refine leaves_cons (f := 36) (args := #[.pointer (some ⟨w.heap.size, 0, none⟩), .pointer (some ⟨w.heap.size + 1, 0, none⟩), .pointer (some ⟨w.heap.size + 1 + 1, 0, none⟩)]) (by simp) (by simp [go_sem]) ?_
  refine (where_idle _ _ _ _).mono ?_
  rintro e u' w'' ⟨rfl, rfl, rfl⟩
  simp [Leaves, settle, results, Tryz.results26, go_sem]
  exact where_world w
set_option maxRecDepth 100000 in
set_option maxHeartbeats 2000000 in
theorem where_hit (w : World) (hT : ErrT w) (b : Nat) (line col : Int) (er : Value) (hk : Blk w b 98 [.int .i64 line, .int .i64 col, er]) : Calls Tryz.prog 26 #[.iface tFlt (.pointer (some ⟨b, 0, none⟩))] w fun e w' => e = .returned (.tuple #[.int .i64 line, .int .i64 col, .bool true]) ∧ Below w.heap.size w w' := by
  have hmf : ∀ (fn : Fn) (first cap : Array Value) (w : World), (Instr.makeFunc fn first cap).run Tryz.prog w = .ok (.func fn first cap) w := fun _ _ _ _ => rfl
  have hb4 := where_world w
  have hgA : ErrT ((((w.alloc (.cells #[.int .i64 0] 3)).alloc (.cells #[.int .i64 0] 3)).alloc (.cells #[.bool false] 4)).alloc (.cells #[.pointer none] 96)) := hT.below (hb4.mono (Nat.le_refl _))
  have htA : (((((w.alloc (.cells #[.int .i64 0] 3)).alloc (.cells #[.int .i64 0] 3)).alloc (.cells #[.bool false] 4)).alloc (.cells #[.pointer none] 96))).cell? ⟨w.heap.size + 1 + 1 + 1, 0, none⟩ = some (.pointer none) := (where_four w).cell 0
  have hfA : (((((w.alloc (.cells #[.int .i64 0] 3)).alloc (.cells #[.int .i64 0] 3)).alloc (.cells #[.bool false] 4)).alloc (.cells #[.pointer none] 96))).frozen? ⟨w.heap.size + 1 + 1 + 1, 0, none⟩ = false := (where_four w).frozen 0
  go_enter_defers Tryz.func26, Tryz.ntmps26
  go_wp2_with fail
  refine (as_hit ⟨b, 0, none⟩ _ (.pointer none) _ hgA htA hfA).mono ?_
  rintro e w' ⟨rfl, rfl⟩
  clear hgA htA hfA
  go_wp2_with fail
  obtain ⟨w8, hw8⟩ : ∃ w8, w8 = ((((((((w.alloc (.cells #[.int .i64 0] 3)).alloc (.cells #[.int .i64 0] 3)).alloc (.cells #[.bool false] 4)).alloc (.cells #[.pointer (some ⟨b, 0, none⟩)] 96)).alloc (.cells #[.pointer (some ⟨w.heap.size + 1 + 1 + 1, 0, none⟩)] 119)).alloc (.cells #[.pointer (some ⟨21, 119, none⟩), .pointer (some ⟨w.heap.size + 1 + 1 + 1 + 1, 0, none⟩), .int .u64 150] 141)).alloc (.cells #[.pointer (some ⟨21, 119, none⟩), .pointer (some ⟨w.heap.size + 1 + 1 + 1 + 1, 0, none⟩), .int .u64 150] 141)).alloc (.cells #[.pointer (some ⟨b, 0, none⟩)] 96)) := ⟨_, rfl⟩
  have hblt := hk.lt
  have k0 : Blk w8 w.heap.size 3 [.int .i64 0] := hw8 ▸ (((((((Blk.new w 3 [.int .i64 0]).alloc _).alloc _).alloc _).alloc _).alloc _).alloc _).alloc _
  have k1 : Blk w8 (w.heap.size + 1) 3 [.int .i64 0] := hw8 ▸ (((((((where_two w).alloc _).alloc _).alloc _).alloc _).alloc _).alloc _)
  have k2 : Blk w8 (w.heap.size + 1 + 1) 4 [.bool false] := hw8 ▸ ((((((where_three w).alloc _).alloc _).alloc _).alloc _).alloc _)
  have k3 : Blk w8 (w.heap.size + 1 + 1 + 1) 96 [.pointer (some ⟨b, 0, none⟩)] := hw8 ▸ (((((where_fault w b).alloc _).alloc _).alloc _).alloc _)
  have hB8 : Below w.heap.size w w8 := hw8 ▸ ((((((((Below.refl _ _).alloc (Nat.le_refl _) _).alloc (by simp) _).alloc (by simp; omega) _).alloc (by simp; omega) _).alloc (by simp; omega) _).alloc (by simp; omega) _).alloc (by simp; omega) _).alloc (by simp; omega) _
  have kb : Blk w8 b 98 [.int .i64 line, .int .i64 col, er] := hk.kept hB8
  rw [← hw8]
  clear hw8
  have hne : b < w.heap.size := hk.lt
  have l0 : w8.cell? ⟨b, 0, none⟩ = some (.int .i64 line) := kb.cell 0
  have l1 : w8.cell? ⟨b, 1, none⟩ = some (.int .i64 col) := kb.cell 1
  have lf : w8.cell? ⟨w.heap.size + 1 + 1 + 1, 0, none⟩ = some (.pointer (some ⟨b, 0, none⟩)) := k3.cell 0
  have r0 : w8.cell? ⟨w.heap.size, 0, none⟩ = some (.int .i64 0) := k0.cell 0
  have r1 : w8.cell? ⟨w.heap.size + 1, 0, none⟩ = some (.int .i64 0) := k1.cell 0
  have r2 : w8.cell? ⟨w.heap.size + 1 + 1, 0, none⟩ = some (.bool false) := k2.cell 0
  have z0 : w8.frozen? ⟨w.heap.size, 0, none⟩ = false := k0.frozen 0
  have z1 : w8.frozen? ⟨w.heap.size + 1, 0, none⟩ = false := k1.frozen 0
  have z2 : w8.frozen? ⟨w.heap.size + 1 + 1, 0, none⟩ = false := k2.frozen 0
  have S0 : w8.cell? ⟨w.heap.size + 1 + 1 + 1, 0, none⟩ = some (.pointer (some ⟨b, 0, none⟩)) ∧ w8.cell? ⟨b, 0, none⟩ = some (.int .i64 line) ∧ w8.cell? ⟨b, 1, none⟩ = some (.int .i64 col) := ⟨k3.cell 0, kb.cell 0, kb.cell 1⟩
  have D0 : w8.drew.cell? ⟨w.heap.size + 1 + 1 + 1, 0, none⟩ = some (.pointer (some ⟨b, 0, none⟩)) ∧ w8.drew.cell? ⟨b, 0, none⟩ = some (.int .i64 line) ∧ w8.drew.cell? ⟨b, 1, none⟩ = some (.int .i64 col) := ⟨drewc S0.1, drewc S0.2.1, drewc S0.2.2⟩
  have S1 : (w8.setCell ⟨w.heap.size, 0, none⟩ (.int .i64 line)).cell? ⟨w.heap.size + 1 + 1 + 1, 0, none⟩ = some (.pointer (some ⟨b, 0, none⟩)) ∧ (w8.setCell ⟨w.heap.size, 0, none⟩ (.int .i64 line)).cell? ⟨b, 0, none⟩ = some (.int .i64 line) ∧ (w8.setCell ⟨w.heap.size, 0, none⟩ (.int .i64 line)).cell? ⟨b, 1, none⟩ = some (.int .i64 col) := ⟨(k3.far (p := ⟨w.heap.size, 0, none⟩) (by simp only; omega) (.int .i64 line)).cell 0, (kb.far (p := ⟨w.heap.size, 0, none⟩) (by simp only; omega) (.int .i64 line)).cell 0, (kb.far (p := ⟨w.heap.size, 0, none⟩) (by simp only; omega) (.int .i64 line)).cell 1⟩
  have D1 : (w8.setCell ⟨w.heap.size, 0, none⟩ (.int .i64 line)).drew.cell? ⟨w.heap.size + 1 + 1 + 1, 0, none⟩ = some (.pointer (some ⟨b, 0, none⟩)) ∧ (w8.setCell ⟨w.heap.size, 0, none⟩ (.int .i64 line)).drew.cell? ⟨b, 0, none⟩ = some (.int .i64 line) ∧ (w8.setCell ⟨w.heap.size, 0, none⟩ (.int .i64 line)).drew.cell? ⟨b, 1, none⟩ = some (.int .i64 col) := ⟨drewc S1.1, drewc S1.2.1, drewc S1.2.2⟩
  have S2 : ((w8.setCell ⟨w.heap.size, 0, none⟩ (.int .i64 line)).setCell ⟨w.heap.size + 1, 0, none⟩ (.int .i64 col)).cell? ⟨w.heap.size + 1 + 1 + 1, 0, none⟩ = some (.pointer (some ⟨b, 0, none⟩)) ∧ ((w8.setCell ⟨w.heap.size, 0, none⟩ (.int .i64 line)).setCell ⟨w.heap.size + 1, 0, none⟩ (.int .i64 col)).cell? ⟨b, 0, none⟩ = some (.int .i64 line) ∧ ((w8.setCell ⟨w.heap.size, 0, none⟩ (.int .i64 line)).setCell ⟨w.heap.size + 1, 0, none⟩ (.int .i64 col)).cell? ⟨b, 1, none⟩ = some (.int .i64 col) := ⟨((k3.far (p := ⟨w.heap.size, 0, none⟩) (by simp only; omega) (.int .i64 line)).far (p := ⟨w.heap.size + 1, 0, none⟩) (by simp only; omega) (.int .i64 col)).cell 0, ((kb.far (p := ⟨w.heap.size, 0, none⟩) (by simp only; omega) (.int .i64 line)).far (p := ⟨w.heap.size + 1, 0, none⟩) (by simp only; omega) (.int .i64 col)).cell 0, ((kb.far (p := ⟨w.heap.size, 0, none⟩) (by simp only; omega) (.int .i64 line)).far (p := ⟨w.heap.size + 1, 0, none⟩) (by simp only; omega) (.int .i64 col)).cell 1⟩
  have D2 : ((w8.setCell ⟨w.heap.size, 0, none⟩ (.int .i64 line)).setCell ⟨w.heap.size + 1, 0, none⟩ (.int .i64 col)).drew.cell? ⟨w.heap.size + 1 + 1 + 1, 0, none⟩ = some (.pointer (some ⟨b, 0, none⟩)) ∧ ((w8.setCell ⟨w.heap.size, 0, none⟩ (.int .i64 line)).setCell ⟨w.heap.size + 1, 0, none⟩ (.int .i64 col)).drew.cell? ⟨b, 0, none⟩ = some (.int .i64 line) ∧ ((w8.setCell ⟨w.heap.size, 0, none⟩ (.int .i64 line)).setCell ⟨w.heap.size + 1, 0, none⟩ (.int .i64 col)).drew.cell? ⟨b, 1, none⟩ = some (.int .i64 col) := ⟨drewc S2.1, drewc S2.2.1, drewc S2.2.2⟩
  have S3 : (((w8.setCell ⟨w.heap.size, 0, none⟩ (.int .i64 line)).setCell ⟨w.heap.size + 1, 0, none⟩ (.int .i64 col)).setCell ⟨w.heap.size + 1 + 1, 0, none⟩ (.bool true)).cell? ⟨w.heap.size + 1 + 1 + 1, 0, none⟩ = some (.pointer (some ⟨b, 0, none⟩)) ∧ (((w8.setCell ⟨w.heap.size, 0, none⟩ (.int .i64 line)).setCell ⟨w.heap.size + 1, 0, none⟩ (.int .i64 col)).setCell ⟨w.heap.size + 1 + 1, 0, none⟩ (.bool true)).cell? ⟨b, 0, none⟩ = some (.int .i64 line) ∧ (((w8.setCell ⟨w.heap.size, 0, none⟩ (.int .i64 line)).setCell ⟨w.heap.size + 1, 0, none⟩ (.int .i64 col)).setCell ⟨w.heap.size + 1 + 1, 0, none⟩ (.bool true)).cell? ⟨b, 1, none⟩ = some (.int .i64 col) := ⟨(((k3.far (p := ⟨w.heap.size, 0, none⟩) (by simp only; omega) (.int .i64 line)).far (p := ⟨w.heap.size + 1, 0, none⟩) (by simp only; omega) (.int .i64 col)).far (p := ⟨w.heap.size + 1 + 1, 0, none⟩) (by simp only; omega) (.bool true)).cell 0, (((kb.far (p := ⟨w.heap.size, 0, none⟩) (by simp only; omega) (.int .i64 line)).far (p := ⟨w.heap.size + 1, 0, none⟩) (by simp only; omega) (.int .i64 col)).far (p := ⟨w.heap.size + 1 + 1, 0, none⟩) (by simp only; omega) (.bool true)).cell 0, (((kb.far (p := ⟨w.heap.size, 0, none⟩) (by simp only; omega) (.int .i64 line)).far (p := ⟨w.heap.size + 1, 0, none⟩) (by simp only; omega) (.int .i64 col)).far (p := ⟨w.heap.size + 1 + 1, 0, none⟩) (by simp only; omega) (.bool true)).cell 1⟩
  have D3 : (((w8.setCell ⟨w.heap.size, 0, none⟩ (.int .i64 line)).setCell ⟨w.heap.size + 1, 0, none⟩ (.int .i64 col)).setCell ⟨w.heap.size + 1 + 1, 0, none⟩ (.bool true)).drew.cell? ⟨w.heap.size + 1 + 1 + 1, 0, none⟩ = some (.pointer (some ⟨b, 0, none⟩)) ∧ (((w8.setCell ⟨w.heap.size, 0, none⟩ (.int .i64 line)).setCell ⟨w.heap.size + 1, 0, none⟩ (.int .i64 col)).setCell ⟨w.heap.size + 1 + 1, 0, none⟩ (.bool true)).drew.cell? ⟨b, 0, none⟩ = some (.int .i64 line) ∧ (((w8.setCell ⟨w.heap.size, 0, none⟩ (.int .i64 line)).setCell ⟨w.heap.size + 1, 0, none⟩ (.int .i64 col)).setCell ⟨w.heap.size + 1 + 1, 0, none⟩ (.bool true)).drew.cell? ⟨b, 1, none⟩ = some (.int .i64 col) := ⟨drewc S3.1, drewc S3.2.1, drewc S3.2.2⟩
  go_region_held3 (fun w' => w'.cell? ⟨w.heap.size + 1 + 1 + 1, 0, none⟩ = some (.pointer (some ⟨b, 0, none⟩)) ∧ w'.cell? ⟨b, 0, none⟩ = some (.int .i64 line) ∧ w'.cell? ⟨b, 1, none⟩ = some (.int .i64 col)) (first | with_reducible exact S0 | with_reducible exact D0 | with_reducible exact S1 | with_reducible exact D1 | with_reducible exact S2 | with_reducible exact D2 | with_reducible exact S3 | with_reducible exact D3) (fail)
  obtain ⟨w9, hw9⟩ : ∃ w9, w9 = (((w8.setCell ⟨w.heap.size, 0, none⟩ (.int .i64 line)).setCell ⟨w.heap.size + 1, 0, none⟩ (.int .i64 col)).setCell ⟨w.heap.size + 1 + 1, 0, none⟩ (.bool true)).drew := ⟨_, rfl⟩
  have q0 : w9.cell? ⟨w.heap.size, 0, none⟩ = some (.int .i64 line) := hw9 ▸ (((k0.set_ 0 (.int .i64 line)).far (p := ⟨w.heap.size + 1, 0, none⟩) (by simp only; omega) (.int .i64 col)).far (p := ⟨w.heap.size + 1 + 1, 0, none⟩) (by simp only; omega) (.bool true)).drew.cell 0
  have q1 : w9.cell? ⟨w.heap.size + 1, 0, none⟩ = some (.int .i64 col) := hw9 ▸ (((k1.far (p := ⟨w.heap.size, 0, none⟩) (by simp only; omega) (.int .i64 line)).set_ 0 (.int .i64 col)).far (p := ⟨w.heap.size + 1 + 1, 0, none⟩) (by simp only; omega) (.bool true)).drew.cell 0
  have q2 : w9.cell? ⟨w.heap.size + 1 + 1, 0, none⟩ = some (.bool true) := hw9 ▸ (((k2.far (p := ⟨w.heap.size, 0, none⟩) (by simp only; omega) (.int .i64 line)).far (p := ⟨w.heap.size + 1, 0, none⟩) (by simp only; omega) (.int .i64 col)).set_ 0 (.bool true)).drew.cell 0
  have hB9 : Below w.heap.size w w9 := hw9 ▸ below_drewN (((hB8.setCell (p := ⟨w.heap.size, 0, none⟩) (Nat.le_refl _) (.int .i64 line)).setCell (p := ⟨w.heap.size + 1, 0, none⟩) (by simp only; omega) (.int .i64 col)).setCell (p := ⟨w.heap.size + 1 + 1, 0, none⟩) (by simp only; omega) (.bool true)) 1
  rw [← hw9]
  clear hw9 S0 S1 S2 S3 D0 D1 D2 D3
  go_wp2_with fail
  refine leaves_cons (f := 36) (args := #[.pointer (some ⟨w.heap.size, 0, none⟩), .pointer (some ⟨w.heap.size + 1, 0, none⟩), .pointer (some ⟨w.heap.size + 1 + 1, 0, none⟩)]) (by simp) (by simp [go_sem]) ?_
  refine (where_idle _ _ _ _).mono ?_
  rintro e u' w'' ⟨rfl, rfl, rfl⟩
  simp [Leaves, settle, results, Tryz.results26, go_sem, q0, q1, q2]
  exact hB9
end Go.Proofs.YtekeanikgcpijaaGreatDoor
namespace Go.Proofs.YtekeanikgcpijaaGreatDoor
open Go.RowKit
abbrev Ans (v : Value) (w : World) (e : Ending) (w' : World) : Prop := e = .returned v ∧ w' = w
theorem byte_eq (b c : UInt8) : (b == c) = decide ((b.toNat : Int) = (c.toNat : Int)) := by
  by_cases h : b = c
  · simp [h]
  · have : ¬ (b.toNat : Int) = (c.toNat : Int) := fun e => h (UInt8.toNat_inj.1 (by omega))
    simp [h, this]
set_option maxRecDepth 100000 in
theorem isGap_any (w : World) (b : UInt8) : Calls Tryz.prog 60 #[.int .u8 (b.toNat : Int)] w (Ans (.bool (lxGap b)) w) := by
  have e : lxGap b = (decide ((b.toNat : Int) = 32) || decide ((b.toNat : Int) = 9) || decide ((b.toNat : Int) = 13) || decide ((b.toNat : Int) = 10)) := by
    simp only [lxGap, byte_eq]; rfl
  rw [e]
  clear e
  generalize (b.toNat : Int) = B
  go_enter Tryz.func60, Tryz.ntmps60
  go_wp2
  all_goals (go_ret; refine ⟨congrArg (fun x => Ending.returned (Value.bool x)) ?_, rfl⟩; rw [Bool.eq_iff_iff] <;> first | grind | (simp; done) | (simp; omega))
set_option maxRecDepth 100000 in
theorem isQuote_any (w : World) (b : UInt8) : Calls Tryz.prog 68 #[.int .u8 (b.toNat : Int)] w (Ans (.bool (lxQuote b)) w) := by
  have e : lxQuote b = (decide ((b.toNat : Int) = 34) || decide ((b.toNat : Int) = 39)) := by
    simp only [lxQuote, byte_eq]; rfl
  rw [e]
  clear e
  generalize (b.toNat : Int) = B
  go_enter Tryz.func68, Tryz.ntmps68
  go_wp2
  all_goals (go_ret; refine ⟨congrArg (fun x => Ending.returned (Value.bool x)) ?_, rfl⟩; rw [Bool.eq_iff_iff] <;> first | grind | (simp; done) | (simp; omega))
set_option maxRecDepth 100000 in
theorem isFigure_any (w : World) (b : UInt8) : Calls Tryz.prog 67 #[.int .u8 (b.toNat : Int)] w (Ans (.bool (lxFig b)) w) := by
  have e : lxFig b = decide (48 ≤ (b.toNat : Int) ∧ (b.toNat : Int) ≤ 57) := by
    simp only [lxFig]; exact decide_eq_decide.2 (by omega)
  rw [e]
  clear e
  generalize (b.toNat : Int) = B
  go_enter Tryz.func67, Tryz.ntmps67
  go_wp2
  all_goals (go_ret; refine ⟨congrArg (fun x => Ending.returned (Value.bool x)) ?_, rfl⟩; rw [Bool.eq_iff_iff] <;> first | grind | (simp; done) | (simp; omega))
set_option maxRecDepth 100000 in
theorem beginsWord_any (w : World) (b : UInt8) : Calls Tryz.prog 65 #[.int .u8 (b.toNat : Int)] w (Ans (.bool (lxLet b)) w) := by
  have e : lxLet b = (decide (97 ≤ (b.toNat : Int) ∧ (b.toNat : Int) ≤ 122) || decide (65 ≤ (b.toNat : Int) ∧ (b.toNat : Int) ≤ 90) || decide ((b.toNat : Int) = 95)) := by
    unfold lxLet; rw [byte_eq, show ((95 : UInt8).toNat : Int) = 95 from rfl, Bool.eq_iff_iff]; simp only [Bool.or_eq_true, decide_eq_true_eq]; omega
  rw [e]
  clear e
  generalize (b.toNat : Int) = B
  go_enter Tryz.func65, Tryz.ntmps65
  go_wp2
  all_goals (go_ret; refine ⟨congrArg (fun x => Ending.returned (Value.bool x)) ?_, rfl⟩; rw [Bool.eq_iff_iff] <;> first | grind | (simp; done) | (simp; omega))
set_option maxRecDepth 100000 in
theorem digit_any (w : World) (b : UInt8) : Calls Tryz.prog 88 #[.int .u8 (b.toNat : Int)] w (Ans (.int .i64 (ldig b : Int)) w) := by
  have hB := b.toNat_lt
  unfold ldig
  generalize b.toNat = B at *
  go_enter Tryz.func88, Tryz.ntmps88
  go_wp2
  all_goals (go_ret; refine ⟨congrArg (fun x => Ending.returned (Value.int .i64 x)) ?_, rfl⟩; (repeat' split) <;> (try simp) <;> omega)
set_option maxRecDepth 100000 in
theorem inWord_any (w : World) (b : UInt8) : Calls Tryz.prog 66 #[.int .u8 (b.toNat : Int)] w (Ans (.bool (lxIn b)) w) := by
  have H1 := Lib.hid (beginsWord_any w b)
  have H2 := Lib.hid (isFigure_any w b)
  have e : lxIn b = (lxLet b || lxFig b) := rfl
  rw [e]
  clear e
  generalize lxLet b = x at *
  generalize lxFig b = y at *
  go_enter Tryz.func66, Tryz.ntmps66
  go_wp2_with (first | (go_at_call 65; refine H1.out.mono ?_; rintro e w' ⟨rfl, rfl⟩) | (go_at_call 67; refine H2.out.mono ?_; rintro e w' ⟨rfl, rfl⟩))
  all_goals (go_ret; refine ⟨congrArg (fun x => Ending.returned (Value.bool x)) ?_, rfl⟩; simp_all)
end Go.Proofs.YtekeanikgcpijaaGreatDoor
namespace Go.Proofs.YtekeanikgcpijaaGreatDoor
open Go.RowKit
abbrev Qui (v : Value) (w : World) (e : Ending) (w' : World) : Prop := e = .returned v ∧ ∃ n, w' = w.drewN n
theorem run_not (x : Bool) (w : World) : (Op.unary .not (.bool x)).run Tryz.prog w = .ok (.bool (!x)) w := rfl
theorem lspan_at {p : UInt8 → Bool} {l : List UInt8} {j : Nat} (hj : j ≤ l.length) (h : ∀ (i : Nat) b, i < j → l[i]? = some b → p b = true) (hs : ∀ b, l[j]? = some b → p b = false) : (lspan p l : Int) = j := by
  rw [lspan_eq hj h hs]
set_option maxRecDepth 100000 in
theorem span_fn (w : World) (l : List UInt8) (p : UInt8 → Bool) (k : FuncId) (hl : l.length ≤ 140737488351232) (hen : ∀ (args : Array Value) (u : World), (callFunc k args).run Tryz.prog u = .ok (.enter k args) u) (hk : ∀ (b : UInt8) (m : Nat), Calls Tryz.prog k #[.int .u8 (b.toNat : Int)] (w.drewN m) (Qui (.bool (p b)) w)) :
    Calls Tryz.prog 61 #[.string (str l), .func (.func k) #[] #[]] w (Qui (.int .i64 (lspan p l : Int)) w) := by
  have hz : (str l).size = l.length := strSize l
  have HK := Lib.hid hk
  clear hk
  go_enter Tryz.func61, Tryz.ntmps61
  go_wp2_with fail
  go_loopg [8] l.length (fun g s8 wx => ∃ j : Nat, j + g = l.length ∧ s8 = .int .i64 (j : Int) ∧ (∃ n, wx = w.drewN n) ∧ Hid (∀ (i : Nat) b, i < j → l[i]? = some b → p b = true))
  case atStart => exact ⟨0, by omega, rfl, ⟨0, rfl⟩, Lib.hid (fun _ _ h => absurd h (Nat.not_lt_zero _))⟩
  case round =>
    obtain ⟨j, hj, rfl, ⟨n0, rfl⟩, HJ⟩ := hrel
    cases gk with
    | zero =>
      obtain rfl : j = l.length := by omega
      have hlt : ¬ ((l.length : Int) < (l.length : Int)) := by omega
      go_wp2_with fail
      go_ret
      exact ⟨by rw [lspan_at (Nat.le_refl _) HJ.out (fun b hb => by simp at hb)]; rfl, n0, rfl⟩
    | succ g =>
      have hlt : (j : Int) < (l.length : Int) := by omega
      have hjl : j < l.length := by omega
      have hix := str_index l j hjl
      obtain ⟨b, hb⟩ : ∃ b, l[j] = b := ⟨_, rfl⟩
      rw [hb] at hix
      have hb' : l[j]? = some b := by rw [List.getElem?_eq_getElem hjl, hb]
      have HB := Lib.hid hb'
      clear hb hb'
      have hnot := run_not
      go_wp2_with fail
      refine (HK.out b n0).mono ?_
      rintro e w' ⟨rfl, n1, rfl⟩
      cases hp : p b
      · go_wp2_with fail
        go_ret
        exact ⟨by rw [lspan_at (by omega) HJ.out (fun c hc => by rw [HB.out] at hc; cases hc; exact hp)]; rfl, n1, rfl⟩
      · have HP := Lib.hid hp
        clear hp
        go_wp2_with fail
        go_roundg g
        case measure => omega
        case rel =>
          refine ⟨j + 1, by omega, by go_num, ⟨n1, rfl⟩, Lib.hid (fun i c hi hc => ?_)⟩
          by_cases e : i = j
          · subst e; rw [HB.out] at hc; cases hc; exact HP.out
          · exact HJ.out i c (by omega) hc
set_option maxRecDepth 100000 in
theorem span_cap (w : World) (l : List UInt8) (p : UInt8 → Bool) (k : FuncId) (c : Value) (hl : l.length ≤ 140737488351232) (hen : ∀ (args : Array Value) (u : World), (callFunc k args).run Tryz.prog u = .ok (.enter k args) u) (hk : ∀ (b : UInt8) (m : Nat), Calls Tryz.prog k #[.int .u8 (b.toNat : Int), c] (w.drewN m) (Qui (.bool (p b)) w)) :
    Calls Tryz.prog 61 #[.string (str l), .func (.func k) #[] #[c]] w (Qui (.int .i64 (lspan p l : Int)) w) := by
  have hz : (str l).size = l.length := strSize l
  have HK := Lib.hid hk
  clear hk
  go_enter Tryz.func61, Tryz.ntmps61
  go_wp2_with fail
  go_loopg [8] l.length (fun g s8 wx => ∃ j : Nat, j + g = l.length ∧ s8 = .int .i64 (j : Int) ∧ (∃ n, wx = w.drewN n) ∧ Hid (∀ (i : Nat) b, i < j → l[i]? = some b → p b = true))
  case atStart => exact ⟨0, by omega, rfl, ⟨0, rfl⟩, Lib.hid (fun _ _ h => absurd h (Nat.not_lt_zero _))⟩
  case round =>
    obtain ⟨j, hj, rfl, ⟨n0, rfl⟩, HJ⟩ := hrel
    cases gk with
    | zero =>
      obtain rfl : j = l.length := by omega
      have hlt : ¬ ((l.length : Int) < (l.length : Int)) := by omega
      go_wp2_with fail
      go_ret
      exact ⟨by rw [lspan_at (Nat.le_refl _) HJ.out (fun b hb => by simp at hb)]; rfl, n0, rfl⟩
    | succ g =>
      have hlt : (j : Int) < (l.length : Int) := by omega
      have hjl : j < l.length := by omega
      have hix := str_index l j hjl
      obtain ⟨b, hb⟩ : ∃ b, l[j] = b := ⟨_, rfl⟩
      rw [hb] at hix
      have hb' : l[j]? = some b := by rw [List.getElem?_eq_getElem hjl, hb]
      have HB := Lib.hid hb'
      clear hb hb'
      have hnot := run_not
      go_wp2_with fail
      refine (HK.out b n0).mono ?_
      rintro e w' ⟨rfl, n1, rfl⟩
      cases hp : p b
      · go_wp2_with fail
        go_ret
        exact ⟨by rw [lspan_at (by omega) HJ.out (fun c hc => by rw [HB.out] at hc; cases hc; exact hp)]; rfl, n1, rfl⟩
      · have HP := Lib.hid hp
        clear hp
        go_wp2_with fail
        go_roundg g
        case measure => omega
        case rel =>
          refine ⟨j + 1, by omega, by go_num, ⟨n1, rfl⟩, Lib.hid (fun i c hi hc => ?_)⟩
          by_cases e : i = j
          · subst e; rw [HB.out] at hc; cases hc; exact HP.out
          · exact HJ.out i c (by omega) hc
end Go.Proofs.YtekeanikgcpijaaGreatDoor
namespace Go.Proofs.YtekeanikgcpijaaGreatDoor
open Go.RowKit Go.Extern.Stop Go.Stop Go.Extern
def Chain (w : World) (A : Nat → Addr) (k : Nat) : Nat → Value → Prop
  | 0, v => v = errV A k
  | n + 1, v => ∃ (b : Nat) (li co : Int) (v' : Value), v = .iface tFlt (.pointer (some ⟨b, 0, none⟩)) ∧ Blk w b 98 [.int .i64 li, .int .i64 co, v'] ∧ Chain w A k n v'
theorem Chain.drewN {w : World} {A : Nat → Addr} {k : Nat} : ∀ {n : Nat} {v : Value} (m : Nat), Chain w A k n v → Chain (w.drewN m) A k n v
  | 0, _, _, h => h
  | _ + 1, _, m, ⟨b, li, co, v', h1, h2, h3⟩ => ⟨b, li, co, v', h1, h2.drewN m, h3.drewN m⟩
theorem Chain.below {w w' : World} {A : Nat → Addr} {k : Nat} (hb : Below w.heap.size w w') : ∀ {n : Nat} {v : Value}, Chain w A k n v → Chain w' A k n v
  | 0, _, h => h
  | _ + 1, _, ⟨b, li, co, v', h1, h2, h3⟩ => ⟨b, li, co, v', h1, h2.kept hb, h3.below hb⟩
theorem Chain.held {w : World} {A : Nat → Addr} {k n : Nat} {v : Value} (h : Chain w A k n v) : ∃ u x, v = .iface u x ∧ ∀ w0, (binOp .eql 28 (.iface u x) .nilIface).run Tryz.prog w0 = .ok (.bool false) w0 := by
  cases n with
  | zero => exact ⟨tE, .pointer (some (A k)), h, fun w0 => run_eql_held_nil (P := Tryz.prog) w0 28 tE (.pointer (some (A k))) (by kernel_rfl)⟩
  | succ g =>
    obtain ⟨b2, _, _, _, h2, _, _⟩ := h
    exact ⟨tFlt, _, h2, fun w0 => run_eql_held_nil (P := Tryz.prog) w0 28 tFlt _ (by kernel_rfl)⟩
theorem noIsF (v : Value) (xT : TypeId) (w : World) : (Instr.typeAssert (.iface tFlt v) xT 182 true).run Tryz.prog w = .ok (.tuple #[.nilIface, .bool false]) w := run_typeAssert_lacksB Tryz.underlying182 (by kernel_rfl) (by kernel_rfl) v xT w
theorem unwrapF (v : Value) (xT : TypeId) (w : World) : (Instr.typeAssert (.iface tFlt v) xT 180 true).run Tryz.prog w = .ok (.tuple #[.iface tFlt v, .bool true]) w := run_typeAssert_hasB Tryz.underlying180 (by kernel_rfl) v xT w
theorem methodF (v : Value) (w : World) : (Go.method 344 tFlt v "Unwrap").run Tryz.prog w = .ok (144, v) w := by kernel_rfl
theorem eqlF (v u : Value) (w : World) : (binOp .eql 28 (.iface tFlt v) (.iface tE u)).run Tryz.prog w = .ok (.bool false) w := run_eql_iface_types tFlt tE v u Tryz.underlying28 (by decide) w
set_option maxRecDepth 100000 in
theorem unwrap_any (w : World) (b : Nat) (li co : Int) (v : Value) (hk : Blk w b 98 [.int .i64 li, .int .i64 co, v]) : Calls Tryz.prog 144 #[.pointer (some ⟨b, 0, none⟩)] w (Qui v w) := by
  have c2 : w.cell? ⟨b, 2, none⟩ = some v := hk.cell 2
  go_enter Tryz.func144, Tryz.ntmps144
  go_wp2_with fail
  go_ret
  exact ⟨rfl, 0, rfl⟩
set_option maxRecDepth 100000 in
set_option maxHeartbeats 1000000 in
theorem isIn_chain (w : World) (A : Nat → Addr) (hE : Errs w A) (k j : Nat) (hk : k < 19) (hj : j < 19) (n : Nat) (v : Value) (hc : Chain w A k n v) :
    Calls Tryz.prog 56 #[v, errV A j, .bool true] w (Qui (.bool (decide (k = j))) w) := by
  have HC := Lib.hid hc
  clear hc
  unfold errV
  go_enter Tryz.func56, Tryz.ntmps56
  go_wp2_with fail
  go_loopg [0] n (fun g x wx => Hid (Chain w A k g x) ∧ ∃ m, wx = w.drewN m)
  case atStart => exact ⟨HC, 0, rfl⟩
  case round =>
    obtain ⟨HC, m, rfl⟩ := hrel
    cases gk with
    | zero =>
      obtain rfl := HC.out
      obtain ⟨i, hi, hcmp⟩ := Option.map_eq_some_iff.1 isComp
      obtain ⟨i2, hi2, hjs⟩ := Option.map_eq_some_iff.1 isSize
      unfold errV
      by_cases hkj : k = j
      · subst hkj
        have heq := run_eql_iface_ptr_same (P := Tryz.prog) (w.drewN m) (A k) Tryz.underlying28 Tryz.underlying213 hi hcmp hi2
        clear hi hi2 hcmp hjs
        go_wp2_with fail
        go_ret
        exact ⟨by simp, m, rfl⟩
      · obtain ⟨ca, ta, ha⟩ := hE.blocks k hk
        obtain ⟨cb, tb, hb⟩ := hE.blocks j hj
        have heq := run_eql_iface_ptr_other (P := Tryz.prog) (w.drewN m) Tryz.underlying28 Tryz.underlying213 hi hcmp hi2 (by rw [hjs]; decide) (hE.apart k j hk hj hkj) ha hb
        have nE := noIs
        have uE := noUnwrap
        have vE := noUnwraps
        clear hi hi2 hcmp hjs ha hb
        go_wp2_with fail
        go_ret
        exact ⟨by simp [hkj], m, rfl⟩
    | succ g =>
      obtain ⟨b, li, co, v', rfl, hb, hc'⟩ := HC.out
      obtain ⟨u', x', rfl, hnil⟩ := hc'.held
      have HC' := Lib.hid hc'
      have HU := Lib.hid (unwrap_any (w.drewN m) b li co (.iface u' x') (hb.drewN m))
      have nE := noIsF
      have uE := unwrapF
      have mE := methodF
      have eE := eqlF
      clear hc' hb HC
      go_wp2_with fail
      refine HU.out.mono ?_
      rintro e w' ⟨rfl, m2, rfl⟩
      go_wp2_with fail
      go_roundg g
      case measure => omega
      case rel => exact ⟨HC', m + m2, rfl⟩
set_option maxRecDepth 100000 in
theorem is_chain (w : World) (A : Nat → Addr) (hE : Errs w A) (k j : Nat) (hk : k < 19) (hj : j < 19) (n : Nat) (v : Value) (hc : Chain w A k n v) :
    Calls Tryz.prog 39 #[v, errV A j] w (Qui (.bool (decide (k = j))) w) := by
  have HI := Lib.hid (isIn_chain w A hE k j hk hj n v hc)
  obtain ⟨uv, xv, rfl, hnil⟩ := hc.held
  have hnil2 := run_eql_held_nil (P := Tryz.prog) w 28 tE (.pointer (some (A j))) (by kernel_rfl)
  have h8 := @run_callFunc_extern Tryz.prog 55 _ Extern.ReflectliteType.typeOf Tryz.func55 (by kernel_rfl) (by kernel_rfl) (by kernel_rfl) (by kernel_rfl)
  have h32 := @run_callFunc_extern Tryz.prog 151 _ cmpM Tryz.func151 (by kernel_rfl) (by kernel_rfl) (by kernel_rfl) (by kernel_rfl)
  have tT := isTypeOf
  have cT := isComparable
  have mR := isMethod
  clear hc
  unfold errV at *
  go_enter Tryz.func39, Tryz.ntmps39
  go_wp2_with fail
  refine HI.out.mono ?_
  rintro e w' ⟨rfl, m, rfl⟩
  go_wp2_with fail
  go_ret
  exact ⟨rfl, m, rfl⟩
set_option maxHeartbeats 1000000 in
set_option maxRecDepth 100000 in
theorem num_chain (w : World) (A : Nat → Addr) (h : Errs w A) (k : Nat) (hk : k < 19) (n : Nat) (v : Value) (hc : Chain w A k n v) :
    Calls Tryz.prog 27 #[v] w fun e w' => e = .returned (.int .i64 ((k : Int) + 1)) ∧ Below w.heap.size w w' := by
  obtain ⟨uv, xv, rfl, hnil⟩ := hc.held
  have HC := Lib.hid hc
  clear hc
  go_enter Tryz.func27, Tryz.ntmps27
  go_wp2_with fail
  refine (all_any w A h).mono ?_
  rintro e w1 ⟨rfl, hb, hbl⟩
  have h1 := h.below hbl
  have HC1 := Lib.hid (HC.out.below hbl)
  go_wp2_with fail
  go_loopg [9] (k + 1) (fun g i wx => ∃ j : Nat, j + g = k + 1 ∧ j ≤ k ∧ i = .int .i64 (j : Int) ∧ ∃ m, wx = w1.drewN m)
  case atStart => exact ⟨0, by omega, by omega, rfl, 0, rfl⟩
  case round =>
    obtain ⟨j, hjg, hjk, rfl, m, rfl⟩ := hrel
    have hcell : w1.cell? ⟨w.heap.size, j, none⟩ = some (.iface tE (.pointer (some (A j)))) := by
      rw [hb.cell]
      simp [show j < 19 by omega, errV]
    have hj19 : j < 19 := by omega
    have hji : (j : Int) < 19 := by omega
    have HI := Lib.hid (is_chain (w1.drewN m) A ⟨h1.holds, h1.blocks, h1.apart⟩ k j hk hj19 n _ (HC1.out.drewN m))
    unfold errV at HI
    by_cases hlt : k = j
    · rw [decide_eq_true hlt] at HI
      go_wp2_with fail
      refine HI.out.mono ?_
      rintro e w2 ⟨rfl, m2, rfl⟩
      go_wp2_with fail
      go_ret
      exact ⟨by rw [hlt]; rfl, below_drewN hbl (m + m2)⟩
    · rw [decide_eq_false hlt] at HI
      go_wp2_with fail
      refine HI.out.mono ?_
      rintro e w2 ⟨rfl, m2, rfl⟩
      go_wp2_with fail
      go_roundg (k + 1 - (j + 1))
      case measure => omega
      case rel => exact ⟨j + 1, by omega, by omega, by go_num, m + m2, rfl⟩
end Go.Proofs.YtekeanikgcpijaaGreatDoor
namespace Go.Proofs.YtekeanikgcpijaaGreatDoor
open Go.RowKit
set_option maxRecDepth 100000 in
theorem fault_nil (w : World) : Calls Tryz.prog 10 #[.nilIface, .int .i64 0, .int .i64 0, .int .i64 0] w fun e w' => e = .returned (.bool true) ∧ Below w.heap.size w w' := by
  go_enter Tryz.func10, Tryz.ntmps10
  go_wp2_with fail
  refine (where_nil _).mono ?_
  rintro e w1 ⟨rfl, hb1⟩
  go_wp2_with fail
  refine (num_nil _).mono ?_
  rintro e w2 ⟨rfl, rfl⟩
  go_wp2_with fail
  go_ret
  exact ⟨rfl, hb1⟩
set_option maxRecDepth 100000 in
theorem fault_hit (w : World) (A : Nat → Addr) (h : Errs w A) (hT : ErrT w) (g k : Nat) (hk : k < 19) (li co : Int) (hg : Blk w g 98 [.int .i64 li, .int .i64 co, errV A k]) :
    Calls Tryz.prog 10 #[.iface tFlt (.pointer (some ⟨g, 0, none⟩)), .int .i64 ((k : Int) + 1), .int .i64 li, .int .i64 co] w fun e w' => e = .returned (.bool true) ∧ Below w.heap.size w w' := by
  obtain ⟨z, hz⟩ : ∃ z : Int, z = (k : Int) + 1 := ⟨_, rfl⟩
  rw [← hz]
  have z0 : (z == 0) = false := by simp; omega
  have z1 : (z != 0) = true := by simp; omega
  have z2 : ¬ z = 0 := by omega
  go_enter Tryz.func10, Tryz.ntmps10
  go_wp2_with fail
  refine (where_hit w hT g li co _ hg).mono ?_
  rintro e w1 ⟨rfl, hb1⟩
  have HN := num_chain w1 A (h.below hb1) k hk 1 (.iface tFlt (.pointer (some ⟨g, 0, none⟩))) ⟨g, li, co, errV A k, rfl, hg.kept hb1, rfl⟩
  rw [← hz] at HN
  clear hz
  go_wp2_with fail
  refine HN.mono ?_
  rintro e w2 ⟨rfl, hb2⟩
  go_wp2_with fail
  go_ret
  exact ⟨rfl, hb1.trans (hb2.mono hb1.size)⟩
end Go.Proofs.YtekeanikgcpijaaGreatDoor
