/- The contract of redlineref04.Parse. Condition: fewer than 2^46 bytes. -/
import Derived.Test.YtlndejanojgjlaaDoorProg
import Derived.Test.YtlndejanojgjlaaDoorMem
import Derived.Test.YtlndejanojgjlaaDoorRet
import Derived.Test.YtlndejanojgjlaaDoorRefRead
import Derived.Test.YtlndejanojgjlaaDoorRparse2
namespace Go.Proofs.YtlndejanojgjlaaDoor
open Go.RowKit

/-- What the reference's Parse answers. -/
def RecsN (w : World) (v : Value) (s b : Int) (e : Ending) (w' : World) : Prop := e = .returned (.tuple #[v, .int .i64 s, .int .i64 b]) ∧ Below w.heap.size w w'
/-- What the reference's tag parse answers, short. -/
abbrev RT (w : World) (p : Option Addr) (l : List UInt8) (c n k s b : Nat) : Prop :=
  Calls Tryd.prog 23 #[.slice p l.length c] w fun e w' => e = .returned (.tuple #[.int .i64 (n : Int), .int .i64 (k : Int), .int .i64 (s : Int), .int .i64 (b : Int)]) ∧ w = w'
theorem below_two {w : World} (o1 o2 : Obj) : Below w.heap.size w ((w.alloc o1).alloc o2) := ((Below.refl _ _).alloc (Nat.le_refl _) o1).alloc (by simp) o2

theorem run_mid (p : Option Addr) (n c k x : Nat) (h : k + x ≤ c) (u : World) : (Instr.slice 22 (.slice p n c) (some (.int .i64 (k : Int))) (some (.int .i64 ((k : Int) + (x : Int)))) none).run Tryd.prog u = .ok (.slice (if c = k then p else Option.map (fun x => x.add k) p) x (c - k)) u := by
  have h1 : (0 : Int) ≤ (k : Int) := by omega
  have h2 : (k : Int) ≤ (k : Int) + (x : Int) := by omega
  have h3 : (k : Int) + (x : Int) ≤ (c : Int) := by omega
  have h4 : ((k : Int) + (x : Int)).toNat - k = x := by omega
  go_simp <;> simp [h4]

set_option maxRecDepth 100000 in
set_option maxHeartbeats 1000000 in
theorem refRec_tag (w : World) (p : Option Addr) (l : List UInt8) (c n k s b : Nat) (hb : b ≠ 0) (HT : ∀ ws, Below w.heap.size w ws → RT ws p l c n k s b) :
    Calls Tryd.prog 9 #[.slice p l.length c] w (RecsN w (recV 0 0 0 [] []) 0 b) := by
  have HP := Lib.hid (HT _ ((Below.refl _ _).alloc (Nat.le_refl _) (.cells #[.int .i64 0, .int .i64 0, .int .u64 0, .string .empty, .string .empty] 35)))
  have hb1 : (b : Int) ≠ 0 := by omega
  clear HT hb
  go_enter Tryd.func9, Tryd.ntmps9
  go_wp2_with fail
  refine HP.out.mono ?_
  rintro e w2 ⟨rfl, rfl⟩
  go_wp2_with fail
  exact bodyPost_ret (results_row2 rfl _ _ w.heap.size _ _ _ rfl (Blk.new w _ [_, _, _, _, _]) Tryd.underlying35 (by kernel_rfl)) rfl ⟨rfl, (Below.refl _ _).alloc (Nat.le_refl _) _⟩

set_option maxRecDepth 100000 in
set_option maxHeartbeats 2000000 in
theorem refRec_1_short (w : World) (p : Option Addr) (l : List UInt8) (c n s B : Nat) (_hl : l.length ≤ 70368744177664) (_hc : l.length ≤ c) (_hB : B ≤ w.heap.size) (_hs : Sl w B p l) (hsl : s ≤ l.length)
    (HT : Hid (∀ ws, Below w.heap.size w ws → RT ws p l c n 1 s 0)) (hm : l.length - s < 8) :
    Calls Tryd.prog 9 #[.slice p l.length c] w (RecsN w (recV 0 0 0 [] []) 0 2) := by
  have HP := Lib.hid (HT.out _ ((Below.refl _ _).alloc (Nat.le_refl _) (.cells #[.int .i64 0, .int .i64 0, .int .u64 0, .string .empty, .string .empty] 35)))
  clear HT
  have hm1 : (l.length : Int) - (s : Int) < 8 := by omega
  go_enter Tryd.func9, Tryd.ntmps9
  go_wp2_with fail
  refine HP.out.mono ?_
  rintro e w2 ⟨rfl, rfl⟩
  go_wp2_with fail
  exact bodyPost_ret (results_row2 rfl _ _ w.heap.size _ _ _ rfl ((Blk.new w _ [_, _, _, _, _]).alloc _) Tryd.underlying35 (by kernel_rfl)) rfl ⟨rfl, below_two _ _⟩

set_option maxRecDepth 100000 in
set_option maxHeartbeats 2000000 in
theorem refRec_1_ok (w : World) (p : Option Addr) (l : List UInt8) (c n s B : Nat) (hl : l.length ≤ 70368744177664) (hc : l.length ≤ c) (hB : B ≤ w.heap.size) (hs : Sl w B p l) (hsl : s ≤ l.length)
    (HT : Hid (∀ ws, Below w.heap.size w ws → RT ws p l c n 1 s 0)) (hm : 8 ≤ l.length - s) :
    Calls Tryd.prog 9 #[.slice p l.length c] w (RecsN w (recV n 1 (num ((l.drop s).take 8)) [] (l.take (s + 8))) ((s + 8 : Nat) : Int) 0) := by
  have HP := Lib.hid (HT.out _ ((Below.refl _ _).alloc (Nat.le_refl _) (.cells #[.int .i64 0, .int .i64 0, .int .u64 0, .string .empty, .string .empty] 35)))
  clear HT
  have hm1 : 8 ≤ (l.length : Int) - (s : Int) := by omega
  have HF := Lib.hid (fun (o1 o2 : Obj) => fixed_any ((w.alloc o1).alloc o2) p l c s 8 B (by omega) (by omega) (by omega) (hs.below ((below_two o1 o2).mono hB)))
  have hsl2 := fun u : World => run_head p l.length c (s + 8) (by omega) u
  rw [show ((s + 8 : Nat) : Int) = (s : Int) + 8 by omega] at hsl2
  have hcv := fun (o1 o2 : Obj) => Sl.string ((hs.head (s + 8)).below ((below_two o1 o2).mono hB)) c
  rw [show (l.take (s + 8)).length = s + 8 by simp; omega] at hcv
  go_enter Tryd.func9, Tryd.ntmps9
  go_wp2_with fail
  refine HP.out.mono ?_
  rintro e w2 ⟨rfl, rfl⟩
  go_wp2_with fail
  refine (HF.out _ _).mono ?_
  rintro e w3 ⟨rfl, rfl⟩
  go_wp2_with fail
  exact bodyPost_ret (results_row2 rfl _ _ w.heap.size _ _ _ rfl ((Blk.new w _ [_, _, _, _, _]).alloc _) Tryd.underlying35 (by kernel_rfl)) rfl ⟨rfl, below_two _ _⟩

set_option maxRecDepth 100000 in
set_option maxHeartbeats 2000000 in
theorem refRec_5_short (w : World) (p : Option Addr) (l : List UInt8) (c n s B : Nat) (_hl : l.length ≤ 70368744177664) (_hc : l.length ≤ c) (_hB : B ≤ w.heap.size) (_hs : Sl w B p l) (hsl : s ≤ l.length)
    (HT : Hid (∀ ws, Below w.heap.size w ws → RT ws p l c n 5 s 0)) (hm : l.length - s < 4) :
    Calls Tryd.prog 9 #[.slice p l.length c] w (RecsN w (recV 0 0 0 [] []) 0 2) := by
  have HP := Lib.hid (HT.out _ ((Below.refl _ _).alloc (Nat.le_refl _) (.cells #[.int .i64 0, .int .i64 0, .int .u64 0, .string .empty, .string .empty] 35)))
  clear HT
  have hm1 : (l.length : Int) - (s : Int) < 4 := by omega
  go_enter Tryd.func9, Tryd.ntmps9
  go_wp2_with fail
  refine HP.out.mono ?_
  rintro e w2 ⟨rfl, rfl⟩
  go_wp2_with fail
  exact bodyPost_ret (results_row2 rfl _ _ w.heap.size _ _ _ rfl ((Blk.new w _ [_, _, _, _, _]).alloc _) Tryd.underlying35 (by kernel_rfl)) rfl ⟨rfl, below_two _ _⟩

set_option maxRecDepth 100000 in
set_option maxHeartbeats 2000000 in
theorem refRec_5_ok (w : World) (p : Option Addr) (l : List UInt8) (c n s B : Nat) (hl : l.length ≤ 70368744177664) (hc : l.length ≤ c) (hB : B ≤ w.heap.size) (hs : Sl w B p l) (hsl : s ≤ l.length)
    (HT : Hid (∀ ws, Below w.heap.size w ws → RT ws p l c n 5 s 0)) (hm : 4 ≤ l.length - s) :
    Calls Tryd.prog 9 #[.slice p l.length c] w (RecsN w (recV n 5 (num ((l.drop s).take 4)) [] (l.take (s + 4))) ((s + 4 : Nat) : Int) 0) := by
  have HP := Lib.hid (HT.out _ ((Below.refl _ _).alloc (Nat.le_refl _) (.cells #[.int .i64 0, .int .i64 0, .int .u64 0, .string .empty, .string .empty] 35)))
  clear HT
  have hm1 : 4 ≤ (l.length : Int) - (s : Int) := by omega
  have HF := Lib.hid (fun (o1 o2 : Obj) => fixed_any ((w.alloc o1).alloc o2) p l c s 4 B (by omega) (by omega) (by omega) (hs.below ((below_two o1 o2).mono hB)))
  have hsl2 := fun u : World => run_head p l.length c (s + 4) (by omega) u
  rw [show ((s + 4 : Nat) : Int) = (s : Int) + 4 by omega] at hsl2
  have hcv := fun (o1 o2 : Obj) => Sl.string ((hs.head (s + 4)).below ((below_two o1 o2).mono hB)) c
  rw [show (l.take (s + 4)).length = s + 4 by simp; omega] at hcv
  go_enter Tryd.func9, Tryd.ntmps9
  go_wp2_with fail
  refine HP.out.mono ?_
  rintro e w2 ⟨rfl, rfl⟩
  go_wp2_with fail
  refine (HF.out _ _).mono ?_
  rintro e w3 ⟨rfl, rfl⟩
  go_wp2_with fail
  exact bodyPost_ret (results_row2 rfl _ _ w.heap.size _ _ _ rfl ((Blk.new w _ [_, _, _, _, _]).alloc _) Tryd.underlying35 (by kernel_rfl)) rfl ⟨rfl, below_two _ _⟩

set_option maxRecDepth 100000 in
set_option maxHeartbeats 2000000 in
theorem refRec_0_bad (w : World) (p : Option Addr) (l : List UInt8) (c n s x z b B : Nat) (_hl : l.length ≤ 70368744177664) (hc : l.length ≤ c) (hB : B ≤ w.heap.size) (hs : Sl w B p l) (hsl : s ≤ l.length)
    (HT : Hid (∀ ws, Below w.heap.size w ws → RT ws p l c n 0 s 0)) (HV : ∀ (ws : World) (q : Option Addr), Below w.heap.size w ws → Sl ws B q (l.drop s) → Calls Tryd.prog 25 #[.slice q (l.length - s) (c - s)] ws fun e w' => e = .returned (.tuple #[.int .u64 (x : Int), .int .i64 (z : Int), .int .i64 b]) ∧ ws = w') (hb : b ≠ 0) :
    Calls Tryd.prog 9 #[.slice p l.length c] w (RecsN w (recV 0 0 0 [] []) 0 b) := by
  have HP := Lib.hid (HT.out _ ((Below.refl _ _).alloc (Nat.le_refl _) (.cells #[.int .i64 0, .int .i64 0, .int .u64 0, .string .empty, .string .empty] 35)))
  clear HT
  have hb1 : (b : Int) ≠ 0 := by omega
  clear hb
  obtain ⟨q, hq⟩ : ∃ q, q = if c = s then p else Option.map (fun x => x.add s) p := ⟨_, rfl⟩
  have hsq := hs.behind s c hc
  rw [← hq] at hsq
  have hslice := fun u : World => run_tail p l.length c s hsl u
  rw [← hq] at hslice
  clear hq
  have HW := Lib.hid (fun (o1 o2 : Obj) => HV ((w.alloc o1).alloc o2) q (below_two o1 o2) (hsq.below ((below_two o1 o2).mono hB)))
  clear HV
  go_enter Tryd.func9, Tryd.ntmps9
  go_wp2_with fail
  refine HP.out.mono ?_
  rintro e w2 ⟨rfl, rfl⟩
  go_wp2_with fail
  refine (HW.out _ _).mono ?_
  rintro e w3 ⟨rfl, rfl⟩
  go_wp2_with fail
  exact bodyPost_ret (results_row2 rfl _ _ w.heap.size _ _ _ rfl ((Blk.new w _ [_, _, _, _, _]).alloc _) Tryd.underlying35 (by kernel_rfl)) rfl ⟨rfl, below_two _ _⟩

set_option maxRecDepth 100000 in
set_option maxHeartbeats 2000000 in
theorem refRec_2_bad (w : World) (p : Option Addr) (l : List UInt8) (c n s x z b B : Nat) (_hl : l.length ≤ 70368744177664) (hc : l.length ≤ c) (hB : B ≤ w.heap.size) (hs : Sl w B p l) (hsl : s ≤ l.length)
    (HT : Hid (∀ ws, Below w.heap.size w ws → RT ws p l c n 2 s 0)) (HV : ∀ (ws : World) (q : Option Addr), Below w.heap.size w ws → Sl ws B q (l.drop s) → Calls Tryd.prog 25 #[.slice q (l.length - s) (c - s)] ws fun e w' => e = .returned (.tuple #[.int .u64 (x : Int), .int .i64 (z : Int), .int .i64 b]) ∧ ws = w') (hb : b ≠ 0) :
    Calls Tryd.prog 9 #[.slice p l.length c] w (RecsN w (recV 0 0 0 [] []) 0 b) := by
  have HP := Lib.hid (HT.out _ ((Below.refl _ _).alloc (Nat.le_refl _) (.cells #[.int .i64 0, .int .i64 0, .int .u64 0, .string .empty, .string .empty] 35)))
  clear HT
  have hb1 : (b : Int) ≠ 0 := by omega
  clear hb
  obtain ⟨q, hq⟩ : ∃ q, q = if c = s then p else Option.map (fun x => x.add s) p := ⟨_, rfl⟩
  have hsq := hs.behind s c hc
  rw [← hq] at hsq
  have hslice := fun u : World => run_tail p l.length c s hsl u
  rw [← hq] at hslice
  clear hq
  have HW := Lib.hid (fun (o1 o2 : Obj) => HV ((w.alloc o1).alloc o2) q (below_two o1 o2) (hsq.below ((below_two o1 o2).mono hB)))
  clear HV
  go_enter Tryd.func9, Tryd.ntmps9
  go_wp2_with fail
  refine HP.out.mono ?_
  rintro e w2 ⟨rfl, rfl⟩
  go_wp2_with fail
  refine (HW.out _ _).mono ?_
  rintro e w3 ⟨rfl, rfl⟩
  go_wp2_with fail
  exact bodyPost_ret (results_row2 rfl _ _ w.heap.size _ _ _ rfl ((Blk.new w _ [_, _, _, _, _]).alloc _) Tryd.underlying35 (by kernel_rfl)) rfl ⟨rfl, below_two _ _⟩

set_option maxRecDepth 100000 in
set_option maxHeartbeats 2000000 in
theorem refRec_0_ok (w : World) (p : Option Addr) (l : List UInt8) (c n s x z B : Nat) (hl : l.length ≤ 70368744177664) (hc : l.length ≤ c) (hB : B ≤ w.heap.size) (hs : Sl w B p l) (hsl : s ≤ l.length)
    (HT : Hid (∀ ws, Below w.heap.size w ws → RT ws p l c n 0 s 0)) (HV : ∀ (ws : World) (q : Option Addr), Below w.heap.size w ws → Sl ws B q (l.drop s) → Calls Tryd.prog 25 #[.slice q (l.length - s) (c - s)] ws fun e w' => e = .returned (.tuple #[.int .u64 (x : Int), .int .i64 (z : Int), .int .i64 0]) ∧ ws = w') (hz : s + z ≤ l.length) :
    Calls Tryd.prog 9 #[.slice p l.length c] w (RecsN w (recV n 0 x [] (l.take (s + z))) ((s + z : Nat) : Int) 0) := by
  have HP := Lib.hid (HT.out _ ((Below.refl _ _).alloc (Nat.le_refl _) (.cells #[.int .i64 0, .int .i64 0, .int .u64 0, .string .empty, .string .empty] 35)))
  clear HT
  obtain ⟨q, hq⟩ : ∃ q, q = if c = s then p else Option.map (fun x => x.add s) p := ⟨_, rfl⟩
  have hsq := hs.behind s c hc
  rw [← hq] at hsq
  have hslice := fun u : World => run_tail p l.length c s hsl u
  rw [← hq] at hslice
  clear hq
  have HW := Lib.hid (fun (o1 o2 : Obj) => HV ((w.alloc o1).alloc o2) q (below_two o1 o2) (hsq.below ((below_two o1 o2).mono hB)))
  clear HV
  have hz1 : (s : Int) + (z : Int) ≤ (l.length : Int) := by omega
  have hsl2 := fun u : World => run_head p l.length c (s + z) (by omega) u
  rw [Int.natCast_add] at hsl2
  have hcv := fun (o1 o2 : Obj) => Sl.string ((hs.head (s + z)).below ((below_two o1 o2).mono hB)) c
  rw [show (l.take (s + z)).length = s + z by simp; omega] at hcv
  go_enter Tryd.func9, Tryd.ntmps9
  go_wp2_with fail
  refine HP.out.mono ?_
  rintro e w2 ⟨rfl, rfl⟩
  go_wp2_with fail
  refine (HW.out _ _).mono ?_
  rintro e w3 ⟨rfl, rfl⟩
  go_wp2_with fail
  exact bodyPost_ret (results_row2 rfl _ _ w.heap.size _ _ _ rfl ((Blk.new w _ [_, _, _, _, _]).alloc _) Tryd.underlying35 (by kernel_rfl)) rfl ⟨rfl, below_two _ _⟩

set_option maxRecDepth 100000 in
set_option maxHeartbeats 2000000 in
theorem refRec_2_short (w : World) (p : Option Addr) (l : List UInt8) (c n s x z B : Nat) (hl : l.length ≤ 70368744177664) (hc : l.length ≤ c) (hB : B ≤ w.heap.size) (hs : Sl w B p l) (hsl : s ≤ l.length)
    (HT : Hid (∀ ws, Below w.heap.size w ws → RT ws p l c n 2 s 0)) (HV : ∀ (ws : World) (q : Option Addr), Below w.heap.size w ws → Sl ws B q (l.drop s) → Calls Tryd.prog 25 #[.slice q (l.length - s) (c - s)] ws fun e w' => e = .returned (.tuple #[.int .u64 (x : Int), .int .i64 (z : Int), .int .i64 0]) ∧ ws = w') (hz : s + z ≤ l.length) (hx : l.length - s - z < x) :
    Calls Tryd.prog 9 #[.slice p l.length c] w (RecsN w (recV 0 0 0 [] []) 0 2) := by
  have HP := Lib.hid (HT.out _ ((Below.refl _ _).alloc (Nat.le_refl _) (.cells #[.int .i64 0, .int .i64 0, .int .u64 0, .string .empty, .string .empty] 35)))
  clear HT
  obtain ⟨q, hq⟩ : ∃ q, q = if c = s then p else Option.map (fun x => x.add s) p := ⟨_, rfl⟩
  have hsq := hs.behind s c hc
  rw [← hq] at hsq
  have hslice := fun u : World => run_tail p l.length c s hsl u
  rw [← hq] at hslice
  clear hq
  have HW := Lib.hid (fun (o1 o2 : Obj) => HV ((w.alloc o1).alloc o2) q (below_two o1 o2) (hsq.below ((below_two o1 o2).mono hB)))
  clear HV
  have hz1 : (s : Int) + (z : Int) ≤ (l.length : Int) := by omega
  have hx1 : (l.length : Int) - ((s : Int) + (z : Int)) < (x : Int) := by omega
  go_enter Tryd.func9, Tryd.ntmps9
  go_wp2_with fail
  refine HP.out.mono ?_
  rintro e w2 ⟨rfl, rfl⟩
  go_wp2_with fail
  refine (HW.out _ _).mono ?_
  rintro e w3 ⟨rfl, rfl⟩
  go_wp2_with fail
  exact bodyPost_ret (results_row2 rfl _ _ w.heap.size _ _ _ rfl ((Blk.new w _ [_, _, _, _, _]).alloc _) Tryd.underlying35 (by kernel_rfl)) rfl ⟨rfl, below_two _ _⟩

set_option maxRecDepth 100000 in
set_option maxHeartbeats 2000000 in
theorem refRec_2_ok (w : World) (p : Option Addr) (l : List UInt8) (c n s x z B : Nat) (hl : l.length ≤ 70368744177664) (hc : l.length ≤ c) (hB : B ≤ w.heap.size) (hs : Sl w B p l) (hsl : s ≤ l.length)
    (HT : Hid (∀ ws, Below w.heap.size w ws → RT ws p l c n 2 s 0)) (HV : ∀ (ws : World) (q : Option Addr), Below w.heap.size w ws → Sl ws B q (l.drop s) → Calls Tryd.prog 25 #[.slice q (l.length - s) (c - s)] ws fun e w' => e = .returned (.tuple #[.int .u64 (x : Int), .int .i64 (z : Int), .int .i64 0]) ∧ ws = w') (hz : s + z ≤ l.length) (hx : x ≤ l.length - s - z) :
    Calls Tryd.prog 9 #[.slice p l.length c] w (RecsN w (recV n 2 0 (((l.drop s).drop z).take x) (l.take (s + (z + x)))) ((s + (z + x) : Nat) : Int) 0) := by
  have HP := Lib.hid (HT.out _ ((Below.refl _ _).alloc (Nat.le_refl _) (.cells #[.int .i64 0, .int .i64 0, .int .u64 0, .string .empty, .string .empty] 35)))
  clear HT
  obtain ⟨q, hq⟩ : ∃ q, q = if c = s then p else Option.map (fun x => x.add s) p := ⟨_, rfl⟩
  have hsq := hs.behind s c hc
  rw [← hq] at hsq
  have hslice := fun u : World => run_tail p l.length c s hsl u
  rw [← hq] at hslice
  clear hq
  have HW := Lib.hid (fun (o1 o2 : Obj) => HV ((w.alloc o1).alloc o2) q (below_two o1 o2) (hsq.below ((below_two o1 o2).mono hB)))
  clear HV
  have hz1 : (s : Int) + (z : Int) ≤ (l.length : Int) := by omega
  have hx1 : ¬ ((l.length : Int) - ((s : Int) + (z : Int)) < (x : Int)) := by omega
  have hx2 : (x : Int) ≤ (l.length : Int) := by omega
  obtain ⟨q2, hq2⟩ : ∃ q2, q2 = if c = s + z then p else Option.map (fun x => x.add (s + z)) p := ⟨_, rfl⟩
  have hsq2 := (hs.behind (s + z) c hc).head x
  rw [← hq2] at hsq2
  have hsl3 := fun u : World => run_mid p l.length c (s + z) x (by omega) u
  rw [← hq2, Int.natCast_add] at hsl3
  clear hq2
  have hsl2 := fun u : World => run_head p l.length c (s + z + x) (by omega) u
  rw [Int.natCast_add, Int.natCast_add] at hsl2
  have hcv := fun (o1 o2 : Obj) => Sl.string ((hs.head (s + z + x)).below ((below_two o1 o2).mono hB)) c
  rw [show (l.take (s + z + x)).length = s + z + x by simp; omega] at hcv
  have hcv2 := fun (o1 o2 : Obj) => Sl.string (hsq2.below ((below_two o1 o2).mono hB)) (c - (s + z))
  rw [show ((l.drop (s + z)).take x).length = x by simp; omega] at hcv2
  rw [← Nat.add_assoc, List.drop_drop]
  go_enter Tryd.func9, Tryd.ntmps9
  go_wp2_with fail
  refine HP.out.mono ?_
  rintro e w2 ⟨rfl, rfl⟩
  go_wp2_with fail
  refine (HW.out _ _).mono ?_
  rintro e w3 ⟨rfl, rfl⟩
  go_wp2_with fail
  exact bodyPost_ret (results_row2 rfl _ _ w.heap.size _ _ _ rfl ((Blk.new w _ [_, _, _, _, _]).alloc _) Tryd.underlying35 (by kernel_rfl)) rfl ⟨rfl, below_two _ _⟩

end Go.Proofs.YtlndejanojgjlaaDoor
