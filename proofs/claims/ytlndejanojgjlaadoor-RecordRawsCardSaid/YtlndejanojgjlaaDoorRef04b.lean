/- The contract of redlineref04.Parse at all bytes, and of redlinelaw04.Of. Condition: fewer than 2^46 bytes. -/
import Derived.Test.YtlndejanojgjlaaDoorProg
import Derived.Test.YtlndejanojgjlaaDoorMem
import Derived.Test.YtlndejanojgjlaaDoorRet
import Derived.Test.YtlndejanojgjlaaDoorRef04
namespace Go.Proofs.YtlndejanojgjlaaDoor
open Go.RowKit

theorem rbody2 (m : List UInt8) : rbody 2 m = if (vparse m).2.2 ≠ 0 then (0, [], 0, (vparse m).2.2) else if m.length - (vparse m).2.1 < (vparse m).1 then (0, [], 0, 2) else (0, (m.drop (vparse m).2.1).take (vparse m).1, (vparse m).2.1 + (vparse m).1, 0) := by
  unfold rbody
  rw [if_neg (by decide), if_neg (by decide)]
  split
  · rfl
  · rw [if_neg (by decide)]

set_option maxRecDepth 100000 in
theorem refRec_any (w : World) (p : Option Addr) (l : List UInt8) (c B : Nat) (hl : l.length ≤ 70368744177664) (hc : l.length ≤ c) (hB : B ≤ w.heap.size) (hs : Sl w B p l) :
    Calls Tryd.prog 9 #[.slice p l.length c] w (RecsN w (rparse l).1.val ((rparse l).2.1 : Int) ((rparse l).2.2 : Int)) := by
  have HT : ∀ ws, Below w.heap.size w ws → RT ws p l c (tparse l).1 (tparse l).2.1 (tparse l).2.2.1 (tparse l).2.2.2 := fun ws h => refTagParse_any ws p l c B hl (hs.below (h.mono hB))
  have hok := fun h => tparse_ok (l := l) h
  unfold rparse
  generalize tparse l = T at *
  obtain ⟨n, k, s, b⟩ := T
  simp only at HT hok
  simp only
  by_cases hb : b = 0
  · subst hb
    obtain ⟨h0s, hsl, hk, _, _⟩ := hok rfl
    rw [if_neg (by simp)]
    have hml : (l.drop s).length = l.length - s := List.length_drop
    have HV : ∀ (ws : World) (q : Option Addr), Below w.heap.size w ws → Sl ws B q (l.drop s) → Calls Tryd.prog 25 #[.slice q (l.length - s) (c - s)] ws fun e w' =>
        e = .returned (.tuple #[.int .u64 ((vparse (l.drop s)).1 : Int), .int .i64 ((vparse (l.drop s)).2.1 : Int), .int .i64 ((vparse (l.drop s)).2.2 : Int)]) ∧ ws = w' := fun ws q _ hq => by
      have := vRefParse_any ws q (l.drop s) (c - s) B (by omega) hq
      rwa [hml] at this
    have hv := fun h => vparse_size (l.drop s) h
    rcases hk with rfl | rfl | rfl | rfl
    · rw [rbody0]
      generalize vparse (l.drop s) = V at *
      obtain ⟨x, z, e⟩ := V
      simp only at HV hv
      by_cases he : e = 0
      · subst he
        have := hv rfl
        simp only [ne_eq, not_true_eq_false, if_false]
        exact refRec_0_ok w p l c n s x z B hl hc hB hs hsl (Lib.hid HT) HV (by omega)
      · rw [if_pos he]
        simp only
        rw [if_pos he]
        exact refRec_0_bad w p l c n s x z e B hl hc hB hs hsl (Lib.hid HT) HV he
    · rw [rbody1]
      by_cases h8 : (l.drop s).length < 8
      · rw [if_pos h8]
        rw [if_pos (by decide)]
        exact refRec_1_short w p l c n s B hl hc hB hs hsl (Lib.hid HT) (by omega)
      · rw [if_neg h8]
        rw [if_neg (by simp)]
        exact refRec_1_ok w p l c n s B hl hc hB hs hsl (Lib.hid HT) (by omega)
    · rw [rbody2]
      generalize vparse (l.drop s) = V at *
      obtain ⟨x, z, e⟩ := V
      simp only at HV hv
      by_cases he : e = 0
      · subst he
        have := hv rfl
        simp only [ne_eq, not_true_eq_false, if_false]
        by_cases hx : (l.drop s).length - z < x
        · rw [if_pos hx]
          rw [if_pos (by decide)]
          exact refRec_2_short w p l c n s x z B hl hc hB hs hsl (Lib.hid HT) HV (by omega) (by omega)
        · rw [if_neg hx]
          rw [if_neg (by simp)]
          exact refRec_2_ok w p l c n s x z B hl hc hB hs hsl (Lib.hid HT) HV (by omega) (by omega)
      · rw [if_pos he]
        simp only
        rw [if_pos he]
        exact refRec_2_bad w p l c n s x z e B hl hc hB hs hsl (Lib.hid HT) HV he
    · rw [rbody5]
      by_cases h8 : (l.drop s).length < 4
      · rw [if_pos h8]
        rw [if_pos (by decide)]
        exact refRec_5_short w p l c n s B hl hc hB hs hsl (Lib.hid HT) (by omega)
      · rw [if_neg h8]
        rw [if_neg (by simp)]
        exact refRec_5_ok w p l c n s B hl hc hB hs hsl (Lib.hid HT) (by omega)
  · rw [if_pos hb]
    exact refRec_tag w p l c n k s b hb HT

set_option maxRecDepth 100000 in
theorem of_any (w : World) (n k : Int) (bits : Nat) (text raw : List UInt8) :
    Calls Tryd.prog 10 #[recV n k bits text raw] w fun e w' => e = .returned (recV n k bits text raw) ∧ Below w.heap.size w w' := by
  unfold recV
  go_enter Tryd.func10, Tryd.ntmps10
  go_wp2_with fail
  have h : ∀ u : World, (u.alloc (Obj.cells #[Value.int IntKind.i64 n, Value.int IntKind.i64 k, Value.int IntKind.u64 (bits : Int), Value.string (str text), Value.string (str raw)] 29)).heap.size = u.heap.size + 1 := fun u => by simp
  have hb := Blk.new (w.alloc (Obj.cells #[Value.int IntKind.i64 n, Value.int IntKind.i64 k, Value.int IntKind.u64 (bits : Int), Value.string (str text), Value.string (str raw)] 29)) 35 [Value.int IntKind.i64 n, Value.int IntKind.i64 k, Value.int IntKind.u64 (bits : Int), Value.string (str text), Value.string (str raw)]
  rw [h] at hb
  exact bodyPost_ret (results_row0 rfl _ _ _ _ _ _ rfl hb Tryd.underlying35 (by kernel_rfl)) rfl ⟨rfl, below_two _ _⟩
end Go.Proofs.YtlndejanojgjlaaDoor
