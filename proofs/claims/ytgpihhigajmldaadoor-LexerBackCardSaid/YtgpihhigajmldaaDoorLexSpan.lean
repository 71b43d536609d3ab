/- The contract of lexer.span: how many bytes of those asked for a text has at its beginning. Condition: the function handed in answers and leaves the world. -/
import Derived.Test.YtgpihhigajmldaaDoorProg
import Derived.Test.YtgpihhigajmldaaDoorLexMath
import Derived.Test.YtgpihhigajmldaaDoorLexBytes
import Derived.Test.YtgpihhigajmldaaDoorStrs
import Derived.Deep.LoopGhost
namespace Go.Proofs.YtgpihhigajmldaaDoor
open Go.RowKit

/-- A call that answers one value and leaves the world but for draws. -/
abbrev Qui (v : Value) (w : World) (e : Ending) (w' : World) : Prop := e = .returned v ∧ ∃ n, w' = w.drewN n
theorem run_not (x : Bool) (w : World) : (Op.unary .not (.bool x)).run Tryd.prog w = .ok (.bool (!x)) w := rfl
theorem lspan_at {p : UInt8 → Bool} {l : List UInt8} {j : Nat} (hj : j ≤ l.length) (h : ∀ (i : Nat) b, i < j → l[i]? = some b → p b = true) (hs : ∀ b, l[j]? = some b → p b = false) : (lspan p l : Int) = j := by
  rw [lspan_eq hj h hs]

set_option maxRecDepth 100000 in
theorem span_fn (w : World) (l : List UInt8) (p : UInt8 → Bool) (k : FuncId) (hl : l.length ≤ 140737488351232) (hen : ∀ (args : Array Value) (u : World), (callFunc k args).run Tryd.prog u = .ok (.enter k args) u) (hk : ∀ (b : UInt8) (m : Nat), Calls Tryd.prog k #[.int .u8 (b.toNat : Int)] (w.drewN m) (Qui (.bool (p b)) w)) :
    Calls Tryd.prog 27 #[.string (str l), .func (.func k) #[] #[]] w (Qui (.int .i64 (lspan p l : Int)) w) := by
  have hz : (str l).size = l.length := strSize l
  have HK := Lib.hid hk
  clear hk
  go_enter Tryd.func27, Tryd.ntmps27
  go_wp2_with fail
  go_loopg [8] l.length (fun g s8 wx => ∃ j : Nat, j + g = l.length ∧ s8 = .int .i64 (j : Int) ∧ (∃ n, wx = w.drewN n) ∧ Hid (∀ (i : Nat) b, i < j → l[i]? = some b → p b = true))
  case atStart => exact ⟨0, by omega, rfl, ⟨0, rfl⟩, Lib.hid (fun _ _ h => absurd h (Nat.not_lt_zero _))⟩
  case round =>
    obtain ⟨j, hj, rfl, ⟨n0, rfl⟩, HJ⟩ := hrel
    cases gk with
    | zero =>
      obtain rfl : j = l.length := by omega
      have hlt : ¬ ((l.length : Int) < (l.length : Int)) := by omega
      go_wp2_with fail
      go_ret
      exact ⟨by rw [lspan_at (Nat.le_refl _) HJ.out (fun b hb => by simp at hb)]; rfl, n0, rfl⟩
    | succ g =>
      have hlt : (j : Int) < (l.length : Int) := by omega
      have hjl : j < l.length := by omega
      have hix := str_index l j hjl
      obtain ⟨b, hb⟩ : ∃ b, l[j] = b := ⟨_, rfl⟩
      rw [hb] at hix
      have hb' : l[j]? = some b := by rw [List.getElem?_eq_getElem hjl, hb]
      have HB := Lib.hid hb'
      clear hb hb'
      have hnot := run_not
      go_wp2_with fail
      refine (HK.out b n0).mono ?_
      rintro e w' ⟨rfl, n1, rfl⟩
      cases hp : p b
      · go_wp2_with fail
        go_ret
        exact ⟨by rw [lspan_at (by omega) HJ.out (fun c hc => by rw [HB.out] at hc; cases hc; exact hp)]; rfl, n1, rfl⟩
      · have HP := Lib.hid hp
        clear hp
        go_wp2_with fail
        go_roundg g
        case measure => omega
        case rel =>
          refine ⟨j + 1, by omega, by go_num, ⟨n1, rfl⟩, Lib.hid (fun i c hi hc => ?_)⟩
          by_cases e : i = j
          · subst e; rw [HB.out] at hc; cases hc; exact HP.out
          · exact HJ.out i c (by omega) hc

set_option maxRecDepth 100000 in
theorem span_cap (w : World) (l : List UInt8) (p : UInt8 → Bool) (k : FuncId) (c : Value) (hl : l.length ≤ 140737488351232) (hen : ∀ (args : Array Value) (u : World), (callFunc k args).run Tryd.prog u = .ok (.enter k args) u) (hk : ∀ (b : UInt8) (m : Nat), Calls Tryd.prog k #[.int .u8 (b.toNat : Int), c] (w.drewN m) (Qui (.bool (p b)) w)) :
    Calls Tryd.prog 27 #[.string (str l), .func (.func k) #[] #[c]] w (Qui (.int .i64 (lspan p l : Int)) w) := by
  have hz : (str l).size = l.length := strSize l
  have HK := Lib.hid hk
  clear hk
  go_enter Tryd.func27, Tryd.ntmps27
  go_wp2_with fail
  go_loopg [8] l.length (fun g s8 wx => ∃ j : Nat, j + g = l.length ∧ s8 = .int .i64 (j : Int) ∧ (∃ n, wx = w.drewN n) ∧ Hid (∀ (i : Nat) b, i < j → l[i]? = some b → p b = true))
  case atStart => exact ⟨0, by omega, rfl, ⟨0, rfl⟩, Lib.hid (fun _ _ h => absurd h (Nat.not_lt_zero _))⟩
  case round =>
    obtain ⟨j, hj, rfl, ⟨n0, rfl⟩, HJ⟩ := hrel
    cases gk with
    | zero =>
      obtain rfl : j = l.length := by omega
      have hlt : ¬ ((l.length : Int) < (l.length : Int)) := by omega
      go_wp2_with fail
      go_ret
      exact ⟨by rw [lspan_at (Nat.le_refl _) HJ.out (fun b hb => by simp at hb)]; rfl, n0, rfl⟩
    | succ g =>
      have hlt : (j : Int) < (l.length : Int) := by omega
      have hjl : j < l.length := by omega
      have hix := str_index l j hjl
      obtain ⟨b, hb⟩ : ∃ b, l[j] = b := ⟨_, rfl⟩
      rw [hb] at hix
      have hb' : l[j]? = some b := by rw [List.getElem?_eq_getElem hjl, hb]
      have HB := Lib.hid hb'
      clear hb hb'
      have hnot := run_not
      go_wp2_with fail
      refine (HK.out b n0).mono ?_
      rintro e w' ⟨rfl, n1, rfl⟩
      cases hp : p b
      · go_wp2_with fail
        go_ret
        exact ⟨by rw [lspan_at (by omega) HJ.out (fun c hc => by rw [HB.out] at hc; cases hc; exact hp)]; rfl, n1, rfl⟩
      · have HP := Lib.hid hp
        clear hp
        go_wp2_with fail
        go_roundg g
        case measure => omega
        case rel =>
          refine ⟨j + 1, by omega, by go_num, ⟨n1, rfl⟩, Lib.hid (fun i c hi hc => ?_)⟩
          by_cases e : i = j
          · subst e; rw [HB.out] at hc; cases hc; exact HP.out
          · exact HJ.out i c (by omega) hc
end Go.Proofs.YtgpihhigajmldaaDoor
