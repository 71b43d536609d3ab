/- The contract of redlineref01.Fixed. Condition: fewer than 2^47 bytes; as many bytes are left as Fixed asks for. -/
import Derived.Test.YtgedbeghegncoaaDoorProg
import Derived.Test.YtgedbeghegncoaaDoorMem
import Derived.Test.YtgedbeghegncoaaDoorNums
namespace Go.Proofs.YtgedbeghegncoaaDoor
open Go.RowKit

theorem num_take_succ (t : List UInt8) (j : Nat) (x : UInt8) (h : t[j]? = some x) : num (t.drop j) = x.toNat + 256 * num (t.drop (j + 1)) := by
  obtain ⟨hj, rfl⟩ := List.getElem?_eq_some_iff.1 h
  rw [List.drop_eq_getElem_cons hj]; rfl

set_option maxRecDepth 100000 in
set_option maxHeartbeats 1000000 in
theorem fixed_any (w : World) (p : Option Addr) (l : List UInt8) (c k n B : Nat) (hl : l.length ≤ 140737488351232) (hk : k + n ≤ l.length) (hn : n ≤ 8) (hs : Sl w B p l) :
    Calls Tryd.prog 13 #[.slice p l.length c, .int .i64 (k : Int), .int .i64 (n : Int)] w fun e w' => e = .returned (.int .u64 (num ((l.drop k).take n) : Int)) ∧ w = w' := by
  obtain ⟨t, ht⟩ : ∃ t, t = (l.drop k).take n := ⟨_, rfl⟩
  have htl : t.length = n := by rw [ht]; simp; omega
  have hget : ∀ j, j < n → ∃ x, l[k + j]? = some x ∧ t[j]? = some x := fun j h => by
    have e : t[j]? = l[k + j]? := by rw [ht, List.getElem?_take, if_pos h, List.getElem?_drop]
    exact ⟨l[k + j]'(by omega), List.getElem?_eq_getElem _, e.trans (List.getElem?_eq_getElem _)⟩
  rw [← ht]
  have h0 : num (t.drop n) = 0 := by rw [List.drop_of_length_le (by omega)]; rfl
  have hb8 : ∀ j, num (t.drop j) < 256 ^ 8 := fun j => Nat.lt_of_lt_of_le (num_lt _) (Nat.pow_le_pow_right (by omega) (by simp; omega))
  have H0 := Lib.hid h0
  have HB := Lib.hid hb8
  have HG := Lib.hid hget
  have hge : t.length ≤ n := by omega
  have hge2 : n ≤ t.length := by omega
  clear ht h0 hb8 hget htl
  go_enter Tryd.func13, Tryd.ntmps13
  go_wp2_with fail
  go_loop [8, 7] (fun i v => ∃ j : Nat, j ≤ n ∧ i = .int .i64 ((j : Int) - 1) ∧ v = .int .u64 ((num (t.drop j) : Nat) : Int)) (fun i _ => ((intOf i) + 1).toNat)
  case atStart => exact ⟨n, by omega, rfl, by rw [H0.out]; rfl⟩
  case round =>
    obtain ⟨j, hj, rfl, rfl⟩ := hrel
    rcases j with _ | j
    · go_wp2
      go_ret
      exact ⟨rfl, rfl⟩
    · obtain ⟨y, hly, hty⟩ := HG.out j (by omega)
      obtain ⟨b, o, rfl, _, hcell⟩ := hs (by omega)
      have hc : w.cell? ⟨b, o + (k + j), none⟩ = some (.int .u8 (y.toNat : Int)) := hcell (k + j) y hly
      have hstep := num_take_succ t j y hty
      have hbd : num (t.drop j) < 18446744073709551616 := by simpa using HB.out j
      rw [hstep] at hbd
      have hx := UInt8.toNat_lt y
      have HS := Lib.hid hstep
      clear hstep hcell hly hty
      generalize num (t.drop (j + 1)) = N at *
      generalize y.toNat = x at *
      have e1 : ((j + 1 : Nat) : Int) - 1 = (j : Int) := by omega
      have E1 := Lib.hid e1
      clear e1
      rw [E1.out]
      go_wp2
      go_round
      case rel => exact ⟨j, by omega, rfl, by rw [HS.out]; go_num⟩
      case measure => simp [intOf]
end Go.Proofs.YtgedbeghegncoaaDoor
