/- The contracts of varint.Parse and redlineref02.Parse: what parsing answers, of all bytes. Conditions: fewer than 2^46 bytes; where it answers an error, the errors' variables hold what the program's text lays. -/
import Derived.Test.YtlndejanojgjlaaDoorProg
import Derived.Test.YtlndejanojgjlaaDoorMem
import Derived.Test.YtlndejanojgjlaaDoorVscan
import Derived.Test.YtlndejanojgjlaaDoorNum
import Derived.Deep.QuietTactic
import Derived.BigQuiet
import Derived.WalkSpells
namespace Go.Proofs.YtlndejanojgjlaaDoor
open Go.RowKit

/-- An error by its number. -/
def errOf (A : Nat → Addr) : Nat → Value
  | 0 => .nilIface
  | b + 1 => errV A b
/-- No error is nil. -/
theorem neq_errV (A : Nat → Addr) (b : Nat) (u : World) : (binOp .neq 31 (errV A b) .nilIface).run Tryd.prog u = .ok (.bool true) u := run_neq_held_nil (P := Tryd.prog) u 31 tE (.pointer (some (A b))) (by kernel_rfl)
/-- The variables of the two errors that parsing answers. -/
structure Two (w : World) (A : Nat → Addr) : Prop where
  short : w.cell? ⟨3, 0, none⟩ = some (errV A 1)
  varint : w.cell? ⟨5, 0, none⟩ = some (errV A 3)
theorem Errs.two {w : World} {A : Nat → Addr} (h : Errs w A) : Two w A := ⟨h.holds 1 _ rfl, h.holds 3 _ rfl⟩

set_option maxRecDepth 100000 in
set_option maxHeartbeats 2000000 in
theorem vParse_any (w : World) (A : Nat → Addr) (p : Option Addr) (l : List UInt8) (c B : Nat) (hl : l.length ≤ 70368744177664) (hc : l.length ≤ c) (hs : Sl w B p l) (hE : (vparse l).2.2 ≠ 0 → Two w A) :
    Calls Tryd.prog 37 #[.slice p l.length c] w fun e w' =>
      e = .returned (.tuple #[.int .u64 ((vparse l).1 : Int), .int .i64 ((vparse l).2.1 : Int), errOf A (vparse l).2.2]) ∧ ∃ m, w' = w.drewN m := by
  obtain ⟨R, hR⟩ : ∃ R, R = vparse l := ⟨_, rfl⟩
  rw [← hR] at hE ⊢
  have HR := Lib.hid hR
  have HE := Lib.hid hE
  clear hR hE
  rcases Nat.lt_or_ge 10 l.length with h10 | h10
  all_goals
    go_enter Tryd.func37, Tryd.ntmps37
    go_wp2_with fail
    go_loop [13, 2] (fun i v => ∃ k : Nat, k ≤ l.length ∧ k ≤ 9 ∧ More l k ∧ i = .int .i64 k ∧ v = .int .u64 ((vnum (l.take k) : Nat) : Int)) (fun i _ => l.length - (intOf i).toNat)
    case atStart => exact ⟨0, by omega, by omega, More.zero _, rfl, by simp [vnum]⟩
    case round =>
      obtain ⟨k, hk, hk9, hM, rfl, rfl⟩ := hrel
      have HMo := Lib.hid hM
      clear hM
      by_cases hlt : k < l.length
      · obtain ⟨b, o, rfl, hbb, hcell⟩ := hs.at_ hlt
        have hget := List.getElem?_eq_getElem hlt
        generalize l[k] = y at *
        have HG := Lib.hid hget
        clear hget
        have hy := y.toNat_lt
        have hv := vnum_take_lt l k
        have HV := Lib.hid (vnum_snoc l k y HG.out)
        by_cases h91 : k = 9 ∧ 1 < y.toNat
        · obtain ⟨rfl, h1⟩ := h91
          have hR : R = (0, 0, 4) := HR.out.trans (parse_bad HMo.out HG.out h1)
          have he := (HE.out (by rw [hR]; decide)).varint
          have H4 := Lib.hid hR
          clear HE HR HMo HV hR
          go_wp2_with fail
          go_quiet (fail)
          go_wp2_with fail
          go_ret3
          rw [H4.out]
          exact ⟨rfl, _, rfl⟩
        · by_cases h128 : y.toNat < 128
          · have hR : R = (vnum (l.take (k + 1)), k + 1, 0) := HR.out.trans (parse_ok HMo.out hk9 HG.out h128 (fun h => by omega))
            have hor := or_seven (vnum (l.take k)) y.toNat k hv h128 hk9 (fun h => by omega)
            rw [← Nat.mod_eq_of_lt h128, ← HV.out, Nat.mod_eq_of_lt h128] at hor
            have HO := Lib.hid hor
            have H4 := Lib.hid hR
            clear hor hR HR HE HV
            by_cases h9 : k = 9
            · subst h9
              have h1 : y.toNat ≤ 1 := by omega
              have hw : IntKind.u64.wrap ((y.toNat : Int) * 2 ^ (7 * 9)) = (y.toNat : Int) * 9223372036854775808 := IntWalk.u64_in _ ⟨by omega, by omega⟩
              have HW := Lib.hid hw
              clear hw
              go_wp2_with fail
              go_ret3
              rw [H4.out]
              have h2 := HO.out
              rw [HW.out] at h2
              exact ⟨congrArg (fun x => Ending.returned (Value.tuple #[Value.int .u64 x, _, _])) h2, 0, rfl⟩
            · go_wp2_with fail
              go_ret3
              rw [H4.out]
              exact ⟨congrArg (fun x => Ending.returned (Value.tuple #[Value.int .u64 x, _, _])) HO.out, 0, rfl⟩
          · have hk8 : k < 9 := by omega
            have hy128 : 128 ≤ y.toNat := by omega
            have hor := or_seven (vnum (l.take k)) (y.toNat % 128) k hv (by omega) hk9 (fun h => by omega)
            rw [← HV.out, show ((y.toNat % 128 : Nat) : Int) = (y.toNat : Int) - 128 by omega] at hor
            have HO := Lib.hid hor
            clear hor
            go_wp2_with fail
            go_round
            case rel => exact ⟨k + 1, by omega, by omega, HMo.out.succ HG.out (by omega), by go_num, by rw [HO.out]⟩
            case measure => simp [intOf]; omega
      · first
        | (exfalso; omega)
        | (obtain rfl : k = l.length := by omega
           have hR : R = (0, 0, 2) := HR.out.trans (parse_short HMo.out hk9)
           have he := (HE.out (by rw [hR]; decide)).short
           have H4 := Lib.hid hR
           clear HE HR HMo hR
           go_wp2_with fail
           go_quiet (fail)
           go_wp2_with fail
           go_ret3
           rw [H4.out]
           exact ⟨rfl, _, rfl⟩)

set_option maxRecDepth 100000 in
set_option maxHeartbeats 2000000 in
theorem vRefParse_any (w : World) (p : Option Addr) (l : List UInt8) (c B : Nat) (hl : l.length ≤ 70368744177664) (hs : Sl w B p l) :
    Calls Tryd.prog 25 #[.slice p l.length c] w fun e w' =>
      e = .returned (.tuple #[.int .u64 ((vparse l).1 : Int), .int .i64 ((vparse l).2.1 : Int), .int .i64 ((vparse l).2.2 : Int)]) ∧ w = w' := by
  obtain ⟨R, hR⟩ : ∃ R, R = vparse l := ⟨_, rfl⟩
  rw [← hR]
  have HR := Lib.hid hR
  clear hR
  go_enter Tryd.func25, Tryd.ntmps25
  go_wp2_with fail
  go_loop [5] (fun i => ∃ k : Nat, k ≤ l.length ∧ k ≤ 10 ∧ Hid (More l k) ∧ i = .int .i64 k) (fun i => l.length - (intOf i).toNat)
  case atStart => exact ⟨0, by omega, by omega, Lib.hid (More.zero _), rfl⟩
  case round =>
    obtain ⟨k, hk, hk10, HMo, rfl⟩ := hrel
    by_cases hgo : ∃ y, l[k]? = some y ∧ k < 10 ∧ 128 ≤ y.toNat
    · obtain ⟨y, hget, hlt10, h128⟩ := hgo
      have hlt := (List.getElem?_eq_some_iff.1 hget).1
      obtain ⟨b, o, rfl, hbb, hcell⟩ := hs.at_ hlt
      obtain ⟨_, rfl⟩ := List.getElem?_eq_some_iff.1 hget
      have HN := Lib.hid (HMo.out.succ hget h128)
      generalize l[k] = y at *
      go_wp2_with fail
      go_round
      case rel => exact ⟨k + 1, by omega, by omega, HN, by go_num⟩
      case measure => simp [intOf]; omega
    · have HG := Lib.hid hgo
      clear hgo
      by_cases h10 : k = 10
      · subst h10
        have h9l : 9 < l.length := by omega
        have h128 := HMo.out 9 l[9] (by omega) (List.getElem?_eq_getElem h9l)
        have H4 := Lib.hid (HR.out.trans (parse_bad (fun i x hi hx => HMo.out i x (by omega) hx) (List.getElem?_eq_getElem h9l) (by omega)))
        clear HR HG HMo h128
        go_wp2_with fail
        all_goals
          go_ret3
          rw [H4.out]
          exact ⟨rfl, rfl⟩
      · by_cases hlen : k = l.length
        · have hk9 : k ≤ 9 := by omega
          subst hlen
          have H4 := Lib.hid (HR.out.trans (parse_short HMo.out hk9))
          clear HR HG HMo
          have hlt10 : l.length < 10 := by omega
          go_wp2_with fail
          all_goals
            go_ret3
            rw [H4.out]
            exact ⟨rfl, rfl⟩
        · have hlt : k < l.length := by omega
          obtain ⟨b, o, rfl, hbb, hcell⟩ := hs.at_ hlt
          have hget := List.getElem?_eq_getElem hlt
          have hy128 : l[k].toNat < 128 := by
            rcases Nat.lt_or_ge l[k].toNat 128 with h | h
            · exact h
            · exact absurd ⟨l[k], hget, by omega, h⟩ HG.out
          generalize l[k] = y at *
          have hk9 : k < 10 := by omega
          have HY := Lib.hid hget
          clear hget HG
          by_cases h91 : k = 9 ∧ 1 < y.toNat
          · obtain ⟨rfl, h1⟩ := h91
            have H4 := Lib.hid (HR.out.trans (parse_bad HMo.out HY.out h1))
            clear HR HMo
            go_wp2_with fail
            go_ret3
            rw [H4.out]
            exact ⟨rfl, rfl⟩
          · have h9 : k = 9 → y.toNat ≤ 1 := fun h => by omega
            have H4 := Lib.hid (HR.out.trans (parse_ok HMo.out (by omega) HY.out hy128 h9))
            have hbd := vnum_ok_lt (by omega) HY.out hy128 h9
            clear HR HMo
            obtain ⟨t, ht⟩ : ∃ t, t = l.take (k + 1) := ⟨_, rfl⟩
            rw [← ht] at H4 hbd
            have htg : ∀ j, j ≤ k → ∃ z, l[j]? = some z ∧ t[j]? = some z := fun j hj => by
              have e : t[j]? = l[j]? := by rw [ht, List.getElem?_take, if_pos (by omega)]
              exact ⟨l[j]'(by omega), List.getElem?_eq_getElem _, e.trans (List.getElem?_eq_getElem _)⟩
            have htd : t.length = k + 1 := by rw [ht]; simp; omega
            have HT := Lib.hid htg
            have HL := Lib.hid htd
            have HB := Lib.hid hbd
            clear ht htg htd hbd
            have hk1 : k + 1 ≤ l.length := by omega
            rcases (show (k = 9 ∧ y.toNat ≤ 1) ∨ k < 9 by omega) with ⟨rfl, h1⟩ | hk8
            all_goals
              clear h9 h91 hlen h10
              go_wp2_with fail
              go_loop [6, 7] (fun v i => ∃ j : Nat, j ≤ t.length ∧ i = .int .i64 ((j : Int) - 1) ∧ v = .int .u64 ((vnum (t.drop j) : Nat) : Int)) (fun _ i => ((intOf i) + 1).toNat)
              case atStart => exact ⟨t.length, by omega, by rw [HL.out]; go_num, by rw [List.drop_length]; rfl⟩
              case round =>
                obtain ⟨j, hj, rfl, rfl⟩ := hrel
                rcases j with _ | j
                · go_wp2
                  go_ret3
                  rw [H4.out]
                  exact ⟨rfl, rfl⟩
                · obtain ⟨z, hlz, htz⟩ := HT.out j (by have := HL.out; omega)
                  obtain ⟨b', o', hbe, _, hcell'⟩ := hs (by omega)
                  injection hbe with hbe
                  injection hbe with hbe1 hbe2
                  subst hbe1 hbe2
                  have hc : w.cell? ⟨b, o + j, none⟩ = some (.int .u8 (z.toNat : Int)) := hcell' j z hlz
                  have hjl : j < l.length := (List.getElem?_eq_some_iff.1 hlz).1
                  have hstep := vnum_step t j z htz
                  have hbd : vnum (t.drop j) < 18446744073709551616 := Nat.lt_of_le_of_lt (vnum_drop_le t j) HB.out
                  rw [hstep] at hbd
                  have hx := UInt8.toNat_lt z
                  have HS := Lib.hid hstep
                  clear hstep hcell' hlz htz
                  generalize vnum (t.drop (j + 1)) = N at *
                  generalize z.toNat = x at *
                  have e1 : ((j + 1 : Nat) : Int) - 1 = (j : Int) := by omega
                  have E1 := Lib.hid e1
                  clear e1
                  rw [E1.out]
                  go_wp2
                  go_round
                  case rel => exact ⟨j, by omega, rfl, by rw [HS.out]; go_num⟩
                  case measure => simp [intOf]
/-- The number of an error by its number. -/
theorem num_of (w : World) (A : Nat → Addr) (h : Errs w A) (b : Nat) (hb : b ≤ 19) :
    Calls Tryd.prog 11 #[errOf A b] w fun e w' => e = .returned (.int .i64 (b : Int)) ∧ Below w.heap.size w w' := by
  cases b with
  | zero => exact (num_nil w).mono fun e w' ⟨he, hw⟩ => ⟨he, hw ▸ Below.refl _ _⟩
  | succ b => exact (num_err w A h b (by omega)).mono fun e w' ⟨he, hw⟩ => ⟨by rw [he]; rfl, hw⟩
theorem vparse_err (l : List UInt8) : (vparse l).2.2 ≤ 4 := by
  unfold vparse
  split
  · exact Nat.le_refl _
  · split <;> simp
end Go.Proofs.YtlndejanojgjlaaDoor
