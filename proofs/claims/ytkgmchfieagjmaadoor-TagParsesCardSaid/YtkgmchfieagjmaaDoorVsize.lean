/- The contracts of math/bits.Len64 and varint.Size: how many bytes a number's shortest varint has. Condition: the number is a uint64. -/
import Derived.Test.YtkgmchfieagjmaaDoorProg
import Derived.Test.YtkgmchfieagjmaaDoorMem
import Derived.Test.YtkgmchfieagjmaaDoorVput
import Derived.Lib.BitFns
import Derived.Lib.Strings
import Derived.Lib.Slices
import Derived.Lib.Small
import Derived.Lib.Walk
namespace Go.Proofs.YtkgmchfieagjmaaDoor
open Go.RowKit

theorem tab_size : Lib.len8tab.size = 256 := by decide +kernel
theorem tab_all : ∀ i : Fin 256, (Lib.len8tab[i.val]?).map (·.toNat) = some (Lib.bitLen i.val) := by decide +kernel
theorem tab_get (y : Int) (h : y.toNat < Lib.len8tab.size) : (Lib.len8tab[y.toNat]'h).toNat = Lib.bitLen y.toNat := by
  have h256 : y.toNat < 256 := by rw [← tab_size]; exact h
  have := tab_all ⟨y.toNat, h256⟩
  simp only [getElem?_pos Lib.len8tab y.toNat h, Option.map_some, Option.some.injEq] at this
  exact this
theorem way (n : Int) (h0 : 0 ≤ n) (s d : Nat) (hd : 0 < d) (hs : s ≤ 56) (hw : Lib.bitLen n.toNat = s + Lib.bitLen (n.toNat / d)) (y : Int) (hy : y = n / (d : Int)) (hlt : y < 256) (h : y.toNat < Lib.len8tab.size) :
    wrap64 ((s : Int) + wrap64 ((Lib.len8tab[y.toNat]'h).toNat : Int)) = (Lib.bitLen n.toNat : Int) := by
  have hy0 : 0 ≤ y := by rw [hy]; exact Int.ediv_nonneg h0 (by omega)
  have e : y.toNat = n.toNat / d := by
    obtain ⟨m, rfl⟩ := Int.eq_ofNat_of_zero_le h0
    rw [hy, ← Int.natCast_ediv, Int.toNat_natCast, Int.toNat_natCast]
  have l := Lib.bitLen_le8' y hy0 (by omega)
  rw [tab_get y h, hw, ← e]
  generalize Lib.bitLen y.toNat = b at *
  clear hw e hy h
  unfold wrap64
  omega

set_option maxRecDepth 100000 in
set_option maxHeartbeats 4000000 in
theorem len64_int (w : World) (n : Int) (h0 : 0 ≤ n) (hn : n ≤ 18446744073709551615) :
    Calls Tryd.prog 30 #[.int .u64 n] w fun e w' => e = .returned (.int .i64 (Lib.bitLen n.toNat : Int)) ∧ w = w' := by
  go_enter Tryd.func30, Tryd.ntmps30
  have hts := tab_size
  go_wp2
  all_goals first
    | (exfalso; omega)
    | (go_ret
       refine ⟨congrArg Ending.returned (congrArg (Value.int IntKind.i64) ?_), rfl⟩
       first
         | exact way n h0 56 72057594037927936 (by omega) (by omega) (Lib.bitLen_shift56 n.toNat (by omega) (by omega)) _ (by omega) (by omega) _
         | exact way n h0 48 281474976710656 (by omega) (by omega) (Lib.bitLen_shift48 n.toNat (by omega) (by omega)) _ (by omega) (by omega) _
         | exact way n h0 40 1099511627776 (by omega) (by omega) (Lib.bitLen_shift40 n.toNat (by omega) (by omega)) _ (by omega) (by omega) _
         | exact way n h0 32 4294967296 (by omega) (by omega) (Lib.bitLen_shift32 n.toNat (by omega) (by omega)) _ (by omega) (by omega) _
         | exact way n h0 24 16777216 (by omega) (by omega) (Lib.bitLen_shift24 n.toNat (by omega) (by omega)) _ (by omega) (by omega) _
         | exact way n h0 16 65536 (by omega) (by omega) (Lib.bitLen_shift16 n.toNat (by omega) (by omega)) _ (by omega) (by omega) _
         | exact way n h0 8 256 (by omega) (by omega) (Lib.bitLen_shift8 n.toNat (by omega) (by omega)) _ (by omega) (by omega) _
         | (rw [tab_get n (by omega)]
            have l := Lib.bitLen_le8' n h0 (by omega)
            generalize Lib.bitLen n.toNat = b at *
            unfold wrap64
            omega))

theorem bitLen_pos (n : Nat) (h : 0 < n) (h64 : n < 18446744073709551616) : 1 ≤ Lib.bitLen n := by
  rw [Lib.bitLen_half n (by omega) h64]
  omega
theorem bitLen_lt128 (n : Nat) (h : n < 128) : Lib.bitLen n ≤ 7 := Lib.bitLenAux_le 64 n 7 h
theorem vput_size : ∀ n : Nat, n < 18446744073709551616 → ((vput n).length = if n = 0 then 1 else (Lib.bitLen n + 6) / 7) := by
  intro n
  induction n using Nat.strongRecOn with
  | _ n ih =>
    intro h
    by_cases hs : n < 128
    · rw [vput_small hs]
      by_cases h0 : n = 0
      · rw [if_pos h0]; rfl
      · rw [if_neg h0]
        have h1 := bitLen_pos n (by omega) h
        have h2 := bitLen_lt128 n hs
        simp only [List.length_singleton]
        omega
    · rw [vput_big hs, List.length_cons, ih (n / 128) (by omega) (by omega), if_neg (by omega), if_neg (by omega), Lib.bitLen_shift 7 n (by omega) h]
      have e : n / 2 ^ 7 = n / 128 := rfl
      rw [e]
      omega

set_option maxRecDepth 100000 in
theorem size_any (w : World) (n : Nat) (hn : n < 18446744073709551616) :
    Calls Tryd.prog 24 #[.int .u64 (n : Int)] w fun e w' => e = .returned (.int .i64 ((vput n).length : Int)) ∧ w = w' := by
  have hv := vput_size n hn
  have hle : Lib.bitLen n ≤ 64 := Lib.bitLenAux_le 64 n 64 hn
  have hz : n = 0 → Lib.bitLen n = 0 := by rintro rfl; decide
  have hp := bitLen_pos n
  have hL := len64_int w n (by omega) (by omega)
  rw [Int.toNat_natCast] at hL
  have HV : Hid ((((vput n).length : Nat) : Int) = max 1 ((((Lib.bitLen n : Nat) : Int) + 7 - 1) / 7)) := Lib.hid (by
    rw [hv]
    generalize Lib.bitLen n = b at *
    split
    · have := hz (by assumption)
      subst this
      decide
    · have := hp (by omega) hn
      omega)
  clear hv hz hp
  go_enter Tryd.func24, Tryd.ntmps24
  go_wp2_with fail
  refine hL.mono ?_
  rintro e w1 ⟨rfl, rfl⟩
  generalize Lib.bitLen n = b at *
  go_wp2
  go_ret
  exact ⟨congrArg Ending.returned (congrArg (Value.int IntKind.i64) HV.out.symm), rfl⟩
end Go.Proofs.YtkgmchfieagjmaaDoor
