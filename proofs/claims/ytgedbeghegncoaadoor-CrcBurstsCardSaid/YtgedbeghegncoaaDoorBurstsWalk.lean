/- The walk of CrcBursts: for all bytes, every place and all bits the answer is true, and nothing that was there turns. Condition: the errors' variables hold different pointers, as the program's text lays them. -/
import Derived.Test.YtgedbeghegncoaaDoorProg
import Derived.Test.YtgedbeghegncoaaDoorMem
import Derived.Test.YtgedbeghegncoaaDoorRow
import Derived.Test.YtgedbeghegncoaaDoorNum
import Derived.Test.YtgedbeghegncoaaDoorCrcMath
import Derived.Test.YtgedbeghegncoaaDoorCrc
import Derived.Test.YtgedbeghegncoaaDoorSeal
import Derived.Test.YtgedbeghegncoaaDoorOpen
import Derived.Test.YtgedbeghegncoaaDoorAlive05
import Derived.Test.YtgedbeghegncoaaDoorOpensWalk
import Derived.RegionTactic
import Derived.ChangeAlike
import Derived.BigRegion
import Derived.Laws.BitsAllLaws
namespace Go.Proofs.YtgedbeghegncoaaDoor
open Go.RowKit

theorem spot_in (x : Int) (L : Nat) (h4 : 4 ≤ L) (hL : L ≤ 1000000) : ∃ k : Nat, k + 32 ≤ 8 * L ∧ wrap64 ((IntKind.u64.wrap x).tmod (8 * (L : Int) - 31)) = (k : Int) := by
  obtain ⟨y, hy, h0, h1⟩ : ∃ y, IntKind.u64.wrap x = y ∧ 0 ≤ y ∧ y < 18446744073709551616 := ⟨_, rfl, by rw [IntKind.wrap_u64]; omega, by rw [IntKind.wrap_u64]; omega⟩
  rw [hy, Int.tmod_eq_emod_of_nonneg h0]
  have h2 : 0 ≤ y % (8 * (L : Int) - 31) := Int.emod_nonneg _ (by omega)
  have h3 : y % (8 * (L : Int) - 31) < 8 * (L : Int) - 31 := Int.emod_lt_of_pos _ (by omega)
  generalize y % (8 * (L : Int) - 31) = z at *
  refine ⟨z.toNat, by omega, ?_⟩
  simp only [wrap64]
  omega

theorem byte_turn (y : UInt8) (t : Nat) (ht : t < 8) : (UInt8.ofNat (y.toNat ^^^ 2 ^ t)).toNat = y.toNat ^^^ 2 ^ t := by
  rw [UInt8.toNat_ofNat']
  have hp : 2 ^ t < 2 ^ 8 := Nat.pow_lt_pow_right (a := 2) (by decide) ht
  exact Nat.mod_eq_of_lt (xor_lt 8 y.toNat_lt hp)
theorem xor_turn (y t : Nat) (hy : y < 256) (ht : t < 8) : bits .xor .u8 (y : Int) (2 ^ t % 256) = ((y ^^^ 2 ^ t : Nat) : Int) := by
  have hp : 2 ^ t < 2 ^ 8 := Nat.pow_lt_pow_right (a := 2) (by decide) ht
  have hp8 : (2 : Nat) ^ 8 = 256 := by decide
  have h1 : ((2 ^ t : Nat) : Int) = (2 : Int) ^ t := by rw [Int.natCast_pow]; rfl
  have e : (2 : Int) ^ t % 256 = ((2 ^ t : Nat) : Int) := by
    rw [← h1]
    generalize 2 ^ t = P at *
    omega
  rw [e]
  exact u8_xor_nat y (2 ^ t) hy (by omega)
theorem bit_at (b j : Nat) (jz : Int) (hj : jz = (j : Int)) (hb : b < 4294967296) : bits .and .u32 ((b : Int) / 2 ^ jz.toNat) 1 = ((b / 2 ^ j % 2 : Nat) : Int) := by
  subst hj
  have h1 : (b : Int) / 2 ^ (j : Int).toNat = ((b / 2 ^ j : Nat) : Int) := by
    rw [Int.toNat_natCast, Int.natCast_ediv, Int.natCast_pow]
    rfl
  have h2 := u32_and_nat (b / 2 ^ j) 1 (Nat.lt_of_le_of_lt (Nat.div_le_self _ _) hb) (by decide)
  rw [h1]
  rw [Nat.and_one_is_mod] at h2
  exact h2
set_option maxRecDepth 100000 in
set_option maxHeartbeats 4000000 in
theorem bursts_in (w : World) (A : Nat → Addr) (hE : Errs w A) (p : Option Addr) (l : List UInt8) (c : Nat) (x : Int) (b : Nat) (hb32 : b < 4294967296) (hb0 : b ≠ 0) (hl : l.length ≤ 300) (hs : Sl w w.heap.size p l) :
    Calls Tryd.prog 5 #[.slice p l.length c, .int .i64 x, .int .u32 (b : Int)] w fun e w' => e = .returned (.bool true) ∧ Below w.heap.size w w' := by
  have hl' : ¬ (300 : Int) < (l.length : Int) := by omega
  have hb0' : (((b : Nat) : Int) == 0) = false := by rw [beq_eq_false_iff_ne]; omega
  obtain ⟨X, hX⟩ : ∃ X, sealed l = X := ⟨_, rfl⟩
  have hXl : X.length = l.length + 4 := by rw [← hX]; simp [sealed, le_length]
  have HOK := Lib.hid (show crcOk X by rw [← hX]; exact crcOk_sealed l)
  obtain ⟨n, hn⟩ : ∃ n, n = X.length := ⟨_, rfl⟩
  have hn4 : 4 ≤ n := by omega
  have hn3 : n ≤ 304 := by omega
  obtain ⟨k, hk, hkx⟩ := spot_in x n hn4 (by omega)
  have HX := Lib.hid hX
  have HN := Lib.hid hn
  have HKX := Lib.hid hkx
  clear hX hXl hn hkx
  go_enter Tryd.func5, Tryd.ntmps5
  go_wp2_with fail
  refine (alive05_any w).mono ?_
  rintro e w1 ⟨rfl, hb1⟩
  have hs1 := hs.below hb1
  go_wp2_with fail
  refine (seal_any w1 p l c w.heap.size hb1.size (by omega) hs1).mono ?_
  rintro e w2 ⟨v2, rfl, hown2, hb2⟩
  rw [HX.out] at hown2
  obtain ⟨g, cap, rest, rfl, hg, hblk, hcap, hmx, hrest⟩ := own_blk hown2 (by rw [← HN.out]; omega)
  rw [← HN.out]
  rw [← HN.out] at hcap hrest
  have h02 := hb1.trans (hb2.mono hb1.size)
  clear hown2 hb2 hs1
  go_wp2_with fail
  obtain ⟨kz, hkz⟩ : ∃ kz : Int, kz = (k : Int) := ⟨_, rfl⟩
  rw [HKX.out, ← hkz]
  have hk0 : 0 ≤ kz := by omega
  have hk1 : kz + 32 ≤ 8 * (n : Int) := by omega
  have hk2 : kz ≤ 2500 := by omega
  have HKZ := Lib.hid hkz
  clear hkz
  go_loopw [9] (fun i wr => ∃ j : Nat, j ≤ 32 ∧ i = .int .i64 j ∧ ∃ D : List UInt8, Hid (D.length = n) ∧ Hid (num D = num X ^^^ 2 ^ k * (b % 2 ^ j)) ∧ Blk wr g 5 (D.map bv ++ rest) ∧ Below w.heap.size w wr) (fun i _ => 32 - (intOf i).toNat)
  case atStart => exact ⟨0, by omega, rfl, X, Lib.hid HN.out.symm, Lib.hid (by simp [Nat.mod_one]), hblk, h02⟩
  case round =>
    obtain ⟨j, hj, rfl, D, HDL, HDN, hkr, hbr⟩ := hrel
    by_cases hlt : j < 32
    · obtain ⟨jz, hjz⟩ : ∃ jz : Int, jz = (j : Int) := ⟨_, rfl⟩
      rw [← hjz]
      have hj0 : 0 ≤ jz := by omega
      have hj1 : jz < 32 := by omega
      have hbt := bit_at b j jz hjz hb32
      have hJ : (kz + jz) / 8 = (((k + j) / 8 : Nat) : Int) := by rw [hjz, HKZ.out]; omega
      have hT : (kz + jz) % 8 = (((k + j) % 8 : Nat) : Int) := by rw [hjz, HKZ.out]; omega
      have hJn : (k + j) / 8 < n := by omega
      have hTn : (k + j) % 8 < 8 := Nat.mod_lt _ (by decide)
      have hm8 : 8 * ((k + j) / 8) + (k + j) % 8 = k + j := by omega
      have HM8 := Lib.hid hm8
      have HJZ := Lib.hid hjz
      have HLT := Lib.hid hlt
      clear hjz hm8 hlt
      generalize (k + j) / 8 = J at *
      generalize (k + j) % 8 = t at *
      by_cases hbit : b / 2 ^ j % 2 = 1
      · rw [hbit] at hbt
        have hJD : J < D.length := by rw [HDL.out]; exact hJn
        obtain ⟨V, hV⟩ : ∃ V : UInt8, V.toNat = D[J].toNat ^^^ 2 ^ t := ⟨_, byte_turn D[J] t hTn⟩
        have hnt := num_turn D J t V hJD hTn hV
        have HD2 := Lib.hid (show num (D.set J V) = num X ^^^ 2 ^ k * (b % 2 ^ (j + 1)) by rw [hnt, HDN.out, turned_one hbit k, Nat.xor_assoc, HM8.out])
        have HDL2 := Lib.hid (show (D.set J V).length = n by rw [List.length_set]; exact HDL.out)
        have hxv := xor_turn D[J].toNat t (UInt8.toNat_lt _) hTn
        rw [← hV] at hxv
        have hkd : Blk (wr.setCell ⟨g, J, none⟩ (.int .u8 (bits .xor .u8 (D[J].toNat : Int) (2 ^ t % 256)))).drew g 5 ((D.set J V).map bv ++ rest) := by
          have h := (hkr.set_ J (bv V)).drew
          rw [List.set_append_left _ _ (by simpa using hJD), ← List.map_set] at h
          rw [hxv]
          exact h
        have hbd := (hbr.setCell (p := ⟨g, J, none⟩) (Nat.le_trans hb1.size hg) (.int .u8 (bits .xor .u8 (D[J].toNat : Int) (2 ^ t % 256)))).drew
        have HKD := Lib.hid hkd
        have HBD := Lib.hid hbd
        clear hnt hV hxv hkd hbd
        have hold : wr.cell? ⟨g, J, none⟩ = some (.int .u8 (D[J].toNat : Int)) := by
          rw [hkr.cell, List.getElem?_append_left (by simpa using hJD), List.getElem?_map, List.getElem?_eq_getElem hJD]
          rfl
        have hold' : wr.drew.cell? ⟨g, J, none⟩ = _ := hold
        have hfz := hkr.frozen J
        have hfz' : wr.drew.frozen? ⟨g, J, none⟩ = _ := hfz
        generalize D[J] = y at *
        go_wp2_with fail
        go_region
        all_goals
          go_wp2_with fail
          go_roundw
          case rel => exact ⟨j + 1, by have := HLT.out; omega, by rw [HJZ.out]; go_num, _, HDL2, HD2, HKD.out, HBD.out⟩
          case measure => have := HLT.out; rw [HJZ.out]; simp [intOf]; omega
      · have hbit0 : b / 2 ^ j % 2 = 0 := by omega
        rw [hbit0] at hbt
        have HDN2 := Lib.hid (show num D = num X ^^^ 2 ^ k * (b % 2 ^ (j + 1)) by rw [HDN.out, turned_no hbit0])
        go_wp2_with fail
        go_roundw
        case rel => exact ⟨j + 1, by have := HLT.out; omega, by rw [HJZ.out]; go_num, _, HDL, HDN2, hkr, hbr⟩
        case measure => have := HLT.out; rw [HJZ.out]; simp [intOf]; omega
    · obtain rfl : j = 32 := by omega
      have hbm : b % 2 ^ 32 = b := Nat.mod_eq_of_lt (by simpa using hb32)
      have hno : ¬ crcOk D := crc_burst X D b k (by rw [← HN.out]; exact hn4) (by rw [HDL.out, HN.out]) hb32 hb0 (by rw [← HN.out]; exact hk) (by rw [HDN.out, hbm]) HOK.out
      have hEr := hE.below hbr
      have hsD : Sl wr wr.heap.size (some ⟨g, 0, none⟩) D := (copy_sl hkr).more hkr.lt
      have HOP := open_bad wr A (some ⟨g, 0, none⟩) D cap hEr (by rw [HDL.out]; exact hn4) (by rw [HDL.out]; exact hcap) hmx (by rw [HDL.out]; omega) hsD hno
      rw [HDL.out] at HOP
      have HOP := Lib.hid HOP
      have HNO := Lib.hid hno
      clear hno hbm HDN
      obtain ⟨wo, hwo⟩ : ∃ wo : World, wo = wr := ⟨_, rfl⟩
      rw [← hwo] at hbr hkr hEr hsD HOP ⊢
      clear hwo
      go_wp2_with fail
      refine HOP.out.mono ?_
      rintro e w3 ⟨rfl, hb3⟩
      have h03 := hbr.trans (hb3.mono hbr.size)
      go_wp2_with fail
      refine (num_err w3 A (hE.below h03) 17 (by decide)).mono ?_
      rintro e w4 ⟨rfl, hb4⟩
      have h04 := h03.trans (hb4.mono h03.size)
      have hsD4 : Sl w4 w4.heap.size (some ⟨g, 0, none⟩) D := ((hsD.below (hb3.mono (Nat.le_refl _))).below (hb4.mono hb3.size)).more (Nat.le_trans hb3.size hb4.size)
      have HRT := right_any w4 (some ⟨g, 0, none⟩) D cap w4.heap.size false (Nat.le_refl _) (by rw [HDL.out]; exact hn4) (by rw [HDL.out]; exact hcap) hmx (by rw [HDL.out]; omega) hsD4 ⟨fun h => (by cases h), fun h => absurd h HNO.out⟩
      rw [HDL.out] at HRT
      have HRT := Lib.hid HRT
      go_wp2_with fail
      refine HRT.out.mono ?_
      rintro e w5 ⟨rfl, hb5⟩
      go_wp2_with fail
      go_ret
      exact ⟨rfl, h04.trans (hb5.mono h04.size)⟩

set_option maxRecDepth 100000 in
theorem bursts_any (w : World) (A : Nat → Addr) (hE : Errs w A) (p : Option Addr) (l : List UInt8) (c : Nat) (x : Int) (b : Nat) (hb32 : b < 4294967296) (hs : Sl w w.heap.size p l) :
    Calls Tryd.prog 5 #[.slice p l.length c, .int .i64 x, .int .u32 (b : Int)] w fun e w' => e = .returned (.bool true) ∧ Below w.heap.size w w' := by
  by_cases h : l.length ≤ 300
  · by_cases h0 : b = 0
    · subst h0
      have h' : ¬ (300 : Int) < (l.length : Int) := by omega
      go_enter Tryd.func5, Tryd.ntmps5
      go_wp2_with fail
      refine (alive05_any w).mono ?_
      rintro e w1 ⟨rfl, hb1⟩
      go_wp2_with fail
      go_ret
      exact ⟨rfl, hb1⟩
    · exact bursts_in w A hE p l c x b hb32 h0 h hs
  · have h' : (300 : Int) < (l.length : Int) := by omega
    go_enter Tryd.func5, Tryd.ntmps5
    go_wp2_with fail
    refine (alive05_any w).mono ?_
    rintro e w1 ⟨rfl, hb1⟩
    go_wp2_with fail
    go_ret
    exact ⟨rfl, hb1⟩
end Go.Proofs.YtgedbeghegncoaaDoor
