/- The walk of CrcLinear: for any three rows of bytes the answer is true, and nothing that was there turns. No condition. -/
import Derived.Test.YtgedbeghegncoaaProg
import Derived.Test.YtgedbeghegncoaaMem
import Derived.Test.YtgedbeghegncoaaRow
import Derived.Test.YtgedbeghegncoaaCrcMath
import Derived.Test.YtgedbeghegncoaaCrc
import Derived.Test.YtgedbeghegncoaaSeal
import Derived.Test.YtgedbeghegncoaaAlive05
import Derived.RegionTactic
import Derived.ChangeAlike
import Derived.BigRegion
import Derived.Laws.BitsAllLaws
namespace Go.Proofs.Ytgedbeghegncoaa
open Go.RowKit

/-- Bytes changed by bytes, the first k of them so far. -/
structure Zip (l0 l1 l2 : List UInt8) (k : Nat) (D : List UInt8) : Prop where
  len : D.length = l0.length
  get : ∀ (i : Nat) x y z v, i < k → l0[i]? = some x → l1[i]? = some y → l2[i]? = some z → D[i]? = some v → v.toNat = x.toNat ^^^ y.toNat ^^^ z.toNat
theorem Zip.step {l0 l1 l2 D : List UInt8} {k : Nat} (h : Zip l0 l1 l2 k D) (hk : k < l0.length) (h1 : k < l1.length) (h2 : k < l2.length) (v : UInt8) (hv : v.toNat = l0[k].toNat ^^^ l1[k].toNat ^^^ l2[k].toNat) : Zip l0 l1 l2 (k + 1) (D.set k v) :=
  ⟨by rw [List.length_set, h.len], fun i x y z u hi hx hy hz hu => by
    by_cases e : k = i
    · subst e
      rw [List.getElem?_set_self (by rw [h.len]; exact hk)] at hu
      rw [List.getElem?_eq_getElem hk] at hx
      rw [List.getElem?_eq_getElem h1] at hy
      rw [List.getElem?_eq_getElem h2] at hz
      cases hx; cases hy; cases hz; cases hu
      exact hv
    · rw [List.getElem?_set_ne e] at hu
      exact h.get i x y z u (by omega) hx hy hz hu⟩
theorem Zip.sum {l0 l1 l2 D : List UInt8} (h : Zip l0 l1 l2 l0.length D) (h1 : l1.length = l0.length) (h2 : l2.length = l0.length) : crcSum D = crcSum l0 ^^^ crcSum l1 ^^^ crcSum l2 :=
  crc_linear l0 l1 l2 D h1 h2 h.len (num_zip l0 l1 l2 D h1 h2 h.len fun i x y z v hx hy hz hv => h.get i x y z v (List.getElem?_eq_some_iff.1 hx).1 hx hy hz hv)
theorem byte_xor (x y z : UInt8) : (UInt8.ofNat (x.toNat ^^^ y.toNat ^^^ z.toNat)).toNat = x.toNat ^^^ y.toNat ^^^ z.toNat := by
  rw [UInt8.toNat_ofNat']
  exact Nat.mod_eq_of_lt (xor_lt 8 (xor_lt 8 x.toNat_lt y.toNat_lt) z.toNat_lt)

set_option maxRecDepth 100000 in
set_option maxHeartbeats 2000000 in
theorem linear_in (w : World) (p0 p1 p2 : Option Addr) (l0 l1 l2 : List UInt8) (n c0 c1 c2 : Nat) (hn : n ≤ 300) (e0 : l0.length = n) (e1 : l1.length = n) (e2 : l2.length = n)
    (hs0 : Sl w w.heap.size p0 l0) (hs1 : Sl w w.heap.size p1 l1) (hs2 : Sl w w.heap.size p2 l2) :
    Calls Try.prog 4 #[.slice p0 n c0, .slice p1 n c1, .slice p2 n c2] w fun e w' => e = .returned (.bool true) ∧ Below w.heap.size w w' := by
  obtain ⟨i0, hi, hz0, hz1, hz2⟩ := info_parts infoB
  have hn' : ¬ (300 : Int) < (n : Int) := by omega
  have hmk : ∀ u : World, (Instr.makeSlice 22 (.int .i64 (n : Int)) (.int .i64 (n : Int))).run Try.prog u =
      .ok (.slice (some ⟨u.heap.size, 0, none⟩) n n) (u.alloc (.cells (List.replicate n (Value.int .u8 0)).toArray 5)) := fun u => by
    have h := run_make (P := Try.prog) u 22 5 i0 (.int .u8 0) Try.underlying22 hi hz0 .i64 .i64 (n : Int) (n : Int) (by omega) (by omega) (by rw [hz2]; omega) (by omega)
    have e : (n : Int).toNat = n := by omega
    rw [e] at h
    have e2 : madeCells #[Value.int .u8 0] n = (List.replicate n (Value.int .u8 0)).toArray := by
      apply Array.ext'
      rw [toList_madeCells_one]
    simpa [hz1, Value.cells, e2] using h
  have E0 := Lib.hid e0
  have E1 := Lib.hid e1
  have E2 := Lib.hid e2
  clear e0 e1 e2
  go_enter Try.func4, Try.ntmps4
  go_wp2_with fail
  refine (alive05_any w).mono ?_
  rintro e w1 ⟨rfl, hb1⟩
  go_wp2_with fail
  have hd0 : Blk (w1.alloc (.cells (List.replicate n (Value.int .u8 0)).toArray 5)) w1.heap.size 5 ((List.replicate n (0 : UInt8)).map bv) := by
    rw [List.map_replicate]
    exact Blk.new w1 5 _
  have hb2 : Below w.heap.size w (w1.alloc (.cells (List.replicate n (Value.int .u8 0)).toArray 5)) := hb1.alloc hb1.size _
  have hz : w.heap.size ≤ w1.heap.size := hb1.size
  have HZ : Zip l0 l1 l2 0 (List.replicate n 0) := ⟨by simp [E0.out], fun i x y z v hi => absurd hi (Nat.not_lt_zero i)⟩
  have HZ0 := Lib.hid HZ
  clear HZ hmk
  go_loopw [33] (fun i wr => ∃ k : Nat, k ≤ n ∧ i = .int .i64 k ∧ ∃ D, Zip l0 l1 l2 k D ∧ Blk wr w1.heap.size 5 (D.map bv) ∧ Below w.heap.size w wr) (fun i _ => n - (intOf i).toNat)
  case atStart => exact ⟨0, by omega, rfl, _, HZ0.out, by simpa using hd0, by simpa using hb2⟩
  case round =>
    obtain ⟨k, hk, rfl, D, hD, hkr, hbr⟩ := hrel
    clear HZ0 hd0 hb2
    by_cases hlt : k < n
    · have hl0 : k < l0.length := by rw [E0.out]; exact hlt
      have hl1 : k < l1.length := by rw [E1.out]; exact hlt
      have hl2 : k < l2.length := by rw [E2.out]; exact hlt
      have hlD : k < D.length := by rw [hD.len, E0.out]; exact hlt
      obtain ⟨b0, o0, rfl, hbb0, hc0⟩ := (hs0.below hbr).at_ hl0
      obtain ⟨b1, o1, rfl, hbb1, hc1⟩ := (hs1.below hbr).at_ hl1
      obtain ⟨b2, o2, rfl, hbb2, hc2⟩ := (hs2.below hbr).at_ hl2
      have hstep := hD.step hl0 hl1 hl2 _ (byte_xor l0[k] l1[k] l2[k])
      have hx1 := u8_xor_nat l0[k].toNat l1[k].toNat (UInt8.toNat_lt _) (UInt8.toNat_lt _)
      have hx2 := u8_xor_nat (l0[k].toNat ^^^ l1[k].toNat) l2[k].toNat (xor_lt 8 (UInt8.toNat_lt _) (UInt8.toNat_lt _)) (UInt8.toNat_lt _)
      have hbv : bv (UInt8.ofNat (l0[k].toNat ^^^ l1[k].toNat ^^^ l2[k].toNat)) = .int .u8 ((l0[k].toNat ^^^ l1[k].toNat ^^^ l2[k].toNat : Nat) : Int) := by unfold bv; rw [byte_xor]
      generalize UInt8.ofNat (l0[k].toNat ^^^ l1[k].toNat ^^^ l2[k].toNat) = V at *
      generalize l0[k].toNat = x0 at *
      generalize l1[k].toNat = x1 at *
      generalize l2[k].toNat = x2 at *
      have hkd' : Blk (wr.setCell ⟨w1.heap.size, k, none⟩ (.int .u8 ((x0 ^^^ x1 ^^^ x2 : Nat) : Int))).drew w1.heap.size 5 ((D.set k V).map bv) := by
        rw [List.map_set, ← hbv]
        exact (hkr.set_ k (bv V)).drew
      have hbd := (hbr.setCell (p := ⟨w1.heap.size, k, none⟩) hz (.int .u8 ((x0 ^^^ x1 ^^^ x2 : Nat) : Int))).drew
      have hcd0 : wr.drew.cell? ⟨b0, o0 + k, none⟩ = _ := hc0
      have hcd1 : wr.drew.cell? ⟨b1, o1 + k, none⟩ = _ := hc1
      have hcd2 : wr.drew.cell? ⟨b2, o2 + k, none⟩ = _ := hc2
      have hold : wr.cell? ⟨w1.heap.size, k, none⟩ = some (.int .u8 (D[k].toNat : Int)) := by
        rw [hkr.cell, List.getElem?_map, List.getElem?_eq_getElem hlD]
        rfl
      have hold' : wr.drew.cell? ⟨w1.heap.size, k, none⟩ = _ := hold
      have hfz := hkr.frozen k
      have hfz' : wr.drew.frozen? ⟨w1.heap.size, k, none⟩ = _ := hfz
      have HST := Lib.hid hstep
      clear hstep hbv
      have HKD := Lib.hid hkd'
      have HBD := Lib.hid hbd
      clear hkd' hbd
      go_wp2_with fail
      go_region
      all_goals
        go_wp2_with fail
        go_roundw
        case rel => exact ⟨k + 1, by omega, by go_num, _, HST.out, HKD.out, HBD.out⟩
        case measure => simp [intOf]; omega
    · obtain rfl : k = n := by omega
      have hsum := (show Zip l0 l1 l2 l0.length D by rw [E0.out]; exact hD).sum (E1.out.trans E0.out.symm) (E2.out.trans E0.out.symm)
      have hDl : D.length = k := hD.len.trans E0.out
      have HSUM := Lib.hid hsum
      have HDL := Lib.hid hDl
      clear hsum hDl
      have hsD : Sl wr (w1.heap.size + 1) (some ⟨w1.heap.size, 0, none⟩) D := Sl.of_blk hkr (by omega) fun i x hx => by rw [List.getElem?_map, hx]; rfl
      have hrB : w1.heap.size + 1 ≤ wr.heap.size := hkr.lt
      have h0r := hs0.below hbr
      have h1r := hs1.below hbr
      have h2r := hs2.below hbr
      have hlD : D.length ≤ 140737488351232 := by rw [HDL.out]; omega
      have hll0 : l0.length ≤ 140737488351232 := by rw [E0.out]; omega
      have hll1 : l1.length ≤ 140737488351232 := by rw [E1.out]; omega
      have hll2 : l2.length ≤ 140737488351232 := by rw [E2.out]; omega
      have k1 := sum_one wr _ D k (w1.heap.size + 1) 22 hrB hlD hsD
      rw [HDL.out] at k1
      go_wp2_with fail
      refine k1.mono ?_
      rintro e w2 ⟨rfl, b2⟩
      have k2 := sum_one w2 p0 l0 c0 w.heap.size 22 (Nat.le_trans hbr.size b2.size) hll0 (h0r.below (b2.mono hbr.size))
      rw [E0.out] at k2
      go_wp2_with fail
      refine k2.mono ?_
      rintro e w3 ⟨rfl, b3⟩
      have b13 : Below w.heap.size w w3 := (hbr.trans (b2.mono hbr.size)).trans (b3.mono (Nat.le_trans hbr.size b2.size))
      have k3 := sum_one w3 p1 l1 c1 w.heap.size 22 b13.size hll1 (hs1.below b13)
      rw [E1.out] at k3
      go_wp2_with fail
      refine k3.mono ?_
      rintro e w4 ⟨rfl, b4⟩
      have b14 := b13.trans (b4.mono b13.size)
      have k4 := sum_one w4 p2 l2 c2 w.heap.size 22 b14.size hll2 (hs2.below b14)
      rw [E2.out] at k4
      have hxa := u32_xor_nat (crcSum l0) (crcSum l1) (crcSum_lt l0) (crcSum_lt l1)
      go_wp2_with fail
      refine k4.mono ?_
      rintro e w5 ⟨rfl, b5⟩
      have hxb := u32_xor_nat (crcSum l0 ^^^ crcSum l1) (crcSum l2) (xor_lt 32 (crcSum_lt l0) (crcSum_lt l1)) (crcSum_lt l2)
      rw [HSUM.out]
      go_wp2_with fail
      go_ret
      exact ⟨rfl, b14.trans (b5.mono b14.size)⟩

set_option maxRecDepth 100000 in
theorem linear_out (w : World) (p0 p1 p2 : Option Addr) (n m r c0 c1 c2 : Nat) (h : 300 < n ∨ n ≤ 300 ∧ (m ≠ n ∨ m = n ∧ r ≠ n)) :
    Calls Try.prog 4 #[.slice p0 n c0, .slice p1 m c1, .slice p2 r c2] w fun e w' => e = .returned (.bool true) ∧ Below w.heap.size w w' := by
  rcases h with h | ⟨h, h2 | ⟨rfl, h2⟩⟩
  · have h' : (300 : Int) < (n : Int) := by omega
    go_enter Try.func4, Try.ntmps4
    go_wp2_with fail
    refine (alive05_any w).mono ?_
    rintro e w1 ⟨rfl, hb1⟩
    go_wp2_with fail
    go_ret
    exact ⟨rfl, hb1⟩
  · have h' : ¬ (300 : Int) < (n : Int) := by omega
    have h2' : (m : Int) ≠ (n : Int) := by omega
    go_enter Try.func4, Try.ntmps4
    go_wp2_with fail
    refine (alive05_any w).mono ?_
    rintro e w1 ⟨rfl, hb1⟩
    go_wp2_with fail
    go_ret
    exact ⟨rfl, hb1⟩
  · have h' : ¬ (300 : Int) < (m : Int) := by omega
    have h2' : ((r : Int) != (m : Int)) = true := by rw [bne_iff_ne]; omega
    go_enter Try.func4, Try.ntmps4
    go_wp2_with fail
    refine (alive05_any w).mono ?_
    rintro e w1 ⟨rfl, hb1⟩
    go_wp2_with fail
    go_ret
    exact ⟨rfl, hb1⟩
theorem linear_any (w : World) (p0 : Option Addr) (l0 : List UInt8) (c0 : Nat) (p1 : Option Addr) (l1 : List UInt8) (c1 : Nat) (p2 : Option Addr) (l2 : List UInt8) (c2 : Nat)
    (hs0 : Sl w w.heap.size p0 l0) (hs1 : Sl w w.heap.size p1 l1) (hs2 : Sl w w.heap.size p2 l2) :
    Calls Try.prog 4 #[.slice p0 l0.length c0, .slice p1 l1.length c1, .slice p2 l2.length c2] w fun e w' => e = .returned (.bool true) ∧ Below w.heap.size w w' := by
  by_cases h : l0.length ≤ 300
  · by_cases h1 : l1.length = l0.length
    · by_cases h2 : l2.length = l0.length
      · rw [h1, h2]
        exact linear_in w p0 p1 p2 l0 l1 l2 _ c0 c1 c2 h rfl h1 h2 hs0 hs1 hs2
      · exact linear_out w p0 p1 p2 _ _ _ c0 c1 c2 (.inr ⟨h, .inr ⟨h1, h2⟩⟩)
    · exact linear_out w p0 p1 p2 _ _ _ c0 c1 c2 (.inr ⟨h, .inl h1⟩)
  · exact linear_out w p0 p1 p2 _ _ _ c0 c1 c2 (.inl (by omega))
end Go.Proofs.Ytgedbeghegncoaa
