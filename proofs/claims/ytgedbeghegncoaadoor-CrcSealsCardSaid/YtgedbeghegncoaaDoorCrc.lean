/- The contracts of crc's own functions down, newTable, add, Sum and More. Condition: fewer than 2^47 bytes. -/
import Derived.Test.YtgedbeghegncoaaDoorProg
import Derived.Test.YtgedbeghegncoaaDoorMem
import Derived.Test.YtgedbeghegncoaaDoorNums
import Derived.Test.YtgedbeghegncoaaDoorJoin
import Derived.Test.YtgedbeghegncoaaDoorCrcMath
import Derived.Test.YtgedbeghegncoaaDoorCrcHalf
import Derived.Test.YtgedbeghegncoaaDoorCrcRef
import Derived.Laws.BitsAllLaws
import Derived.Laws.BitsLemmas
import Derived.WalkSpells
import Derived.Laws.Rows
import Derived.Deep.WholeRow
namespace Go.Proofs.YtgedbeghegncoaaDoor
open Go.RowKit

set_option maxRecDepth 100000 in
theorem down_any (w : World) (x : Nat) (hx : x < 4294967296) :
    Calls Tryd.prog 30 #[.int .u32 (x : Int)] w fun e w' => e = .returned (.int .u32 (cl x : Nat)) ∧ w = w' := by
  have h2 := u32_xor_down x hx
  by_cases ho : x % 2 = 1
  · have ho' : ((x : Nat) : Int) % 2 = 1 := by omega
    rw [cl_one ho]
    go_enter Tryd.func30, Tryd.ntmps30
    go_wp2
    go_ret
    exact ⟨rfl, rfl⟩
  · have ho' : ((x : Nat) : Int) % 2 = 0 := by omega
    rw [cl_no ho]
    go_enter Tryd.func30, Tryd.ntmps30
    go_wp2
    go_ret
    exact ⟨rfl, rfl⟩

set_option maxRecDepth 100000 in
set_option maxHeartbeats 1000000 in
theorem newTable_any (w : World) :
    Calls Tryd.prog 23 #[] w fun e w' => e = .returned (.agg tbl.toArray) ∧ Below w.heap.size w w' := by
  go_enter Tryd.func23, Tryd.ntmps23
  go_wp2_with fail
  go_loopw [4] (fun i wr => ∃ k : Nat, k ≤ 16 ∧ i = .int .u32 (k : Int) ∧ Blk wr (w.heap.size + 1) 49 (tblAt k) ∧ Blk wr w.heap.size 49 (tblAt 0) ∧ Below w.heap.size w wr) (fun i _ => 16 - (intOf i).toNat)
  case atStart =>
    rw [tblAt_zero]
    refine ⟨0, by omega, rfl, ?_, (Blk.new w 49 (List.replicate 16 (.int .u32 0))).alloc _, ((Below.refl _ _).alloc (Nat.le_refl _) _).alloc (by simp) _⟩
    have h := Blk.new (w.alloc (.cells (List.replicate 16 (Value.int .u32 0)).toArray 49)) 49 (List.replicate 16 (.int .u32 0))
    have e : (w.alloc (.cells (List.replicate 16 (Value.int .u32 0)).toArray 49)).heap.size = w.heap.size + 1 := by simp
    rw [e] at h
    exact h
  case round =>
    obtain ⟨k, hk, rfl, hb1, hb0, hbr⟩ := hrel
    by_cases hlt : k < 16
    · have hlt' : (k : Int) < 16 := by omega
      go_wp2_with fail
      go_loop [8, 3] (fun i x => ∃ j : Nat, j ≤ 4 ∧ i = .int .i64 j ∧ x = .int .u32 ((cls j k : Nat) : Int)) (fun i _ => 4 - (intOf i).toNat)
      case atStart => exact ⟨0, by omega, rfl, rfl⟩
      case round =>
        obtain ⟨j, hj, rfl, rfl⟩ := hrel
        have hV := cls_lt j (x := k) (by omega)
        have hs1 := cls_succ j k
        have HS := Lib.hid hs1
        clear hs1
        have HE := Lib.hid (rfl : cls j k = cls j k)
        generalize hVe : cls j k = V at hV HS ⊢
        have HV := Lib.hid hVe
        clear hVe HE
        have hV' : V < 4294967296 := by simpa using hV
        by_cases h8 : j < 4
        · go_wp2_with fail
          refine (down_any _ V hV').mono ?_
          rintro e w2 ⟨rfl, rfl⟩
          go_wp2_with fail
          go_round
          case rel => exact ⟨j + 1, by omega, by go_num, by rw [HS.out]⟩
          case measure => simp [intOf]; omega
        · obtain rfl : j = 4 := by omega
          have hc := hb1.cell k
          rw [tblAt_get k k (Nat.le_refl _) hlt] at hc
          have hf := hb1.frozen k
          have hb1' := hb1.set_ k (.int .u32 (V : Int))
          rw [← HV.out, tblAt_set k hlt] at hb1'
          have hb0' := hb0.far (p := ⟨w.heap.size + 1, k, none⟩) (by simp) (.int .u32 (V : Int))
          rw [← HV.out] at hb0'
          have hbr' := hbr.setCell (p := ⟨w.heap.size + 1, k, none⟩) (by simp) (.int .u32 (V : Int))
          rw [← HV.out] at hbr'
          go_wp2_with fail
          rw [← HV.out]
          go_roundw
          case rel => exact ⟨k + 1, by omega, by go_num, hb1', hb0', hbr'⟩
          case measure => simp [intOf]; omega
    · obtain rfl : k = 16 := by omega
      rw [tblAt_all] at hb1
      have hl : tbl.toArray.size = 16 := by simp [tbl]
      have HQ1 := Lib.hid (show wr.heap[w.heap.size + 1]? = some (.cells tbl.toArray 49 (0, 0)) from hb1)
      have HQ0 := Lib.hid (show wr.heap[w.heap.size]? = some (.cells (tblAt 0).toArray 49 (0, 0)) from hb0)
      have HI := Lib.hid (show (Tryd.prog.info? 49).map (·.size) = some tbl.toArray.size by rw [hl]; kernel_rfl)
      have HS := Lib.hid (show (tblAt 0).toArray.size = tbl.toArray.size by simp [tblAt, tbl])
      have HO := Lib.hid (show tbl.toArray.all (·.oneCell') = true by simp [tbl, Value.oneCell'])
      go_wp2_with (first
        | with_reducible refine wpList_load_row rfl 49 (.tmp 1) rfl (w.heap.size + 1) rfl 49 tbl.toArray (0, 0) _ HQ1.out Tryd.underlying49 rfl HI.out ?_
        | with_reducible refine wpList_store_row rfl 49 (.tmp 0) (.tmp 17) rfl w.heap.size tbl.toArray rfl rfl 49 (tblAt 0).toArray HQ0.out HI.out HS.out HO.out ?_)
      have hh := setRow_heap _ w.heap.size _ tbl.toArray _ _ hb0
      refine bodyPost_ret (v := .agg tbl.toArray) (results_cell_row rfl _ _ w.heap.size 49 tbl.toArray (0, 0) _ rfl hh Tryd.underlying49 rfl HI.out) rfl ⟨rfl, below_setRow hbr (Nat.le_refl _) _⟩

theorem cls_half' (j Z : Nat) : cls (4 * (j + 1)) Z = cls (4 * j) Z / 16 ^^^ cls 4 (cls (4 * j) Z % 16) := by
  rw [Nat.mul_succ, cls_add, cls_half]
theorem u32_xor_half (V c : Nat) (h : V < 4294967296) (hc : c < 4294967296) : bits .xor .u32 ((V : Int) / 16) (c : Int) = ((V / 16 ^^^ c : Nat) : Int) := by
  have h := u32_xor_nat (V / 16) c (by omega) hc
  rw [Int.natCast_ediv] at h
  exact h
set_option maxRecDepth 100000 in
set_option maxHeartbeats 1000000 in
theorem add_any (w : World) (g : Nat) (x0 : Nat) (p : Option Addr) (l : List UInt8) (c B : Nat) (hg : Blk w g 49 tbl) (hx0 : x0 < 4294967296) (hl : l.length ≤ 140737488351232) (hs : Sl w B p l) :
    Calls Tryd.prog 24 #[.pointer (some ⟨g, 0, none⟩), .int .u32 (x0 : Int), .slice p l.length c] w fun e w' => e = .returned (.int .u32 (crcF x0 l : Nat)) ∧ w = w' := by
  have HT : ∀ i : Nat, i < 16 → w.cell? ⟨g, i, none⟩ = some (.int .u32 (cls 4 i : Nat)) := fun i hi => by rw [hg.cell, tbl_get i hi]
  have HTT := Lib.hid HT
  clear HT
  go_enter Tryd.func24, Tryd.ntmps24
  go_wp2_with fail
  go_loop [11, 1] (fun i x => ∃ k : Nat, k ≤ l.length ∧ i = .int .i64 k ∧ x = .int .u32 ((crcF x0 (l.take k) : Nat) : Int)) (fun i _ => l.length - (intOf i).toNat)
  case atStart => exact ⟨0, by omega, rfl, rfl⟩
  case round =>
    obtain ⟨k, hk, rfl, rfl⟩ := hrel
    have hF := crcF_lt (x := x0) (l.take k) (by simpa using hx0)
    have hF' : crcF x0 (l.take k) < 4294967296 := by simpa using hF
    clear hF
    by_cases hlt : k < l.length
    · obtain ⟨b, o, rfl, hb, hc⟩ := hs.at_ hlt
      have hn := crcF_cons x0 l k hlt
      have hy := l[k].toNat_lt
      have HN := Lib.hid hn
      clear hn
      generalize crcF x0 (l.take k) = X at *
      generalize l[k].toNat = y at *
      have hx1 := u32_xor_nat X y hF' (by omega)
      have hX1 : X ^^^ y < 4294967296 := xor_lt 32 hF' (by omega)
      generalize hZ : X ^^^ y = Z at *
      have HZ := Lib.hid hZ
      clear hZ
      go_wp2_with fail
      go_loop [19, 1] (fun i x => ∃ j : Nat, j ≤ 2 ∧ i = .int .i64 j ∧ x = .int .u32 ((cls (4 * j) Z : Nat) : Int)) (fun i _ => 2 - (intOf i).toNat)
      case atStart => exact ⟨0, by omega, rfl, rfl⟩
      case round =>
        obtain ⟨j, hj, rfl, rfl⟩ := hrel
        have hV := cls_lt (4 * j) (x := Z) (by simpa using hX1)
        have hs1 := cls_half' j Z
        have HS := Lib.hid hs1
        clear hs1
        generalize hVe : cls (4 * j) Z = V at hV HS ⊢
        have HV := Lib.hid hVe
        clear hVe
        have hV' : V < 4294967296 := by simpa using hV
        by_cases h8 : j < 2
        · have hm : V % 16 < 16 := Nat.mod_lt _ (by decide)
          have hcell := HTT.out (V % 16) hm
          have hT := cls_lt 4 (x := V % 16) (by omega)
          have hT' : cls 4 (V % 16) < 4294967296 := by simpa using hT
          generalize cls 4 (V % 16) = T at *
          have hxx := u32_xor_half V T hV' hT'
          generalize hW : V / 16 ^^^ T = W at *
          have HW := Lib.hid hW
          clear hW
          go_wp2
          go_round
          case rel => exact ⟨j + 1, by omega, by go_num, by rw [HS.out]⟩
          case measure => simp [intOf]; omega
        · obtain rfl : j = 2 := by omega
          go_wp2
          go_round
          case rel => exact ⟨k + 1, by omega, by go_num, by rw [HN.out, ← HV.out]⟩
          case measure => simp [intOf]; omega
    · obtain rfl : k = l.length := by omega
      have e : l.take l.length = l := List.take_length
      rw [e] at hF' ⊢
      go_wp2
      go_ret
      exact ⟨rfl, rfl⟩

theorem u32_not (x : Nat) (h : x < 4294967296) : bits .xor .u32 IntKind.u32.max (x : Int) = ((x ^^^ 4294967295 : Nat) : Int) := by
  rw [Nat.xor_comm]
  exact u32_xor_nat 4294967295 _ (by decide) h
theorem infoTable : (Tryd.prog.info? 49).map (·.size) = some tbl.toArray.size := by
  have hl : tbl.toArray.size = 16 := by simp [tbl]
  have h : (Tryd.prog.info? 49).map (·.size) = some 16 := by kernel_rfl
  rw [hl, h]
theorem oneTable : tbl.toArray.all (·.oneCell') = true := by simp [tbl, Value.oneCell']
theorem sizeTable : (#[Value.int .u32 0, Value.int .u32 0, Value.int .u32 0, Value.int .u32 0, Value.int .u32 0, Value.int .u32 0, Value.int .u32 0, Value.int .u32 0, Value.int .u32 0, Value.int .u32 0, Value.int .u32 0, Value.int .u32 0, Value.int .u32 0, Value.int .u32 0, Value.int .u32 0, Value.int .u32 0] : Array Value).size = tbl.toArray.size := by
  have hl : tbl.toArray.size = 16 := by simp [tbl]
  rw [hl]
  rfl
set_option maxRecDepth 100000 in
set_option maxHeartbeats 1000000 in
theorem sum_any (w : World) (pp : Option Addr) (xs : List Part) (cap B : Nat) (hB : B ≤ w.heap.size) (hp : Parts w B pp xs) (hx : ∀ x ∈ xs, x.l.length ≤ 140737488351232) (hx2 : xs.length ≤ 1000000) :
    Calls Tryd.prog 16 #[.slice pp xs.length cap] w fun e w' => e = .returned (.int .u32 (crcSum (flat xs) : Nat)) ∧ Below w.heap.size w w' := by
  go_enter Tryd.func16, Tryd.ntmps16
  go_wp2_with fail
  refine (newTable_any w).mono ?_
  rintro e w1 ⟨rfl, hb1⟩
  have HQ := Lib.hid (heap_alloc_last w1 (.cells #[Value.int .u32 0, Value.int .u32 0, Value.int .u32 0, Value.int .u32 0, Value.int .u32 0, Value.int .u32 0, Value.int .u32 0, Value.int .u32 0, Value.int .u32 0, Value.int .u32 0, Value.int .u32 0, Value.int .u32 0, Value.int .u32 0, Value.int .u32 0, Value.int .u32 0, Value.int .u32 0] 49))
  go_wp2_with ((with_reducible refine wpList_store_row rfl 49 (.tmp 3) (.tmp 7) rfl w1.heap.size tbl.toArray rfl rfl 49 #[Value.int .u32 0, Value.int .u32 0, Value.int .u32 0, Value.int .u32 0, Value.int .u32 0, Value.int .u32 0, Value.int .u32 0, Value.int .u32 0, Value.int .u32 0, Value.int .u32 0, Value.int .u32 0, Value.int .u32 0, Value.int .u32 0, Value.int .u32 0, Value.int .u32 0, Value.int .u32 0] HQ.out infoTable sizeTable oneTable ?_); rw [World.setRow_alloc_new])
  have hT := Blk.new w1 49 tbl
  have hb2 : Below w.heap.size w (w1.alloc (.cells tbl.toArray 49)) := hb1.alloc hb1.size _
  have hp2 := hp.below (hb2.mono hB)
  have hE : flat (xs.take 0) = [] := rfl
  generalize w1.alloc (.cells tbl.toArray 49) = w2 at *
  go_loop [10, 4] (fun i x => ∃ k : Nat, k ≤ xs.length ∧ i = .int .i64 k ∧ x = .int .u32 ((crcF 4294967295 (flat (xs.take k)) : Nat) : Int)) (fun i _ => xs.length - (intOf i).toNat)
  case atStart => exact ⟨0, by omega, rfl, rfl⟩
  case round =>
    obtain ⟨k, hk, rfl, rfl⟩ := hrel
    have hF := crcF_lt (x := 4294967295) (flat (xs.take k)) (by decide)
    have hF' : crcF 4294967295 (flat (xs.take k)) < 4294967296 := by simpa using hF
    clear hF
    by_cases hlt : k < xs.length
    · obtain ⟨b, o, rfl, hbB, hc, hsl⟩ := hp2.at_ hlt
      have e := flat_take xs k hlt
      have ee : crcF 4294967295 (flat (xs.take (k + 1))) = crcF (crcF 4294967295 (flat (xs.take k))) xs[k].l := by rw [e, crcF_append]
      have HE := Lib.hid ee
      have hxl := hx xs[k] (List.getElem_mem hlt)
      clear e ee
      generalize crcF 4294967295 (flat (xs.take k)) = X at *
      go_wp2_with fail
      refine (add_any w2 w1.heap.size X xs[k].p xs[k].l xs[k].c B hT hF' hxl hsl).mono ?_
      rintro e w3 ⟨rfl, rfl⟩
      go_wp2_with fail
      go_round
      case rel => exact ⟨k + 1, by omega, by go_num, by rw [HE.out]⟩
      case measure => simp [intOf]; omega
    · obtain rfl : k = xs.length := by omega
      have e : xs.take xs.length = xs := List.take_length
      rw [e] at hF' ⊢
      have hxo := u32_not _ hF'
      go_wp2
      go_ret
      exact ⟨rfl, hb2⟩
end Go.Proofs.YtgedbeghegncoaaDoor
