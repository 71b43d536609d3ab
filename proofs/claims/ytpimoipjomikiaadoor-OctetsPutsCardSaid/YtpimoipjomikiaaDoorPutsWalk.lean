/- The walk of OctetsPuts: for all bytes that lie in memory and every number the answer is true, and nothing that was there turns. No condition. -/
import Derived.Test.YtpimoipjomikiaaDoorProg
import Derived.Test.YtpimoipjomikiaaDoorMem
import Derived.Test.YtpimoipjomikiaaDoorBytes
import Derived.Test.YtpimoipjomikiaaDoorKept
import Derived.Test.YtpimoipjomikiaaDoorPut
import Derived.Test.YtpimoipjomikiaaDoorRefPut
import Derived.Test.YtpimoipjomikiaaDoorNumber
import Derived.Test.YtpimoipjomikiaaDoorStr
import Derived.Test.YtpimoipjomikiaaDoorAlive
import Derived.Test.YtpimoipjomikiaaDoorGrow
import Derived.Deep.DeepCutAuto
namespace Go.Proofs.YtpimoipjomikiaaDoor
open Go.RowKit

/-- A slice of the bytes l. -/
def Holds (l : List UInt8) (v : Value) (w : World) : Prop := ∃ q c, v = .slice q l.length c ∧ Sl w w.heap.size q l

theorem stay_holds (X : List UInt8) : ∀ v, Stays (fun u u' : World => Below u.heap.size u u') ((Kind.of (Holds X)).pred v) := fun _ _ _ h ⟨q, c, hv, hs⟩ => ⟨q, c, hv, (hs.below h).more h.size⟩
theorem holds_of {w w' : World} {X l : List UInt8} {e : Ending} (hX : X = l) (h : Owned w l e w') : ∃ v, e = .returned v ∧ Below w.heap.size w w' ∧ Holds X v w' := by
  subst hX
  obtain ⟨v, he, hown, hb⟩ := h
  obtain ⟨q, c, hv, hs, _⟩ := own_sl hown
  exact ⟨v, he, hb, q, c, hv, hs⟩

set_option maxRecDepth 100000 in
set_option maxHeartbeats 1000000 in
theorem puts_any (w : World) (p : Option Addr) (l : List UInt8) (c n B : Nat) (hB : B ≤ w.heap.size) (hn : n < 18446744073709551616) (hs : Sl w B p l) :
    Calls Tryd.prog 4 #[.slice p l.length c, .int .u64 (n : Int)] w fun e w' => e = .returned (.bool true) ∧ Below w.heap.size w w' := by
  obtain ⟨X, hX⟩ : ∃ X, X = l ++ le n 8 := ⟨_, rfl⟩
  obtain ⟨Y, hY⟩ : ∃ Y, Y = l ++ le (n % 4294967296) 4 := ⟨_, rfl⟩
  have HX := Lib.hid hX
  have HY := Lib.hid hY
  clear hX hY
  by_cases h300 : l.length ≤ 300
  · have h300' : ¬ 300 < l.length := by omega
    go_enter Tryd.func4, Tryd.ntmps4
    go_wp2_with fail
    refine (alive_any w).mono ?_
    rintro e w1 ⟨rfl, hb1⟩
    have hs1 := hs.below (hb1.mono hB)
    go_wp2_with fail
    refine (bytes_any w1 p l c B (by omega) hs1 (Nat.le_trans hB hb1.size)).mono ?_
    rintro e w2 ⟨rfl, hin, hb2⟩
    have hsin : Sl w2 (w1.heap.size + 1) (some ⟨w1.heap.size, 0, none⟩) l := Sl.of_blk hin (by omega) fun i x hx => by
      have hi : i < l.length := by
        rcases Nat.lt_or_ge i l.length with h | h
        · exact h
        · rw [List.getElem?_eq_none h] at hx; cases hx
      rw [List.getElem?_append_left (by simpa using hi), List.getElem?_map, hx]
      rfl
    have hlt2 := hin.lt
    go_wp2_with fail
    refine (put64_any w2 _ l (l.length + 6) n (w1.heap.size + 1) hlt2 (by omega) hn hsin).mono ?_
    rintro e w3 ⟨v3, rfl, hown3, hb3⟩
    rw [← HX.out] at hown3
    obtain ⟨q3, c3, rfl, hsl3, hc3, _⟩ := own_sl hown3
    have hsin3 := hsin.below (hb3.mono hlt2)
    have e32 : ((n : Int) % 4294967296) = ((n % 4294967296 : Nat) : Int) := by omega
    have E32 := Lib.hid e32
    clear e32
    go_wp2_with fail
    rw [E32.out]
    refine (put32_any w3 _ l (l.length + 6) (n % 4294967296) (w1.heap.size + 1) (Nat.le_trans hlt2 hb3.size) (by omega) (by omega) hsin3).mono ?_
    rintro e w4 ⟨v4, rfl, hown4, hb4⟩
    rw [← HY.out] at hown4
    obtain ⟨q4, c4, rfl, hsl4, hc4, _⟩ := own_sl hown4
    have hs4 : Sl w4 B p l := (hs1.below ((hb2.trans (hb3.mono hb2.size)).mono (Nat.le_trans hB hb1.size))).below (hb4.mono (Nat.le_trans hB (Nat.le_trans hb1.size (Nat.le_trans hb2.size hb3.size))))
    have hin4 : Blk w4 w1.heap.size 5 (l.map bv ++ List.replicate 6 (.int .u8 165)) := (hin.kept hb3).kept hb4
    have hx4 : Sl w4 w3.heap.size q3 X := hsl3.below hb4
    have hy4 : Sl w4 w4.heap.size q4 Y := hsl4
    have h14 : Below w1.heap.size w1 w4 := ((hb2.trans (hb3.mono hb2.size)).trans (hb4.mono (Nat.le_trans hb2.size hb3.size)))
    have hsz4 : w.heap.size ≤ w4.heap.size := Nat.le_trans hb1.size h14.size
    have hB4 : B ≤ w4.heap.size := Nat.le_trans hB hsz4
    have h34 : w3.heap.size ≤ w4.heap.size := hb4.size
    have h14' : w1.heap.size < w4.heap.size := hin4.lt
    have hl46 : l.length ≤ 70368744177664 := by omega
    clear hown3 hown4 hin hsin hsin3 hc3 hc4
    have e32t : (n : Int).tmod 4294967296 = ((n % 4294967296 : Nat) : Int) := rfl
    have E32t := Lib.hid e32t
    clear e32t
    have hn32 : n % 4294967296 < 18446744073709551616 := by omega
    go_upto_region 7 with fail
    go_cut [50] (fun s50 wx => s50 = .bool false ∧ Below w4.heap.size w4 wx)
    case first =>
      refine wp_region_grow (Below w4.heap.size w4) (fun u u' => Below u.heap.size u u') [.is ?_, .is ?_, .is (.bool true), .is ?_, .is ?_, .is ?_, .is ?_, .is ?_, .is ?_, .of (Holds X), .is ?_, .is ?_, .is ?_, .is ?_, .is ?_, .is ?_, .is ?_, .is ?_, .is ?_, .of (Holds Y), .is ?_, .is ?_, .is ?_] (by kernel_rfl) (by kernel_rfl) (fun u u' h hC => hC.trans (h.mono hC.size)) (by repeat (first | exact trivial | refine ⟨by first | exact stay_is | exact stay_holds _, ?_⟩)) ((Below.refl _ _).drew) ?h
      case h =>
        iterate 2 (refine wpT_is (fun _ => Below.refl _ _) rfl (fun wx hC _ => by go_simp; rfl) ?_; simp only [Act.put, List.setIfInBounds_toArray, List.set_cons_zero, List.set_cons_succ])
        refine wpT_callIs rfl (fun wx hC _ => by go_simp; exact ⟨rfl, rfl⟩) (fun wx hC _ => ?k1) ?_
        case k1 => exact (kept_any wx w1.heap.size p l c B (by omega) (hs4.below (hC.mono hB4)) (hin4.below hC h14')).mono fun e w' ⟨he, hw⟩ => ⟨he, hw ▸ Below.refl _ _⟩
        simp only [Act.put, List.setIfInBounds_toArray, List.set_cons_zero, List.set_cons_succ]
        iterate 3 (refine wpT_is (fun _ => Below.refl _ _) rfl (fun wx hC _ => by go_simp; rfl) ?_; simp only [Act.put, List.setIfInBounds_toArray, List.set_cons_zero, List.set_cons_succ])
        refine wpT_is (fun _ => Below.refl _ _) rfl (fun wx hC _ => by have ex := (hx4.below (hC.mono h34)).string c3; go_simp; rfl) ?_
        simp only [Act.put, List.setIfInBounds_toArray, List.set_cons_zero, List.set_cons_succ]
        iterate 2 (refine wpT_is (fun _ => Below.refl _ _) rfl (fun wx hC _ => by go_simp; rfl) ?_; simp only [Act.put, List.setIfInBounds_toArray, List.set_cons_zero, List.set_cons_succ])
        refine wpT_call rfl (fun wx hC _ => by go_simp; exact ⟨rfl, rfl⟩) (fun wx hC _ => ?k2) (fun v1 => ?_)
        case k2 => exact (refPut8_any wx p l c n B (Nat.le_trans hB4 hC.size) hl46 hn (hs4.below (hC.mono hB4))).mono fun e w' h => holds_of HX.out h
        simp only [Act.put, List.setIfInBounds_toArray, List.set_cons_zero, List.set_cons_succ]
        refine wpT_is (fun _ => Below.refl _ _) rfl (fun wx hC hS => by obtain ⟨q5, c5, rfl, hs5⟩ : Holds X v1 wx := hS.get (List.mem_cons_self) rfl; have ex := hs5.string c5; go_simp; rfl) ?_
        simp only [Act.put, List.setIfInBounds_toArray, List.set_cons_zero, List.set_cons_succ]
        iterate 4 (refine wpT_is (fun _ => Below.refl _ _) rfl (fun wx hC _ => by go_simp; rfl) ?_; simp only [Act.put, List.setIfInBounds_toArray, List.set_cons_zero, List.set_cons_succ])
        refine wpT_is (fun _ => Below.refl _ _) rfl (fun wx hC _ => by have ex := (hy4.below hC).string c4; go_simp; rfl) ?_
        simp only [Act.put, List.setIfInBounds_toArray, List.set_cons_zero, List.set_cons_succ]
        iterate 3 (refine wpT_is (fun _ => Below.refl _ _) rfl (fun wx hC _ => by go_simp; rfl) ?_; simp only [Act.put, List.setIfInBounds_toArray, List.set_cons_zero, List.set_cons_succ])
        refine wpT_call rfl (fun wx hC _ => by go_simp; exact ⟨rfl, rfl⟩) (fun wx hC _ => ?k3) (fun v2 => ?_)
        case k3 => rw [E32t.out]; exact (refPut4_any wx p l c (n % 4294967296) B (Nat.le_trans hB4 hC.size) hl46 hn32 (hs4.below (hC.mono hB4))).mono fun e w' h => holds_of HY.out h
        simp only [Act.put, List.setIfInBounds_toArray, List.set_cons_zero, List.set_cons_succ]
        refine wpT_is (fun _ => Below.refl _ _) rfl (fun wx hC hS => by obtain ⟨q5, c5, rfl, hs5⟩ : Holds Y v2 wx := hS.get (List.mem_cons_self) rfl; have ex := hs5.string c5; go_simp; rfl) ?_
        simp only [Act.put, List.setIfInBounds_toArray, List.set_cons_zero, List.set_cons_succ]
        iterate 2 (refine wpT_is (fun _ => Below.refl _ _) rfl (fun wx hC _ => by go_simp; rfl) ?_; simp only [Act.put, List.setIfInBounds_toArray, List.set_cons_zero, List.set_cons_succ])
        refine wpT_nil fun wx hC _ => ?_
        go_wp2_with fail
        go_meet
        exact ⟨rfl, hC⟩
    case rest =>
      obtain ⟨rfl, hb5⟩ := hcut
      have hx5 := hx4.below (hb5.mono h34)
      have hy5 := hy4.below hb5
      have hXl : X.length = l.length + 8 := by rw [HX.out, List.length_append, le_length]
      have hYl : Y.length = l.length + 4 := by rw [HY.out, List.length_append, le_length]
      have hXn : num ((X.drop l.length).take 8) = n := by
        rw [HX.out, List.drop_left, List.take_of_length_le (by rw [le_length]; omega), num_le, Nat.mod_eq_of_lt (by simpa using hn)]
      have h256 : (256 : Nat) ^ 4 = 4294967296 := by decide
      have hYn : num ((Y.drop l.length).take 4) = n % 4294967296 := by
        rw [HY.out, List.drop_left, List.take_of_length_le (by rw [le_length]; omega), num_le, h256, Nat.mod_mod]
      have hX1 : X.length ≤ 70368744177672 := by omega
      have hY1 : Y.length ≤ 70368744177672 := by omega
      have hX2 : l.length + 8 ≤ X.length := by omega
      have hY2 : l.length + 4 ≤ Y.length := by omega
      have hX0 : (X.length : Int) - ((0 + l.length + 8 : Nat) : Int) = 0 := by omega
      have hY0 : (Y.length : Int) - ((0 + l.length + 4 : Nat) : Int) = 0 := by omega
      have HX0 := Lib.hid hX0
      have HY0 := Lib.hid hY0
      have HXn := Lib.hid hXn
      have HYn := Lib.hid hYn
      clear hXl hYl hXn hYn hX0 hY0 h256
      go_wp2_with fail
      refine (newReader_any _ q3 X c3 w3.heap.size (by exact Nat.le_trans h34 hb5.size) hX1 (by exact hx5)).mono ?_
      rintro e w6 ⟨r, rfl, hr6, hrd6, hb6⟩
      have hy6 := hy5.below (hb6.mono hb5.size)
      go_wp2_with fail
      refine (newReader_any w6 q4 Y c4 w4.heap.size (Nat.le_trans hb5.size hb6.size) hY1 hy6).mono ?_
      rintro e w7 ⟨s, rfl, hs7, hsd7, hb7⟩
      have hrd7 := hrd6.kept hb7
      have hrs : r ≠ s := by have := hrd6.lt; omega
      go_wp2_with fail
      refine (skip_any w7 r X 0 l.length hrd7 hX1 (by omega)).mono ?_
      rintro e w8 ⟨rfl, hrd8, hg8⟩
      have hsd8 := hsd7.far hrd7 hg8 (Ne.symm hrs)
      go_wp2_with fail
      refine (skip_any w8 s Y 0 l.length hsd8 hY1 (by omega)).mono ?_
      rintro e w9 ⟨rfl, hsd9, hg9⟩
      have hrd9 := hrd8.far hsd8 hg9 hrs
      go_wp2_with fail
      refine (fixed64_any w9 r X (0 + l.length) hrd9 hX1 (by omega)).mono ?_
      rintro e w10 ⟨he, hrd10, hg10⟩
      rw [Nat.zero_add, HXn.out] at he
      subst he
      have hsd10 := hsd9.far hrd9 hg10 (Ne.symm hrs)
      go_wp2_with fail
      refine (fixed32_any w10 s Y (0 + l.length) hsd10 hY1 (by omega)).mono ?_
      rintro e w11 ⟨he, hsd11, hg11⟩
      rw [Nat.zero_add, HYn.out] at he
      subst he
      have hrd11 := hrd10.far hsd10 hg11 hrs
      go_wp2_with fail
      refine (left_any w11 r X (0 + l.length + 8) hrd11 hX1 (by omega)).mono ?_
      rintro e w12 ⟨he, n12, rfl⟩
      rw [HX0.out] at he
      subst he
      go_wp2_with fail
      refine (left_any (w11.drewN n12) s Y (0 + l.length + 4) hsd11 hY1 (by omega)).mono ?_
      rintro e w13 ⟨he, n13, rfl⟩
      rw [HY0.out] at he
      subst he
      go_wp2_with fail
      go_ret
      have b0 : Below w.heap.size w w4 := hb1.trans (h14.mono hb1.size)
      have b1 := b0.trans (hb5.mono b0.size)
      have b2 := b1.trans (hb6.mono b1.size)
      have b3 := b2.trans (hb7.mono b2.size)
      have hr0 : w.heap.size ≤ r := Nat.le_trans b1.size hr6
      have hs0 : w.heap.size ≤ s := Nat.le_trans b2.size hs7
      have b4 := b3.trans (only_below hg8 hr0 b3.size)
      have b5 := b4.trans (only_below hg9 hs0 b4.size)
      have b6 := b5.trans (only_below hg10 hr0 b5.size)
      have b7 := b6.trans (only_below hg11 hs0 b6.size)
      exact ⟨rfl, below_drewN b7 _⟩
  · have h300' : 300 < l.length := by omega
    go_enter Tryd.func4, Tryd.ntmps4
    go_wp2_with fail
    refine (alive_any w).mono ?_
    rintro e w1 ⟨rfl, hb1⟩
    go_wp2_with fail
    go_ret
    exact ⟨rfl, hb1⟩
end Go.Proofs.YtpimoipjomikiaaDoor
