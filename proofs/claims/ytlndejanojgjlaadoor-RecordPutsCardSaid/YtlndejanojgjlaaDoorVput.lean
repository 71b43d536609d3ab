/- A number's shortest varint, and the contracts of varint.add, varint.Put, varint.PutAll and redlineref02.Put. Conditions: the number is a uint64; fewer than 2^46 bytes are there, a million numbers. -/
import Derived.Test.YtlndejanojgjlaaDoorProg
import Derived.Test.YtlndejanojgjlaaDoorMem
import Derived.Test.YtlndejanojgjlaaDoorRow
import Derived.Test.YtlndejanojgjlaaDoorJoin
import Derived.WalkSpells
namespace Go.Proofs.YtlndejanojgjlaaDoor
open Go.RowKit

/-- A number's shortest varint. -/
def vput (n : Nat) : List UInt8 := if n < 128 then [UInt8.ofNat n] else UInt8.ofNat (n % 128 + 128) :: vput (n / 128)
termination_by n
theorem vput_small {n : Nat} (h : n < 128) : vput n = [UInt8.ofNat n] := by rw [vput, if_pos h]
theorem vput_big {n : Nat} (h : ¬ n < 128) : vput n = UInt8.ofNat (n % 128 + 128) :: vput (n / 128) := by rw [vput, if_neg h]
theorem vput_pos (n : Nat) : 0 < (vput n).length := by
  rw [vput]
  split <;> simp
theorem vput_le : ∀ (k n : Nat), n < 128 ^ (k + 1) → (vput n).length ≤ k + 1
  | 0, n, h => by
    rw [vput_small (by simpa using h)]
    simp
  | k + 1, n, h => by
    by_cases hs : n < 128
    · rw [vput_small hs]; simp
    · rw [vput_big hs, List.length_cons]
      have := vput_le k (n / 128) (by rw [Nat.pow_succ] at h; omega)
      omega
theorem vput_ten (n : Nat) (h : n < 18446744073709551616) : (vput n).length ≤ 10 := vput_le 9 n (Nat.lt_of_lt_of_le h (by decide))
theorem bv_nat (n : Nat) (h : n < 256) : bv (UInt8.ofNat n) = .int .u8 (n : Int) := by
  unfold bv
  rw [UInt8.toNat_ofNat']
  congr 2
  exact Nat.mod_eq_of_lt h

/-- A row of the call's own that grew to the bytes l. -/
def Grown (base : Nat) (w : World) (l : List UInt8) (e : Ending) (w' : World) : Prop :=
  ∃ v, e = .returned v ∧ w'.ownsRow base 5 1 v l.length (l.map bv) ∧ Below base w w'

set_option maxRecDepth 100000 in
set_option maxHeartbeats 1000000 in
theorem add_any (base : Nat) (w : World) (v : Value) (l : List UInt8) (n : Nat) (hn : n < 18446744073709551616) (hl : l.length ≤ 70368744177664) (hown : w.ownsRow base 5 1 v l.length (l.map bv)) (hbase : base ≤ w.heap.size) :
    Calls Tryd.prog 61 #[v, .int .u64 (n : Int)] w (Grown base w (l ++ vput n)) := by
  obtain ⟨i0, hi, hz0, hz1, hz2⟩ := info_parts infoB
  have hten := vput_ten n hn
  go_enter Tryd.func61, Tryd.ntmps61
  go_wp2_with fail
  go_loopw [0, 1] (fun v m wr => ∃ (d : List UInt8) (j : Nat), m = .int .u64 (j : Int) ∧ j ≤ n ∧ Hid (vput n = d ++ vput j) ∧ wr.ownsRow base 5 1 v (l ++ d).length ((l ++ d).map bv) ∧ Below base w wr) (fun _ m _ => (intOf m).toNat)
  case atStart => exact ⟨[], n, rfl, Nat.le_refl _, by exact Lib.hid rfl, by simpa using hown, Below.refl _ _⟩
  case round =>
    obtain ⟨d, j, rfl, hj, HD, hownr, hbr⟩ := hrel
    have hdl : d.length + (vput j).length ≤ 10 := by rw [← List.length_append, ← HD.out]; exact hten
    have hsz : base ≤ wr.heap.size := Nat.le_trans hbase hbr.size
    have hld : (l ++ d).length ≤ 70368744177674 := by rw [List.length_append]; omega
    by_cases hs : j < 128
    · have hs' : ¬ 128 ≤ j := by omega
      have HV := Lib.hid (vput_small hs)
      have hone := one_sl wr 5 (UInt8.ofNat j)
      rw [bv_nat j (by omega)] at hone
      go_wp2_with (at_builtin; go_must (refine wpList_append_sl _ rfl (.tmp 16) (.tmp 19) 22 rfl base 5 i0 (.int .u8 0) Tryd.underlying22 hi hz0 hz1 hz2 rfl _ _ _ rfl (hownr.alloc _) (wr.heap.size + 1) (some ⟨wr.heap.size, 0, none⟩) 1 [UInt8.ofNat j] rfl hone (by simp only [List.length_singleton]; omega) (by simp; omega) ?_); intro v3 w3 hown3 hg3)
      have hb3 := (hbr.alloc hsz _).grown hg3 (by simp; omega) (fun g h => (hownr.lt g h).1)
      have e1 : l ++ vput n = (l ++ d) ++ [UInt8.ofNat j] := by rw [HD.out, HV.out, List.append_assoc]
      go_ret
      refine ⟨_, rfl, ?_, hb3⟩
      rw [e1, List.length_append, List.map_append]
      exact hown3
    · have HV := Lib.hid (vput_big hs)
      have hs' : 128 ≤ j := by omega
      have hone := one_sl wr 5 (UInt8.ofNat (j % 128 + 128))
      rw [bv_nat (j % 128 + 128) (by omega), show ((j % 128 + 128 : Nat) : Int) = (j : Int) % 128 + 128 by omega] at hone
      go_wp2_with (at_builtin; go_must (refine wpList_append_sl _ rfl (.tmp 7) (.tmp 12) 22 rfl base 5 i0 (.int .u8 0) Tryd.underlying22 hi hz0 hz1 hz2 rfl _ _ _ rfl (hownr.alloc _) (wr.heap.size + 1) (some ⟨wr.heap.size, 0, none⟩) 1 [UInt8.ofNat (j % 128 + 128)] rfl hone (by simp only [List.length_singleton]; omega) (by simp; omega) ?_); intro v3 w3 hown3 hg3)
      have hb3 := (hbr.alloc hsz _).grown hg3 (by simp; omega) (fun g h => (hownr.lt g h).1)
      have hown4 : w3.ownsRow base 5 1 v3 (l ++ (d ++ [UInt8.ofNat (j % 128 + 128)])).length ((l ++ (d ++ [UInt8.ofNat (j % 128 + 128)])).map bv) := by
        rw [← List.append_assoc, List.length_append, List.map_append]; exact hown3
      have HD' := Lib.hid (show vput n = (d ++ [UInt8.ofNat (j % 128 + 128)]) ++ vput (j / 128) by rw [HD.out, HV.out, List.append_assoc]; rfl)
      clear hown3 hg3 HV HD
      go_roundw
      case rel => exact ⟨_, j / 128, by go_num, by omega, HD', hown4, hb3⟩
      case measure => simp [intOf]; omega

set_option maxRecDepth 100000 in
set_option maxHeartbeats 1000000 in
theorem vPut_any (w : World) (p : Option Addr) (l : List UInt8) (c n B : Nat) (hB : B ≤ w.heap.size) (hl : l.length ≤ 70368744177664) (hn : n < 18446744073709551616) (hs : Sl w B p l) :
    Calls Tryd.prog 50 #[.slice p l.length c, .int .u64 (n : Int)] w (Owned w (l ++ vput n)) := by
  go_enter Tryd.func50, Tryd.ntmps50
  go_wp2_with fail
  refine (add_any w.heap.size w _ [] n hn (by simp) (World.ownsRow_nil _ _ _ _) (Nat.le_refl _)).mono ?_
  rintro e w1 ⟨v, rfl, hown, hb⟩
  rw [List.nil_append] at hown
  obtain ⟨q, cq, rfl, hsl, _⟩ := own_sl hown
  clear hown
  have hs1 := (hs.below (hb.mono hB)).more (Nat.le_trans hB hb.size)
  have hten := vput_ten n hn
  go_wp2_with fail
  have hp : Parts (w1.alloc (Obj.cells #[Value.slice p l.length c, Value.slice q (vput n).length cq] 22)) (w1.heap.size + 1) (some ⟨w1.heap.size, 0, none⟩) [⟨p, l, c⟩, ⟨q, vput n, cq⟩] :=
    Parts.made (u := w1) (t := 22) (xs := [⟨p, l, c⟩, ⟨q, vput n, cq⟩]) rfl (fun x hx => by
      rcases List.mem_cons.1 hx with rfl | hx
      · exact hs1
      · rw [List.mem_singleton.1 hx]; exact hsl) (Nat.le_refl _)
  refine (join_any _ _ [⟨p, l, c⟩, ⟨q, vput n, cq⟩] 2 (w1.heap.size + 1) (by simp) hp (by simp) (by simp [flat]; omega)).mono ?_
  rintro e w2 ⟨v, rfl, hown, hb2⟩
  have hfl : flat [⟨p, l, c⟩, ⟨q, vput n, cq⟩] = l ++ vput n := by simp [flat]
  rw [hfl] at hown
  go_wp2_with fail
  go_ret
  exact ⟨_, rfl, own_base hown (by have := hb.size; simp; omega), (hb.alloc hb.size _).trans (hb2.mono (by have := hb.size; simp; omega))⟩

set_option maxRecDepth 100000 in
set_option maxHeartbeats 1000000 in
theorem vRefPut_any : ∀ (n : Nat) (w : World), n < 18446744073709551616 → Calls Tryd.prog 34 #[.int .u64 (n : Int)] w (Owned w (vput n)) := by
  intro n
  induction n using Nat.strongRecOn with
  | _ n ih =>
    intro w hn
    obtain ⟨i0, hi, hz0, hz1, hz2⟩ := info_parts infoB
    by_cases hs : n < 128
    · have HV := Lib.hid (vput_small hs)
      have hone : (w.alloc (.cells #[Value.int .u8 (n : Int)] 5)).ownsRow w.heap.size 5 1 (.slice (some ⟨w.heap.size, 0, none⟩) 1 1) 1 [Value.int .u8 (n : Int)] := World.ownsRow_lit w #[Value.int .u8 (n : Int)] 1 (Nat.le_refl _) (by decide) rfl
      clear ih
      go_enter Tryd.func34, Tryd.ntmps34
      go_wp2
      go_ret
      refine ⟨_, rfl, ?_, (Below.refl _ _).alloc (Nat.le_refl _) _⟩
      rw [HV.out]
      show World.ownsRow _ _ _ _ _ 1 [bv (UInt8.ofNat n)]
      rw [bv_nat n (by omega)]
      exact hone
    · have HV := Lib.hid (vput_big hs)
      have hs' : 128 ≤ n := by omega
      have e1 : ((n / 128 : Nat) : Int) = (n : Int) / 128 := by omega
      have HI := Lib.hid (ih (n / 128) (by omega))
      have HE := Lib.hid e1
      clear ih e1
      have hten := vput_ten (n / 128) (by omega)
      have hone : (w.alloc (.cells #[Value.int .u8 ((n : Int) % 128 + 128)] 5)).ownsRow w.heap.size 5 1 (.slice (some ⟨w.heap.size, 0, none⟩) 1 1) 1 [Value.int .u8 ((n : Int) % 128 + 128)] := World.ownsRow_lit w #[Value.int .u8 ((n : Int) % 128 + 128)] 1 (Nat.le_refl _) (by decide) rfl
      go_enter Tryd.func34, Tryd.ntmps34
      go_wp2_with fail
      have HIW := HI.out (w.alloc (.cells #[Value.int .u8 ((n : Int) % 128 + 128)] 5)) (by omega)
      rw [HE.out] at HIW
      refine HIW.mono ?_
      rintro e w1 ⟨v, rfl, hown, hb⟩
      have hone1 := hone.kept (only_of_below hb none) (.inr (by simp [Value.ownBlock]))
      obtain ⟨q, cq, rfl, hsl, _⟩ := own_sl hown
      have hbw : Below w.heap.size w w1 := ((Below.refl _ _).alloc (Nat.le_refl _) _).trans (hb.mono (by simp))
      clear hown HIW HI hone
      go_wp2_with (at_builtin; go_must (refine wpList_append_sl _ rfl (.tmp 12) (.tmp 15) 22 rfl w.heap.size 5 i0 (.int .u8 0) Tryd.underlying22 hi hz0 hz1 hz2 rfl _ _ _ rfl hone1 w1.heap.size q cq (vput (n / 128)) rfl hsl (by omega) hbw.size ?_); intro v3 w3 hown3 hg3)
      have hb3 := hbw.grown hg3 hbw.size (fun g h => (hone1.lt g h).1)
      go_ret
      refine ⟨_, rfl, ?_, hb3⟩
      rw [HV.out, List.length_cons, List.map_cons, bv_nat (n % 128 + 128) (by omega), show ((n % 128 + 128 : Nat) : Int) = (n : Int) % 128 + 128 by omega, Nat.add_comm]
      exact hown3

theorem uvs_get (ns : List Nat) (k : Nat) (h : k < (ns.map uv).length) : (ns.map uv)[k] = .int .u64 ((ns[k]'(by simpa using h) : Nat) : Int) := by
  rw [List.getElem_map]; rfl
def vputs (ns : List Nat) : List UInt8 := (ns.map vput).flatten
theorem vputs_take (ns : List Nat) (k : Nat) (h : k < ns.length) : vputs (ns.take (k + 1)) = vputs (ns.take k) ++ vput ns[k] := by
  unfold vputs
  rw [List.take_succ_eq_append_getElem h, List.map_append, List.flatten_append]
  simp
theorem vputs_length (ns : List Nat) (h : ∀ n ∈ ns, n < 18446744073709551616) : (vputs ns).length ≤ 10 * ns.length := by
  induction ns with
  | nil => simp [vputs]
  | cons n ns ih =>
    have h1 := vput_ten n (h n (by simp))
    have h2 := ih fun m hm => h m (by simp [hm])
    unfold vputs at h2 ⊢
    rw [List.map_cons, List.flatten_cons, List.length_append, List.length_cons]
    omega

end Go.Proofs.YtlndejanojgjlaaDoor
