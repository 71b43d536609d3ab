/- The contracts of slices.Grow (of nil), slices.Concat and octets.Join: all parts one behind the other in memory of the call's own. Condition: together at most 2^47 bytes. -/
import Derived.Test.YtgedbeghegncoaaDoorProg
import Derived.Test.YtgedbeghegncoaaDoorMem
import Derived.Lib.AppendZeros
namespace Go.Proofs.YtgedbeghegncoaaDoor
open Go.RowKit

theorem infoB : (Tryd.prog.info? 5).map (fun i => (i.zero, i.size, i.bytes)) = some (some (.int .u8 0), 1, 1) := by kernel_rfl

/-- A result that owns the bytes l, in memory of the call's own. -/
def Owned (w : World) (l : List UInt8) (e : Ending) (w' : World) : Prop :=
  ∃ v, e = .returned v ∧ w'.ownsRow w.heap.size 5 1 v l.length (l.map bv) ∧ Below w.heap.size w w'

set_option maxRecDepth 100000 in
set_option maxHeartbeats 400000 in
theorem grow_any (w : World) (n : Nat) (hn : n ≤ 140737488355328) :
    Calls Tryd.prog 31 #[.slice none 0 0, .int .i64 (n : Int)] w (Owned w []) := by
  obtain ⟨i0, hi, hz0, hz1, hz2⟩ := info_parts infoB
  by_cases h0 : 0 < n
  · have hr := Lib.run_append_nil_zeros (P := Tryd.prog) w 22 3 22 5 i0 (.int .u8 0) .i64 .i64 Tryd.underlying22 Tryd.underlying3 hi hz0 n h0 (by omega) (by omega) (by rw [hz2]; omega)
    have HR := Lib.hid hr
    clear hr
    go_enter Tryd.func31, Tryd.ntmps31
    go_wp2_with (at_builtin; refine Lib.wpList_append_run _ rfl _ _ _ _ rfl _ _ rfl rfl _ _ HR.out ?_)
    go_ret
    refine ⟨_, rfl, ⟨by simp, .inr ⟨w.heap.size, grownCap w n 0 5, _, rfl, Nat.le_refl _, heap_alloc_new w.drew _, Nat.zero_le _, grownCap_le_maxLen w n 0 _ (by unfold maxLen; omega), ?_, by simp⟩⟩, ((Below.refl _ _).drew).alloc (Nat.le_refl _) _⟩
    have := grownCap_ge w n 0 5
    simp [Builtin.zeroCells]
    omega
  · obtain rfl : n = 0 := by omega
    go_enter Tryd.func31, Tryd.ntmps31
    go_wp2
    go_ret
    exact ⟨_, rfl, World.ownsRow_nil _ _ _ _, Below.refl _ _⟩

/-- A part: where it lies, its bytes, its capacity. -/
structure Part where
  p : Option Addr
  l : List UInt8
  c : Nat
def Part.val (x : Part) : Value := .slice x.p x.l.length x.c
def flat (xs : List Part) : List UInt8 := (xs.map (·.l)).flatten
theorem flat_take (xs : List Part) (k : Nat) (h : k < xs.length) : flat (xs.take (k + 1)) = flat (xs.take k) ++ xs[k].l := by
  unfold flat
  rw [List.take_succ_eq_append_getElem h, List.map_append, List.flatten_append]
  simp
theorem flat_le (xs : List Part) (k : Nat) : (flat (xs.take k)).length ≤ (flat xs).length := by
  have h : flat xs = flat (xs.take k) ++ flat (xs.drop k) := by
    unfold flat
    rw [← List.flatten_append, ← List.map_append, List.take_append_drop]
  rw [h]; simp

/-- The slice at pp, of the parts xs, lies in w below block B, and so do they. -/
def Parts (w : World) (B : Nat) (pp : Option Addr) (xs : List Part) : Prop :=
  (0 < xs.length → ∃ b o, pp = some ⟨b, o, none⟩ ∧ b < B ∧ ∀ (i : Nat) x, xs[i]? = some x → w.cell? ⟨b, o + i, none⟩ = some x.val) ∧ ∀ x ∈ xs, Sl w B x.p x.l
theorem Parts.at_ {w : World} {B : Nat} {pp : Option Addr} {xs : List Part} (h : Parts w B pp xs) {i : Nat} (hi : i < xs.length) :
    ∃ b o, pp = some ⟨b, o, none⟩ ∧ b < B ∧ w.cell? ⟨b, o + i, none⟩ = some (.slice xs[i].p xs[i].l.length xs[i].c) ∧ Sl w B xs[i].p xs[i].l := by
  obtain ⟨b, o, e, hlt, hc⟩ := h.1 (by omega)
  exact ⟨b, o, e, hlt, hc i _ (List.getElem?_eq_getElem hi), h.2 _ (List.getElem_mem hi)⟩
theorem Parts.made {u : World} {B : Nat} {t : TypeId} {cs : Array Value} {xs : List Part} (hcs : cs = (xs.map Part.val).toArray) (h : ∀ x ∈ xs, Sl u B x.p x.l) (hB : B ≤ u.heap.size) :
    Parts (u.alloc (.cells cs t)) (u.heap.size + 1) (some ⟨u.heap.size, 0, none⟩) xs := by
  subst hcs
  have hb : Blk (u.alloc (.cells (xs.map Part.val).toArray t)) u.heap.size t (xs.map Part.val) := Blk.new u t _
  refine ⟨fun _ => ⟨_, _, rfl, by omega, fun i x hx => ?_⟩, fun x hx => ((h x hx).below ((Below.refl _ _).alloc hB _)).more (by omega)⟩
  rw [Nat.zero_add, hb.cell, List.getElem?_map, hx]
  rfl
theorem Parts.more {w : World} {B B' : Nat} {pp : Option Addr} {xs : List Part} (h : Parts w B pp xs) (hB : B ≤ B') : Parts w B' pp xs :=
  ⟨fun hl => by
    obtain ⟨b, o, e, hlt, hc⟩ := h.1 hl
    exact ⟨b, o, e, by omega, hc⟩, fun x hx => (h.2 x hx).more hB⟩
theorem Parts.below {w w' : World} {B : Nat} {pp : Option Addr} {xs : List Part} (h : Parts w B pp xs) (hb : Below B w w') : Parts w' B pp xs :=
  ⟨fun hl => by
    obtain ⟨b, o, e, hlt, hc⟩ := h.1 hl
    exact ⟨b, o, e, hlt, fun i x hx => (hb.cell (p := ⟨b, o + i, none⟩) hlt).trans (hc i x hx)⟩, fun x hx => (h.2 x hx).below hb⟩

set_option maxRecDepth 100000 in
set_option maxHeartbeats 1000000 in
theorem concat_any (w : World) (pp : Option Addr) (xs : List Part) (cap B : Nat) (hB : B ≤ w.heap.size) (hp : Parts w B pp xs) (hx : xs.length ≤ 1000000) (hf : (flat xs).length ≤ 140737488355328) :
    Calls Tryd.prog 25 #[.slice pp xs.length cap] w (Owned w (flat xs)) := by
  obtain ⟨i0, hi, hz0, hz1, hz2⟩ := info_parts infoB
  go_enter Tryd.func25, Tryd.ntmps25
  go_wp2_with fail
  go_loop [11, 3] (fun i s => ∃ k : Nat, k ≤ xs.length ∧ i = .int .i64 k ∧ s = .int .i64 (flat (xs.take k)).length) (fun i _ => xs.length - (intOf i).toNat)
  case atStart => exact ⟨0, by omega, rfl, rfl⟩
  case round =>
    obtain ⟨k, hk, rfl, rfl⟩ := hrel
    by_cases hlt : k < xs.length
    · obtain ⟨b, o, rfl, hbB, hc, _⟩ := hp.at_ hlt
      have hle := flat_le xs (k + 1)
      have hle0 := flat_le xs k
      have e : (flat (xs.take (k + 1))).length = (flat (xs.take k)).length + xs[k].l.length := by rw [flat_take xs k hlt, List.length_append]
      have hle2 : (flat (xs.take k)).length + xs[k].l.length ≤ 140737488355328 := by omega
      have HE := Lib.hid e
      clear e hle
      go_wp2
      go_round
      case rel => exact ⟨k + 1, by omega, by go_num, by rw [HE.out]; go_num⟩
      case measure => simp [intOf]; omega
    · obtain rfl : k = xs.length := by omega
      have ht : xs.take xs.length = xs := List.take_length
      have hle0 := flat_le xs xs.length
      go_wp2_with fail
      refine (grow_any w _ (by omega)).mono ?_
      rintro e w1 ⟨v, rfl, hown, hb⟩
      go_wp2_with fail
      have hp1 := hp.below (hb.mono hB)
      have hsz := hb.size
      go_loopw [27, 6] (fun i v wr => ∃ k : Nat, k ≤ xs.length ∧ i = .int .i64 k ∧ wr.ownsRow w.heap.size 5 1 v (flat (xs.take k)).length ((flat (xs.take k)).map bv) ∧ Below w.heap.size w wr) (fun i _ _ => xs.length - (intOf i).toNat)
      case atStart => exact ⟨0, by omega, rfl, hown, hb⟩
      case round =>
        obtain ⟨k, hk, rfl, hownr, hbr⟩ := hrel
        by_cases hlt : k < xs.length
        · obtain ⟨b, o, rfl, hbB, hc, hsl⟩ := (hp.below (hbr.mono hB)).at_ hlt
          have e := flat_take xs k hlt
          have hle2 : (flat (xs.take k)).length + xs[k].l.length ≤ 140737488355328 := by
            have := flat_le xs (k + 1)
            rw [e, List.length_append] at this
            omega
          have HE := Lib.hid e
          clear e
          have hszr := hbr.size
          go_wp2_with (at_builtin; refine wpList_append_sl _ rfl (.tmp 31) (.tmp 32) 22 rfl w.heap.size 5 i0 (.int .u8 0) Tryd.underlying22 hi hz0 hz1 hz2 rfl _ _ _ rfl hownr B xs[k].p xs[k].c xs[k].l rfl hsl hle2 hszr ?_; intro v2 w2 hown2 hg2)
          have hb2 := hbr.grown hg2 hszr (fun g h => (hownr.lt g h).1)
          rw [← List.length_append, ← List.map_append, ← HE.out] at hown2
          go_roundw
          case rel => exact ⟨k + 1, by omega, by go_num, hown2, hb2⟩
          case measure => simp [intOf]; omega
        · obtain rfl : k = xs.length := by omega
          go_wp2
          go_ret
          exact ⟨_, rfl, by rw [ht] at hownr; exact hownr, hbr⟩

set_option maxRecDepth 100000 in
theorem join_any (w : World) (pp : Option Addr) (xs : List Part) (cap B : Nat) (hB : B ≤ w.heap.size) (hp : Parts w B pp xs) (hx : xs.length ≤ 1000000) (hf : (flat xs).length ≤ 140737488355328) :
    Calls Tryd.prog 18 #[.slice pp xs.length cap] w (Owned w (flat xs)) := by
  go_enter Tryd.func18, Tryd.ntmps18
  go_wp2_with (go_at_call 25; refine (concat_any w pp xs cap B hB hp hx hf).mono ?_; rintro e w1 ⟨v, rfl, hown, hb⟩)
  go_ret
  exact ⟨_, rfl, hown, hb⟩
end Go.Proofs.YtgedbeghegncoaaDoor
