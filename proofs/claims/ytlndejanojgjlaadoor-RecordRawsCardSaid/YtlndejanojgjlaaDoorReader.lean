/- The contracts of octets.NewReader, Left, next, where as many bytes are left as are asked for. Condition: fewer than 2^46 bytes. -/
import Derived.Test.YtlndejanojgjlaaDoorProg
import Derived.Test.YtlndejanojgjlaaDoorMem
import Derived.Test.YtlndejanojgjlaaDoorJoin
import Derived.Test.YtlndejanojgjlaaDoorPut
import Derived.Test.YtlndejanojgjlaaDoorRefPut
import Derived.WalkSpells
import Derived.Deep.QuietTactic
import Derived.BigQuiet
namespace Go.Proofs.YtlndejanojgjlaaDoor
open Go.RowKit

/-- Block r is a reader of the bytes l, at the place k. -/
def Rd (w : World) (r : Nat) (l : List UInt8) (k : Nat) : Prop :=
  ∃ q c, Blk w r 122 [.slice q l.length c, .int .i64 (k : Int)] ∧ Sl w r q l ∧ l.length ≤ c
theorem Rd.lt {w : World} {r : Nat} {l : List UInt8} {k : Nat} (h : Rd w r l k) : r < w.heap.size := by
  obtain ⟨q, c, hb, _⟩ := h
  exact hb.lt
theorem Rd.kept {w w' : World} {r : Nat} {l : List UInt8} {k : Nat} (h : Rd w r l k) (hb : Below w.heap.size w w') : Rd w' r l k := by
  obtain ⟨q, c, hk, hs, hc⟩ := h
  exact ⟨q, c, hk.kept hb, hs.below (hb.mono (Nat.le_of_lt hk.lt)), hc⟩
/-- Another reader goes on: this one stays. -/
theorem Rd.far {w w' : World} {r r' : Nat} {l l' : List UInt8} {k k' : Nat} (h : Rd w r l k) (h' : Rd w r' l' k') (hb : w.grownBy w' (some r')) (hne : r ≠ r') : Rd w' r l k := by
  obtain ⟨q, c, hk, hs, hc⟩ := h
  obtain ⟨q', c', hk', _, _⟩ := h'
  refine ⟨q, c, hk.grown hb (by simpa using hne), fun hl => ?_, hc⟩
  obtain ⟨b, o, hq, hlt, hcell⟩ := hs hl
  refine ⟨b, o, hq, hlt, fun i x hx => ?_⟩
  have hbr : b ≠ r' := by
    rintro rfl
    have h1 := hcell i x hx
    rw [hk'.cell] at h1
    generalize o + i = j at h1
    match j, h1 with
    | 0, h1 => cases h1
    | 1, h1 => cases h1
    | _ + 2, h1 => cases h1
  exact (World.cell?_of_block (hb.block b (by have := hk.lt; omega) (by simpa using hbr))).trans (hcell i x hx)

/-- A reader that is made. -/
def Made (w : World) (l : List UInt8) (e : Ending) (w' : World) : Prop :=
  ∃ r, e = .returned (.pointer (some ⟨r, 0, none⟩)) ∧ w.heap.size ≤ r ∧ Rd w' r l 0 ∧ Below w.heap.size w w'

set_option maxRecDepth 100000 in
set_option maxHeartbeats 400000 in
theorem newReader_any (w : World) (p : Option Addr) (l : List UInt8) (c B : Nat) (hB : B ≤ w.heap.size) (hl : l.length ≤ 70368744177672) (hs : Sl w B p l) :
    Calls Tryd.prog 55 #[.slice p l.length c] w (Made w l) := by
  go_enter Tryd.func55, Tryd.ntmps55
  go_wp2_with fail
  have hp : Parts (w.alloc (Obj.cells #[Value.slice p l.length c] 22)) (w.heap.size + 1) (some ⟨w.heap.size, 0, none⟩) [⟨p, l, c⟩] :=
    Parts.made (u := w) (t := 22) (xs := [⟨p, l, c⟩]) rfl (fun x hx => by rw [List.mem_singleton.1 hx]; exact hs) hB
  refine (join_any _ _ [⟨p, l, c⟩] 1 (w.heap.size + 1) (by simp) hp (by simp) (by simp [flat]; omega)).mono ?_
  rintro e w1 ⟨v, rfl, hown, hb⟩
  have hfl : flat [⟨p, l, c⟩] = l := by simp [flat]
  rw [hfl] at hown
  have hb1 : Below w.heap.size w w1 := ((Below.refl _ _).alloc (Nat.le_refl _) _).trans (hb.mono (by simp))
  obtain ⟨q, cq, rfl, hsl, hc, _⟩ := own_sl hown
  clear hown hfl hp hb
  go_wp2_with fail
  go_ret
  have hk : Blk (w1.alloc (Obj.cells [Value.slice q l.length cq, Value.int IntKind.i64 0].toArray 122)) w1.heap.size 122 [.slice q l.length cq, .int .i64 0] := Blk.new _ _ _
  exact ⟨_, rfl, hb1.size, ⟨q, cq, hk, hsl.below ((Below.refl _ _).alloc (Nat.le_refl _) _), hc⟩, hb1.alloc hb1.size _⟩

set_option maxRecDepth 100000 in
theorem left_any (w : World) (r : Nat) (l : List UInt8) (k : Nat) (hr : Rd w r l k) (hl : l.length ≤ 70368744177672) (hk : k ≤ l.length) :
    Calls Tryd.prog 65 #[.pointer (some ⟨r, 0, none⟩)] w fun e w' => e = .returned (.int .i64 ((l.length : Int) - (k : Int))) ∧ ∃ n, w' = w.drewN n := by
  obtain ⟨q, c, hb, hs, hc⟩ := hr
  have c0 : w.cell? ⟨r, 0, none⟩ = some (.slice q l.length c) := by rw [hb.cell]; rfl
  have c1 : w.cell? ⟨r, 1, none⟩ = some (.int .i64 (k : Int)) := by rw [hb.cell]; rfl
  go_enter Tryd.func65, Tryd.ntmps65
  go_wp2_with fail
  go_quiet (fail)
  go_wp2
  go_ret
  exact ⟨rfl, _, rfl⟩

/-- What next gives: the bytes asked for, and the reader goes on behind them; nothing else turns. -/
def Nexts (w : World) (r : Nat) (l : List UInt8) (k n : Nat) (e : Ending) (w' : World) : Prop :=
  ∃ q c, e = .returned (.tuple #[.slice q n c, .nilIface]) ∧ Sl w' r q ((l.drop k).take n) ∧ Rd w' r l (k + n) ∧ w.grownBy w' (some r)

set_option maxRecDepth 100000 in
set_option maxHeartbeats 1000000 in
theorem next_any (w : World) (r : Nat) (l : List UInt8) (k n : Nat) (hr : Rd w r l k) (hl : l.length ≤ 70368744177672) (hk : k + n ≤ l.length) :
    Calls Tryd.prog 64 #[.pointer (some ⟨r, 0, none⟩), .int .i64 (n : Int)] w (Nexts w r l k n) := by
  have hr0 := hr
  obtain ⟨q, c, hb, hs, hc⟩ := hr
  have c0 : w.cell? ⟨r, 0, none⟩ = some (.slice q l.length c) := by rw [hb.cell]; rfl
  have c1 : w.cell? ⟨r, 1, none⟩ = some (.int .i64 (k : Int)) := by rw [hb.cell]; rfl
  have f1 : w.frozen? ⟨r, 1, none⟩ = false := hb.frozen 1
  go_enter Tryd.func64, Tryd.ntmps64
  go_wp2_with fail
  refine (left_any w r l k hr0 hl (by omega)).mono ?_
  rintro e w1 ⟨rfl, n1, rfl⟩
  go_wp2_with fail
  go_quiet (fail)
  have hbk := hb.set_ 1 (.int .i64 ((k + n : Nat) : Int))
  have hg : ∀ m, w.grownBy ((w.drewN m).setCell ⟨r, 1, none⟩ (.int .i64 ((k : Int) + (n : Int)))) (some r) := fun m => only_setCell (only_drewN (World.grownBy.refl w _) m) (.inl rfl) _
  have hs2 : ∀ m, Sl ((w.drewN m).setCell ⟨r, 1, none⟩ (.int .i64 ((k : Int) + (n : Int)))) r q l := fun m => hs.below (only_below (hg m) (Nat.le_refl _) (Nat.le_of_lt hb.lt))
  have hrd : ∀ m, Rd ((w.drewN m).setCell ⟨r, 1, none⟩ (.int .i64 ((k : Int) + (n : Int)))) r l (k + n) := fun m => ⟨q, c, hbk, hs2 m, hc⟩
  have HL := hrd
  clear hbk hrd
  go_wp2
  · go_ret2
    exact ⟨_, _, rfl, Sl.cut_none _ (by omega), HL _, hg _⟩
  · go_ret2
    exact ⟨_, _, rfl, (hs2 _).cut _ _, HL _, hg _⟩
end Go.Proofs.YtlndejanojgjlaaDoor
