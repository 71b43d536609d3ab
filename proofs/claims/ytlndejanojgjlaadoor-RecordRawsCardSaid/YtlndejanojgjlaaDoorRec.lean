/- The bodies of records: what a body is read as; the contracts of the closures and functions that read one into a record. Conditions: fewer than 2^46 bytes; the errors' variables hold what the program's text lays. -/
import Derived.Test.YtlndejanojgjlaaDoorProg
import Derived.Test.YtlndejanojgjlaaDoorMem
import Derived.Test.YtlndejanojgjlaaDoorRow
import Derived.Test.YtlndejanojgjlaaDoorText
import Derived.Test.YtlndejanojgjlaaDoorNum
import Derived.Test.YtlndejanojgjlaaDoorVput
import Derived.Test.YtlndejanojgjlaaDoorVscan
import Derived.Test.YtlndejanojgjlaaDoorVparse
import Derived.Test.YtlndejanojgjlaaDoorPut
import Derived.Test.YtlndejanojgjlaaDoorReader
import Derived.Test.YtlndejanojgjlaaDoorNumber
import Derived.Test.YtlndejanojgjlaaDoorReadBad
import Derived.Deep.RegionHeld3
import Derived.Deep.QuietTactic
import Derived.BigQuiet
import Derived.WalkSpells
namespace Go.Proofs.YtlndejanojgjlaaDoor
open Go.RowKit

/-- What a body of kind k is read as: bits, text, size, the error's number. -/
def rbody (k : Nat) (m : List UInt8) : Nat × List UInt8 × Nat × Nat :=
  if k = 1 then (if m.length < 8 then (0, [], 0, 2) else (num (m.take 8), [], 8, 0))
  else if k = 5 then (if m.length < 4 then (0, [], 0, 2) else (num (m.take 4), [], 4, 0))
  else if (vparse m).2.2 ≠ 0 then (0, [], 0, (vparse m).2.2)
  else if k = 0 then ((vparse m).1, [], (vparse m).2.1, 0)
  else if m.length - (vparse m).2.1 < (vparse m).1 then (0, [], 0, 2)
  else (0, (m.drop (vparse m).2.1).take (vparse m).1, (vparse m).2.1 + (vparse m).1, 0)

/-- A record's cells. -/
def recCells (n k : Int) (bits : Nat) (text raw : List UInt8) : List Value := [.int .i64 n, .int .i64 k, .int .u64 (bits : Int), .string (str text), .string (str raw)]

/-- A body is read into the record in block r. -/
def Readed (w : World) (A : Nat → Addr) (r : Nat) (n k : Int) (R : Nat × List UInt8 × Nat × Nat) (e : Ending) (w' : World) : Prop :=
  ∃ (size : Int) (bits : Nat) (text : List UInt8), e = .returned (.tuple #[.int .i64 size, errOf A R.2.2.2]) ∧ (R.2.2.2 = 0 → size = (R.2.2.1 : Int) ∧ bits = R.1 ∧ text = R.2.1) ∧
    Blk w' r 29 (recCells n k bits text []) ∧ w.grownBy w' (some r)
theorem Readed.of {w : World} {A : Nat → Addr} {r : Nat} {n k : Int} {R S : Nat × List UInt8 × Nat × Nat} {e : Ending} {w' : World} (h : Readed w A r n k R e w') (h1 : S.2.2.2 = R.2.2.2) (h2 : S.2.2.2 = 0 → S = R) : Readed w A r n k S e w' := by
  obtain ⟨z, b, t, he, ho, hk, hg⟩ := h
  exact ⟨z, b, t, by rw [h1]; exact he, fun hs => by rw [h2 hs]; exact ho (h1 ▸ hs), hk, hg⟩

theorem Sl.head {w : World} {B : Nat} {p : Option Addr} {l : List UInt8} (h : Sl w B p l) (n : Nat) : Sl w B p (l.take n) := fun hl => by
  simp only [List.length_take] at hl
  obtain ⟨b, o, rfl, hlt, hc⟩ := h (by omega)
  refine ⟨b, o, rfl, hlt, fun i x hx => hc i x ?_⟩
  rw [List.getElem?_take] at hx
  split at hx
  · exact hx
  · cases hx

set_option maxRecDepth 100000 in
set_option maxHeartbeats 1000000 in
theorem fixedRead64_ok (w : World) (A : Nat → Addr) (r : Nat) (n k : Int) (p : Option Addr) (m : List UInt8) (c B ca cb : Nat) (hm : m.length ≤ 70368744177664) (hc : m.length ≤ c) (hB : B ≤ w.heap.size) (hs : Sl w B p m)
    (hr : Blk w r 29 (recCells n k 0 [] [])) (ha : Blk w ca 89 [.func (.func 41) #[] #[]]) (hb : Blk w cb 3 [.int .i64 8]) (h8 : 8 ≤ m.length) :
    Calls Tryd.prog 54 #[.pointer (some ⟨r, 0, none⟩), .slice p m.length c, .pointer (some ⟨ca, 0, none⟩), .pointer (some ⟨cb, 0, none⟩)] w (Readed w A r n k (num (m.take 8), [], 8, 0)) := by
  obtain ⟨t, ht⟩ : ∃ t, t = m.take 8 := ⟨_, rfl⟩
  have htl : t.length = 8 := by rw [ht]; simp; omega
  have hst : Sl w B p t := ht ▸ hs.head 8
  rw [← ht]
  have HN := Lib.hid (show ∀ ws, Below w.heap.size w ws → Calls Tryd.prog 55 #[.slice p 8 c] ws (Made ws t) from fun ws h => by
    have := newReader_any ws p t c B (Nat.le_trans hB h.size) (by omega) (hst.below (h.mono hB))
    rwa [htl] at this)
  have HF := Lib.hid (show ∀ ws q, Rd ws q t 0 → Calls Tryd.prog 41 #[.pointer (some ⟨q, 0, none⟩)] ws fun e w' => e = .returned (.tuple #[.int .u64 (num t : Int), .nilIface]) ∧ ws.grownBy w' (some q) from fun ws q h =>
    (fixed64_any ws q t 0 h (by omega) (by omega)).mono fun e w' ⟨h1, _, h2⟩ => ⟨by rw [h1, List.drop_zero, List.take_of_length_le (by omega)], h2⟩)
  have hnt := num_lt t
  rw [htl, show (256 : Nat) ^ 8 = 18446744073709551616 by decide] at hnt
  have HK := Lib.hid (show ∀ w', Below w.heap.size w w' → w'.cell? ⟨ca, 0, none⟩ = some (.func (.func 41) #[] #[]) ∧ w'.cell? ⟨cb, 0, none⟩ = some (.int .i64 8) ∧ Below w.heap.size w w' from fun w' h => ⟨(ha.kept h).cell 0, (hb.kept h).cell 0, h⟩)
  have h8b : (8 : Int) ≤ (c : Int) := by omega
  have hmin : ∀ (ts : Array TypeId) (ty : TypeId) (u : World), (Builtin.min_ ts ty #[.int .i64 8, .int .i64 (m.length : Int)]).run Tryd.prog u = .ok (.int .i64 8) u := fun ts ty u => by rw [run_min_int2, if_neg (by omega)]
  clear ht htl
  have hS0 := HK.out w.drew (Below.refl _ _).drew
  go_enter Tryd.func54, Tryd.ntmps54
  go_wp2_with fail
  go_region_held3 (fun w' => w'.cell? ⟨ca, 0, none⟩ = some (.func (.func 41) #[] #[]) ∧ w'.cell? ⟨cb, 0, none⟩ = some (.int .i64 8) ∧ Below w.heap.size w w') (first | exact hS0 | exact hS1 | exact hS2)
    (first
      | (go_at_call 55; refine (HN.out _ (by go_split_ands; assumption)).mono ?_; rintro e w1 ⟨q, rfl, hq, hrd, hb1⟩; have hbw : Below w.heap.size w w1 := (by go_split_ands; exact Below.trans (by assumption) (hb1.mono (by exact Below.size (by assumption)))); have hS1 := HK.out w1 hbw)
      | (go_at_call 41; refine (HF.out _ q hrd).mono ?_; rintro e w2 ⟨rfl, hg2⟩; have hbw2 : Below w.heap.size w w2 := hbw.grown hg2 hbw.size (fun g h => by cases h; exact Nat.le_trans (by go_split_ands; exact Below.size (by assumption)) hq); have hS2 := HK.out w2 hbw2))
  have hr2 := hr.kept hbw2
  have c2 := hr2.cell 2
  simp only [recCells, List.getElem?_cons_zero, List.getElem?_cons_succ] at c2
  have f2 := hr2.frozen 2
  obtain ⟨_, cb2, _⟩ := hS2
  have hr3 := hr2.set_ 2 (.int .u64 (num t : Int))
  have hg3 := only_setCell (p := ⟨r, 2, none⟩) (g := r) (only_of_below hbw2 _) (.inl rfl) (.int .u64 (num t : Int))
  clear HN HF HK hmin hr2 hS0 hS1 ha hb hr
  go_wp2_with fail
  go_ret2
  exact ⟨8, num t, [], rfl, fun _ => ⟨rfl, rfl, rfl⟩, hr3, hg3⟩

set_option maxRecDepth 100000 in
set_option maxHeartbeats 1000000 in
theorem fixedRead64_bad (w : World) (A : Nat → Addr) (hE : Errs w A) (r : Nat) (n k : Int) (p : Option Addr) (m : List UInt8) (c B ca cb : Nat) (hc : m.length ≤ c) (hB : B ≤ w.heap.size) (hs : Sl w B p m)
    (hr : Blk w r 29 (recCells n k 0 [] [])) (ha : Blk w ca 89 [.func (.func 41) #[] #[]]) (hb : Blk w cb 3 [.int .i64 8]) (h8 : m.length < 8) :
    Calls Tryd.prog 54 #[.pointer (some ⟨r, 0, none⟩), .slice p m.length c, .pointer (some ⟨ca, 0, none⟩), .pointer (some ⟨cb, 0, none⟩)] w (Readed w A r n k (0, [], 0, 2)) := by
  have HN := Lib.hid (show ∀ ws, Below w.heap.size w ws → Calls Tryd.prog 55 #[.slice p m.length c] ws (Made ws m) from fun ws h => newReader_any ws p m c B (Nat.le_trans hB h.size) (by omega) (hs.below (h.mono hB)))
  have HF := Lib.hid (show ∀ ws q, Below w.heap.size w ws → Rd ws q m 0 → Calls Tryd.prog 41 #[.pointer (some ⟨q, 0, none⟩)] ws fun e w' => e = .returned (.tuple #[.int .u64 0, errV A 1]) ∧ ∃ j, w' = ws.drewN j from fun ws q hb h =>
    fixed64_bad ws A (hE.below hb) q m 0 1 h (by omega) (by omega) (.inr ⟨rfl, by decide, by omega⟩))
  have HK := Lib.hid (show ∀ w', Below w.heap.size w w' → w'.cell? ⟨ca, 0, none⟩ = some (.func (.func 41) #[] #[]) ∧ w'.cell? ⟨cb, 0, none⟩ = some (.int .i64 8) ∧ Below w.heap.size w w' from fun w' h => ⟨(ha.kept h).cell 0, (hb.kept h).cell 0, h⟩)
  have h8b : (m.length : Int) ≤ (c : Int) := by omega
  have hmin : ∀ (ts : Array TypeId) (ty : TypeId) (u : World), (Builtin.min_ ts ty #[.int .i64 8, .int .i64 (m.length : Int)]).run Tryd.prog u = .ok (.int .i64 (m.length : Int)) u := fun ts ty u => by rw [run_min_int2, if_pos (by omega)]
  have hS0 := HK.out w.drew (Below.refl _ _).drew
  go_enter Tryd.func54, Tryd.ntmps54
  go_wp2_with fail
  go_region_held3 (fun w' => w'.cell? ⟨ca, 0, none⟩ = some (.func (.func 41) #[] #[]) ∧ w'.cell? ⟨cb, 0, none⟩ = some (.int .i64 8) ∧ Below w.heap.size w w') (first | exact hS0 | exact hS1 | exact hS2)
    (first
      | (go_at_call 55; refine (HN.out _ (by go_split_ands; assumption)).mono ?_; rintro e w1 ⟨q, rfl, hq, hrd, hb1⟩; have hbw : Below w.heap.size w w1 := (by go_split_ands; exact Below.trans (by assumption) (hb1.mono (by exact Below.size (by assumption)))); have hS1 := HK.out w1 hbw)
      | (go_at_call 41; refine (HF.out _ q hbw hrd).mono ?_; rintro e w2 ⟨rfl, j, rfl⟩; have hbw2 : Below w.heap.size w (w1.drewN j) := below_drewN hbw j; have hS2 := HK.out _ hbw2))
  have hr2 := hr.kept hbw2
  have c2 := hr2.cell 2
  simp only [recCells, List.getElem?_cons_zero, List.getElem?_cons_succ] at c2
  have f2 := hr2.frozen 2
  obtain ⟨_, cb2, _⟩ := hS2
  have hr3 := hr2.set_ 2 (.int .u64 0)
  have hg3 := only_setCell (p := ⟨r, 2, none⟩) (g := r) (only_of_below hbw2 _) (.inl rfl) (.int .u64 0)
  clear HN HF HK hmin hr2 hS0 hS1 ha hb hr
  go_wp2_with fail
  go_ret2
  exact ⟨8, 0, [], rfl, fun h => by simp at h, hr3, hg3⟩

set_option maxRecDepth 100000 in
set_option maxHeartbeats 1000000 in
theorem fixedRead32_ok (w : World) (A : Nat → Addr) (r : Nat) (n k : Int) (p : Option Addr) (m : List UInt8) (c B ca cb : Nat) (hm : m.length ≤ 70368744177664) (hc : m.length ≤ c) (hB : B ≤ w.heap.size) (hs : Sl w B p m)
    (hr : Blk w r 29 (recCells n k 0 [] [])) (ha : Blk w ca 95 [.func (.func 44) #[] #[]]) (hb : Blk w cb 3 [.int .i64 4]) (h8 : 4 ≤ m.length) :
    Calls Tryd.prog 59 #[.pointer (some ⟨r, 0, none⟩), .slice p m.length c, .pointer (some ⟨ca, 0, none⟩), .pointer (some ⟨cb, 0, none⟩)] w (Readed w A r n k (num (m.take 4), [], 4, 0)) := by
  obtain ⟨t, ht⟩ : ∃ t, t = m.take 4 := ⟨_, rfl⟩
  have htl : t.length = 4 := by rw [ht]; simp; omega
  have hst : Sl w B p t := ht ▸ hs.head 4
  rw [← ht]
  have HN := Lib.hid (show ∀ ws, Below w.heap.size w ws → Calls Tryd.prog 55 #[.slice p 4 c] ws (Made ws t) from fun ws h => by
    have := newReader_any ws p t c B (Nat.le_trans hB h.size) (by omega) (hst.below (h.mono hB))
    rwa [htl] at this)
  have HF := Lib.hid (show ∀ ws q, Rd ws q t 0 → Calls Tryd.prog 44 #[.pointer (some ⟨q, 0, none⟩)] ws fun e w' => e = .returned (.tuple #[.int .u32 (num t : Int), .nilIface]) ∧ ws.grownBy w' (some q) from fun ws q h =>
    (fixed32_any ws q t 0 h (by omega) (by omega)).mono fun e w' ⟨h1, _, h2⟩ => ⟨by rw [h1, List.drop_zero, List.take_of_length_le (by omega)], h2⟩)
  have hnt := num_lt t
  rw [htl, show (256 : Nat) ^ 4 = 4294967296 by decide] at hnt
  have HK := Lib.hid (show ∀ w', Below w.heap.size w w' → w'.cell? ⟨ca, 0, none⟩ = some (.func (.func 44) #[] #[]) ∧ w'.cell? ⟨cb, 0, none⟩ = some (.int .i64 4) ∧ Below w.heap.size w w' from fun w' h => ⟨(ha.kept h).cell 0, (hb.kept h).cell 0, h⟩)
  have h8b : (4 : Int) ≤ (c : Int) := by omega
  have hmin : ∀ (ts : Array TypeId) (ty : TypeId) (u : World), (Builtin.min_ ts ty #[.int .i64 4, .int .i64 (m.length : Int)]).run Tryd.prog u = .ok (.int .i64 4) u := fun ts ty u => by rw [run_min_int2, if_neg (by omega)]
  clear ht htl
  have hS0 := HK.out w.drew (Below.refl _ _).drew
  go_enter Tryd.func59, Tryd.ntmps59
  go_wp2_with fail
  go_region_held3 (fun w' => w'.cell? ⟨ca, 0, none⟩ = some (.func (.func 44) #[] #[]) ∧ w'.cell? ⟨cb, 0, none⟩ = some (.int .i64 4) ∧ Below w.heap.size w w') (first | exact hS0 | exact hS1 | exact hS2)
    (first
      | (go_at_call 55; refine (HN.out _ (by go_split_ands; assumption)).mono ?_; rintro e w1 ⟨q, rfl, hq, hrd, hb1⟩; have hbw : Below w.heap.size w w1 := (by go_split_ands; exact Below.trans (by assumption) (hb1.mono (by exact Below.size (by assumption)))); have hS1 := HK.out w1 hbw)
      | (go_at_call 44; refine (HF.out _ q hrd).mono ?_; rintro e w2 ⟨rfl, hg2⟩; have hbw2 : Below w.heap.size w w2 := hbw.grown hg2 hbw.size (fun g h => by cases h; exact Nat.le_trans (by go_split_ands; exact Below.size (by assumption)) hq); have hS2 := HK.out w2 hbw2))
  have hr2 := hr.kept hbw2
  have c2 := hr2.cell 2
  simp only [recCells, List.getElem?_cons_zero, List.getElem?_cons_succ] at c2
  have f2 := hr2.frozen 2
  obtain ⟨_, cb2, _⟩ := hS2
  have hr3 := hr2.set_ 2 (.int .u64 (num t : Int))
  have hg3 := only_setCell (p := ⟨r, 2, none⟩) (g := r) (only_of_below hbw2 _) (.inl rfl) (.int .u64 (num t : Int))
  clear HN HF HK hmin hr2 hS0 hS1 ha hb hr
  go_wp2_with fail
  go_ret2
  exact ⟨4, num t, [], rfl, fun _ => ⟨rfl, rfl, rfl⟩, hr3, hg3⟩

set_option maxRecDepth 100000 in
set_option maxHeartbeats 1000000 in
theorem fixedRead32_bad (w : World) (A : Nat → Addr) (hE : Errs w A) (r : Nat) (n k : Int) (p : Option Addr) (m : List UInt8) (c B ca cb : Nat) (hc : m.length ≤ c) (hB : B ≤ w.heap.size) (hs : Sl w B p m)
    (hr : Blk w r 29 (recCells n k 0 [] [])) (ha : Blk w ca 95 [.func (.func 44) #[] #[]]) (hb : Blk w cb 3 [.int .i64 4]) (h8 : m.length < 4) :
    Calls Tryd.prog 59 #[.pointer (some ⟨r, 0, none⟩), .slice p m.length c, .pointer (some ⟨ca, 0, none⟩), .pointer (some ⟨cb, 0, none⟩)] w (Readed w A r n k (0, [], 0, 2)) := by
  have HN := Lib.hid (show ∀ ws, Below w.heap.size w ws → Calls Tryd.prog 55 #[.slice p m.length c] ws (Made ws m) from fun ws h => newReader_any ws p m c B (Nat.le_trans hB h.size) (by omega) (hs.below (h.mono hB)))
  have HF := Lib.hid (show ∀ ws q, Below w.heap.size w ws → Rd ws q m 0 → Calls Tryd.prog 44 #[.pointer (some ⟨q, 0, none⟩)] ws fun e w' => e = .returned (.tuple #[.int .u32 0, errV A 1]) ∧ ∃ j, w' = ws.drewN j from fun ws q hb h =>
    fixed32_bad ws A (hE.below hb) q m 0 1 h (by omega) (by omega) (.inr ⟨rfl, by decide, by omega⟩))
  have HK := Lib.hid (show ∀ w', Below w.heap.size w w' → w'.cell? ⟨ca, 0, none⟩ = some (.func (.func 44) #[] #[]) ∧ w'.cell? ⟨cb, 0, none⟩ = some (.int .i64 4) ∧ Below w.heap.size w w' from fun w' h => ⟨(ha.kept h).cell 0, (hb.kept h).cell 0, h⟩)
  have h8b : (m.length : Int) ≤ (c : Int) := by omega
  have hmin : ∀ (ts : Array TypeId) (ty : TypeId) (u : World), (Builtin.min_ ts ty #[.int .i64 4, .int .i64 (m.length : Int)]).run Tryd.prog u = .ok (.int .i64 (m.length : Int)) u := fun ts ty u => by rw [run_min_int2, if_pos (by omega)]
  have hS0 := HK.out w.drew (Below.refl _ _).drew
  go_enter Tryd.func59, Tryd.ntmps59
  go_wp2_with fail
  go_region_held3 (fun w' => w'.cell? ⟨ca, 0, none⟩ = some (.func (.func 44) #[] #[]) ∧ w'.cell? ⟨cb, 0, none⟩ = some (.int .i64 4) ∧ Below w.heap.size w w') (first | exact hS0 | exact hS1 | exact hS2)
    (first
      | (go_at_call 55; refine (HN.out _ (by go_split_ands; assumption)).mono ?_; rintro e w1 ⟨q, rfl, hq, hrd, hb1⟩; have hbw : Below w.heap.size w w1 := (by go_split_ands; exact Below.trans (by assumption) (hb1.mono (by exact Below.size (by assumption)))); have hS1 := HK.out w1 hbw)
      | (go_at_call 44; refine (HF.out _ q hbw hrd).mono ?_; rintro e w2 ⟨rfl, j, rfl⟩; have hbw2 : Below w.heap.size w (w1.drewN j) := below_drewN hbw j; have hS2 := HK.out _ hbw2))
  have hr2 := hr.kept hbw2
  have c2 := hr2.cell 2
  simp only [recCells, List.getElem?_cons_zero, List.getElem?_cons_succ] at c2
  have f2 := hr2.frozen 2
  obtain ⟨_, cb2, _⟩ := hS2
  have hr3 := hr2.set_ 2 (.int .u64 0)
  have hg3 := only_setCell (p := ⟨r, 2, none⟩) (g := r) (only_of_below hbw2 _) (.inl rfl) (.int .u64 0)
  clear HN HF HK hmin hr2 hS0 hS1 ha hb hr
  go_wp2_with fail
  go_ret2
  exact ⟨4, 0, [], rfl, fun h => by simp at h, hr3, hg3⟩

end Go.Proofs.YtlndejanojgjlaaDoor
