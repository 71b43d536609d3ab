/- The contract of record.Parse, at all bytes. Conditions: fewer than 2^46 bytes; the errors' variables hold what the program's text lays. -/
import Derived.Test.YtlndejanojgjlaaDoorProg
import Derived.Test.YtlndejanojgjlaaDoorMem
import Derived.Test.YtlndejanojgjlaaDoorRparse
namespace Go.Proofs.YtlndejanojgjlaaDoor
open Go.RowKit

theorem tparse_ok {l : List UInt8} (h : (tparse l).2.2.2 = 0) : 0 < (tparse l).2.2.1 ∧ (tparse l).2.2.1 ≤ l.length ∧ ((tparse l).2.1 = 0 ∨ (tparse l).2.1 = 1 ∨ (tparse l).2.1 = 2 ∨ (tparse l).2.1 = 5) ∧ 1 ≤ (tparse l).1 ∧ (tparse l).1 ≤ 536870911 := by
  unfold tparse tagOf at h ⊢
  split at h
  · rename_i hb
    exact absurd h hb
  · rename_i hb
    rw [if_neg hb]
    split at h
    · simp at h
    · rename_i hn
      rw [if_neg hn]
      split at h
      · rename_i ht
        exact absurd h ht
      · rename_i ht
        rw [if_neg ht]
        have hv := vparse_size l (by omega)
        have ht0 := tcheck_zero (show tcheck (((vparse l).1 : Int) / 8) (((vparse l).1 : Int) % 8) = 0 by omega)
        simp only
        omega

theorem rbody0 (m : List UInt8) : rbody 0 m = if (vparse m).2.2 ≠ 0 then (0, [], 0, (vparse m).2.2) else ((vparse m).1, [], (vparse m).2.1, 0) := by
  unfold rbody
  rw [if_neg (by decide), if_neg (by decide)]
  split
  · rfl
  · rw [if_pos rfl]
theorem rbody1 (m : List UInt8) : rbody 1 m = if m.length < 8 then (0, [], 0, 2) else (num (m.take 8), [], 8, 0) := by unfold rbody; rw [if_pos rfl]
theorem rbody5 (m : List UInt8) : rbody 5 m = if m.length < 4 then (0, [], 0, 2) else (num (m.take 4), [], 4, 0) := by unfold rbody; rw [if_neg (by decide), if_pos rfl]

theorem read0 (w : World) (A : Nat → Addr) (hE : Errs w A) (r : Nat) (n k : Int) (q : Option Addr) (m : List UInt8) (c B : Nat) (hm : m.length ≤ 70368744177664) (hc : m.length ≤ c) (hs : Sl w B q m) (hr : Blk w r 29 (recCells n k 0 [] [])) :
    Calls Tryd.prog 38 #[.pointer (some ⟨r, 0, none⟩), .slice q m.length c] w (Readed w A r n k (rbody 0 m)) :=
  (readVarint_any w A hE r n k q m c B hm hc hs hr).mono fun e w' h => h.of (by rw [rbody0]; split <;> simp_all) (by
    rw [rbody0]
    split
    · rename_i hb
      exact fun h => absurd h hb
    · rename_i hb
      exact fun _ => by rw [show (vparse m).2.2 = 0 by omega])
theorem read1 (w : World) (A : Nat → Addr) (hE : Errs w A) (r : Nat) (n k : Int) (q : Option Addr) (m : List UInt8) (c B ca cb : Nat) (hm : m.length ≤ 70368744177664) (hc : m.length ≤ c) (hB : B ≤ w.heap.size) (hs : Sl w B q m) (hr : Blk w r 29 (recCells n k 0 [] []))
    (ha : Blk w ca 89 [.func (.func 41) #[] #[]]) (hb : Blk w cb 3 [.int .i64 8]) :
    Calls Tryd.prog 54 #[.pointer (some ⟨r, 0, none⟩), .slice q m.length c, .pointer (some ⟨ca, 0, none⟩), .pointer (some ⟨cb, 0, none⟩)] w (Readed w A r n k (rbody 1 m)) := by
  rw [rbody1]
  split
  · rename_i h8
    exact fixedRead64_bad w A hE r n k q m c B ca cb hc hB hs hr ha hb h8
  · rename_i h8
    exact fixedRead64_ok w A r n k q m c B ca cb hm hc hB hs hr ha hb (by omega)
theorem read5 (w : World) (A : Nat → Addr) (hE : Errs w A) (r : Nat) (n k : Int) (q : Option Addr) (m : List UInt8) (c B ca cb : Nat) (hm : m.length ≤ 70368744177664) (hc : m.length ≤ c) (hB : B ≤ w.heap.size) (hs : Sl w B q m) (hr : Blk w r 29 (recCells n k 0 [] []))
    (ha : Blk w ca 95 [.func (.func 44) #[] #[]]) (hb : Blk w cb 3 [.int .i64 4]) :
    Calls Tryd.prog 59 #[.pointer (some ⟨r, 0, none⟩), .slice q m.length c, .pointer (some ⟨ca, 0, none⟩), .pointer (some ⟨cb, 0, none⟩)] w (Readed w A r n k (rbody 5 m)) := by
  rw [rbody5]
  split
  · rename_i h8
    exact fixedRead32_bad w A hE r n k q m c B ca cb hc hB hs hr ha hb h8
  · rename_i h8
    exact fixedRead32_ok w A r n k q m c B ca cb hm hc hB hs hr ha hb (by omega)

set_option maxRecDepth 100000 in
theorem recParse_any (w : World) (A : Nat → Addr) (hE : Errs w A) (p : Option Addr) (l : List UInt8) (c B : Nat) (hl : l.length ≤ 70368744177664) (hc : l.length ≤ c) (hB : B ≤ w.heap.size) (hs : Sl w B p l) :
    Calls Tryd.prog 8 #[.slice p l.length c] w (Recs w (rparse l).1.val ((rparse l).2.1 : Int) (errOf A (rparse l).2.2)) := by
  have HT : ∀ ws, Below w.heap.size w ws → PT ws p l c (tparse l).1 (tparse l).2.1 (tparse l).2.2.1 (errOf A (tparse l).2.2.2) := fun ws h =>
    tagParse_any ws A p l c B (Nat.le_trans hB h.size) hl hc (hs.below (h.mono hB)) (fun _ => hE.below h)
  have hok := fun h => tparse_ok (l := l) h
  unfold rparse
  generalize tparse l = T at *
  obtain ⟨n, k, s, b⟩ := T
  simp only at HT hok
  cases b with
  | succ b =>
    rw [if_pos (by simp)]
    exact recParse_tag w A p l c n k s b HT
  | zero =>
    obtain ⟨h0s, hsl, hk, _, _⟩ := hok rfl
    rw [if_neg (by simp)]
    have hml : (l.drop s).length = l.length - s := List.length_drop
    have hsz := rbody_size k (l.drop s)
    obtain ⟨R, hR⟩ : ∃ R, R = rbody k (l.drop s) := ⟨_, rfl⟩
    simp only
    rw [← hR] at hsz ⊢
    by_cases h0 : R.2.2.2 = 0
    · rw [if_neg (by omega)]
      have hz : s + R.2.2.1 ≤ l.length := by
        have := hsz h0
        omega
      rcases hk with rfl | rfl | rfl | rfl
      · exact recParse_0_ok w A p l c n s B R hl hc hB hs hsl (Lib.hid HT) (Lib.hid fun ws r q hb hr hq => by
          have := read0 ws A (hE.below hb) r n 0 q (l.drop s) (c - s) B (by omega) (by omega) hq hr
          rwa [hml, ← hR] at this) h0 hz
      · exact recParse_1_ok w A p l c n s B R hl hc hB hs hsl (Lib.hid HT) (Lib.hid fun ws r q hb hr hq ca cb ha hcb => by
          have := read1 ws A (hE.below hb) r n 1 q (l.drop s) (c - s) B ca cb (by omega) (by omega) (Nat.le_trans hB hb.size) hq hr ha hcb
          rwa [hml, ← hR] at this) h0 hz
      · exact recParse_2_ok w A p l c n s B R hl hc hB hs hsl (Lib.hid HT) (Lib.hid fun ws r q hb hr hq => by
          have := readText_any ws A (hE.below hb) r n 2 q (l.drop s) (c - s) B (by omega) (by omega) hq hr
          rwa [hml, ← hR] at this) h0 hz
      · exact recParse_5_ok w A p l c n s B R hl hc hB hs hsl (Lib.hid HT) (Lib.hid fun ws r q hb hr hq ca cb ha hcb => by
          have := read5 ws A (hE.below hb) r n 5 q (l.drop s) (c - s) B ca cb (by omega) (by omega) (Nat.le_trans hB hb.size) hq hr ha hcb
          rwa [hml, ← hR] at this) h0 hz
    · rw [if_pos h0]
      obtain ⟨b, hb'⟩ := Nat.exists_eq_succ_of_ne_zero h0
      rw [hb']
      rcases hk with rfl | rfl | rfl | rfl
      · exact recParse_0_bad w A p l c n s B b R hc hB hs hsl (Lib.hid HT) (Lib.hid fun ws r q hb hr hq => by
          have := read0 ws A (hE.below hb) r n 0 q (l.drop s) (c - s) B (by omega) (by omega) hq hr
          rwa [hml, ← hR] at this) hb'
      · exact recParse_1_bad w A p l c n s B b R hc hB hs hsl (Lib.hid HT) (Lib.hid fun ws r q hb hr hq ca cb ha hcb => by
          have := read1 ws A (hE.below hb) r n 1 q (l.drop s) (c - s) B ca cb (by omega) (by omega) (Nat.le_trans hB hb.size) hq hr ha hcb
          rwa [hml, ← hR] at this) hb'
      · exact recParse_2_bad w A p l c n s B b R hc hB hs hsl (Lib.hid HT) (Lib.hid fun ws r q hb hr hq => by
          have := readText_any ws A (hE.below hb) r n 2 q (l.drop s) (c - s) B (by omega) (by omega) hq hr
          rwa [hml, ← hR] at this) hb'
      · exact recParse_5_bad w A p l c n s B b R hc hB hs hsl (Lib.hid HT) (Lib.hid fun ws r q hb hr hq ca cb ha hcb => by
          have := read5 ws A (hE.below hb) r n 5 q (l.drop s) (c - s) B ca cb (by omega) (by omega) (Nat.le_trans hB hb.size) hq hr ha hcb
          rwa [hml, ← hR] at this) hb'
end Go.Proofs.YtlndejanojgjlaaDoor
