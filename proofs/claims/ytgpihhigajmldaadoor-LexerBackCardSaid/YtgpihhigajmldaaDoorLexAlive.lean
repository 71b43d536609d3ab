/- The contract of redlinelaw07's example: it answers true, and nothing that was there turns. Condition: the errors' variables hold what the program's text lays. -/
import Derived.Test.YtgpihhigajmldaaDoorProg
import Derived.Test.YtgpihhigajmldaaDoorLexSplit
namespace Go.Proofs.YtgpihhigajmldaaDoor
open Go.RowKit

def exText : List UInt8 := [97, 32, 61, 32, 48, 120, 49, 48, 59, 32, 47, 47, 32, 120]
def exToks : List (Tok × Nat) := [(⟨1, [97], 0⟩, 0), (⟨4, [61], 0⟩, 2), (⟨2, [48, 120, 49, 48], 16⟩, 4), (⟨4, [59], 0⟩, 8)]
theorem lexTok {l : List UInt8} {i j k n : Nat} {t : List UInt8} {ts : List (Tok × Nat)} {e ea : Nat} (h1 : i < l.length) (h2 : lfirst (l.drop i) = (⟨k, t, n⟩, j, 0)) (h3 : (lcut (l.drop i)).1 ≠ 0) (h : Lex l (i + j) ts e ea) : Lex l i ((⟨k, t, n⟩, i) :: ts) e ea := by
  have := Lex.tok (l := l) (i := i) h1 (by rw [h2]) h3 (by rw [h2]; exact h)
  rwa [h2] at this
theorem lexGap {l : List UInt8} {i j : Nat} {t : Tok} {ts : List (Tok × Nat)} {e ea : Nat} (h1 : i < l.length) (h2 : lfirst (l.drop i) = (t, j, 0)) (h3 : (lcut (l.drop i)).1 = 0) (h : Lex l (i + j) ts e ea) : Lex l i ts e ea :=
  Lex.gap (l := l) (i := i) h1 (by rw [h2]) h3 (by rw [h2]; exact h)
theorem ex_lex : Lex exText 0 exToks 0 0 :=
  lexTok (j := 1) (by decide) (by decide +kernel) (by decide +kernel) <|
  lexGap (j := 1) (t := ⟨0, [], 0⟩) (by decide) (by decide +kernel) (by decide +kernel) <|
  lexTok (j := 1) (by decide) (by decide +kernel) (by decide +kernel) <|
  lexGap (j := 1) (t := ⟨0, [], 0⟩) (by decide) (by decide +kernel) (by decide +kernel) <|
  lexTok (j := 4) (by decide) (by decide +kernel) (by decide +kernel) <|
  lexTok (j := 1) (by decide) (by decide +kernel) (by decide +kernel) <|
  lexGap (j := 1) (t := ⟨0, [], 0⟩) (by decide) (by decide +kernel) (by decide +kernel) <|
  lexGap (j := 4) (t := ⟨0, [], 0⟩) (by decide) (by decide +kernel) (by decide +kernel) <|
  .done (by decide)
theorem ident_a1 : lident [97, 95, 49] = true := by decide +kernel

set_option maxRecDepth 100000 in
set_option maxHeartbeats 1000000 in
theorem alive07_any (w : World) (A : Nat → Addr) (m : Int) (hL : Lx w A m) : Calls Tryd.prog 6 #[] w fun e w' => e = .returned (.bool true) ∧ Below w.heap.size w w' := by
  have HP : Calls Tryd.prog 7 #[.string (str exText)] w (SplitR w A exText exToks 0 0) := split_any w A m hL exText (by decide) exToks 0 0 ex_lex
  have HI : ∀ u, Calls Tryd.prog 10 #[.string (str [97, 95, 49])] u (Qui (.bool true) u) := fun u => by
    have := ident_any u [97, 95, 49] (by decide)
    rwa [ident_a1] at this
  have HI' := Lib.hid HI
  clear HI
  go_enter Tryd.func6, Tryd.ntmps6
  go_wp2_with fail
  refine HP.mono ?_
  rintro e w2 ⟨hb, (⟨_, v, rfl, hown⟩ | ⟨h, _⟩)⟩
  rotate_left
  · exact absurd rfl h
  obtain ⟨p, c, rfl, hR, hc1, hc2⟩ := own_rk (tokRow_len exText exToks) hown
  obtain ⟨b, o, rfl, hlt, hcell⟩ := hR (by decide)
  have q2 : w2.cell? ⟨b, o + 10 + 2, none⟩ = some (.int .i64 16) := hcell 2 _ rfl 2 _ rfl
  have q3 : w2.cell? ⟨b, o + 15, none⟩ = some (.int .i64 4) := hcell 3 _ rfl 0 _ rfl
  have hlen : ((exToks.map (tokRow exText)).length) = 4 := rfl
  rw [hlen]
  clear hR hcell hown HP hlen
  go_wp2_with fail
  refine (HI'.out _).mono ?_
  rintro e w3 ⟨rfl, n, rfl⟩
  go_wp2_with fail
  go_ret
  exact ⟨rfl, below_drewN hb n⟩
end Go.Proofs.YtgpihhigajmldaaDoor
