/- The walk of LexerSplits: for every text the answer is true, and nothing that was there turns. Conditions: the errors' variables and the library's variable errors.errorType hold what the texts lay. -/
import Derived.Test.YtgpihhigajmldaaDoorProg
import Derived.Test.YtgpihhigajmldaaDoorLexAlive
import Derived.Test.YtgpihhigajmldaaDoorLexSay
import Derived.Test.YtgpihhigajmldaaDoorLexRefR
import Derived.Laws.StructEq
import Derived.Deep.QuietTactic
import Derived.Deep.LoopGhost
import Derived.BigQuiet
import Derived.BigGuardPart
namespace Go.Proofs.YtgpihhigajmldaaDoor
open Go.RowKit

set_option maxRecDepth 100000 in
set_option maxHeartbeats 2000000 in
theorem splits_long (w : World) (A : Nat → Addr) (m : Int) (hE : Errs w A) (hL : Lx w A m) (hT : ErrT w) (l : List UInt8) (hl : 4000 < l.length) :
    Calls Tryd.prog 3 #[.string (str l)] w fun e w' => e = .returned (.bool true) ∧ Below w.heap.size w w' := by
  have hz : (str l).size = l.length := strSize l
  go_enter Tryd.func3, Tryd.ntmps3
  go_wp2_with fail
  refine (alive07_any w A m hL).mono ?_
  rintro e w1 ⟨rfl, hb1⟩
  by_cases h5 : 5000 < l.length
  · have h5' : (5000 : Int) < (l.length : Int) := by omega
    go_wp2_with fail
    go_ret
    exact ⟨rfl, hb1⟩
  · have h5' : ¬ (5000 : Int) < (l.length : Int) := by omega
    go_wp2_with fail
    refine (split_long w1 A m (hL.below hb1) l hl).mono ?_
    rintro e w2 ⟨hb2', g, rfl, _, hg⟩
    have hb2 := hb1.trans (hb2'.mono hb1.size)
    clear hb1 hb2'
    go_wp2_with fail
    refine (refSplit_long w2 l hl).mono ?_
    rintro e w3 ⟨rfl, hb3'⟩
    have hb3 := hb2.trans (hb3'.mono hb2.size)
    have hg3 := hg.kept hb3'
    clear hb2 hb3' hg
    have HF : Calls Tryd.prog 9 #[.iface tFlt (.pointer (some ⟨g, 0, none⟩)), .int .i64 3, .int .i64 0, .int .i64 0] w3 fun e w' => e = .returned (.bool true) ∧ Below w3.heap.size w3 w' := fault_hit w3 A (hE.below hb3) (hT.below hb3) g 2 (by decide) 0 0 hg3
    clear hg3
    go_wp2_with fail
    refine HF.mono ?_
    rintro e w4 ⟨rfl, hb4'⟩
    have hb4 := hb3.trans (hb4'.mono hb3.size)
    clear hb3 hb4' HF
    go_wp2_with fail
    refine (ident_any w4 l (by omega)).mono ?_
    rintro e w5 ⟨rfl, n5, rfl⟩
    have hb5 := below_drewN hb4 n5
    clear hb4
    go_wp2_with fail
    refine (refIdent_any (w4.drewN n5) l (by omega)).mono ?_
    rintro e w6 ⟨rfl, rfl⟩
    go_wp2_with fail
    refine wp_loop_rounds 1 ?_
    rw [rounds_succ]
    go_wp2_with fail
    go_ret
    exact ⟨rfl, hb5⟩

set_option maxRecDepth 100000 in
set_option maxHeartbeats 2000000 in
theorem splits_in (w : World) (A : Nat → Addr) (m : Int) (hE : Errs w A) (hL : Lx w A m) (hT : ErrT w) (l : List UInt8) (hl : l.length ≤ 4000) (T : List (Tok × Nat)) (b ea : Nat) (hX : Lex l 0 T b ea)
    (HR : ∀ u, Calls Tryd.prog 8 #[.string (str l)] u (RefSplitR u l T b ea)) :
    Calls Tryd.prog 3 #[.string (str l)] w fun e w' => e = .returned (.bool true) ∧ Below w.heap.size w w' := by
  have hz : (str l).size = l.length := strSize l
  have h5' : ¬ (5000 : Int) < (l.length : Int) := by omega
  have hX2 := Lib.hid hX
  clear hX
  go_enter Tryd.func3, Tryd.ntmps3
  go_wp2_with fail
  refine (alive07_any w A m hL).mono ?_
  rintro e w1 ⟨rfl, hb1⟩
  go_wp2_with fail
  refine (split_any w1 A m (hL.below hb1) l hl T b ea hX2.out).mono ?_
  rintro e w2 ⟨hb2', (⟨h0, v2, rfl, hown2⟩ | ⟨h0, g, rfl, _, hg⟩)⟩
  · have hb2 := hb1.trans (hb2'.mono hb1.size)
    clear hb2'
    subst h0
    obtain ⟨p2, c2, rfl, hR2, hc2, hm2⟩ := own_rk (tokRow_len l T) hown2
    clear hown2
    go_wp2_with fail
    refine (HR w2).mono ?_
    rintro e w3 ⟨hb3', (⟨_, v3, rfl, hown3⟩ | ⟨h, _⟩)⟩
    rotate_left
    · exact absurd rfl h
    have hb3 := hb2.trans (hb3'.mono hb2.size)
    obtain ⟨p3, c3, rfl, hR3, hc3, hm3⟩ := own_rk (tokRow_len l T) hown3
    have hR2' := hR2.below hb3'
    have hs23 := hb3'.size
    clear hown3 hR2 hb3'
    go_wp2_with fail
    refine (fault_nil w3).mono ?_
    rintro e w4 ⟨rfl, hb4'⟩
    have hb4 := hb3.trans (hb4'.mono hb3.size)
    have hR2'' := hR2'.below (hb4'.mono hs23)
    have hR3' := hR3.below hb4'
    have hs24 := Nat.le_trans hs23 hb4'.size
    have hs34 := hb4'.size
    clear hb3 hb4' hR3 hR2'
    go_wp2_with fail
    refine (ident_any w4 l (by omega)).mono ?_
    rintro e w5 ⟨rfl, n5, rfl⟩
    have hb5 := below_drewN hb4 n5
    clear hb4
    go_wp2_with fail
    refine (refIdent_any (w4.drewN n5) l (by omega)).mono ?_
    rintro e w6 ⟨rfl, rfl⟩
    go_wp2_with fail
    have hR2d : Rk 5 (w4.drewN n5) w2.heap.size p2 (T.map (tokRow l)) := hR2''.below (below_drewN (Below.refl _ _) n5)
    have hR3d : Rk 5 (w4.drewN n5) w3.heap.size p3 (T.map (tokRow l)) := hR3'.below (below_drewN (Below.refl _ _) n5)
    obtain ⟨w7, hw7⟩ : ∃ w7, w7 = w4.drewN n5 := ⟨_, rfl⟩
    rw [← hw7] at hb5 hR2d hR3d
    rw [← hw7]
    have hs2 : w2.heap.size ≤ w7.heap.size := by rw [hw7]; exact hs24
    have hs3 : w3.heap.size ≤ w7.heap.size := by rw [hw7]; exact hs34
    clear hw7 hR2'' hR3'
    have hTl : T.length ≤ 4000 := by have := hX2.out.err.2.1; omega
    go_loopg [50] T.length (fun g i wx => ∃ k : Nat, k + g = T.length ∧ i = .int .i64 (k : Int) ∧ Below w7.heap.size w7 wx)
    case atStart => exact ⟨0, by omega, rfl, Below.refl _ _⟩
    case round =>
      obtain ⟨k, hkg, rfl, hbr⟩ := hrel
      by_cases hk : k < T.length
      · have hki : (k : Int) < (T.length : Int) := by omega
        obtain ⟨x, hx⟩ : ∃ x, T[k]? = some x := ⟨_, List.getElem?_eq_getElem hk⟩
        have hx2 : (T.map (tokRow l))[k]? = some (tokRow l x) := by rw [List.getElem?_map, hx]; rfl
        have hR2r := hR2d.below (hbr.mono hs2)
        have hR3r := hR3d.below (hbr.mono hs3)
        obtain ⟨b2, o2, rfl, hl2, hcl2⟩ := hR2r (by rw [List.length_map]; omega)
        obtain ⟨b3, o3, rfl, hl3, hcl3⟩ := hR3r (by rw [List.length_map]; omega)
        obtain ⟨⟨tk, tt, tn⟩, ea'⟩ := x
        obtain ⟨pl, hpl⟩ : ∃ pl : Int, pl = ((placeAt l ea').1 : Int) := ⟨_, rfl⟩
        obtain ⟨pc, hpc⟩ : ∃ pc : Int, pc = ((placeAt l ea').2 : Int) := ⟨_, rfl⟩
        have c0 : wr.cell? ⟨b2, o2 + k * 5, none⟩ = some (.int .i64 (tk : Int)) := hcl2 k _ hx2 0 _ rfl
        have c1 : wr.cell? ⟨b2, o2 + k * 5 + 1, none⟩ = some (.string (str tt)) := hcl2 k _ hx2 1 _ rfl
        have c2 : wr.cell? ⟨b2, o2 + k * 5 + 2, none⟩ = some (.int .i64 (tn : Int)) := hcl2 k _ hx2 2 _ rfl
        have c3 : wr.cell? ⟨b2, o2 + k * 5 + 3, none⟩ = some (.int .i64 pl) := hpl ▸ hcl2 k _ hx2 3 _ rfl
        have c4 : wr.cell? ⟨b2, o2 + k * 5 + 4, none⟩ = some (.int .i64 pc) := hpc ▸ hcl2 k _ hx2 4 _ rfl
        have e0' : wr.cell? ⟨b3, o3 + k * 5, none⟩ = some (.int .i64 (tk : Int)) := hcl3 k _ hx2 0 _ rfl
        have e1' : wr.cell? ⟨b3, o3 + k * 5 + 1, none⟩ = some (.string (str tt)) := hcl3 k _ hx2 1 _ rfl
        have e2' : wr.cell? ⟨b3, o3 + k * 5 + 2, none⟩ = some (.int .i64 (tn : Int)) := hcl3 k _ hx2 2 _ rfl
        have e3' : wr.cell? ⟨b3, o3 + k * 5 + 3, none⟩ = some (.int .i64 pl) := hpl ▸ hcl3 k _ hx2 3 _ rfl
        have e4' : wr.cell? ⟨b3, o3 + k * 5 + 4, none⟩ = some (.int .i64 pc) := hpc ▸ hcl3 k _ hx2 4 _ rfl
        clear hpl hpc hcl2 hcl3 hR2r hR3r
        obtain ⟨w8, hw8⟩ : ∃ w8, w8 = wr.alloc (.cells #[.int .i64 (tk : Int), .string (str tt), .int .i64 (tn : Int), .int .i64 pl, .int .i64 pc] 34) := ⟨_, rfl⟩
        have hb8' : Below wr.heap.size wr w8 := hw8 ▸ (Below.refl _ _).alloc (Nat.le_refl _) _
        have hk8 : Blk w8 wr.heap.size 34 [.int .i64 (tk : Int), .string (str tt), .int .i64 (tn : Int), .int .i64 pl, .int .i64 pc] := hw8 ▸ Blk.new wr _ _
        have hlr : b3 < wr.heap.size := by have := hbr.size; omega
        have e0 : w8.cell? ⟨b3, o3 + k * 5, none⟩ = some (.int .i64 (tk : Int)) := (hb8'.cell (p := ⟨_, _, none⟩) hlr).trans e0'
        have e1 : w8.cell? ⟨b3, o3 + k * 5 + 1, none⟩ = some (.string (str tt)) := (hb8'.cell (p := ⟨_, _, none⟩) hlr).trans e1'
        have e2 : w8.cell? ⟨b3, o3 + k * 5 + 2, none⟩ = some (.int .i64 (tn : Int)) := (hb8'.cell (p := ⟨_, _, none⟩) hlr).trans e2'
        have e3 : w8.cell? ⟨b3, o3 + k * 5 + 3, none⟩ = some (.int .i64 pl) := (hb8'.cell (p := ⟨_, _, none⟩) hlr).trans e3'
        have e4 : w8.cell? ⟨b3, o3 + k * 5 + 4, none⟩ = some (.int .i64 pc) := (hb8'.cell (p := ⟨_, _, none⟩) hlr).trans e4'
        have d0 : w8.cell? ⟨wr.heap.size, 0, none⟩ = some (.int .i64 (tk : Int)) := hk8.cell 0
        have d1 : w8.cell? ⟨wr.heap.size, 1, none⟩ = some (.string (str tt)) := hk8.cell 1
        have d2 : w8.cell? ⟨wr.heap.size, 2, none⟩ = some (.int .i64 (tn : Int)) := hk8.cell 2
        have d3 : w8.cell? ⟨wr.heap.size, 3, none⟩ = some (.int .i64 pl) := hk8.cell 3
        have d4 : w8.cell? ⟨wr.heap.size, 4, none⟩ = some (.int .i64 pc) := hk8.cell 4
        have hb8 := hbr.trans (hb8'.mono hbr.size)
        clear e0' e1' e2' e3' e4' hb8' hk8 hlr
        go_wp2_with fail
        rw [← hw8]
        clear hw8 c0 c1 c2 c3 c4
        obtain ⟨B, hB⟩ : ∃ B, B = wr.heap.size := ⟨_, rfl⟩
        rw [← hB] at d0 d1 d2 d3 d4
        rw [← hB]
        clear hB
        go_quiet (fail)
        go_wp2_with fail
        go_roundg (T.length - (k + 1))
        case measure => omega
        case rel => exact ⟨k + 1, by omega, by go_num, below_drewN hb8 _⟩
      · have hki : ¬ (k : Int) < (T.length : Int) := by omega
        go_wp2_with fail
        go_ret
        exact ⟨rfl, hb5.trans (hbr.mono hb5.size)⟩
  · have hb2 := hb1.trans (hb2'.mono hb1.size)
    have hb9 : b ≤ 9 := hX2.out.err.1
    clear hb2' hb1
    obtain ⟨j, rfl⟩ : ∃ j, b = j + 1 := ⟨b - 1, by omega⟩
    obtain ⟨z, hzz⟩ : ∃ z : Int, z = ((j + 1 : Nat) : Int) := ⟨_, rfl⟩
    obtain ⟨pl, hpl⟩ : ∃ pl : Int, pl = ((placeAt l ea).1 : Int) := ⟨_, rfl⟩
    obtain ⟨pc, hpc⟩ : ∃ pc : Int, pc = ((placeAt l ea).2 : Int) := ⟨_, rfl⟩
    have hg' : Blk w2 g 40 [.int .i64 pl, .int .i64 pc, errV A j] := by rw [hpl, hpc]; exact hg
    have HR' : Calls Tryd.prog 8 #[.string (str l)] w2 fun e w' => e = .returned (.tuple #[.slice none 0 0, .int .i64 z, .int .i64 pl, .int .i64 pc]) ∧ Below w2.heap.size w2 w' := (HR w2).mono fun e w' h => by
      obtain ⟨hb, (⟨h1, _⟩ | ⟨_, h1⟩)⟩ := h
      · omega
      · exact ⟨by rw [h1, hzz, hpl, hpc], hb⟩
    have HFz : ∀ u, Errs u A → ErrT u → Blk u g 40 [.int .i64 pl, .int .i64 pc, errV A j] → Calls Tryd.prog 9 #[.iface tFlt (.pointer (some ⟨g, 0, none⟩)), .int .i64 z, .int .i64 pl, .int .i64 pc] u fun e w' => e = .returned (.bool true) ∧ Below u.heap.size u w' := fun u h1 h2 h3 => by
      rw [hzz, show ((j + 1 : Nat) : Int) = (j : Int) + 1 by omega]
      exact fault_hit u A h1 h2 g j (by omega) pl pc h3
    have HR2 := Lib.hid HR'
    have HF2 := Lib.hid HFz
    clear HR' HFz hzz hpl hpc hg HR
    go_wp2_with fail
    refine HR2.out.mono ?_
    rintro e w3 ⟨rfl, hb3'⟩
    have hb3 := hb2.trans (hb3'.mono hb2.size)
    have hg3 := hg'.kept hb3'
    clear hb2 hb3' hg'
    go_wp2_with fail
    refine (HF2.out w3 (hE.below hb3) (hT.below hb3) hg3).mono ?_
    rintro e w4 ⟨rfl, hb4'⟩
    have hb4 := hb3.trans (hb4'.mono hb3.size)
    clear hb3 hb4' hg3
    go_wp2_with fail
    refine (ident_any w4 l (by omega)).mono ?_
    rintro e w5 ⟨rfl, n5, rfl⟩
    have hb5 := below_drewN hb4 n5
    clear hb4
    go_wp2_with fail
    refine (refIdent_any (w4.drewN n5) l (by omega)).mono ?_
    rintro e w6 ⟨rfl, rfl⟩
    go_wp2_with fail
    refine wp_loop_rounds 1 ?_
    rw [rounds_succ]
    go_wp2_with fail
    go_ret
    exact ⟨rfl, hb5⟩
end Go.Proofs.YtgpihhigajmldaaDoor
