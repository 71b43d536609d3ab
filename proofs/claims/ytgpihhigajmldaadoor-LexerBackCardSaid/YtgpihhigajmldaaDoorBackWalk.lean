/- The walk of LexerBack: for every text the answer is true, and nothing that was there turns. Condition: the errors' variables hold what the program's text lays. -/
import Derived.Test.YtgpihhigajmldaaDoorProg
import Derived.Test.YtgpihhigajmldaaDoorLexAlive
import Derived.Test.YtgpihhigajmldaaDoorBackMath
import Derived.Laws.StructEq
import Derived.Deep.LoopGhost
import Derived.Deep.QuietTactic
import Derived.BigQuiet
namespace Go.Proofs.YtgpihhigajmldaaDoor
open Go.RowKit

set_option maxRecDepth 100000 in
theorem neqTF (u : World) (g : Nat) : (binOp .neq 25 (.iface tF (.pointer (some ⟨g, 0, none⟩))) .nilIface).run Tryd.prog u = .ok (.bool true) u := run_neq_held_nil (P := Tryd.prog) u 25 tF _ (by kernel_rfl)

set_option maxRecDepth 100000 in
set_option maxHeartbeats 2000000 in
theorem back_bad (w : World) (A : Nat → Addr) (m : Int) (hL : Lx w A m) (l : List UInt8) (hl : l.length ≤ 1500) (T : List (Tok × Nat)) (b ea : Nat) (hX : Lex l 0 T b ea) (hb : b ≠ 0) :
    Calls Tryd.prog 4 #[.string (str l)] w fun e w' => e = .returned (.bool true) ∧ Below w.heap.size w w' := by
  have hz : (str l).size = l.length := strSize l
  have h5' : ¬ (1500 : Int) < (l.length : Int) := by omega
  have hne := neqTF
  have hX2 := Lib.hid hX
  clear hX
  go_enter Tryd.func4, Tryd.ntmps4
  go_wp2_with fail
  refine (alive07_any w A m hL).mono ?_
  rintro e w1 ⟨rfl, hb1⟩
  go_wp2_with fail
  refine (split_any w1 A m (hL.below hb1) l (by omega) T b ea hX2.out).mono ?_
  rintro e w2 ⟨hb2', (⟨h0, _⟩ | ⟨h0, g, rfl, _, hg⟩)⟩
  · exact absurd h0 hb
  · have hb2 := hb1.trans (hb2'.mono hb1.size)
    clear hb1 hb2' hg
    go_wp2_with fail
    go_ret
    exact ⟨rfl, hb2⟩

set_option maxRecDepth 100000 in
theorem back_long (w : World) (A : Nat → Addr) (m : Int) (hL : Lx w A m) (l : List UInt8) (hl : 1500 < l.length) :
    Calls Tryd.prog 4 #[.string (str l)] w fun e w' => e = .returned (.bool true) ∧ Below w.heap.size w w' := by
  have hz : (str l).size = l.length := strSize l
  have h5' : (1500 : Int) < (l.length : Int) := by omega
  go_enter Tryd.func4, Tryd.ntmps4
  go_wp2_with fail
  refine (alive07_any w A m hL).mono ?_
  rintro e w1 ⟨rfl, hb1⟩
  go_wp2_with fail
  go_ret
  exact ⟨rfl, hb1⟩

theorem byte_is (b : UInt8) (n : Nat) (hn : n < 256) : ((b.toNat : Int) = n ∧ b = UInt8.ofNat n) ∨ (¬ (b.toNat : Int) = n ∧ ¬ b = UInt8.ofNat n) := by
  have e : (UInt8.ofNat n).toNat = n := by rw [UInt8.toNat_ofNat', Nat.mod_eq_of_lt (by omega)]
  by_cases h : b = UInt8.ofNat n
  · exact .inl ⟨by rw [h, e], h⟩
  · exact .inr ⟨fun h' => h (UInt8.toNat.inj (by rw [e]; omega)), h⟩

set_option maxRecDepth 100000 in
set_option maxHeartbeats 8000000 in
theorem back_ok (w : World) (A : Nat → Addr) (m : Int) (hL : Lx w A m) (l : List UInt8) (hl : l.length ≤ 1500) (T : List (Tok × Nat)) (ea : Nat) (hX : Lex l 0 T 0 ea) :
    Calls Tryd.prog 4 #[.string (str l)] w fun e w' => e = .returned (.bool true) ∧ Below w.heap.size w w' := by
  have hz : (str l).size = l.length := strSize l
  have h5' : ¬ (1500 : Int) < (l.length : Int) := by omega
  have hne := neqTF
  have hTl : T.length ≤ 1500 := by have := hX.err.2.1; omega
  have hlen := Lib.hid (lex_texts hX)
  have HB := Lib.hid (back_lex hX)
  have hX2 := Lib.hid hX
  clear hX
  go_enter Tryd.func4, Tryd.ntmps4
  go_wp2_with fail
  refine (alive07_any w A m hL).mono ?_
  rintro e w1 ⟨rfl, hb1⟩
  go_wp2_with fail
  refine (split_any w1 A m (hL.below hb1) l (by omega) T 0 ea hX2.out).mono ?_
  rintro e w2 ⟨hb2', (⟨_, v2, rfl, hown2⟩ | ⟨h0, _⟩)⟩
  rotate_left
  · exact absurd rfl h0
  have hb2 := hb1.trans (hb2'.mono hb1.size)
  clear hb1 hb2' hX2
  obtain ⟨p2, c2, rfl, hR2, hc2, hm2⟩ := own_rk (tokRow_len l T) hown2
  clear hown2
  go_wp2_with fail
  go_loopg [30, 5] T.length (fun g i out wx => ∃ k : Nat, k + g = T.length ∧ i = .int .i64 (k : Int) ∧ out = .string (str (joined ((T.map (·.1)).take k))) ∧ Below w2.heap.size w2 wx)
  case atStart => exact ⟨0, by omega, rfl, rfl, Below.refl _ _⟩
  case round =>
    obtain ⟨k, hkg, rfl, rfl, hbr⟩ := hrel
    by_cases hk : k < T.length
    · clear HB hne
      have hki : (k : Int) < (T.length : Int) := by omega
      obtain ⟨x, hx⟩ : ∃ x, T[k]? = some x := ⟨_, List.getElem?_eq_getElem hk⟩
      have hx2 : (T.map (tokRow l))[k]? = some (tokRow l x) := by rw [List.getElem?_map, hx]; rfl
      have hx3 : (T.map (·.1))[k]? = some x.1 := by rw [List.getElem?_map, hx]; rfl
      have hstep := joined_take hx3
      have htl : x.1.t.length ≤ 1500 := Nat.le_trans (hlen.out x (List.mem_of_getElem? hx)) hl
      have hol : (joined ((T.map (·.1)).take k)).length ≤ 1500 * 1503 := by
        refine Nat.le_trans (joined_len 1500 _ fun y hy => ?_) (Nat.mul_le_mul_right _ (by rw [List.length_take, List.length_map]; omega))
        obtain ⟨z, hz, rfl⟩ := List.mem_map.1 (List.mem_of_mem_take hy)
        exact Nat.le_trans (hlen.out z hz) hl
      generalize joined ((T.map (·.1)).take k) = X at hstep hol ⊢
      have hR2r := hR2.below hbr
      obtain ⟨b2, o2, rfl, hl2, hcl2⟩ := hR2r (by rw [List.length_map]; omega)
      obtain ⟨⟨tk, tt, tn⟩, ea'⟩ := x
      have htt : tt.length ≤ 1500 := htl
      clear htl
      have hstep3 : tk = 3 → joined ((T.map (·.1)).take (k + 1)) = X ++ 32 :: quoteOf tt :: (tt ++ [quoteOf tt]) := fun h => by
        rw [hstep]; unfold piece; rw [if_pos h]
      have hstep0 : ¬ tk = 3 → joined ((T.map (·.1)).take (k + 1)) = X ++ 32 :: tt := fun h => by
        rw [hstep]; unfold piece; rw [if_neg h]
      have HS3 := Lib.hid hstep3
      have HS0 := Lib.hid hstep0
      clear hstep hstep3 hstep0
      obtain ⟨kk, hkk⟩ : ∃ kk : Int, kk = (tk : Int) := ⟨_, rfl⟩
      obtain ⟨nn, hnn⟩ : ∃ nn : Int, nn = (tn : Int) := ⟨_, rfl⟩
      obtain ⟨pl, hpl⟩ : ∃ pl : Int, pl = ((placeAt l ea').1 : Int) := ⟨_, rfl⟩
      obtain ⟨pc, hpc⟩ : ∃ pc : Int, pc = ((placeAt l ea').2 : Int) := ⟨_, rfl⟩
      have c0 : wr.cell? ⟨b2, o2 + k * 5, none⟩ = some (.int .i64 kk) := hkk ▸ hcl2 k _ hx2 0 _ rfl
      have c1 : wr.cell? ⟨b2, o2 + k * 5 + 1, none⟩ = some (.string (str tt)) := hcl2 k _ hx2 1 _ rfl
      have c2 : wr.cell? ⟨b2, o2 + k * 5 + 2, none⟩ = some (.int .i64 nn) := hnn ▸ hcl2 k _ hx2 2 _ rfl
      have c3 : wr.cell? ⟨b2, o2 + k * 5 + 3, none⟩ = some (.int .i64 pl) := hpl ▸ hcl2 k _ hx2 3 _ rfl
      have c4 : wr.cell? ⟨b2, o2 + k * 5 + 4, none⟩ = some (.int .i64 pc) := hpc ▸ hcl2 k _ hx2 4 _ rfl
      have hk3 : kk = 3 ∧ tk = 3 ∨ ¬ kk = 3 ∧ ¬ tk = 3 := by omega
      clear hpl hpc hnn hkk hcl2 hR2r hx2 hx3 hx
      obtain ⟨w8, hw8⟩ : ∃ w8, w8 = wr.alloc (.cells #[.int .i64 kk, .string (str tt), .int .i64 nn, .int .i64 pl, .int .i64 pc] 34) := ⟨_, rfl⟩
      have hb8' : Below wr.heap.size wr w8 := hw8 ▸ (Below.refl _ _).alloc (Nat.le_refl _) _
      have hk8 : Blk w8 wr.heap.size 34 [.int .i64 kk, .string (str tt), .int .i64 nn, .int .i64 pl, .int .i64 pc] := hw8 ▸ Blk.new wr _ _
      have d0 : w8.cell? ⟨wr.heap.size, 0, none⟩ = some (.int .i64 kk) := hk8.cell 0
      have d1 : w8.cell? ⟨wr.heap.size, 1, none⟩ = some (.string (str tt)) := hk8.cell 1
      have d2 : w8.cell? ⟨wr.heap.size, 2, none⟩ = some (.int .i64 nn) := hk8.cell 2
      have d3 : w8.cell? ⟨wr.heap.size, 3, none⟩ = some (.int .i64 pl) := hk8.cell 3
      have d4 : w8.cell? ⟨wr.heap.size, 4, none⟩ = some (.int .i64 pc) := hk8.cell 4
      have hb8 := hbr.trans (hb8'.mono hbr.size)
      have sX := strSize X
      have sT := strSize tt
      clear hb8' hk8
      rcases hk3 with ⟨rfl, h3⟩ | ⟨hk3, h3⟩
      · have HSX := Lib.hid (HS3.out h3)
        clear HS3 HS0 h3
        go_wp2_with fail
        rw [← hw8]
        clear hw8 c0 c1 c2 c3 c4
        obtain ⟨Bk, hBk⟩ : ∃ Bk, Bk = wr.heap.size := ⟨_, rfl⟩
        rw [← hBk] at d0 d1 d2 d3 d4
        rw [← hBk]
        clear hBk
        go_loopg [8, 9] tt.length (fun g mv iv wx => ∃ (i : Nat) (q : UInt8), i + g = tt.length ∧ mv = .string (str [q]) ∧ iv = .int .i64 (i : Int) ∧ Hid (q = quoteOf (tt.take i)) ∧ w8 = wx)
        case atStart => exact ⟨0, 34, by omega, rfl, rfl, Lib.hid rfl, rfl⟩
        case round =>
          obtain ⟨i, q, hig, rfl, rfl, HQ, rfl⟩ := hrel
          by_cases hi : i < tt.length
          · have hii : (i : Int) < (tt.length : Int) := by omega
            have hix := str_index tt i hi
            have HST := Lib.hid (quote_step tt i hi)
            obtain ⟨b, hb⟩ : ∃ b, tt[i] = b := ⟨_, rfl⟩
            rw [hb] at hix HST
            clear hb
            have hbc := byte_is b 34 (by omega)
            generalize ((b.toNat : Int)) = B at hix hbc
            rcases hbc with ⟨hB, hb⟩ | ⟨hB, hb⟩
            · have HQ2 := Lib.hid (HST.out.trans (if_pos hb))
              clear HST hb
              obtain rfl : B = 34 := hB
              go_wp2_with fail
              go_roundg (tt.length - (i + 1))
              case measure => omega
              case rel => exact ⟨i + 1, 39, by omega, rfl, by go_num, Lib.hid HQ2.out.symm, rfl⟩
            · have HQ2 := Lib.hid ((HST.out.trans (if_neg hb)).trans HQ.out.symm)
              have hB' : ¬ B = 34 := hB
              clear HST hb hB
              go_wp2_with fail
              go_roundg (tt.length - (i + 1))
              case measure => omega
              case rel => exact ⟨i + 1, q, by omega, rfl, by go_num, Lib.hid HQ2.out.symm, rfl⟩
          · obtain rfl : i = tt.length := by omega
            have hii : ¬ (tt.length : Int) < (tt.length : Int) := by omega
            have HQ2 : Hid (q = quoteOf tt) := Lib.hid (by have := HQ.out; rwa [List.take_length] at this)
            have b1 : ({ data := #[32] } : ByteArray) ++ str [q] = str [32, q] := str_append [32] [q]
            have b2 : str [32, q] ++ str tt = str (32 :: q :: tt) := str_append _ _
            have b3 : str (32 :: q :: tt) ++ str [q] = str (32 :: q :: (tt ++ [q])) := str_append _ _
            have b4 : str X ++ str (32 :: q :: (tt ++ [q])) = str (X ++ 32 :: q :: (tt ++ [q])) := str_append _ _
            have n1 : ¬ 9223372036854775807 < 1 + (str [q]).size := by rw [strSize [q]]; simp only [List.length_cons, List.length_nil]; omega
            have n2 : ¬ 9223372036854775807 < (str [32, q]).size + (str tt).size := by rw [strSize [32, q]]; simp only [List.length_cons, List.length_nil]; omega
            have n3 : ¬ 9223372036854775807 < (str (32 :: q :: tt)).size + (str [q]).size := by rw [strSize (32 :: q :: tt), strSize [q]]; simp only [List.length_cons, List.length_nil]; omega
            have n4 : ¬ 9223372036854775807 < (str X).size + (str (32 :: q :: (tt ++ [q]))).size := by rw [strSize (32 :: q :: (tt ++ [q]))]; simp only [List.length_cons, List.length_append, List.length_nil]; omega
            clear sX sT
            go_wp2_with fail
            go_roundg (T.length - (k + 1))
            case measure => omega
            case rel => exact ⟨k + 1, by omega, by go_num, by rw [HSX.out, ← HQ2.out], hb8⟩
      · have HSX := Lib.hid (HS0.out h3)
        have a1 : ({ data := #[32] } : ByteArray) ++ str tt = str (32 :: tt) := str_append [32] tt
        have a2 : str X ++ str (32 :: tt) = str (X ++ 32 :: tt) := str_append _ _
        have n1 : ¬ 9223372036854775807 < 1 + (str tt).size := by omega
        have n2 : ¬ 9223372036854775807 < (str X).size + (str (32 :: tt)).size := by rw [strSize (32 :: tt), List.length_cons]; omega
        clear HS3 HS0 h3 sX sT
        go_wp2_with fail
        rw [← hw8]
        go_roundg (T.length - (k + 1))
        case measure => omega
        case rel => exact ⟨k + 1, by omega, by go_num, by rw [HSX.out], hb8⟩
    · obtain rfl : k = T.length := by omega
      have hki : ¬ (T.length : Int) < (T.length : Int) := by omega
      have htake : (T.map (·.1)).take T.length = T.map (·.1) := by
        have h := List.take_length (l := T.map (·.1))
        rwa [List.length_map] at h
      rw [htake]
      obtain ⟨T', hT', hLJ, hone⟩ := HB.out
      have hTT : T'.length = T.length := by have := congrArg List.length hT'; rwa [List.length_map, List.length_map] at this
      generalize joined (T.map (·.1)) = J at hLJ hone ⊢
      have HLJ := Lib.hid hLJ
      have HT' := Lib.hid hT'
      have HONE := Lib.hid hone
      have hbW := hb2.trans (hbr.mono hb2.size)
      have hzJ := strSize J
      clear HB htake hlen hLJ hT' hone
      by_cases hJ : J.length ≤ 4000
      · go_wp2_with fail
        refine (split_any wr A m (hL.below hbW) J hJ T' 0 0 HLJ.out).mono ?_
        rintro e w3 ⟨hb3', (⟨_, v3, rfl, hown3⟩ | ⟨h0, _⟩)⟩
        rotate_left
        · exact absurd rfl h0
        obtain ⟨p3, c3, rfl, hR3, hc3, hm3⟩ := own_rk (tokRow_len J T') hown3
        have hR2' := hR2.below (hbr.trans (hb3'.mono hbr.size))
        have hs23 := Nat.le_trans hbr.size hb3'.size
        have hb3 := hbW.trans (hb3'.mono hbW.size)
        clear hown3 hR2 hbr hbW hb2 hb3'
        go_wp2_with fail
        go_loopg [84] T.length (fun g i wx => ∃ k : Nat, k + g = T.length ∧ i = .int .i64 (k : Int) ∧ Below w3.heap.size w3 wx)
        case atStart => exact ⟨0, by omega, rfl, Below.refl _ _⟩
        case round =>
          obtain ⟨k, hkg, rfl, hbr⟩ := hrel
          by_cases hk : k < T.length
          · have hki2 : (k : Int) < (T.length : Int) := by omega
            obtain ⟨x, hx⟩ : ∃ x, T[k]? = some x := ⟨_, List.getElem?_eq_getElem hk⟩
            obtain ⟨x', hx'⟩ : ∃ x, T'[k]? = some x := ⟨_, List.getElem?_eq_getElem (by omega)⟩
            have hxx : x'.1 = x.1 := by
              have h := congrArg (fun l => l[k]?) HT'.out
              simp only [List.getElem?_map, hx, hx', Option.map_some, Option.some.injEq] at h
              exact h
            have hx2 : (T.map (tokRow l))[k]? = some (tokRow l x) := by rw [List.getElem?_map, hx]; rfl
            have hx3 : (T'.map (tokRow J))[k]? = some (tokRow J x') := by rw [List.getElem?_map, hx']; rfl
            have hR2r := hR2'.below (hbr.mono hs23)
            have hR3r := hR3.below hbr
            obtain ⟨b2, o2, rfl, hl2, hcl2⟩ := hR2r (by rw [List.length_map]; omega)
            obtain ⟨b3, o3, rfl, hl3, hcl3⟩ := hR3r (by rw [List.length_map]; omega)
            obtain ⟨⟨tk, tt, tn⟩, ea'⟩ := x
            obtain ⟨tok', eb'⟩ := x'
            obtain rfl : tok' = ⟨tk, tt, tn⟩ := hxx
            have hl1 := HONE.out eb'
            obtain ⟨pl, hpl⟩ : ∃ pl : Int, pl = ((placeAt l ea').1 : Int) := ⟨_, rfl⟩
            obtain ⟨pc, hpc⟩ : ∃ pc : Int, pc = ((placeAt l ea').2 : Int) := ⟨_, rfl⟩
            obtain ⟨qc, hqc⟩ : ∃ pc : Int, pc = ((placeAt J eb').2 : Int) := ⟨_, rfl⟩
            have c0 : wr.cell? ⟨b3, o3 + k * 5, none⟩ = some (.int .i64 (tk : Int)) := hcl3 k _ hx3 0 _ rfl
            have c1 : wr.cell? ⟨b3, o3 + k * 5 + 1, none⟩ = some (.string (str tt)) := hcl3 k _ hx3 1 _ rfl
            have c2 : wr.cell? ⟨b3, o3 + k * 5 + 2, none⟩ = some (.int .i64 (tn : Int)) := hcl3 k _ hx3 2 _ rfl
            have c3 : wr.cell? ⟨b3, o3 + k * 5 + 3, none⟩ = some (.int .i64 1) := (hcl3 k _ hx3 3 _ rfl).trans (by rw [hl1]; rfl)
            have c4 : wr.cell? ⟨b3, o3 + k * 5 + 4, none⟩ = some (.int .i64 qc) := hqc ▸ hcl3 k _ hx3 4 _ rfl
            have e0' : wr.cell? ⟨b2, o2 + k * 5, none⟩ = some (.int .i64 (tk : Int)) := hcl2 k _ hx2 0 _ rfl
            have e1' : wr.cell? ⟨b2, o2 + k * 5 + 1, none⟩ = some (.string (str tt)) := hcl2 k _ hx2 1 _ rfl
            have e2' : wr.cell? ⟨b2, o2 + k * 5 + 2, none⟩ = some (.int .i64 (tn : Int)) := hcl2 k _ hx2 2 _ rfl
            have e3' : wr.cell? ⟨b2, o2 + k * 5 + 3, none⟩ = some (.int .i64 pl) := hpl ▸ hcl2 k _ hx2 3 _ rfl
            have e4' : wr.cell? ⟨b2, o2 + k * 5 + 4, none⟩ = some (.int .i64 pc) := hpc ▸ hcl2 k _ hx2 4 _ rfl
            clear hpl hpc hqc hl1 hcl2 hcl3 hR2r hR3r
            obtain ⟨w8, hw8⟩ : ∃ w8, w8 = wr.alloc (.cells #[.int .i64 (tk : Int), .string (str tt), .int .i64 (tn : Int), .int .i64 1, .int .i64 qc] 34) := ⟨_, rfl⟩
            have hb8' : Below wr.heap.size wr w8 := hw8 ▸ (Below.refl _ _).alloc (Nat.le_refl _) _
            have hk8 : Blk w8 wr.heap.size 34 [.int .i64 (tk : Int), .string (str tt), .int .i64 (tn : Int), .int .i64 1, .int .i64 qc] := hw8 ▸ Blk.new wr _ _
            have hlr : b2 < wr.heap.size := by have := hbr.size; omega
            have e0 : w8.cell? ⟨b2, o2 + k * 5, none⟩ = some (.int .i64 (tk : Int)) := (hb8'.cell (p := ⟨_, _, none⟩) hlr).trans e0'
            have e1 : w8.cell? ⟨b2, o2 + k * 5 + 1, none⟩ = some (.string (str tt)) := (hb8'.cell (p := ⟨_, _, none⟩) hlr).trans e1'
            have e2 : w8.cell? ⟨b2, o2 + k * 5 + 2, none⟩ = some (.int .i64 (tn : Int)) := (hb8'.cell (p := ⟨_, _, none⟩) hlr).trans e2'
            have e3 : w8.cell? ⟨b2, o2 + k * 5 + 3, none⟩ = some (.int .i64 pl) := (hb8'.cell (p := ⟨_, _, none⟩) hlr).trans e3'
            have e4 : w8.cell? ⟨b2, o2 + k * 5 + 4, none⟩ = some (.int .i64 pc) := (hb8'.cell (p := ⟨_, _, none⟩) hlr).trans e4'
            have d0 : w8.cell? ⟨wr.heap.size, 0, none⟩ = some (.int .i64 (tk : Int)) := hk8.cell 0
            have d1 : w8.cell? ⟨wr.heap.size, 1, none⟩ = some (.string (str tt)) := hk8.cell 1
            have d2 : w8.cell? ⟨wr.heap.size, 2, none⟩ = some (.int .i64 (tn : Int)) := hk8.cell 2
            have d3 : w8.cell? ⟨wr.heap.size, 3, none⟩ = some (.int .i64 1) := hk8.cell 3
            have d4 : w8.cell? ⟨wr.heap.size, 4, none⟩ = some (.int .i64 qc) := hk8.cell 4
            have hb8 := hbr.trans (hb8'.mono hbr.size)
            clear e0' e1' e2' e3' e4' hb8' hk8 hlr
            go_wp2_with fail
            rw [← hw8]
            clear hw8 c0 c1 c2 c3 c4
            obtain ⟨B, hB⟩ : ∃ B, B = wr.heap.size := ⟨_, rfl⟩
            rw [← hB] at d0 d1 d2 d3 d4
            rw [← hB]
            clear hB
            go_quiet (fail)
            go_wp2_with fail
            go_roundg (T.length - (k + 1))
            case measure => omega
            case rel => exact ⟨k + 1, by omega, by go_num, below_drewN hb8 _⟩
          · have hki2 : ¬ (k : Int) < (T.length : Int) := by omega
            go_wp2_with fail
            go_ret
            exact ⟨rfl, hb3.trans (hbr.mono hb3.size)⟩
      · have hJ4 : (4000 : Int) < (J.length : Int) := by omega
        go_wp2_with fail
        refine (split_long wr A m (hL.below hbW) J (by omega)).mono ?_
        rintro e w3 ⟨hb3', g, rfl, _, hg⟩
        have hb3 := hbW.trans (hb3'.mono hbW.size)
        clear hbW hb3' hg
        go_wp2_with fail
        go_ret
        exact ⟨rfl, hb3⟩

theorem back_any (w : World) (A : Nat → Addr) (m : Int) (hL : Lx w A m) (l : List UInt8) :
    Calls Tryd.prog 4 #[.string (str l)] w fun e w' => e = .returned (.bool true) ∧ Below w.heap.size w w' := by
  by_cases hl : l.length ≤ 1500
  · obtain ⟨T, b, ea, hX⟩ := lex_total l l.length 0 (by omega)
    by_cases hb : b = 0
    · subst hb
      exact back_ok w A m hL l hl T ea hX
    · exact back_bad w A m hL l hl T b ea hX hb
  · exact back_long w A m hL l (by omega)
end Go.Proofs.YtgpihhigajmldaaDoor
