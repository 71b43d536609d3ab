/- The walk of VarintPuts: for every number and all bytes ahead and behind the answer is true, and nothing that was there turns. No condition. -/
import Derived.Test.YtephohilhnieoaaDoorProg
import Derived.Test.YtephohilhnieoaaDoorMem
import Derived.Test.YtephohilhnieoaaDoorRow
import Derived.Test.YtephohilhnieoaaDoorBytes
import Derived.Test.YtephohilhnieoaaDoorKept
import Derived.Test.YtephohilhnieoaaDoorText
import Derived.Test.YtephohilhnieoaaDoorVput
import Derived.Test.YtephohilhnieoaaDoorVsize
import Derived.Test.YtephohilhnieoaaDoorVparse
import Derived.Test.YtephohilhnieoaaDoorAlive02
namespace Go.Proofs.YtephohilhnieoaaDoor
open Go.RowKit

set_option maxRecDepth 100000 in
set_option maxHeartbeats 2000000 in
theorem vputs_in (w : World) (n : Nat) (p p2 : Option Addr) (l l2 : List UInt8) (c c2 : Nat) (hn : n < 18446744073709551616) (hs : Sl w w.heap.size p l) (hs2 : Sl w w.heap.size p2 l2) (h1 : l.length ≤ 200) (h2 : l2.length ≤ 200) :
    Calls Tryd.prog 4 #[.int .u64 (n : Int), .slice p l.length c, .slice p2 l2.length c2] w fun e w' => e = .returned (.bool true) ∧ Below w.heap.size w w' := by
  have h1' : ¬ 200 < l.length := by omega
  have h2' : ¬ 200 < l2.length := by omega
  obtain ⟨i0, hi, hz0, hz1, hz2⟩ := info_parts infoB
  obtain ⟨V, hV⟩ : ∃ V, V = vput n := ⟨_, rfl⟩
  obtain ⟨X, hX⟩ : ∃ X, X = l ++ V := ⟨_, rfl⟩
  have hten := vput_ten n hn
  have hXl : X.length = l.length + V.length := by rw [hX, List.length_append]
  have hVp := vput_pos n
  have hXa : X.length ≤ l.length + V.length := by omega
  have hXb : l.length + V.length ≤ X.length := by omega
  rw [← hV] at hten hVp
  have HP := Lib.hid (vparse_vput n l2 hn)
  rw [← hV] at HP
  have hcat : str l ++ str V = str X := by rw [str_append, hX]
  have hns : ¬ 9223372036854775807 < (str l).size + (str V).size := by rw [strSize, strSize]; omega
  have HXD := Lib.hid (show X.drop l.length = V by rw [hX, List.drop_left])
  have HV := Lib.hid hV
  have HX := Lib.hid hX
  have HXL := Lib.hid hXl
  clear hV hX hXl
  go_enter Tryd.func4, Tryd.ntmps4
  go_wp2_with fail
  refine (alive02_any w).mono ?_
  rintro e w1 ⟨rfl, hb1⟩
  have hs1 := hs.below hb1
  go_wp2_with fail
  refine (bytes_any w1 p l c w.heap.size (by omega) hs1 hb1.size).mono ?_
  rintro e w2 ⟨rfl, hin, hb2⟩
  have hsin : Sl w2 (w1.heap.size + 1) (some ⟨w1.heap.size, 0, none⟩) l := Sl.of_blk hin (by omega) fun i x hx => by
    have hi : i < l.length := by
      rcases Nat.lt_or_ge i l.length with h | h
      · exact h
      · rw [List.getElem?_eq_none h] at hx; cases hx
    rw [List.getElem?_append_left (by simpa using hi), List.getElem?_map, hx]
    rfl
  have hlt2 := hin.lt
  go_wp2_with fail
  refine (vPut_any w2 _ l (l.length + 6) n (w1.heap.size + 1) hlt2 (by omega) hn hsin).mono ?_
  rintro e w3 ⟨v3, rfl, hown3, hb3⟩
  rw [← HV.out, ← HX.out] at hown3
  obtain ⟨q3, c3, rfl, hsl3, hc3, hm3⟩ := own_sl hown3
  go_wp2_with fail
  refine (vRefPut_any n w3 hn).mono ?_
  rintro e w4 ⟨v4, rfl, hown4, hb4⟩
  rw [← HV.out] at hown4
  obtain ⟨q4, c4, rfl, hsl4, hc4, _⟩ := own_sl hown4
  have h02 : Below w.heap.size w w2 := hb1.trans (hb2.mono hb1.size)
  have h03 : Below w.heap.size w w3 := h02.trans (hb3.mono h02.size)
  have h04 : Below w.heap.size w w4 := h03.trans (hb4.mono h03.size)
  have hin4 := (hin.kept hb3).kept hb4
  have hs4 := hs.below h04
  have hs24 := hs2.below h04
  have hx4 : Sl w4 w3.heap.size q3 X := hsl3.below hb4
  have ex := hx4.string c3
  have ea := hs4.string c
  have ev := hsl4.string c4
  have h34 := hb4.size
  clear hown3 hown4 hin hsin hb1 hb2 hb3 hb4 hsl3 hs1 hs hs2
  go_wp2_with fail
  refine (size_any w4 n hn).mono ?_
  rintro e w5 ⟨rfl, rfl⟩
  rw [← HV.out]
  go_wp2_with fail
  refine (kept_any w4 w1.heap.size p l c w.heap.size (by omega) hs4 hin4).mono ?_
  rintro e w5 ⟨rfl, rfl⟩
  have hsX := hx4.after l.length
  rw [HXD.out] at hsX
  go_wp2_with (at_builtin; first
    | (refine wpList_append_sl _ rfl (.tmp 52) (.tmp 56) 22 rfl w4.heap.size 5 i0 (.int .u8 0) Tryd.underlying22 hi hz0 hz1 hz2 rfl _ _ _ rfl (World.ownsRow_made w4 #[] 0 (Nat.le_refl _) (by simp) rfl) w3.heap.size (Option.map (fun x => x.add l.length) q3) (c3 - l.length) V (by rw [show V.length = X.length - l.length by omega]; rfl) (hsX.below ((Below.refl _ _).alloc h34 _)) (by omega) (by simp) ?_; intro v6 w6 hown6 hg6; have hb6 : Below w4.heap.size w4 w6 := ((Below.refl _ _).alloc (Nat.le_refl _) _).grown hg6 (by simp) (fun g h => Nat.le_of_eq (Option.some.inj h)))
    | (refine wpList_append_sl _ rfl (.tmp 57) (.tmp 58) 22 rfl w4.heap.size 5 i0 (.int .u8 0) Tryd.underlying22 hi hz0 hz1 hz2 rfl _ _ _ rfl hown6 w.heap.size p2 c2 l2 rfl (hs24.below (hb6.mono h04.size)) (by omega) hb6.size ?_; intro v7 w7 hown7 hg7; have hb7 : Below w4.heap.size w4 w7 := hb6.grown hg7 hb6.size (fun g h => (hown6.lt g h).1)))
  have hown8 : w7.ownsRow w4.heap.size 5 1 v7 (V ++ l2).length ((V ++ l2).map bv) := by
    have e1 : (V ++ l2).length = 0 + V.length + l2.length := by rw [List.length_append]; omega
    have e2 : (V ++ l2).map bv = [] ++ V.map bv ++ l2.map bv := by rw [List.map_append, List.nil_append]
    rw [e1, e2]
    exact hown7
  have hb07 : Below w.heap.size w w7 := h04.trans (hb7.mono h04.size)
  obtain ⟨q7, c7, rfl, hsl7, hc7, _⟩ := own_sl hown8
  have HR := vParse_any w7 (fun _ => ⟨0, 0, none⟩) q7 (V ++ l2) c7 w7.heap.size (by rw [List.length_append]; omega) hc7 hsl7 (fun h => by rw [HP.out] at h; exact absurd rfl h)
  rw [HP.out, show errOf (fun _ => ⟨0, 0, none⟩) ((n, V.length, 0) : Nat × Nat × Nat).2.2 = Value.nilIface from rfl] at HR
  clear hown6 hown7 hown8 hg6 hg7 hb6 hb7 ex ea ev
  refine HR.mono ?_
  rintro e w8 ⟨rfl, n8, rfl⟩
  go_wp2_with fail
  go_ret
  exact ⟨rfl, below_drewN hb07 _⟩

set_option maxRecDepth 100000 in
theorem vputs_out (w : World) (n : Nat) (p p2 : Option Addr) (a b : Nat) (c c2 : Nat) (h : 200 < a ∨ a ≤ 200 ∧ 200 < b) :
    Calls Tryd.prog 4 #[.int .u64 (n : Int), .slice p a c, .slice p2 b c2] w fun e w' => e = .returned (.bool true) ∧ Below w.heap.size w w' := by
  rcases h with h | ⟨h1, h⟩
  · go_enter Tryd.func4, Tryd.ntmps4
    go_wp2_with fail
    refine (alive02_any w).mono ?_
    rintro e w1 ⟨rfl, hb1⟩
    go_wp2_with fail
    go_ret
    exact ⟨rfl, hb1⟩
  · have h1' : ¬ 200 < a := by omega
    go_enter Tryd.func4, Tryd.ntmps4
    go_wp2_with fail
    refine (alive02_any w).mono ?_
    rintro e w1 ⟨rfl, hb1⟩
    go_wp2_with fail
    go_ret
    exact ⟨rfl, hb1⟩
theorem vputs_any (w : World) (n : Nat) (p : Option Addr) (l : List UInt8) (c : Nat) (p2 : Option Addr) (l2 : List UInt8) (c2 : Nat) (hn : n < 18446744073709551616) (hs : Sl w w.heap.size p l) (hs2 : Sl w w.heap.size p2 l2) :
    Calls Tryd.prog 4 #[.int .u64 (n : Int), .slice p l.length c, .slice p2 l2.length c2] w fun e w' => e = .returned (.bool true) ∧ Below w.heap.size w w' := by
  by_cases h1 : l.length ≤ 200
  · by_cases h2 : l2.length ≤ 200
    · exact vputs_in w n p p2 l l2 c c2 hn hs hs2 h1 h2
    · exact vputs_out w n p p2 l.length l2.length c c2 (.inr ⟨h1, by omega⟩)
  · exact vputs_out w n p p2 l.length l2.length c c2 (.inl (by omega))
end Go.Proofs.YtephohilhnieoaaDoor
