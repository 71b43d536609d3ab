/- Part 22 of what the last text of this claim is proved by: walks over the program, and the math behind them. Conditions: as each theorem says. -/
import Derived.Test.YtagoikglbifhmaaGreatDoorPA21
import Derived.Test.YtagoikglbifhmaaGreatDoorProg
import Derived.Lib.ItoaMem
import Derived.Lib.Walk
import Derived.WalkKit
namespace Go.Proofs.YtagoikglbifhmaaGreatDoor
open Go.Shelf Go.RowKit Go.Sort Go.Lib
theorem grow_below0 (w : World) (k : Nat) (os : Array Obj) : Below w.heap.size w (Go.Sort.grow (w.drewN k) os) := ⟨rfl, rfl, rfl, by simp [Go.Sort.grow], fun g hg => by
  show (w.heap ++ os)[g]? = w.heap[g]?
  rw [Array.getElem?_append_left hg]⟩
theorem holds_zero0 (w : World) (T : TypeId) (nd : Nat) (hs : nd ≤ 24) : Holds (fun (b : UInt8) => Value.int .u8 (b.toNat : Int)) (w.alloc (.cells Lib.zeros24 T)) w.heap.size 0 (Array.replicate nd (0 : UInt8)) := fun j hj => by
  have hj' : j < nd := by simpa using hj
  refine ⟨?_, World.frozen?_alloc_new _ _ _ _⟩
  rw [World.cell?_alloc_new, Lib.zeros24_at _ (by omega), getElem!_pos _ j hj]
  simp
theorem fin_zero (w : World) (o : Obj) (dk : Array UInt8) (k : Nat) : ∃ os, (putRow (fun (b : UInt8) => Value.int .u8 (b.toNat : Int)) (w.alloc o) w.heap.size 0 dk).drewN k = grow (w.drewN k) os := by
  rw [alloc_eq_grow]
  obtain ⟨os', _, e⟩ := putRow_grow_new (fun (b : UInt8) => Value.int .u8 (b.toNat : Int)) w #[o] w.heap.size 0 dk (Nat.le_refl _)
  exact ⟨os', by rw [e]; rfl⟩
set_option maxHeartbeats 6400000 in
set_option maxRecDepth 100000 in
theorem fmt_in (w : World) (u : Nat) (hu64 : u < 18446744073709551616) (htab : Lib.TabIs Tryz.prog w "internal/strconv.uint64pow10" .u64 Lib.pow10Tab) :
    Calls Tryz.prog 125 #[.int .u64 (u : Int), .int .i64 10] w fun e w' => e = .returned (.string ⟨(Lib.decDigits u).toArray⟩) ∧ Below w.heap.size w w' := by
  by_cases hs : u < 100
  · have hz : (u : Int) < 100 := by omega
    have hwi : IntKind.i64.wrap (u : Int) = (u : Int) := IntWalk.i64_in _ (by omega)
    go_enter Tryz.func125, Tryz.ntmps125
    go_wp2_with (go_at_call 144; refine (Tryz.internal_strconv_small u hs _).mono ?_; rintro e w' ⟨rfl, rfl⟩)
    go_ret
    exact ⟨rfl, Below.refl _ _⟩
  · have hz : ¬ (u : Int) < 100 := by omega
    have hu1 : 1 ≤ u := by omega
    have hnd20 : Lib.nDigits u ≤ 20 := by have := Lib.numDigits_eq u hu1 hu64; split at this <;> omega
    have hal : Tryz.prog.arrayLen 169 = 24 := by kernel_rfl
    have hua : Tryz.prog.underlying 169 = some (.array (Tryz.prog.arrayLen 169) (Tryz.prog.elem 169)) := by kernel_rfl
    have hsl : ∀ W, (Instr.sliceAt 169 (.pointer (some ⟨w.heap.size, 0, none⟩)) none (some (.int .i64 (Lib.nDigits u : Int))) none).run Tryz.prog W = .ok (.slice (some ⟨w.heap.size, 0, none⟩) (Lib.nDigits u) 24) W := fun W => by
      have h5 := run_sliceAt_array_h (P := Tryz.prog) W 169 ⟨w.heap.size, 0, none⟩ hua .i64 (Lib.nDigits u : Int) (by omega) (by rw [hal]; omega)
      rw [run_sizeT (k := 1) (by kernel_rfl), Result.andThen_ok, hal, Int.toNat_natCast] at h5
      exact h5
    have hH0 := holds_zero0 w 169 (Lib.nDigits u) (by omega)
    have hfmt := Tryz.internal_strconv_formatBase10 w.heap.size 0 24 u (Array.replicate (Lib.nDigits u) 0) (w.alloc (.cells Lib.zeros24 169)) hH0 (by rw [Array.size_replicate]; exact Lib.lt_pow_nDigits u) hu64 (by rw [Array.size_replicate]; omega)
    rw [Array.size_replicate] at hfmt
    have HH0 := Lib.hid hH0
    clear hH0 hal hua
    go_enter Tryz.func125, Tryz.ntmps125
    go_wp2_with (go_at_call 145; refine (Tryz.internal_strconv_numDigits u hu1 hu64 _ (Lib.tabIs_alloc htab _)).mono ?_; rintro e w' ⟨rfl, rfl⟩)
    go_at_call 146
    refine hfmt.mono ?_
    rintro e w' ⟨rfl, k, v', dk, rfl, hF⟩
    have hcv : (convert 97 9 (.slice (some ⟨w.heap.size, 0, none⟩) (Lib.nDigits u) 24)).run Tryz.prog ((putRow (fun (b : UInt8) => Value.int .u8 (b.toNat : Int)) (w.alloc (.cells Lib.zeros24 169)) w.heap.size 0 dk).drewN k) = .ok (.string ⟨(Lib.decDigits u).toArray⟩) ((putRow (fun (b : UInt8) => Value.int .u8 (b.toNat : Int)) (w.alloc (.cells Lib.zeros24 169)) w.heap.size 0 dk).drewN k) := by
      have h := run_convert_bytes_back (P := Tryz.prog) ((putRow (fun (b : UInt8) => Value.int .u8 (b.toNat : Int)) (w.alloc (.cells Lib.zeros24 169)) w.heap.size 0 dk).drewN k) 97 9 5 ⟨w.heap.size, 0, none⟩ 24 (Lib.decDigits u) (by kernel_rfl) (by kernel_rfl) (by kernel_rfl) (fun j hj => by
        rw [Lib.row_is_numeral hF j hj, Lib.add_plain, World.cell?_drewN]
        exact cell?_putRow (fun (b : UInt8) => Value.int .u8 (b.toNat : Int)) _ w.heap.size 0 _ dk HH0.out (by rw [hF.size, Array.size_replicate]) j (by rw [hF.size]; rw [Lib.decDigits_length] at hj; exact hj))
      rw [Lib.decDigits_length] at h
      exact h
    go_wp2
    go_ret
    obtain ⟨os, eo⟩ := fin_zero w (.cells Lib.zeros24 169) dk k
    exact ⟨rfl, eo ▸ grow_below0 w k os⟩
set_option maxRecDepth 100000 in
theorem fmt_any (w : World) (u : Nat) (hu : u < 18446744073709551616) (hT : Lib.TabIs Tryz.prog w "internal/strconv.uint64pow10" .u64 Lib.pow10Tab) :
    Calls Tryz.prog 96 #[.int .u64 (u : Int), .int .i64 10] w fun e w' => e = .returned (.string (str (Lib.decDigits u))) ∧ Below w.heap.size w w' := by
  go_enter Tryz.func96, Tryz.ntmps96
  go_wp2_with (go_at_call 125; refine (fmt_in _ u hu hT).mono ?_; rintro e w' ⟨rfl, hb⟩)
  go_ret
  exact ⟨rfl, hb⟩
end Go.Proofs.YtagoikglbifhmaaGreatDoor
namespace Go.Proofs.YtagoikglbifhmaaGreatDoor
open Go.RowKit
theorem dw_len (l : List UInt8) : (l.takeWhile isDig).length + (l.dropWhile isDig).length = l.length := by
  have := congrArg List.length (List.takeWhile_append_dropWhile (p := isDig) (l := l))
  rw [List.length_append] at this
  exact this
theorem dw_take (l : List UInt8) : l.take (((l.length : Int) - ((l.dropWhile isDig).length : Int)).toNat) = l.takeWhile isDig := by
  have h := dw_len l
  rw [show ((l.length : Int) - ((l.dropWhile isDig).length : Int)).toNat = (l.takeWhile isDig).length by omega]
  conv => lhs; rw [← List.takeWhile_append_dropWhile (p := isDig) (l := l)]
  exact List.take_left' (by rw [List.takeWhile_append_dropWhile])
set_option maxRecDepth 100000 in
theorem numbered_ef {gls : List (Nat × List Value)} (hg : ErrG gls) (k : Int) (l : List UInt8) (hs : l.length ≤ 1000000000) : EF Tryz.prog gls 72 [iP k, sP l] (.tup [.many (sd (numbered k l).1), sP (numbered k l).2]) := by
  have h := dw_len l
  have ht := dw_take l
  have e : numOf (l.take (((l.length : Int) - ((l.dropWhile isDig).length : Int)).toNat)) = numOf (l.takeWhile isDig) := by rw [ht]
  refine ef_enter 20 Tryz.func72 rfl rfl rfl fun w D => ?_
  try refine e_fl ?_
  refine e_list ?_
  refine e_alloc 4 [.is (.int .i64 0), .is (.int .i64 0), .is (.int .i64 0), .is (.int .i64 0), .is (.int .u64 0), .is (.string ⟨#[]⟩), .is (.slice none 0 0), .is (.string ⟨#[]⟩), .is (.slice none 0 0), .is (.slice none 0 0)] rfl rfl rfl rfl zr_62 (fun w D M V => ⟨rfl, fun j x v h1 h2 => cfit_is _ h1 h2 rfl⟩) rfl rfl rfl rfl ?_
  refine l_as ?_
  refine e_nil ?_
  try refine e_fl ?_
  refine e_plain (w_mv rfl rfl rfl rfl rfl (w_op rfl rfl rfl (s_call rfl (by kernel_rfl) (tleft_ef _ l (by omega)) ⟨(kn rfl), ⟨(kn rfl), trivial⟩⟩) (w_as rfl rfl rfl rfl rfl .nil))) ?_
  try refine e_fl ?_
  refine e_list ?_
  refine l_mv ?_
  refine l_mv ?_
  refine l_mv ?_
  refine l_op (s_slen rfl (kn rfl) str_9) ?_
  refine l_mv ?_
  refine l_op (s_slen rfl (kn rfl) str_9) ?_
  refine l_op (s_bin rfl (kn rfl) (kn rfl) (v_sub64 (by first | omega | (dsimp only; omega) | omega))) ?_
  refine l_op (s_sslice_to rfl (kn rfl) (kn rfl) (by omega) str_9) ?_
  refine l_op (s_call rfl (by kernel_rfl) (numOf_ef hg (l.take (((l.length : Int) - ((l.dropWhile isDig).length : Int)).toNat)) (by rw [ht]; omega)) ⟨(kn rfl), trivial⟩) ?_
  refine l_op (s_build (ds := [_, _, _, _, _, _, .row 8 0 [], _, .row 7 0 [], .row 14 0 []]) [(0, _), (1, _)] rfl ⟨rfl, (kn rfl), ⟨rfl, (kn rfl), trivial⟩⟩ rfl pl_62 zr_62 (fun w D => .cons (.cell _) (.cons (.cell _) (.cons (.cell _) (.cons (.cell _) (.cons (.cell _) (.cons (.cell _) (.cons (.none _ _ _) (.cons (.cell _) (.cons (.none _ _ _) (.cons (.none _ _ _) (.nil _ _))))))))))) rfl) ?_
  refine l_mv ?_
  refine e_storew rfl rfl rfl (kn rfl) rfl (kn rfl) rfl rfl sz_62 ?_
  refine l_as ?_
  refine e_nil ?_
  try refine e_fl ?_
  exact e_return rfl rfl (.cell rfl rfl rfl agg_62 sz_62 rfl (.tmp (kn rfl) (.nil))) (Imp.of_eq (by rw [e]; rfl)) rfl
set_option maxRecDepth 100000 in
theorem listed_ef {gls : List (Nat × List Value)} (hg : ErrG gls) (l : List UInt8) (hs : l.length ≤ 1000000000) : EF Tryz.prog gls 75 [sP l] (.part (.many (sd (listed l)))) := by
  have h1 := cutB_le 58 l
  have h2 := cutA_le 58 l
  refine ef_enter 22 Tryz.func75 rfl rfl rfl fun w D => ?_
  try refine e_fl ?_
  refine e_list ?_
  refine e_alloc 2 [.is (.int .i64 0), .is (.int .i64 0), .is (.int .i64 0), .is (.int .i64 0), .is (.int .u64 0), .is (.string ⟨#[]⟩), .is (.slice none 0 0), .is (.string ⟨#[]⟩), .is (.slice none 0 0), .is (.slice none 0 0)] rfl rfl rfl rfl zr_62 (fun w D M V => ⟨rfl, fun j x v h1 h2 => cfit_is _ h1 h2 rfl⟩) rfl rfl rfl rfl ?_
  refine e_nil ?_
  try refine e_fl ?_
  refine e_plain (w_mv rfl rfl rfl rfl rfl (w_op rfl rfl rfl (s_call rfl (by kernel_rfl) (cut_ef _ l 58 (by omega)) ⟨(kn rfl), ⟨(kn rfl), trivial⟩⟩) (w_mv rfl rfl rfl rfl rfl (w_op rfl rfl rfl (s_extract rfl (kn rfl) rfl) (w_op rfl rfl rfl (s_extract rfl (kn rfl) rfl) (w_op rfl rfl rfl (s_extract rfl (kn rfl) rfl) (w_as rfl rfl rfl rfl rfl (w_as rfl rfl rfl rfl rfl (w_as rfl rfl rfl rfl rfl .nil))))))))) ?_
  try refine e_fl ?_
  refine e_plain (w_mv rfl rfl rfl rfl rfl (w_op rfl rfl rfl (s_not rfl (kn rfl)) .nil)) ?_
  try refine e_fl ?_
  refine e_cond rfl (fun h => ?_) (fun h => ?_)
  · have e : listed l = ⟨3, numOf (cutB 58 l), 0, vnone⟩ := if_neg (by
      have : cutF 58 l = false := by simpa using h
      rw [this]; decide)
    try refine e_fl ?_
    refine e_list ?_
    refine l_mv ?_
    refine l_op (s_call rfl (by kernel_rfl) (numOf_ef hg (cutB 58 l) (by omega)) ⟨(kn rfl), trivial⟩) ?_
    refine l_op (s_build (ds := [_, _, _, _, _, _, .row 8 0 [], _, .row 7 0 [], .row 14 0 []]) [(0, _), (1, _)] rfl ⟨rfl, (kn rfl), ⟨rfl, (kn rfl), trivial⟩⟩ rfl pl_62 zr_62 (fun w D => .cons (.cell _) (.cons (.cell _) (.cons (.cell _) (.cons (.cell _) (.cons (.cell _) (.cons (.cell _) (.cons (.none _ _ _) (.cons (.cell _) (.cons (.none _ _ _) (.cons (.none _ _ _) (.nil _ _))))))))))) rfl) ?_
    refine e_storew rfl rfl rfl (kn rfl) rfl (kn rfl) rfl rfl sz_62 ?_
    refine e_nil ?_
    try refine e_fl ?_
    exact e_return rfl rfl (.cell rfl rfl rfl agg_62 sz_62 rfl (.nil)) (Imp.of_eq (by rw [e]; rfl)) rfl
  · have e : listed l = ⟨5, numOf (cutB 58 l), numOf (cutA 58 l), vnone⟩ := if_pos (by simpa using h)
    try refine e_fl ?_
    refine e_list ?_
    refine l_mv ?_
    refine l_op (s_call rfl (by kernel_rfl) (numOf_ef hg (cutB 58 l) (by omega)) ⟨(kn rfl), trivial⟩) ?_
    refine l_mv ?_
    refine l_op (s_call rfl (by kernel_rfl) (numOf_ef hg (cutA 58 l) (by omega)) ⟨(kn rfl), trivial⟩) ?_
    refine l_op (s_build (ds := [_, _, _, _, _, _, .row 8 0 [], _, .row 7 0 [], .row 14 0 []]) [(0, _), (1, _), (2, _)] rfl ⟨rfl, (kn rfl), ⟨rfl, (kn rfl), ⟨rfl, (kn rfl), trivial⟩⟩⟩ rfl pl_62 zr_62 (fun w D => .cons (.cell _) (.cons (.cell _) (.cons (.cell _) (.cons (.cell _) (.cons (.cell _) (.cons (.cell _) (.cons (.none _ _ _) (.cons (.cell _) (.cons (.none _ _ _) (.cons (.none _ _ _) (.nil _ _))))))))))) rfl) ?_
    refine e_storew rfl rfl rfl (kn rfl) rfl (kn rfl) rfl rfl sz_62 ?_
    refine e_nil ?_
    try refine e_fl ?_
    exact e_return rfl rfl (.cell rfl rfl rfl agg_62 sz_62 rfl (.nil)) (Imp.of_eq (by rw [e]; rfl)) rfl
theorem u8_is {c d : UInt8} {z : Int} (h : decide ((c.toNat : Int) = z) = true) (hz : (d.toNat : Int) = z) : c = d := by
  have h1 := of_decide_eq_true h
  exact UInt8.toNat_inj.1 (by omega)
theorem u8_not {c d : UInt8} {z : Int} (h : decide ((c.toNat : Int) = z) = false) (hz : (d.toNat : Int) = z) : c ≠ d := fun e => by
  have h1 := of_decide_eq_false h
  rw [e] at h1
  exact h1 hz
set_option maxRecDepth 100000 in
set_option maxHeartbeats 1000000 in
theorem first_ef {gls : List (Nat × List Value)} (hg : ErrG gls) (c : UInt8) (l : List UInt8) (hs : l.length ≤ 100000000) : EF Tryz.prog gls 47 [sP (c :: l)] (.tup [.many (sd (fst1 c l).1), sP (fst1 c l).2]) := by
  have hl1 : (c :: l).length = l.length + 1 := rfl
  have hb1 := cutB_le 125 l
  have hb2 := cutB_le 93 l
  refine ef_enter 55 Tryz.func47 rfl rfl rfl fun w D => ?_
  try refine e_fl ?_
  refine e_list ?_
  refine e_alloc 2 [.is (.int .i64 0), .is (.int .i64 0), .is (.int .i64 0), .is (.int .i64 0), .is (.int .u64 0), .is (.string ⟨#[]⟩), .is (.slice none 0 0), .is (.string ⟨#[]⟩), .is (.slice none 0 0), .is (.slice none 0 0)] rfl rfl rfl rfl zr_62 (fun w D M V => ⟨rfl, fun j x v h1 h2 => cfit_is _ h1 h2 rfl⟩) rfl rfl rfl rfl ?_
  refine l_as ?_
  refine e_nil ?_
  try refine e_fl ?_
  refine e_plain (w_mv rfl rfl rfl rfl rfl (w_op rfl rfl rfl (s_sslice_from (l := c :: l) (z := 1) rfl (kn rfl) (kn rfl) (by omega) str_9) (w_as rfl rfl rfl rfl rfl .nil))) ?_
  try refine e_fl ?_
  refine e_plain (w_mv rfl rfl rfl rfl rfl (w_op rfl rfl rfl (s_sindex (l := c :: l) (c := c) rfl (kn rfl) (kn rfl) (by omega) rfl str_9) .nil)) ?_
  try refine e_fl ?_
  try refine e_fl ?_
  refine e_plain (w_op rfl rfl rfl (s_bin rfl (kn rfl) (kn rfl) v_eql) (w_as rfl rfl rfl rfl rfl .nil)) ?_
  try refine e_fl ?_
  refine e_cond rfl (fun q1 => ?_) (fun q1 => ?_)
  · obtain rfl := u8_is (d := 46) q1 rfl
    try refine e_fl ?_
    refine e_list ?_
    refine l_mv ?_
    refine l_op (s_call rfl (by kernel_rfl) (numbered_ef hg 1 l (by omega)) ⟨(kn rfl), ⟨(kn rfl), trivial⟩⟩) ?_
    refine l_ex ?_
    refine l_ex ?_
    refine e_storew rfl rfl rfl (kn rfl) rfl (kn rfl) rfl rfl sz_62 ?_
    refine l_as ?_
    refine e_nil ?_
    try refine e_fl ?_
    exact e_return rfl rfl (.cell rfl rfl rfl agg_62 sz_62 rfl (.tmp (kn rfl) (.nil))) (Imp.of_eq (by rw [fst1, if_pos rfl]; rfl)) rfl
  have n1 := u8_not (d := 46) q1 rfl
  try refine e_fl ?_
  refine e_plain (w_op rfl rfl rfl (s_bin rfl (kn rfl) (kn rfl) v_eql) (w_as rfl rfl rfl rfl rfl .nil)) ?_
  try refine e_fl ?_
  refine e_cond rfl (fun q2 => ?_) (fun q2 => ?_)
  · obtain rfl := u8_is (d := 124) q2 rfl
    try refine e_fl ?_
    refine e_list ?_
    refine l_mv ?_
    refine l_op (s_call rfl (by kernel_rfl) (numbered_ef hg 6 l (by omega)) ⟨(kn rfl), ⟨(kn rfl), trivial⟩⟩) ?_
    refine l_ex ?_
    refine l_ex ?_
    refine e_storew rfl rfl rfl (kn rfl) rfl (kn rfl) rfl rfl sz_62 ?_
    refine l_as ?_
    refine e_nil ?_
    try refine e_fl ?_
    exact e_return rfl rfl (.cell rfl rfl rfl agg_62 sz_62 rfl (.tmp (kn rfl) (.nil))) (Imp.of_eq (by rw [fst1, if_neg n1, if_pos rfl]; rfl)) rfl
  have n2 := u8_not (d := 124) q2 rfl
  try refine e_fl ?_
  refine e_plain (w_op rfl rfl rfl (s_bin rfl (kn rfl) (kn rfl) v_eql) (w_as rfl rfl rfl rfl rfl .nil)) ?_
  try refine e_fl ?_
  refine e_cond rfl (fun q3 => ?_) (fun q3 => ?_)
  · obtain rfl := u8_is (d := 126) q3 rfl
    try refine e_fl ?_
    refine e_list ?_
    refine l_op (s_build (ds := [_, _, _, _, _, _, .row 8 0 [], _, .row 7 0 [], .row 14 0 []]) [(0, _)] rfl ⟨rfl, (kn rfl), trivial⟩ rfl pl_62 zr_62 (fun w D => .cons (.cell _) (.cons (.cell _) (.cons (.cell _) (.cons (.cell _) (.cons (.cell _) (.cons (.cell _) (.cons (.none _ _ _) (.cons (.cell _) (.cons (.none _ _ _) (.cons (.none _ _ _) (.nil _ _))))))))))) rfl) ?_
    refine l_mv ?_
    refine e_storew rfl rfl rfl (kn rfl) rfl (kn rfl) rfl rfl sz_62 ?_
    refine l_as ?_
    refine e_nil ?_
    try refine e_fl ?_
    exact e_return rfl rfl (.cell rfl rfl rfl agg_62 sz_62 rfl (.tmp (kn rfl) (.nil))) (Imp.of_eq (by rw [fst1, if_neg n1, if_neg n2, if_pos rfl]; rfl)) rfl
  have n3 := u8_not (d := 126) q3 rfl
  try refine e_fl ?_
  refine e_plain (w_op rfl rfl rfl (s_bin rfl (kn rfl) (kn rfl) v_eql) (w_as rfl rfl rfl rfl rfl .nil)) ?_
  try refine e_fl ?_
  refine e_cond rfl (fun q4 => ?_) (fun q4 => ?_)
  · obtain rfl := u8_is (d := 123) q4 rfl
    try refine e_fl ?_
    refine e_plain (w_mv rfl rfl rfl rfl rfl (w_op rfl rfl rfl (s_call rfl (by kernel_rfl) (cut_ef _ l 125 (by omega)) ⟨(kn rfl), ⟨(kn rfl), trivial⟩⟩) (w_mv rfl rfl rfl rfl rfl (w_op rfl rfl rfl (s_extract rfl (kn rfl) rfl) (w_op rfl rfl rfl (s_extract rfl (kn rfl) rfl) (w_op rfl rfl rfl (s_extract rfl (kn rfl) rfl) (w_as rfl rfl rfl rfl rfl (w_as rfl rfl rfl rfl rfl (w_as rfl rfl rfl rfl rfl .nil))))))))) ?_
    try refine e_fl ?_
    refine e_list ?_
    refine l_mv ?_
    refine l_op (s_call rfl (by kernel_rfl) (keyOf_ef hg (cutB 125 l) (by omega)) ⟨(kn rfl), trivial⟩) ?_
    refine l_op (s_build (ds := [_, _, _, _, _, _, _, _, _, _]) [(0, _), (3, _)] rfl ⟨rfl, (kn rfl), ⟨rfl, (kn rfl), trivial⟩⟩ rfl pl_62 zr_62 (fun w D => .cons (.cell _) (.cons (.cell _) (.cons (.cell _) (.cons (.cell _) (.cons (.cell _) (.cons (.cell _) (.cons (.cell _) (.cons (.cell _) (.cons (.cell _) (.cons (.cell _) (.nil _ _))))))))))) rfl) ?_
    refine l_mv ?_
    refine e_storew rfl rfl rfl (kn rfl) rfl (kn rfl) rfl rfl sz_62 ?_
    refine l_as ?_
    refine e_nil ?_
    try refine e_fl ?_
    exact e_return rfl rfl (.cell rfl rfl rfl agg_62 sz_62 rfl (.tmp (kn rfl) (.nil))) (Imp.of_eq (by rw [fst1, if_neg n1, if_neg n2, if_neg n3, if_pos rfl]; rfl)) rfl
  have n4 := u8_not (d := 123) q4 rfl
  try refine e_fl ?_
  refine e_plain (w_op rfl rfl rfl (s_bin rfl (kn rfl) (kn rfl) v_eql) (w_as rfl rfl rfl rfl rfl .nil)) ?_
  try refine e_fl ?_
  refine e_cond rfl (fun q5 => ?_) (fun q5 => ?_)
  · obtain rfl := u8_is (d := 91) q5 rfl
    try refine e_fl ?_
    refine e_plain (w_mv rfl rfl rfl rfl rfl (w_op rfl rfl rfl (s_call rfl (by kernel_rfl) (cut_ef _ l 93 (by omega)) ⟨(kn rfl), ⟨(kn rfl), trivial⟩⟩) (w_mv rfl rfl rfl rfl rfl (w_op rfl rfl rfl (s_extract rfl (kn rfl) rfl) (w_op rfl rfl rfl (s_extract rfl (kn rfl) rfl) (w_op rfl rfl rfl (s_extract rfl (kn rfl) rfl) (w_as rfl rfl rfl rfl rfl (w_as rfl rfl rfl rfl rfl (w_as rfl rfl rfl rfl rfl .nil))))))))) ?_
    try refine e_fl ?_
    refine e_list ?_
    refine l_mv ?_
    refine l_op (s_call rfl (by kernel_rfl) (listed_ef hg (cutB 93 l) (by omega)) ⟨(kn rfl), trivial⟩) ?_
    refine l_mv ?_
    refine e_storew rfl rfl rfl (kn rfl) rfl (kn rfl) rfl rfl sz_62 ?_
    refine l_as ?_
    refine e_nil ?_
    try refine e_fl ?_
    exact e_return rfl rfl (.cell rfl rfl rfl agg_62 sz_62 rfl (.tmp (kn rfl) (.nil))) (Imp.of_eq (by rw [fst1, if_neg n1, if_neg n2, if_neg n3, if_neg n4, if_pos rfl]; rfl)) rfl
  have n5 := u8_not (d := 91) q5 rfl
  try refine e_fl ?_
  refine e_list ?_
  refine l_op (s_build (ds := [_, _, _, _, _, _, .row 8 0 [], _, .row 7 0 [], .row 14 0 []]) [] rfl trivial rfl pl_62 zr_62 (fun w D => .cons (.cell _) (.cons (.cell _) (.cons (.cell _) (.cons (.cell _) (.cons (.cell _) (.cons (.cell _) (.cons (.none _ _ _) (.cons (.cell _) (.cons (.none _ _ _) (.cons (.none _ _ _) (.nil _ _))))))))))) rfl) ?_
  refine e_storew rfl rfl rfl (kn rfl) rfl (kn rfl) rfl rfl sz_62 ?_
  refine l_as ?_
  refine e_nil ?_
  try refine e_fl ?_
  exact e_return rfl rfl (.cell rfl rfl rfl agg_62 sz_62 rfl (.tmp (kn rfl) (.nil))) (Imp.of_eq (by rw [fst1, if_neg n1, if_neg n2, if_neg n3, if_neg n4, if_neg n5]; rfl)) rfl
def Tb (w : World) : Prop := Lib.TabIs Tryz.prog w "internal/strconv.uint64pow10" .u64 Lib.pow10Tab
theorem tb_stab : Stab Tb := fun w w' hb h => by
  unfold Tb Lib.TabIs World.var? at *
  cases hg : Tryz.prog.globalNamed "internal/strconv.uint64pow10" with
  | none => simp [hg] at h
  | some g =>
    simp only [hg, Option.bind_some] at h ⊢
    have hlt : g < w.heap.size := by
      rcases Nat.lt_or_ge g w.heap.size with h' | h'
      · exact h'
      · rw [Array.getElem?_eq_none h'] at h; simp at h
    rw [hb.block g hlt]
    exact h
theorem dec_len {u : Nat} (hu : u < 18446744073709551616) : (Lib.decDigits u).length ≤ 20 := by
  rw [Lib.decDigits_length]
  rcases Nat.eq_zero_or_pos u with h | h
  · subst h; rw [Lib.nDigits_small (by decide)]; decide
  · have := Lib.numDigits_eq u h hu
    split at this <;> omega
theorem itoa_q (gls : List (Nat × List Value)) (n : Int) (h0 : 0 ≤ n) (h1 : n ≤ 1073741824) : EFq Tryz.prog Tb gls 76 [iP n] (.part (sP (Lib.itoa n))) :=
  ef_cell_q [.int .i64 n] (.string (str (Lib.itoa n))) fun w _ hq => (Tryz.strconv_Itoa n (by omega) (by omega) w hq).mono fun _ _ ⟨he, k, os, hw⟩ => ⟨he, hw ▸ grow_below0 w k os⟩
theorem fmt_q (gls : List (Nat × List Value)) (u : Nat) (hu : u < 18446744073709551616) : EFq Tryz.prog Tb gls 96 [uP u, iP 10] (.part (sP (Lib.decDigits u))) :=
  ef_cell_q [.int .u64 (u : Int), .int .i64 10] (.string (str (Lib.decDigits u))) fun w _ hq => fmt_any w u hu hq
theorem hexs_at {n : Nat} (h : n < 16) {z : Int} (hz : z = (n : Int)) : hexs[z.toNat]? = some (hexd n) := by
  have : ∀ k : _root_.Fin 16, hexs[k.1]? = some (hexd k.1) := by decide +kernel
  rw [hz, Int.toNat_natCast]
  exact this ⟨n, h⟩
theorem hx_app (l : List UInt8) (c : UInt8) : hx (l ++ [c]) = hx l ++ [hexd (c.toNat / 16), hexd (c.toNat % 16)] := by
  unfold hx
  rw [List.flatMap_append]
  simp
theorem take_one {α : Type} {l : List α} {k : Nat} {x : α} (h : l[k]? = some x) : l.take (k + 1) = l.take k ++ [x] := by
  rw [List.take_add_one, h, Option.toList_some]
set_option maxRecDepth 100000 in
set_option maxHeartbeats 1000000 in
theorem keyText_q (gls : List (Nat × List Value)) (k : Vl) (hn : k.num < 18446744073709551616) (ht : k.text.length ≤ 100000) : EFq Tryz.prog Tb gls 77 [.many (vd k)] (.part (sP (keyT k))) := by
  refine efq_enter 37 Tryz.func77 rfl rfl rfl fun w D hq => ?_
  try refine e_fl ?_
  refine e_list ?_
  refine e_box 1 rfl rfl rfl rfl (kn rfl) rfl rfl rfl rfl ?_
  refine l_as ?_
  refine e_nil ?_
  try refine e_fl ?_
  refine e_plain (w_op rfl rfl rfl (s_faddr_box rfl (kn rfl) off_27_0) (w_op rfl rfl rfl (s_load1_box rfl (kn rfl) rfl rfl one_3) (w_op rfl rfl rfl (s_bin rfl (kn rfl) (kn rfl) v_eql) .nil))) ?_
  try refine e_fl ?_
  refine e_cond rfl (fun q1 => ?_) (fun q1 => ?_)
  · have e : keyT k = Lib.decDigits k.num := if_pos (of_decide_eq_true q1)
    try refine e_fl ?_
    refine e_plain (w_op rfl rfl rfl (s_faddr_box rfl (kn rfl) off_27_1) (w_op rfl rfl rfl (s_load1_box rfl (kn rfl) rfl rfl one_22) (w_op rfl rfl rfl (s_callw rfl (by kernel_rfl) (efq_w tb_stab hq (fmt_q _ k.num hn) (fun _ h => h) (fun _ h => h)) ⟨(kn rfl), ⟨(kn rfl), trivial⟩⟩) (w_as rfl rfl rfl rfl rfl .nil)))) ?_
    try refine e_fl ?_
    exact e_return rfl rfl (.tmp (kn rfl) (.nil)) (Imp.of_eq (by rw [e]; rfl)) rfl
  have e : keyT k = 39 :: (hx k.text ++ [39]) := if_neg (of_decide_eq_false q1)
  try refine e_fl ?_
  refine e_list ?_
  refine e_lit 100 (zs := [.int .u8 0]) (zd := [.cell (.int .u8 0)]) (cs := [.int .u8 39]) [(0, .one (.cell (.int .u8 39)))] rfl rfl rfl rfl ⟨rfl, kn rfl, trivial⟩ rfl sl_97 sz_5 zr_5 (fun w D => .cons (.cell _) (.nil _ _)) rfl rfl rfl rfl rfl rfl rfl ?_
  refine l_as ?_
  refine e_nil ?_
  try refine e_fl ?_
  refine e_plain (w_op rfl rfl rfl (s_faddr_box rfl (kn rfl) off_27_2) (w_op rfl rfl rfl (s_load1_box rfl (kn rfl) rfl rfl one_9) (w_op rfl rfl rfl (s_slen rfl (kn rfl) str_9) (w_mv rfl rfl rfl rfl rfl .nil)))) ?_
  try refine e_fl ?_
  refine e_loop (ι := { i : Nat // i ≤ k.text.length })
    (fun i => [(1, .box 1 0), (3, .own 100), (15, .is (.int .i64 (k.text.length : Int))), (16, .is (.int .i64 (i.1 : Int)))])
    (fun _ => [(1, ⟨27, bcs (vd k)⟩)]) (fun i => [(100, ⟨5, 1, 1 + 2 * i.1, (39 :: hx (k.text.take i.1)).map fun b => .cell (bv b), false⟩)]) (fun i => k.text.length - i.1) ⟨0, by omega⟩
    (fun K => e_sub ⟨s_t, s_t, s_t, s_t, trivial⟩ ⟨s_b, trivial⟩ ⟨rowEq rfl rfl rfl, trivial⟩) ?_
  rintro ⟨i, hi⟩
  dsimp only at hi ⊢
  try refine e_fl ?_
  refine e_plain (w_op rfl rfl rfl (s_bin rfl (kn rfl) (kn rfl) v_lss) .nil) ?_
  try refine e_fl ?_
  refine e_cond rfl (fun h => ?_) (fun h => ?_)
  · have hlt : i < k.text.length := by have := of_decide_eq_true h; omega
    obtain ⟨c, hc⟩ : ∃ c, k.text[i]? = some c := ⟨_, List.getElem?_eq_getElem hlt⟩
    have hc' : k.text[(i : Int).toNat]? = some c := by rw [Int.toNat_natCast]; exact hc
    have hc256 := UInt8.toNat_lt c
    have h1 : hexs[((c.toNat : Int) / 16).toNat]? = some (hexd (c.toNat / 16)) := hexs_at (by omega) (by omega)
    have h2 : hexs[((c.toNat % 16 : Nat) : Int).toNat]? = some (hexd (c.toNat % 16)) := hexs_at (by omega) rfl
    try refine e_fl ?_
    refine e_plain (w_mv rfl rfl rfl rfl rfl (w_as rfl rfl rfl rfl rfl .nil)) ?_
    try refine e_fl ?_
    refine e_plain (w_op rfl rfl rfl (s_faddr_box rfl (kn rfl) off_27_2) (w_op rfl rfl rfl (s_load1_box rfl (kn rfl) rfl rfl one_9) (w_mv rfl rfl rfl rfl rfl (w_op rfl rfl rfl (s_sindex rfl (kn rfl) (kn rfl) (by omega) hc' str_9) (w_as rfl rfl rfl rfl rfl .nil))))) ?_
    try refine e_fl ?_
    refine e_draw_tail 8 mixed (by kernel_rfl) (w_mv rfl rfl rfl rfl rfl (w_mv rfl rfl rfl rfl rfl (w_op rfl rfl rfl (s_bin rfl (kn rfl) (kn rfl) v_shr4) (w_op rfl rfl rfl (s_sindex (l := hexs) rfl (kn rfl) (kn rfl) (by omega) h1 str_9) (w_mv rfl rfl rfl rfl rfl (w_op rfl rfl rfl (s_bin rfl (kn rfl) (kn rfl) (v_and15 hc256)) (w_op rfl rfl rfl (s_sindex (l := hexs) rfl (kn rfl) (kn rfl) (by omega) h2 str_9) (w_op rfl rfl rfl (s_buildSlice (ds := [_, _]) [(0, _), (1, _)] rfl ⟨rfl, (kn rfl), ⟨rfl, (kn rfl), trivial⟩⟩ rfl sl_97 sz_5 zr_5 (fun w D => .cons (.cell _) (.cons (.cell _) (.nil _ _))) rfl rfl rfl rfl rfl) .nil)))))))) ?_
    refine e_append rfl rfl rfl rfl (kn rfl) rfl (kn rfl) sl_97 ap_97 rfl rfl (by first | omega | (dsimp only; omega) | omega) (by first | omega | (dsimp only; omega) | omega) ?_
    refine l_as ?_
    refine e_nil ?_
    try refine e_fl ?_
    refine e_plain (w_op rfl rfl rfl (s_bin rfl (kn rfl) (kn rfl) (v_add64 (by first | omega | (dsimp only; omega) | omega))) (w_mv rfl rfl rfl rfl rfl .nil)) ?_
    try refine e_fl ?_
    refine e_again ⟨i + 1, by omega⟩ (by dsimp only; omega) (fun K => e_sub ⟨s_t, s_t, s_t, s_t, trivial⟩ ⟨s_b, trivial⟩ ⟨rowEq rfl (by dsimp only; omega) (by rw [take_one hc, hx_app]; simp; exact ⟨rfl, rfl⟩), trivial⟩)
  obtain rfl : i = k.text.length := by have := of_decide_eq_false h; omega
  rw [List.take_length]
  try refine e_fl ?_
  refine e_list ?_
  refine l_mv ?_
  refine l_op (s_buildSlice (ds := [_]) [(0, _)] rfl ⟨rfl, (kn rfl), trivial⟩ rfl sl_97 sz_5 zr_5 (fun w D => .cons (.cell _) (.nil _ _)) rfl rfl rfl rfl rfl) ?_
  refine e_append rfl rfl rfl rfl (kn rfl) rfl (kn rfl) sl_97 ap_97 rfl rfl (by first | omega | (dsimp only; omega) | omega) (by first | omega | (dsimp only; omega) | omega) ?_
  refine l_op (s_ostr (l := 39 :: (hx k.text ++ [39])) rfl (kn rfl) rfl (by simp; rfl) sl_97 int_5 str_9) ?_
  refine l_as ?_
  refine e_nil ?_
  try refine e_fl ?_
  exact e_return rfl rfl (.tmp (kn rfl) (.nil)) (Imp.of_eq (by rw [e]; rfl)) rfl
def PathOk (p : List St) : Prop := p.length ≤ 100000 ∧ (∀ s ∈ p, s.key.num < 18446744073709551616) ∧ KeysShort p
theorem srt_kind {s : St} (h : srt s = true) : 1 ≤ s.kind ∧ s.kind ≤ 6 := by
  unfold srt at h
  simp only [Bool.and_eq_true, decide_eq_true_eq] at h
  exact h.1.1.1
theorem srt_num {s : St} (h : srt s = true) : 0 ≤ s.num ∧ s.num ≤ 1073741824 := by
  unfold srt at h
  simp only [Bool.and_eq_true, decide_eq_true_eq] at h
  have h1 := h.1.1.2
  unfold snumR at h1
  split at h1
  · have := of_decide_eq_true h1
    omega
  · simpa using h1
theorem srt_to {s : St} (h : srt s = true) (hk : s.kind = 5) : 0 ≤ s.to ∧ s.to ≤ 1073741824 := by
  have hn := srt_num h
  unfold srt at h
  simp only [Bool.and_eq_true, decide_eq_true_eq] at h
  have h1 := h.1.2
  unfold stoR at h1
  rw [if_pos hk] at h1
  have : s.num ≤ s.to ∧ s.to ≤ 1073741824 := by simpa using h1
  omega
theorem srt_key {s : St} (h : srt s = true) : s.key.text.length ≤ 4096 := by
  unfold srt at h
  simp only [Bool.and_eq_true, decide_eq_true_eq] at h
  obtain ⟨h1, h2⟩ := h.2
  by_cases k2 : s.kind = 2
  · rw [skeyF, if_pos k2] at h1
    have : s.key.kind = 1 ∨ s.key.kind = 2 ∧ s.key.text.length ≤ 4096 := by simpa using h1
    rcases this with h3 | h3
    · rw [plain_num h2 h3]
      exact Nat.zero_le _
    · exact h3.2
  · rw [skeyF, if_neg k2] at h1
    rw [plain_none h2 (by simpa using h1)]
    exact Nat.zero_le _
theorem itoa_len20 {n : Int} (h0 : 0 ≤ n) (h1 : n ≤ 1073741824) : (Lib.itoa n).length ≤ 20 := by
  rw [itoa_nat h0]
  exact dec_len (by omega)
theorem keyT_len {k : Vl} (hn : k.num < 18446744073709551616) (ht : k.text.length ≤ 4096) : (keyT k).length ≤ 8194 := by
  unfold keyT
  split
  · have := dec_len hn
    omega
  · simp only [List.length_cons, List.length_append, hx_len, List.length_nil]
    omega
theorem stT_len {s : St} (h : srt s = true) (hn : s.key.num < 18446744073709551616) : (stT s).length ≤ 8196 := by
  have h1 := srt_num h
  have h2 := itoa_len20 h1.1 h1.2
  have h3 := keyT_len hn (srt_key h)
  unfold stT
  repeat' split
  all_goals simp only [List.length_cons, List.length_append, List.length_nil]
  all_goals try omega
  rename_i _ _ _ _ h5
  have h4 := srt_to h h5
  have h6 := itoa_len20 h4.1 h4.2
  omega
set_option maxRecDepth 100000 in
set_option maxHeartbeats 1000000 in
theorem stT_q (gls : List (Nat × List Value)) (s : St) (h : srt s = true) (hn : s.key.num < 18446744073709551616) : EFq Tryz.prog Tb gls 48 [.many (sd s)] (.part (sP (stT s))) := by
  have h1 := srt_num h
  have h2 := itoa_len20 h1.1 h1.2
  have h3 := keyT_len hn (srt_key h)
  have hk := srt_kind h
  have ht := srt_key h
  refine efq_enter 39 Tryz.func48 rfl rfl rfl fun w D hq => ?_
  try refine e_fl ?_
  refine e_list ?_
  refine e_box 1 rfl rfl rfl rfl (kn rfl) rfl rfl rfl rfl ?_
  refine l_as ?_
  refine e_nil ?_
  try refine e_fl ?_
  refine e_plain (w_op rfl rfl rfl (s_faddr_box rfl (kn rfl) off_62_1) (w_op rfl rfl rfl (s_load1_box rfl (kn rfl) rfl rfl one_3) (w_op rfl rfl rfl (s_callw rfl (by kernel_rfl) (efq_w tb_stab hq (itoa_q _ s.num h1.1 h1.2) (fun _ h => h) (fun _ h => h)) ⟨(kn rfl), trivial⟩) (w_as rfl rfl rfl rfl rfl .nil)))) ?_
  try refine e_fl ?_
  refine e_plain (w_op rfl rfl rfl (s_faddr_box rfl (kn rfl) off_62_0) (w_op rfl rfl rfl (s_load1_box rfl (kn rfl) rfl rfl one_3) .nil)) ?_
  try refine e_fl ?_
  try refine e_fl ?_
  refine e_plain (w_op rfl rfl rfl (s_bin rfl (kn rfl) (kn rfl) v_eql) (w_as rfl rfl rfl rfl rfl .nil)) ?_
  try refine e_fl ?_
  refine e_cond rfl (fun q1 => ?_) (fun q1 => ?_)
  · have k1 := of_decide_eq_true q1
    try refine e_fl ?_
    refine e_plain (w_mv rfl rfl rfl rfl rfl (w_op rfl rfl rfl (s_bin rfl (kn rfl) (kn rfl) (v_sadd (a := [46]) (by simp; omega))) (w_as rfl rfl rfl rfl rfl .nil))) ?_
    try refine e_fl ?_
    exact e_return rfl rfl (.tmp (kn rfl) (.nil)) (Imp.of_eq (by rw [stT, if_pos k1]; rfl)) rfl
  have n1 := of_decide_eq_false q1
  try refine e_fl ?_
  refine e_plain (w_op rfl rfl rfl (s_bin rfl (kn rfl) (kn rfl) v_eql) (w_as rfl rfl rfl rfl rfl .nil)) ?_
  try refine e_fl ?_
  refine e_cond rfl (fun q2 => ?_) (fun q2 => ?_)
  · have k2 := of_decide_eq_true q2
    try refine e_fl ?_
    refine e_plain (w_op rfl rfl rfl (s_faddr_box rfl (kn rfl) off_62_3) (w_op rfl rfl rfl (s_loadn_box (ds := [_, _, _, _, _, _, _]) 7 rfl (kn rfl) rfl rfl agg_27 sz_27 rfl) (w_op rfl rfl rfl (s_callw rfl (by kernel_rfl) (efq_w tb_stab hq (keyText_q _ s.key hn (by omega)) (fun _ h => h) (fun _ h => h)) ⟨(kn rfl), trivial⟩) (w_op rfl rfl rfl (s_bin rfl (kn rfl) (kn rfl) (v_sadd (a := [123]) (by simp; omega))) (w_op rfl rfl rfl (s_bin rfl (kn rfl) (kn rfl) (v_sadd (b := [125]) (by simp; omega))) (w_as rfl rfl rfl rfl rfl .nil)))))) ?_
    try refine e_fl ?_
    exact e_return rfl rfl (.tmp (kn rfl) (.nil)) (Imp.of_eq (by rw [stT, if_neg n1, if_pos k2]; rfl)) rfl
  have n2 := of_decide_eq_false q2
  try refine e_fl ?_
  refine e_plain (w_op rfl rfl rfl (s_bin rfl (kn rfl) (kn rfl) v_eql) (w_as rfl rfl rfl rfl rfl .nil)) ?_
  try refine e_fl ?_
  refine e_cond rfl (fun q3 => ?_) (fun q3 => ?_)
  · have k3 := of_decide_eq_true q3
    try refine e_fl ?_
    refine e_plain (w_mv rfl rfl rfl rfl rfl (w_op rfl rfl rfl (s_bin rfl (kn rfl) (kn rfl) (v_sadd (a := [91]) (by simp; omega))) (w_op rfl rfl rfl (s_bin rfl (kn rfl) (kn rfl) (v_sadd (b := [93]) (by simp; omega))) (w_as rfl rfl rfl rfl rfl .nil)))) ?_
    try refine e_fl ?_
    exact e_return rfl rfl (.tmp (kn rfl) (.nil)) (Imp.of_eq (by rw [stT, if_neg n1, if_neg n2, if_pos k3]; rfl)) rfl
  have n3 := of_decide_eq_false q3
  try refine e_fl ?_
  refine e_plain (w_op rfl rfl rfl (s_bin rfl (kn rfl) (kn rfl) v_eql) (w_as rfl rfl rfl rfl rfl .nil)) ?_
  try refine e_fl ?_
  refine e_cond rfl (fun q4 => ?_) (fun q4 => ?_)
  · have k4 := of_decide_eq_true q4
    try refine e_fl ?_
    refine e_plain (w_as rfl rfl rfl rfl rfl .nil) ?_
    try refine e_fl ?_
    exact e_return rfl rfl (.tmp (kn rfl) (.nil)) (Imp.of_eq (by rw [stT, if_neg n1, if_neg n2, if_neg n3, if_pos k4]; rfl)) rfl
  have n4 := of_decide_eq_false q4
  try refine e_fl ?_
  refine e_plain (w_op rfl rfl rfl (s_bin rfl (kn rfl) (kn rfl) v_eql) (w_as rfl rfl rfl rfl rfl .nil)) ?_
  try refine e_fl ?_
  refine e_cond rfl (fun q5 => ?_) (fun q5 => ?_)
  · have k5 := of_decide_eq_true q5
    have h4 := srt_to h k5
    have h6 := itoa_len20 h4.1 h4.2
    try refine e_fl ?_
    refine e_plain (w_mv rfl rfl rfl rfl rfl (w_op rfl rfl rfl (s_bin rfl (kn rfl) (kn rfl) (v_sadd (a := [91]) (by simp; omega))) (w_op rfl rfl rfl (s_bin rfl (kn rfl) (kn rfl) (v_sadd (b := [58]) (by simp; omega))) (w_op rfl rfl rfl (s_faddr_box rfl (kn rfl) off_62_2) (w_op rfl rfl rfl (s_load1_box rfl (kn rfl) rfl rfl one_3) (w_op rfl rfl rfl (s_callw rfl (by kernel_rfl) (efq_w tb_stab hq (itoa_q _ s.to h4.1 h4.2) (fun _ h => h) (fun _ h => h)) ⟨(kn rfl), trivial⟩) (w_op rfl rfl rfl (s_bin rfl (kn rfl) (kn rfl) (v_sadd (by simp; omega))) (w_op rfl rfl rfl (s_bin rfl (kn rfl) (kn rfl) (v_sadd (b := [93]) (by simp; omega))) (w_as rfl rfl rfl rfl rfl .nil))))))))) ?_
    try refine e_fl ?_
    exact e_return rfl rfl (.tmp (kn rfl) (.nil)) (Imp.of_eq (by rw [stT, if_neg n1, if_neg n2, if_neg n3, if_neg n4, if_pos k5]; simp; rfl)) rfl
  have n5 := of_decide_eq_false q5
  try refine e_fl ?_
  refine e_plain (w_mv rfl rfl rfl rfl rfl (w_op rfl rfl rfl (s_bin rfl (kn rfl) (kn rfl) (v_sadd (a := [124]) (by simp; omega))) (w_as rfl rfl rfl rfl rfl .nil))) ?_
  try refine e_fl ?_
  exact e_return rfl rfl (.tmp (kn rfl) (.nil)) (Imp.of_eq (by rw [stT, if_neg n1, if_neg n2, if_neg n3, if_neg n4, if_neg n5]; rfl)) rfl
theorem texts_len {p : List St} (h : p.all srt = true) (hn : ∀ s ∈ p, s.key.num < 18446744073709551616) : (p.flatMap stT).length ≤ p.length * 8196 := by
  induction p with
  | nil => exact Nat.le_refl _
  | cons s p ih =>
    rw [List.all_cons, Bool.and_eq_true] at h
    have h1 := stT_len h.1 (hn s List.mem_cons_self)
    have h2 := ih h.2 fun t ht => hn t (List.mem_cons_of_mem _ ht)
    rw [List.flatMap_cons, List.length_append, List.length_cons, Nat.add_mul]
    omega
theorem texts_one {p : List St} {k : Nat} {x : St} (h : p[k]? = some x) : (p.take (k + 1)).flatMap stT = (p.take k).flatMap stT ++ stT x := by
  rw [take_one h, List.flatMap_append]
  simp
theorem texts_le (p : List St) (k : Nat) : ((p.take k).flatMap stT).length ≤ (p.flatMap stT).length := by
  have h : p.flatMap stT = (p.take k).flatMap stT ++ (p.drop k).flatMap stT := by rw [← List.flatMap_append, List.take_append_drop]
  rw [h, List.length_append]
  omega
set_option maxRecDepth 100000 in
set_option maxHeartbeats 1000000 in
theorem ptext_q (gls : List (Nat × List Value)) (p : List St) (hp : PathOk p) : EFq Tryz.prog Tb gls 23 [stD p] (.part (sP (ptext p))) := by
  obtain ⟨hl, hn, hks⟩ := hp
  refine efq_enter 22 Tryz.func23 rfl rfl rfl fun w D hq => ?_
  try refine e_fl ?_
  refine e_plain (w_as rfl rfl rfl rfl rfl .nil) ?_
  try refine e_fl ?_
  refine e_plain (w_mv rfl rfl rfl rfl rfl (w_op rfl rfl rfl (s_call rfl (by kernel_rfl) ((pright_ef p (by omega) hks).up) ⟨(kn rfl), trivial⟩) (w_op rfl rfl rfl (s_not rfl (kn rfl)) .nil))) ?_
  try refine e_fl ?_
  refine e_cond rfl (fun h => ?_) (fun h => ?_)
  · have e : ptext p = [] := if_neg (by
      have : p.all srt = false := by simpa using h
      rw [this]; decide)
    try refine e_fl ?_
    refine e_plain (w_as rfl rfl rfl rfl rfl .nil) ?_
    try refine e_fl ?_
    exact e_return rfl rfl (.tmp (kn rfl) (.nil)) (Imp.of_eq (by rw [e]; rfl)) rfl
  have ha : p.all srt = true := by simpa using h
  have e : ptext p = p.flatMap stT := if_pos ha
  have htl := texts_len ha hn
  clear h
  try refine e_fl ?_
  refine e_plain (w_as rfl rfl rfl rfl rfl .nil) ?_
  try refine e_fl ?_
  refine e_plain (w_mv rfl rfl rfl rfl rfl (w_op rfl rfl rfl (s_len rfl (kn rfl) sle_29) (w_mv rfl rfl rfl rfl rfl .nil))) ?_
  try refine e_fl ?_
  refine e_row_slot 3 100 5 1 rfl rfl rfl ?_
  refine e_loop (ι := { k : Nat // k ≤ p.length })
    (fun k => [(3, .own 100), (9, .part (stD p)), (10, .is (.int .i64 (p.length : Int))), (11, .is (.int .i64 (k.1 : Int)))])
    (fun _ => []) (fun k => [(100, ⟨5, 1, ((p.take k.1).flatMap stT).length, ((p.take k.1).flatMap stT).map fun b => .cell (bv b), false⟩)]) (fun k => p.length - k.1) ⟨0, by omega⟩
    (fun K => e_sub ⟨s_t, s_t, s_t, s_t, trivial⟩ trivial ⟨rfl, trivial⟩) ?_
  rintro ⟨k, hk⟩
  dsimp only at hk ⊢
  try refine e_fl ?_
  refine e_plain (w_op rfl rfl rfl (s_bin rfl (kn rfl) (kn rfl) v_lss) .nil) ?_
  try refine e_fl ?_
  refine e_cond rfl (fun h => ?_) (fun h => ?_)
  · have hlt : k < p.length := by have := of_decide_eq_true h; omega
    obtain ⟨x, hx⟩ : ∃ x, p[k]? = some x := ⟨_, List.getElem?_eq_getElem hlt⟩
    have hxm := List.mem_of_getElem? hx
    have hxs := List.all_eq_true.1 ha x hxm
    have hle := texts_le p k
    have hxl := stT_len hxs (hn x hxm)
    have hone := texts_one hx
    try refine e_fl ?_
    refine e_list ?_
    refine l_op (s_index rfl (kn rfl) (kn rfl) (by omega) hx stDats_len sle_29 esz_29 (stDats_sd x)) ?_
    refine l_op (s_loadn_ref rfl (kn rfl) agg_62 sz_62) ?_
    refine e_alloc 5 [.is (.int .i64 0), .is (.int .i64 0), .is (.int .i64 0), .is (.int .i64 0), .is (.int .u64 0), .is (.string ⟨#[]⟩), .is (.slice none 0 0), .is (.string ⟨#[]⟩), .is (.slice none 0 0), .is (.slice none 0 0)] rfl rfl rfl rfl zr_62 (fun w D M V => ⟨rfl, fun j x v h1 h2 => cfit_is _ h1 h2 rfl⟩) rfl rfl rfl rfl ?_
    refine e_storew rfl rfl rfl (kn rfl) rfl (kn rfl) rfl rfl sz_62 ?_
    refine e_nil ?_
    try refine e_fl ?_
    refine e_list ?_
    refine l_mv ?_
    refine l_op (s_loadn_box (ds := [_, _, _, _, _, _, _, _, _, _]) 10 rfl (kn rfl) rfl rfl agg_62 sz_62 rfl) ?_
    refine l_op (s_callw rfl (by kernel_rfl) (efq_w tb_stab hq (stT_q _ x hxs (hn x hxm)) (fun _ h => h) (fun _ h => h)) ⟨(kn rfl), trivial⟩) ?_
    refine e_append_str rfl rfl rfl rfl (kn rfl) rfl (kn rfl) sl_97 str_9 (by kernel_rfl) (by omega) ?_
    refine l_as ?_
    refine e_nil ?_
    try refine e_fl ?_
    refine e_plain (w_op rfl rfl rfl (s_bin rfl (kn rfl) (kn rfl) (v_add64 (by first | omega | (dsimp only; omega) | omega))) (w_mv rfl rfl rfl rfl rfl .nil)) ?_
    try refine e_fl ?_
    refine e_again ⟨k + 1, by omega⟩ (by dsimp only; omega) (fun K => e_sub ⟨s_t, s_t, s_t, s_t, trivial⟩ trivial ⟨rowEq rfl (by rw [hone, List.length_append]) (by rw [hone, List.map_append]), trivial⟩)
  obtain rfl : k = p.length := by have := of_decide_eq_false h; omega
  try refine e_fl ?_
  refine e_plain (w_mv rfl rfl rfl rfl rfl (w_op rfl rfl rfl (s_ostr (l := p.flatMap stT) rfl (kn rfl) rfl (by rw [List.take_length]) sl_97 int_5 str_9) (w_as rfl rfl rfl rfl rfl .nil))) ?_
  try refine e_fl ?_
  exact e_return rfl rfl (.tmp (kn rfl) (.nil)) (Imp.of_eq (by rw [e]; rfl)) rfl
end Go.Proofs.YtagoikglbifhmaaGreatDoor
