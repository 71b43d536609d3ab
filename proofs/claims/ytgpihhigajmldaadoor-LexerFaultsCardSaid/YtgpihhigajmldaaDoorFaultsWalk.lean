/- The walk of LexerFaults: for every three numbers the answer is true, and nothing that was there turns. Conditions: the errors' variables and the library's table of powers and variable errors.errorType hold what the texts lay. -/
import Derived.Test.YtgpihhigajmldaaDoorProg
import Derived.Test.YtgpihhigajmldaaDoorLexAlive
import Derived.Test.YtgpihhigajmldaaDoorLexSay
import Derived.Test.YtgpihhigajmldaaDoorLexFig
namespace Go.Proofs.YtgpihhigajmldaaDoor
open Go.RowKit

theorem rem20 (x : Int) : ∃ k : Nat, k < 20 ∧ (IntKind.u64.wrap x).tmod 20 = (k : Int) := by
  obtain ⟨y, hy⟩ : ∃ y : Int, y = IntKind.u64.wrap x := ⟨_, rfl⟩
  have h0 : 0 ≤ y := by rw [hy, IntKind.wrap_u64]; omega
  rw [← hy, Int.tmod_eq_emod_of_nonneg h0]
  exact ⟨(y % 20).toNat, by omega, by omega⟩

set_option maxRecDepth 100000 in
set_option maxHeartbeats 8000000 in
theorem faults_0 (w : World) (A : Nat → Addr) (m : Int) (hE : Errs w A) (hL : Lx w A m) (hT : ErrT w) (hP : Lib.TabIs Tryd.prog w "internal/strconv.uint64pow10" .u64 Lib.pow10Tab) (li co n : Int) (hl0 : -9223372036854775808 ≤ li) (hl1 : li ≤ 9223372036854775807) (hc0 : -9223372036854775808 ≤ co) (hc1 : co ≤ 9223372036854775807) (hrem : (IntKind.u64.wrap n).tmod 20 = 0) :
    Calls Tryd.prog 5 #[.int .i64 li, .int .i64 co, .int .i64 n] w fun e w' => e = .returned (.bool true) ∧ Below w.heap.size w w' := by
  have HER : ∀ u, Errs u A → Calls Tryd.prog 12 #[.int .i64 0] u fun e w' => e = .returned .nilIface ∧ Below u.heap.size u w' := fun u hu => err_any u A hu 0 (by decide)
  have HN : ∀ u, Errs u A → Calls Tryd.prog 16 #[.nilIface] u fun e w' => e = .returned (.int .i64 0) ∧ Below u.heap.size u w' := fun u hu => num_of u A hu 0 (by decide)
  have z1 : (str (Lib.itoa li)).size ≤ 21 := by rw [strSize]; exact itoa_len li hl0 hl1
  have z2 : (str (Lib.itoa co)).size ≤ 21 := by rw [strSize]; exact itoa_len co hc0 hc1
  have z3 : (str (Lib.itoa li ++ [58])).size ≤ 22 := by rw [strSize, List.length_append]; have := itoa_len li hl0 hl1; simp; omega
  have hap1 : str (Lib.itoa li) ++ ({ data := #[58] } : ByteArray) = str (Lib.itoa li ++ [58]) := str_append (Lib.itoa li) [58]
  have n1 : ¬ 9223372036854775807 < (str (Lib.itoa li)).size + 1 := by omega
  have hap2 := str_append (Lib.itoa li ++ [58]) (Lib.itoa co)
  have n2 : ¬ 9223372036854775807 < (str (Lib.itoa li ++ [58])).size + (str (Lib.itoa co)).size := by omega
  go_enter Tryd.func5, Tryd.ntmps5
  go_wp2_with fail
  refine (alive07_any w A m hL).mono ?_
  rintro e w1 ⟨rfl, hb1⟩
  go_wp2_with fail
  refine (HER w1 (hE.below hb1)).mono ?_
  rintro e w2 ⟨rfl, hb2'⟩
  have hb2 := hb1.trans (hb2'.mono hb1.size)
  clear hb1 hb2'
  obtain ⟨w4, hw4⟩ : ∃ w4, w4 = (w2.alloc (.cells #[.int .i64 li, .int .i64 co, .nilIface] 40)).alloc (.cells #[.int .i64 7, .int .i64 8, .iface tFlt (.pointer (some ⟨w2.heap.size, 0, none⟩))] 40) := ⟨_, rfl⟩
  have hkf : Blk w4 w2.heap.size 40 [.int .i64 li, .int .i64 co, .nilIface] := hw4 ▸ (Blk.new w2 40 [.int .i64 li, .int .i64 co, .nilIface]).alloc _
  have hko : Blk w4 (w2.heap.size + 1) 40 [.int .i64 7, .int .i64 8, .iface tFlt (.pointer (some ⟨w2.heap.size, 0, none⟩))] := hw4 ▸ Blk.new2 w2 (.cells #[.int .i64 li, .int .i64 co, .nilIface] 40) 40 [.int .i64 7, .int .i64 8, .iface tFlt (.pointer (some ⟨w2.heap.size, 0, none⟩))]
  have hb4 : Below w.heap.size w w4 := hw4 ▸ (hb2.alloc hb2.size _).alloc (by have := hb2.size; simp; omega) _
  go_wp2_with fail
  rw [← hw4]
  clear hw4 hb2
  refine (where_hit w4 (hT.below hb4) w2.heap.size li co _ hkf).mono ?_
  rintro e w5 ⟨rfl, hb5'⟩
  have hb5 := hb4.trans (hb5'.mono hb4.size)
  have hkf5 := hkf.kept hb5'
  have hko5 := hko.kept hb5'
  clear hb5' hb4 hkf hko
  go_wp2_with fail
  refine (where_hit w5 (hT.below hb5) (w2.heap.size + 1) 7 8 (.iface tFlt (.pointer (some ⟨w2.heap.size, 0, none⟩))) hko5).mono ?_
  rintro e w6 ⟨rfl, hb6'⟩
  have hb6 := hb5.trans (hb6'.mono hb5.size)
  have hkf6 := hkf5.kept hb6'
  have hko6 := hko5.kept hb6'
  clear hb6' hb5 hkf5 hko5
  go_wp2_with fail
  refine (HER w6 (hE.below hb6)).mono ?_
  rintro e w7 ⟨rfl, hb7'⟩
  have hb7 := hb6.trans (hb7'.mono hb6.size)
  have hkf7 := hkf6.kept hb7'
  have hko7 := hko6.kept hb7'
  clear hb7' hb6 hkf6 hko6
  go_wp2_with fail
  refine (where_nil w7).mono ?_
  rintro e w8 ⟨rfl, hb8'⟩
  have hb8 := hb7.trans (hb8'.mono hb7.size)
  have hkf8 := hkf7.kept hb8'
  have hko8 := hko7.kept hb8'
  clear hb8' hb7 hkf7 hko7
  by_cases h1 : n = 1
  · as_aux_lemma =>
    subst h1
    obtain ⟨w9, hw9⟩ : ∃ w9, w9 = w8.alloc (.cells #[.string { data := #[119, 111, 114, 100] }, .string { data := #[105, 110, 116] }, .string { data := #[116, 101, 120, 116] }, .string { data := #[115, 105, 103, 110] }] 9) := ⟨_, rfl⟩
    have hb9' : Below w8.heap.size w8 w9 := hw9 ▸ (Below.refl _ _).alloc (Nat.le_refl _) _
    have hb9 := hb8.trans (hb9'.mono hb8.size)
    have hkf9 := hkf8.kept hb9'
    have hko9 := hko8.kept hb9'
    clear hb9' hb8 hkf8 hko8
    go_wp2_with fail
    rw [← hw9]
    clear hw9
    refine (error_any w9 w2.heap.size li co _ hkf9 hl0 hl1 hc0 hc1 (tab_below hP hb9)).mono ?_
    rintro e w10 ⟨rfl, hb10'⟩
    have hb10 := hb9.trans (hb10'.mono hb9.size)
    have hkf10 := hkf9.kept hb10'
    have hko10 := hko9.kept hb10'
    clear hb10' hb9 hkf9 hko9
    go_wp2_with fail
    refine (figures_any w10 li hl0 hl1).mono ?_
    rintro e w11 ⟨rfl, hb11'⟩
    have hb11 := hb10.trans (hb11'.mono hb10.size)
    have hkf11 := hkf10.kept hb11'
    have hko11 := hko10.kept hb11'
    clear hb11' hb10 hkf10 hko10
    go_wp2_with fail
    refine (figures_any w11 co hc0 hc1).mono ?_
    rintro e w12 ⟨rfl, hb12'⟩
    have hb12 := hb11.trans (hb12'.mono hb11.size)
    have hkf12 := hkf11.kept hb12'
    have hko12 := hko11.kept hb12'
    clear hb12' hb11 hkf11 hko11
    go_wp2_with fail
    refine (unwrap_any w12 w2.heap.size li co _ hkf12).mono ?_
    rintro e w13 ⟨rfl, n13, rfl⟩
    have hb13 := below_drewN hb12 n13
    have hko13 := hko12.drewN n13
    have hkf13 := hkf12.drewN n13
    clear hb12 hko12 hkf12
    go_wp2_with fail
    refine (HN (w12.drewN n13) (hE.below hb13)).mono ?_
    rintro e w14 ⟨rfl, hb14'⟩
    have hb14 := hb13.trans (hb14'.mono hb13.size)
    have hko14 := hko13.kept hb14'
    have hkf14 := hkf13.kept hb14'
    clear hb14' hb13 hko13 hkf13
    go_wp2_with fail
    refine (show Calls Tryd.prog 18 #[.int .i64 1] w14 fun e w' => e = .returned (.string { data := #[119, 111, 114, 100] }) ∧ w' = w14 from name_any w14 1).mono ?_
    rintro e w15 ⟨rfl, rfl⟩
    go_wp2_with fail
    go_ret
    exact ⟨rfl, hb14⟩
  by_cases h2 : n = 2
  · as_aux_lemma =>
    subst h2
    obtain ⟨w9, hw9⟩ : ∃ w9, w9 = w8.alloc (.cells #[.string { data := #[119, 111, 114, 100] }, .string { data := #[105, 110, 116] }, .string { data := #[116, 101, 120, 116] }, .string { data := #[115, 105, 103, 110] }] 9) := ⟨_, rfl⟩
    have hb9' : Below w8.heap.size w8 w9 := hw9 ▸ (Below.refl _ _).alloc (Nat.le_refl _) _
    have hb9 := hb8.trans (hb9'.mono hb8.size)
    have hkf9 := hkf8.kept hb9'
    have hko9 := hko8.kept hb9'
    clear hb9' hb8 hkf8 hko8
    go_wp2_with fail
    rw [← hw9]
    clear hw9
    refine (error_any w9 w2.heap.size li co _ hkf9 hl0 hl1 hc0 hc1 (tab_below hP hb9)).mono ?_
    rintro e w10 ⟨rfl, hb10'⟩
    have hb10 := hb9.trans (hb10'.mono hb9.size)
    have hkf10 := hkf9.kept hb10'
    have hko10 := hko9.kept hb10'
    clear hb10' hb9 hkf9 hko9
    go_wp2_with fail
    refine (figures_any w10 li hl0 hl1).mono ?_
    rintro e w11 ⟨rfl, hb11'⟩
    have hb11 := hb10.trans (hb11'.mono hb10.size)
    have hkf11 := hkf10.kept hb11'
    have hko11 := hko10.kept hb11'
    clear hb11' hb10 hkf10 hko10
    go_wp2_with fail
    refine (figures_any w11 co hc0 hc1).mono ?_
    rintro e w12 ⟨rfl, hb12'⟩
    have hb12 := hb11.trans (hb12'.mono hb11.size)
    have hkf12 := hkf11.kept hb12'
    have hko12 := hko11.kept hb12'
    clear hb12' hb11 hkf11 hko11
    go_wp2_with fail
    refine (unwrap_any w12 w2.heap.size li co _ hkf12).mono ?_
    rintro e w13 ⟨rfl, n13, rfl⟩
    have hb13 := below_drewN hb12 n13
    have hko13 := hko12.drewN n13
    have hkf13 := hkf12.drewN n13
    clear hb12 hko12 hkf12
    go_wp2_with fail
    refine (HN (w12.drewN n13) (hE.below hb13)).mono ?_
    rintro e w14 ⟨rfl, hb14'⟩
    have hb14 := hb13.trans (hb14'.mono hb13.size)
    have hko14 := hko13.kept hb14'
    have hkf14 := hkf13.kept hb14'
    clear hb14' hb13 hko13 hkf13
    go_wp2_with fail
    refine (show Calls Tryd.prog 18 #[.int .i64 2] w14 fun e w' => e = .returned (.string { data := #[105, 110, 116] }) ∧ w' = w14 from name_any w14 2).mono ?_
    rintro e w15 ⟨rfl, rfl⟩
    go_wp2_with fail
    go_ret
    exact ⟨rfl, hb14⟩
  by_cases h3 : n = 3
  · as_aux_lemma =>
    subst h3
    obtain ⟨w9, hw9⟩ : ∃ w9, w9 = w8.alloc (.cells #[.string { data := #[119, 111, 114, 100] }, .string { data := #[105, 110, 116] }, .string { data := #[116, 101, 120, 116] }, .string { data := #[115, 105, 103, 110] }] 9) := ⟨_, rfl⟩
    have hb9' : Below w8.heap.size w8 w9 := hw9 ▸ (Below.refl _ _).alloc (Nat.le_refl _) _
    have hb9 := hb8.trans (hb9'.mono hb8.size)
    have hkf9 := hkf8.kept hb9'
    have hko9 := hko8.kept hb9'
    clear hb9' hb8 hkf8 hko8
    go_wp2_with fail
    rw [← hw9]
    clear hw9
    refine (error_any w9 w2.heap.size li co _ hkf9 hl0 hl1 hc0 hc1 (tab_below hP hb9)).mono ?_
    rintro e w10 ⟨rfl, hb10'⟩
    have hb10 := hb9.trans (hb10'.mono hb9.size)
    have hkf10 := hkf9.kept hb10'
    have hko10 := hko9.kept hb10'
    clear hb10' hb9 hkf9 hko9
    go_wp2_with fail
    refine (figures_any w10 li hl0 hl1).mono ?_
    rintro e w11 ⟨rfl, hb11'⟩
    have hb11 := hb10.trans (hb11'.mono hb10.size)
    have hkf11 := hkf10.kept hb11'
    have hko11 := hko10.kept hb11'
    clear hb11' hb10 hkf10 hko10
    go_wp2_with fail
    refine (figures_any w11 co hc0 hc1).mono ?_
    rintro e w12 ⟨rfl, hb12'⟩
    have hb12 := hb11.trans (hb12'.mono hb11.size)
    have hkf12 := hkf11.kept hb12'
    have hko12 := hko11.kept hb12'
    clear hb12' hb11 hkf11 hko11
    go_wp2_with fail
    refine (unwrap_any w12 w2.heap.size li co _ hkf12).mono ?_
    rintro e w13 ⟨rfl, n13, rfl⟩
    have hb13 := below_drewN hb12 n13
    have hko13 := hko12.drewN n13
    have hkf13 := hkf12.drewN n13
    clear hb12 hko12 hkf12
    go_wp2_with fail
    refine (HN (w12.drewN n13) (hE.below hb13)).mono ?_
    rintro e w14 ⟨rfl, hb14'⟩
    have hb14 := hb13.trans (hb14'.mono hb13.size)
    have hko14 := hko13.kept hb14'
    have hkf14 := hkf13.kept hb14'
    clear hb14' hb13 hko13 hkf13
    go_wp2_with fail
    refine (show Calls Tryd.prog 18 #[.int .i64 3] w14 fun e w' => e = .returned (.string { data := #[116, 101, 120, 116] }) ∧ w' = w14 from name_any w14 3).mono ?_
    rintro e w15 ⟨rfl, rfl⟩
    go_wp2_with fail
    go_ret
    exact ⟨rfl, hb14⟩
  by_cases h4 : n = 4
  · as_aux_lemma =>
    subst h4
    obtain ⟨w9, hw9⟩ : ∃ w9, w9 = w8.alloc (.cells #[.string { data := #[119, 111, 114, 100] }, .string { data := #[105, 110, 116] }, .string { data := #[116, 101, 120, 116] }, .string { data := #[115, 105, 103, 110] }] 9) := ⟨_, rfl⟩
    have hb9' : Below w8.heap.size w8 w9 := hw9 ▸ (Below.refl _ _).alloc (Nat.le_refl _) _
    have hb9 := hb8.trans (hb9'.mono hb8.size)
    have hkf9 := hkf8.kept hb9'
    have hko9 := hko8.kept hb9'
    clear hb9' hb8 hkf8 hko8
    go_wp2_with fail
    rw [← hw9]
    clear hw9
    refine (error_any w9 w2.heap.size li co _ hkf9 hl0 hl1 hc0 hc1 (tab_below hP hb9)).mono ?_
    rintro e w10 ⟨rfl, hb10'⟩
    have hb10 := hb9.trans (hb10'.mono hb9.size)
    have hkf10 := hkf9.kept hb10'
    have hko10 := hko9.kept hb10'
    clear hb10' hb9 hkf9 hko9
    go_wp2_with fail
    refine (figures_any w10 li hl0 hl1).mono ?_
    rintro e w11 ⟨rfl, hb11'⟩
    have hb11 := hb10.trans (hb11'.mono hb10.size)
    have hkf11 := hkf10.kept hb11'
    have hko11 := hko10.kept hb11'
    clear hb11' hb10 hkf10 hko10
    go_wp2_with fail
    refine (figures_any w11 co hc0 hc1).mono ?_
    rintro e w12 ⟨rfl, hb12'⟩
    have hb12 := hb11.trans (hb12'.mono hb11.size)
    have hkf12 := hkf11.kept hb12'
    have hko12 := hko11.kept hb12'
    clear hb12' hb11 hkf11 hko11
    go_wp2_with fail
    refine (unwrap_any w12 w2.heap.size li co _ hkf12).mono ?_
    rintro e w13 ⟨rfl, n13, rfl⟩
    have hb13 := below_drewN hb12 n13
    have hko13 := hko12.drewN n13
    have hkf13 := hkf12.drewN n13
    clear hb12 hko12 hkf12
    go_wp2_with fail
    refine (HN (w12.drewN n13) (hE.below hb13)).mono ?_
    rintro e w14 ⟨rfl, hb14'⟩
    have hb14 := hb13.trans (hb14'.mono hb13.size)
    have hko14 := hko13.kept hb14'
    have hkf14 := hkf13.kept hb14'
    clear hb14' hb13 hko13 hkf13
    go_wp2_with fail
    refine (show Calls Tryd.prog 18 #[.int .i64 4] w14 fun e w' => e = .returned (.string { data := #[115, 105, 103, 110] }) ∧ w' = w14 from name_any w14 4).mono ?_
    rintro e w15 ⟨rfl, rfl⟩
    go_wp2_with fail
    go_ret
    exact ⟨rfl, hb14⟩
  have hNM : ∀ u, Calls Tryd.prog 18 #[.int .i64 n] u fun e w' => e = .returned (.string { data := #[] }) ∧ w' = u := fun u => by
    have := name_any u n
    unfold kindWord at this
    rw [if_neg h1, if_neg h2, if_neg h3, if_neg h4] at this
    exact this
  by_cases hlo : n < 1
  · as_aux_lemma =>
    have hlo' : ¬ 1 ≤ n := by omega
    obtain ⟨w9, hw9⟩ : ∃ w9, w9 = w8 := ⟨_, rfl⟩
    rw [← hw9] at hb8 hkf8 hko8
    have hb9 := hb8
    have hkf9 := hkf8
    have hko9 := hko8
    clear hb8 hkf8 hko8
    rw [← hw9]
    clear hw9
    go_wp2_with fail
    refine (error_any w9 w2.heap.size li co _ hkf9 hl0 hl1 hc0 hc1 (tab_below hP hb9)).mono ?_
    rintro e w10 ⟨rfl, hb10'⟩
    have hb10 := hb9.trans (hb10'.mono hb9.size)
    have hkf10 := hkf9.kept hb10'
    have hko10 := hko9.kept hb10'
    clear hb10' hb9 hkf9 hko9
    go_wp2_with fail
    refine (figures_any w10 li hl0 hl1).mono ?_
    rintro e w11 ⟨rfl, hb11'⟩
    have hb11 := hb10.trans (hb11'.mono hb10.size)
    have hkf11 := hkf10.kept hb11'
    have hko11 := hko10.kept hb11'
    clear hb11' hb10 hkf10 hko10
    go_wp2_with fail
    refine (figures_any w11 co hc0 hc1).mono ?_
    rintro e w12 ⟨rfl, hb12'⟩
    have hb12 := hb11.trans (hb12'.mono hb11.size)
    have hkf12 := hkf11.kept hb12'
    have hko12 := hko11.kept hb12'
    clear hb12' hb11 hkf11 hko11
    go_wp2_with fail
    refine (unwrap_any w12 w2.heap.size li co _ hkf12).mono ?_
    rintro e w13 ⟨rfl, n13, rfl⟩
    have hb13 := below_drewN hb12 n13
    have hko13 := hko12.drewN n13
    have hkf13 := hkf12.drewN n13
    clear hb12 hko12 hkf12
    go_wp2_with fail
    refine (HN (w12.drewN n13) (hE.below hb13)).mono ?_
    rintro e w14 ⟨rfl, hb14'⟩
    have hb14 := hb13.trans (hb14'.mono hb13.size)
    have hko14 := hko13.kept hb14'
    have hkf14 := hkf13.kept hb14'
    clear hb14' hb13 hko13 hkf13
    go_wp2_with fail
    refine (show Calls Tryd.prog 18 #[.int .i64 n] w14 fun e w' => e = .returned (.string { data := #[] }) ∧ w' = w14 from hNM w14).mono ?_
    rintro e w15 ⟨rfl, rfl⟩
    go_wp2_with fail
    go_ret
    exact ⟨rfl, hb14⟩
  · have hlo' : 1 ≤ n := by omega
    have hhi : ¬ n ≤ 4 := by omega
    have hhi' : 4 < n := by omega
    obtain ⟨w9, hw9⟩ : ∃ w9, w9 = w8 := ⟨_, rfl⟩
    rw [← hw9] at hb8 hkf8 hko8
    have hb9 := hb8
    have hkf9 := hkf8
    have hko9 := hko8
    clear hb8 hkf8 hko8
    rw [← hw9]
    clear hw9
    go_wp2_with fail
    refine (error_any w9 w2.heap.size li co _ hkf9 hl0 hl1 hc0 hc1 (tab_below hP hb9)).mono ?_
    rintro e w10 ⟨rfl, hb10'⟩
    have hb10 := hb9.trans (hb10'.mono hb9.size)
    have hkf10 := hkf9.kept hb10'
    have hko10 := hko9.kept hb10'
    clear hb10' hb9 hkf9 hko9
    go_wp2_with fail
    refine (figures_any w10 li hl0 hl1).mono ?_
    rintro e w11 ⟨rfl, hb11'⟩
    have hb11 := hb10.trans (hb11'.mono hb10.size)
    have hkf11 := hkf10.kept hb11'
    have hko11 := hko10.kept hb11'
    clear hb11' hb10 hkf10 hko10
    go_wp2_with fail
    refine (figures_any w11 co hc0 hc1).mono ?_
    rintro e w12 ⟨rfl, hb12'⟩
    have hb12 := hb11.trans (hb12'.mono hb11.size)
    have hkf12 := hkf11.kept hb12'
    have hko12 := hko11.kept hb12'
    clear hb12' hb11 hkf11 hko11
    go_wp2_with fail
    refine (unwrap_any w12 w2.heap.size li co _ hkf12).mono ?_
    rintro e w13 ⟨rfl, n13, rfl⟩
    have hb13 := below_drewN hb12 n13
    have hko13 := hko12.drewN n13
    have hkf13 := hkf12.drewN n13
    clear hb12 hko12 hkf12
    go_wp2_with fail
    refine (HN (w12.drewN n13) (hE.below hb13)).mono ?_
    rintro e w14 ⟨rfl, hb14'⟩
    have hb14 := hb13.trans (hb14'.mono hb13.size)
    have hko14 := hko13.kept hb14'
    have hkf14 := hkf13.kept hb14'
    clear hb14' hb13 hko13 hkf13
    go_wp2_with fail
    refine (show Calls Tryd.prog 18 #[.int .i64 n] w14 fun e w' => e = .returned (.string { data := #[] }) ∧ w' = w14 from hNM w14).mono ?_
    rintro e w15 ⟨rfl, rfl⟩
    go_wp2_with fail
    go_ret
    exact ⟨rfl, hb14⟩

set_option maxRecDepth 100000 in
set_option maxHeartbeats 8000000 in
theorem faults_1 (w : World) (A : Nat → Addr) (m : Int) (hE : Errs w A) (hL : Lx w A m) (hT : ErrT w) (hP : Lib.TabIs Tryd.prog w "internal/strconv.uint64pow10" .u64 Lib.pow10Tab) (li co n : Int) (hl0 : -9223372036854775808 ≤ li) (hl1 : li ≤ 9223372036854775807) (hc0 : -9223372036854775808 ≤ co) (hc1 : co ≤ 9223372036854775807) (b : Nat) (hb19 : b < 19) (hrem0 : (IntKind.u64.wrap n).tmod 20 = (b : Int) + 1) :
    Calls Tryd.prog 5 #[.int .i64 li, .int .i64 co, .int .i64 n] w fun e w' => e = .returned (.bool true) ∧ Below w.heap.size w w' := by
  obtain ⟨z, hz⟩ : ∃ z : Int, z = (b : Int) + 1 := ⟨_, rfl⟩
  have hrem : (IntKind.u64.wrap n).tmod 20 = z := by rw [hrem0, hz]
  have hz0 : (z == 0) = false := by simp; omega
  have hz1 : ¬ z = 0 := by omega
  have hwk : IntKind.i64.wrap z = z := IntWalk.i64_in _ (by omega)
  have HER : ∀ u, Errs u A → Calls Tryd.prog 12 #[.int .i64 z] u fun e w' => e = .returned (.iface tE (.pointer (some (A b)))) ∧ Below u.heap.size u w' := fun u hu => by
    have := err_any u A hu (b + 1) (by omega)
    rw [show ((b + 1 : Nat) : Int) = z by omega] at this
    exact this
  have HN : ∀ u, Errs u A → Calls Tryd.prog 16 #[.iface tE (.pointer (some (A b)))] u fun e w' => e = .returned (.int .i64 z) ∧ Below u.heap.size u w' := fun u hu => by
    have := num_of u A hu (b + 1) (by omega)
    rw [show ((b + 1 : Nat) : Int) = z by omega] at this
    exact this
  have HO : ∀ {f g : Nat} (u : World), Errs u A → Blk u g 40 [.int .i64 7, .int .i64 8, .iface tFlt (.pointer (some ⟨f, 0, none⟩))] → Blk u f 40 [.int .i64 li, .int .i64 co, .iface tE (.pointer (some (A b)))] →
      Calls Tryd.prog 16 #[.iface tFlt (.pointer (some ⟨g, 0, none⟩))] u fun e w' => e = .returned (.int .i64 z) ∧ Below u.heap.size u w' := fun {f g} u hu hg hf => by
    rw [hz]
    exact num_chain u A hu b hb19 2 _ ⟨g, 7, 8, _, rfl, hg, ⟨f, li, co, _, rfl, hf, rfl⟩⟩
  have HER' := Lib.hid HER
  clear hz hrem0
  have z1 : (str (Lib.itoa li)).size ≤ 21 := by rw [strSize]; exact itoa_len li hl0 hl1
  have z2 : (str (Lib.itoa co)).size ≤ 21 := by rw [strSize]; exact itoa_len co hc0 hc1
  have z3 : (str (Lib.itoa li ++ [58])).size ≤ 22 := by rw [strSize, List.length_append]; have := itoa_len li hl0 hl1; simp; omega
  have hap1 : str (Lib.itoa li) ++ ({ data := #[58] } : ByteArray) = str (Lib.itoa li ++ [58]) := str_append (Lib.itoa li) [58]
  have n1 : ¬ 9223372036854775807 < (str (Lib.itoa li)).size + 1 := by omega
  have hap2 := str_append (Lib.itoa li ++ [58]) (Lib.itoa co)
  have n2 : ¬ 9223372036854775807 < (str (Lib.itoa li ++ [58])).size + (str (Lib.itoa co)).size := by omega
  go_enter Tryd.func5, Tryd.ntmps5
  go_wp2_with fail
  refine (alive07_any w A m hL).mono ?_
  rintro e w1 ⟨rfl, hb1⟩
  go_wp2_with fail
  refine (HER w1 (hE.below hb1)).mono ?_
  rintro e w2 ⟨rfl, hb2'⟩
  have hb2 := hb1.trans (hb2'.mono hb1.size)
  clear hb1 hb2'
  obtain ⟨w4, hw4⟩ : ∃ w4, w4 = (w2.alloc (.cells #[.int .i64 li, .int .i64 co, .iface tE (.pointer (some (A b)))] 40)).alloc (.cells #[.int .i64 7, .int .i64 8, .iface tFlt (.pointer (some ⟨w2.heap.size, 0, none⟩))] 40) := ⟨_, rfl⟩
  have hkf : Blk w4 w2.heap.size 40 [.int .i64 li, .int .i64 co, .iface tE (.pointer (some (A b)))] := hw4 ▸ (Blk.new w2 40 [.int .i64 li, .int .i64 co, .iface tE (.pointer (some (A b)))]).alloc _
  have hko : Blk w4 (w2.heap.size + 1) 40 [.int .i64 7, .int .i64 8, .iface tFlt (.pointer (some ⟨w2.heap.size, 0, none⟩))] := hw4 ▸ Blk.new2 w2 (.cells #[.int .i64 li, .int .i64 co, .iface tE (.pointer (some (A b)))] 40) 40 [.int .i64 7, .int .i64 8, .iface tFlt (.pointer (some ⟨w2.heap.size, 0, none⟩))]
  have hb4 : Below w.heap.size w w4 := hw4 ▸ (hb2.alloc hb2.size _).alloc (by have := hb2.size; simp; omega) _
  go_wp2_with fail
  rw [← hw4]
  clear hw4 hb2
  refine (where_hit w4 (hT.below hb4) w2.heap.size li co _ hkf).mono ?_
  rintro e w5 ⟨rfl, hb5'⟩
  have hb5 := hb4.trans (hb5'.mono hb4.size)
  have hkf5 := hkf.kept hb5'
  have hko5 := hko.kept hb5'
  clear hb5' hb4 hkf hko
  go_wp2_with fail
  refine (where_hit w5 (hT.below hb5) (w2.heap.size + 1) 7 8 (.iface tFlt (.pointer (some ⟨w2.heap.size, 0, none⟩))) hko5).mono ?_
  rintro e w6 ⟨rfl, hb6'⟩
  have hb6 := hb5.trans (hb6'.mono hb5.size)
  have hkf6 := hkf5.kept hb6'
  have hko6 := hko5.kept hb6'
  clear hb6' hb5 hkf5 hko5
  go_wp2_with fail
  refine (HER w6 (hE.below hb6)).mono ?_
  rintro e w7 ⟨rfl, hb7'⟩
  have hb7 := hb6.trans (hb7'.mono hb6.size)
  have hkf7 := hkf6.kept hb7'
  have hko7 := hko6.kept hb7'
  clear hb7' hb6 hkf6 hko6
  go_wp2_with fail
  refine (where_miss w7 (hT.below hb7) _).mono ?_
  rintro e w8 ⟨rfl, hb8'⟩
  have hb8 := hb7.trans (hb8'.mono hb7.size)
  have hkf8 := hkf7.kept hb8'
  have hko8 := hko7.kept hb8'
  clear hb8' hb7 hkf7 hko7
  by_cases h1 : n = 1
  · as_aux_lemma =>
    subst h1
    obtain ⟨w9, hw9⟩ : ∃ w9, w9 = w8.alloc (.cells #[.string { data := #[119, 111, 114, 100] }, .string { data := #[105, 110, 116] }, .string { data := #[116, 101, 120, 116] }, .string { data := #[115, 105, 103, 110] }] 9) := ⟨_, rfl⟩
    have hb9' : Below w8.heap.size w8 w9 := hw9 ▸ (Below.refl _ _).alloc (Nat.le_refl _) _
    have hb9 := hb8.trans (hb9'.mono hb8.size)
    have hkf9 := hkf8.kept hb9'
    have hko9 := hko8.kept hb9'
    clear hb9' hb8 hkf8 hko8
    go_wp2_with fail
    rw [← hw9]
    clear hw9
    refine (error_any w9 w2.heap.size li co _ hkf9 hl0 hl1 hc0 hc1 (tab_below hP hb9)).mono ?_
    rintro e w10 ⟨rfl, hb10'⟩
    have hb10 := hb9.trans (hb10'.mono hb9.size)
    have hkf10 := hkf9.kept hb10'
    have hko10 := hko9.kept hb10'
    clear hb10' hb9 hkf9 hko9
    go_wp2_with fail
    refine (figures_any w10 li hl0 hl1).mono ?_
    rintro e w11 ⟨rfl, hb11'⟩
    have hb11 := hb10.trans (hb11'.mono hb10.size)
    have hkf11 := hkf10.kept hb11'
    have hko11 := hko10.kept hb11'
    clear hb11' hb10 hkf10 hko10
    go_wp2_with fail
    refine (figures_any w11 co hc0 hc1).mono ?_
    rintro e w12 ⟨rfl, hb12'⟩
    have hb12 := hb11.trans (hb12'.mono hb11.size)
    have hkf12 := hkf11.kept hb12'
    have hko12 := hko11.kept hb12'
    clear hb12' hb11 hkf11 hko11
    go_wp2_with fail
    refine (unwrap_any w12 w2.heap.size li co _ hkf12).mono ?_
    rintro e w13 ⟨rfl, n13, rfl⟩
    have hb13 := below_drewN hb12 n13
    have hko13 := hko12.drewN n13
    have hkf13 := hkf12.drewN n13
    clear hb12 hko12 hkf12
    go_wp2_with fail
    refine (HN (w12.drewN n13) (hE.below hb13)).mono ?_
    rintro e w14 ⟨rfl, hb14'⟩
    have hb14 := hb13.trans (hb14'.mono hb13.size)
    have hko14 := hko13.kept hb14'
    have hkf14 := hkf13.kept hb14'
    clear hb14' hb13 hko13 hkf13
    go_wp2_with fail
    refine (show Calls Tryd.prog 18 #[.int .i64 1] w14 fun e w' => e = .returned (.string { data := #[119, 111, 114, 100] }) ∧ w' = w14 from name_any w14 1).mono ?_
    rintro e w15 ⟨rfl, rfl⟩
    go_wp2_with fail
    refine (HO _ (hE.below hb14) hko14 hkf14).mono ?_
    rintro e w16 ⟨rfl, hb16⟩
    go_wp2_with fail
    go_ret
    exact ⟨rfl, hb14.trans (hb16.mono hb14.size)⟩
  by_cases h2 : n = 2
  · as_aux_lemma =>
    subst h2
    obtain ⟨w9, hw9⟩ : ∃ w9, w9 = w8.alloc (.cells #[.string { data := #[119, 111, 114, 100] }, .string { data := #[105, 110, 116] }, .string { data := #[116, 101, 120, 116] }, .string { data := #[115, 105, 103, 110] }] 9) := ⟨_, rfl⟩
    have hb9' : Below w8.heap.size w8 w9 := hw9 ▸ (Below.refl _ _).alloc (Nat.le_refl _) _
    have hb9 := hb8.trans (hb9'.mono hb8.size)
    have hkf9 := hkf8.kept hb9'
    have hko9 := hko8.kept hb9'
    clear hb9' hb8 hkf8 hko8
    go_wp2_with fail
    rw [← hw9]
    clear hw9
    refine (error_any w9 w2.heap.size li co _ hkf9 hl0 hl1 hc0 hc1 (tab_below hP hb9)).mono ?_
    rintro e w10 ⟨rfl, hb10'⟩
    have hb10 := hb9.trans (hb10'.mono hb9.size)
    have hkf10 := hkf9.kept hb10'
    have hko10 := hko9.kept hb10'
    clear hb10' hb9 hkf9 hko9
    go_wp2_with fail
    refine (figures_any w10 li hl0 hl1).mono ?_
    rintro e w11 ⟨rfl, hb11'⟩
    have hb11 := hb10.trans (hb11'.mono hb10.size)
    have hkf11 := hkf10.kept hb11'
    have hko11 := hko10.kept hb11'
    clear hb11' hb10 hkf10 hko10
    go_wp2_with fail
    refine (figures_any w11 co hc0 hc1).mono ?_
    rintro e w12 ⟨rfl, hb12'⟩
    have hb12 := hb11.trans (hb12'.mono hb11.size)
    have hkf12 := hkf11.kept hb12'
    have hko12 := hko11.kept hb12'
    clear hb12' hb11 hkf11 hko11
    go_wp2_with fail
    refine (unwrap_any w12 w2.heap.size li co _ hkf12).mono ?_
    rintro e w13 ⟨rfl, n13, rfl⟩
    have hb13 := below_drewN hb12 n13
    have hko13 := hko12.drewN n13
    have hkf13 := hkf12.drewN n13
    clear hb12 hko12 hkf12
    go_wp2_with fail
    refine (HN (w12.drewN n13) (hE.below hb13)).mono ?_
    rintro e w14 ⟨rfl, hb14'⟩
    have hb14 := hb13.trans (hb14'.mono hb13.size)
    have hko14 := hko13.kept hb14'
    have hkf14 := hkf13.kept hb14'
    clear hb14' hb13 hko13 hkf13
    go_wp2_with fail
    refine (show Calls Tryd.prog 18 #[.int .i64 2] w14 fun e w' => e = .returned (.string { data := #[105, 110, 116] }) ∧ w' = w14 from name_any w14 2).mono ?_
    rintro e w15 ⟨rfl, rfl⟩
    go_wp2_with fail
    refine (HO _ (hE.below hb14) hko14 hkf14).mono ?_
    rintro e w16 ⟨rfl, hb16⟩
    go_wp2_with fail
    go_ret
    exact ⟨rfl, hb14.trans (hb16.mono hb14.size)⟩
  by_cases h3 : n = 3
  · as_aux_lemma =>
    subst h3
    obtain ⟨w9, hw9⟩ : ∃ w9, w9 = w8.alloc (.cells #[.string { data := #[119, 111, 114, 100] }, .string { data := #[105, 110, 116] }, .string { data := #[116, 101, 120, 116] }, .string { data := #[115, 105, 103, 110] }] 9) := ⟨_, rfl⟩
    have hb9' : Below w8.heap.size w8 w9 := hw9 ▸ (Below.refl _ _).alloc (Nat.le_refl _) _
    have hb9 := hb8.trans (hb9'.mono hb8.size)
    have hkf9 := hkf8.kept hb9'
    have hko9 := hko8.kept hb9'
    clear hb9' hb8 hkf8 hko8
    go_wp2_with fail
    rw [← hw9]
    clear hw9
    refine (error_any w9 w2.heap.size li co _ hkf9 hl0 hl1 hc0 hc1 (tab_below hP hb9)).mono ?_
    rintro e w10 ⟨rfl, hb10'⟩
    have hb10 := hb9.trans (hb10'.mono hb9.size)
    have hkf10 := hkf9.kept hb10'
    have hko10 := hko9.kept hb10'
    clear hb10' hb9 hkf9 hko9
    go_wp2_with fail
    refine (figures_any w10 li hl0 hl1).mono ?_
    rintro e w11 ⟨rfl, hb11'⟩
    have hb11 := hb10.trans (hb11'.mono hb10.size)
    have hkf11 := hkf10.kept hb11'
    have hko11 := hko10.kept hb11'
    clear hb11' hb10 hkf10 hko10
    go_wp2_with fail
    refine (figures_any w11 co hc0 hc1).mono ?_
    rintro e w12 ⟨rfl, hb12'⟩
    have hb12 := hb11.trans (hb12'.mono hb11.size)
    have hkf12 := hkf11.kept hb12'
    have hko12 := hko11.kept hb12'
    clear hb12' hb11 hkf11 hko11
    go_wp2_with fail
    refine (unwrap_any w12 w2.heap.size li co _ hkf12).mono ?_
    rintro e w13 ⟨rfl, n13, rfl⟩
    have hb13 := below_drewN hb12 n13
    have hko13 := hko12.drewN n13
    have hkf13 := hkf12.drewN n13
    clear hb12 hko12 hkf12
    go_wp2_with fail
    refine (HN (w12.drewN n13) (hE.below hb13)).mono ?_
    rintro e w14 ⟨rfl, hb14'⟩
    have hb14 := hb13.trans (hb14'.mono hb13.size)
    have hko14 := hko13.kept hb14'
    have hkf14 := hkf13.kept hb14'
    clear hb14' hb13 hko13 hkf13
    go_wp2_with fail
    refine (show Calls Tryd.prog 18 #[.int .i64 3] w14 fun e w' => e = .returned (.string { data := #[116, 101, 120, 116] }) ∧ w' = w14 from name_any w14 3).mono ?_
    rintro e w15 ⟨rfl, rfl⟩
    go_wp2_with fail
    refine (HO _ (hE.below hb14) hko14 hkf14).mono ?_
    rintro e w16 ⟨rfl, hb16⟩
    go_wp2_with fail
    go_ret
    exact ⟨rfl, hb14.trans (hb16.mono hb14.size)⟩
  by_cases h4 : n = 4
  · as_aux_lemma =>
    subst h4
    obtain ⟨w9, hw9⟩ : ∃ w9, w9 = w8.alloc (.cells #[.string { data := #[119, 111, 114, 100] }, .string { data := #[105, 110, 116] }, .string { data := #[116, 101, 120, 116] }, .string { data := #[115, 105, 103, 110] }] 9) := ⟨_, rfl⟩
    have hb9' : Below w8.heap.size w8 w9 := hw9 ▸ (Below.refl _ _).alloc (Nat.le_refl _) _
    have hb9 := hb8.trans (hb9'.mono hb8.size)
    have hkf9 := hkf8.kept hb9'
    have hko9 := hko8.kept hb9'
    clear hb9' hb8 hkf8 hko8
    go_wp2_with fail
    rw [← hw9]
    clear hw9
    refine (error_any w9 w2.heap.size li co _ hkf9 hl0 hl1 hc0 hc1 (tab_below hP hb9)).mono ?_
    rintro e w10 ⟨rfl, hb10'⟩
    have hb10 := hb9.trans (hb10'.mono hb9.size)
    have hkf10 := hkf9.kept hb10'
    have hko10 := hko9.kept hb10'
    clear hb10' hb9 hkf9 hko9
    go_wp2_with fail
    refine (figures_any w10 li hl0 hl1).mono ?_
    rintro e w11 ⟨rfl, hb11'⟩
    have hb11 := hb10.trans (hb11'.mono hb10.size)
    have hkf11 := hkf10.kept hb11'
    have hko11 := hko10.kept hb11'
    clear hb11' hb10 hkf10 hko10
    go_wp2_with fail
    refine (figures_any w11 co hc0 hc1).mono ?_
    rintro e w12 ⟨rfl, hb12'⟩
    have hb12 := hb11.trans (hb12'.mono hb11.size)
    have hkf12 := hkf11.kept hb12'
    have hko12 := hko11.kept hb12'
    clear hb12' hb11 hkf11 hko11
    go_wp2_with fail
    refine (unwrap_any w12 w2.heap.size li co _ hkf12).mono ?_
    rintro e w13 ⟨rfl, n13, rfl⟩
    have hb13 := below_drewN hb12 n13
    have hko13 := hko12.drewN n13
    have hkf13 := hkf12.drewN n13
    clear hb12 hko12 hkf12
    go_wp2_with fail
    refine (HN (w12.drewN n13) (hE.below hb13)).mono ?_
    rintro e w14 ⟨rfl, hb14'⟩
    have hb14 := hb13.trans (hb14'.mono hb13.size)
    have hko14 := hko13.kept hb14'
    have hkf14 := hkf13.kept hb14'
    clear hb14' hb13 hko13 hkf13
    go_wp2_with fail
    refine (show Calls Tryd.prog 18 #[.int .i64 4] w14 fun e w' => e = .returned (.string { data := #[115, 105, 103, 110] }) ∧ w' = w14 from name_any w14 4).mono ?_
    rintro e w15 ⟨rfl, rfl⟩
    go_wp2_with fail
    refine (HO _ (hE.below hb14) hko14 hkf14).mono ?_
    rintro e w16 ⟨rfl, hb16⟩
    go_wp2_with fail
    go_ret
    exact ⟨rfl, hb14.trans (hb16.mono hb14.size)⟩
  have hNM : ∀ u, Calls Tryd.prog 18 #[.int .i64 n] u fun e w' => e = .returned (.string { data := #[] }) ∧ w' = u := fun u => by
    have := name_any u n
    unfold kindWord at this
    rw [if_neg h1, if_neg h2, if_neg h3, if_neg h4] at this
    exact this
  by_cases hlo : n < 1
  · as_aux_lemma =>
    have hlo' : ¬ 1 ≤ n := by omega
    obtain ⟨w9, hw9⟩ : ∃ w9, w9 = w8 := ⟨_, rfl⟩
    rw [← hw9] at hb8 hkf8 hko8
    have hb9 := hb8
    have hkf9 := hkf8
    have hko9 := hko8
    clear hb8 hkf8 hko8
    rw [← hw9]
    clear hw9
    go_wp2_with fail
    refine (error_any w9 w2.heap.size li co _ hkf9 hl0 hl1 hc0 hc1 (tab_below hP hb9)).mono ?_
    rintro e w10 ⟨rfl, hb10'⟩
    have hb10 := hb9.trans (hb10'.mono hb9.size)
    have hkf10 := hkf9.kept hb10'
    have hko10 := hko9.kept hb10'
    clear hb10' hb9 hkf9 hko9
    go_wp2_with fail
    refine (figures_any w10 li hl0 hl1).mono ?_
    rintro e w11 ⟨rfl, hb11'⟩
    have hb11 := hb10.trans (hb11'.mono hb10.size)
    have hkf11 := hkf10.kept hb11'
    have hko11 := hko10.kept hb11'
    clear hb11' hb10 hkf10 hko10
    go_wp2_with fail
    refine (figures_any w11 co hc0 hc1).mono ?_
    rintro e w12 ⟨rfl, hb12'⟩
    have hb12 := hb11.trans (hb12'.mono hb11.size)
    have hkf12 := hkf11.kept hb12'
    have hko12 := hko11.kept hb12'
    clear hb12' hb11 hkf11 hko11
    go_wp2_with fail
    refine (unwrap_any w12 w2.heap.size li co _ hkf12).mono ?_
    rintro e w13 ⟨rfl, n13, rfl⟩
    have hb13 := below_drewN hb12 n13
    have hko13 := hko12.drewN n13
    have hkf13 := hkf12.drewN n13
    clear hb12 hko12 hkf12
    go_wp2_with fail
    refine (HN (w12.drewN n13) (hE.below hb13)).mono ?_
    rintro e w14 ⟨rfl, hb14'⟩
    have hb14 := hb13.trans (hb14'.mono hb13.size)
    have hko14 := hko13.kept hb14'
    have hkf14 := hkf13.kept hb14'
    clear hb14' hb13 hko13 hkf13
    go_wp2_with fail
    refine (show Calls Tryd.prog 18 #[.int .i64 n] w14 fun e w' => e = .returned (.string { data := #[] }) ∧ w' = w14 from hNM w14).mono ?_
    rintro e w15 ⟨rfl, rfl⟩
    go_wp2_with fail
    refine (HO _ (hE.below hb14) hko14 hkf14).mono ?_
    rintro e w16 ⟨rfl, hb16⟩
    go_wp2_with fail
    go_ret
    exact ⟨rfl, hb14.trans (hb16.mono hb14.size)⟩
  · have hlo' : 1 ≤ n := by omega
    have hhi : ¬ n ≤ 4 := by omega
    have hhi' : 4 < n := by omega
    obtain ⟨w9, hw9⟩ : ∃ w9, w9 = w8 := ⟨_, rfl⟩
    rw [← hw9] at hb8 hkf8 hko8
    have hb9 := hb8
    have hkf9 := hkf8
    have hko9 := hko8
    clear hb8 hkf8 hko8
    rw [← hw9]
    clear hw9
    go_wp2_with fail
    refine (error_any w9 w2.heap.size li co _ hkf9 hl0 hl1 hc0 hc1 (tab_below hP hb9)).mono ?_
    rintro e w10 ⟨rfl, hb10'⟩
    have hb10 := hb9.trans (hb10'.mono hb9.size)
    have hkf10 := hkf9.kept hb10'
    have hko10 := hko9.kept hb10'
    clear hb10' hb9 hkf9 hko9
    go_wp2_with fail
    refine (figures_any w10 li hl0 hl1).mono ?_
    rintro e w11 ⟨rfl, hb11'⟩
    have hb11 := hb10.trans (hb11'.mono hb10.size)
    have hkf11 := hkf10.kept hb11'
    have hko11 := hko10.kept hb11'
    clear hb11' hb10 hkf10 hko10
    go_wp2_with fail
    refine (figures_any w11 co hc0 hc1).mono ?_
    rintro e w12 ⟨rfl, hb12'⟩
    have hb12 := hb11.trans (hb12'.mono hb11.size)
    have hkf12 := hkf11.kept hb12'
    have hko12 := hko11.kept hb12'
    clear hb12' hb11 hkf11 hko11
    go_wp2_with fail
    refine (unwrap_any w12 w2.heap.size li co _ hkf12).mono ?_
    rintro e w13 ⟨rfl, n13, rfl⟩
    have hb13 := below_drewN hb12 n13
    have hko13 := hko12.drewN n13
    have hkf13 := hkf12.drewN n13
    clear hb12 hko12 hkf12
    go_wp2_with fail
    refine (HN (w12.drewN n13) (hE.below hb13)).mono ?_
    rintro e w14 ⟨rfl, hb14'⟩
    have hb14 := hb13.trans (hb14'.mono hb13.size)
    have hko14 := hko13.kept hb14'
    have hkf14 := hkf13.kept hb14'
    clear hb14' hb13 hko13 hkf13
    go_wp2_with fail
    refine (show Calls Tryd.prog 18 #[.int .i64 n] w14 fun e w' => e = .returned (.string { data := #[] }) ∧ w' = w14 from hNM w14).mono ?_
    rintro e w15 ⟨rfl, rfl⟩
    go_wp2_with fail
    refine (HO _ (hE.below hb14) hko14 hkf14).mono ?_
    rintro e w16 ⟨rfl, hb16⟩
    go_wp2_with fail
    go_ret
    exact ⟨rfl, hb14.trans (hb16.mono hb14.size)⟩

theorem faults_any (w : World) (A : Nat → Addr) (m : Int) (hE : Errs w A) (hL : Lx w A m) (hT : ErrT w) (hP : Lib.TabIs Tryd.prog w "internal/strconv.uint64pow10" .u64 Lib.pow10Tab) (li co n : Int) (hl0 : -9223372036854775808 ≤ li) (hl1 : li ≤ 9223372036854775807) (hc0 : -9223372036854775808 ≤ co) (hc1 : co ≤ 9223372036854775807) :
    Calls Tryd.prog 5 #[.int .i64 li, .int .i64 co, .int .i64 n] w fun e w' => e = .returned (.bool true) ∧ Below w.heap.size w w' := by
  obtain ⟨K, hK, hrem⟩ := rem20 n
  cases K with
  | zero => exact faults_0 w A m hE hL hT hP li co n hl0 hl1 hc0 hc1 hrem
  | succ b => exact faults_1 w A m hE hL hT hP li co n hl0 hl1 hc0 hc1 b (by omega) hrem
end Go.Proofs.YtgpihhigajmldaaDoor
