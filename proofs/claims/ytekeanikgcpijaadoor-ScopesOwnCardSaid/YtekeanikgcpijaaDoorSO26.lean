/- Part 26 of what the last text of this claim is proved by: walks over the program, and the math behind them. Conditions: as each theorem says. -/
import Derived.Test.YtekeanikgcpijaaDoorSO25
import Derived.Test.YtekeanikgcpijaaDoorProg
namespace Go.Proofs.YtekeanikgcpijaaDoor
open Go.RowKit
theorem lspan_full {p : UInt8 → Bool} : ∀ {l : List UInt8}, l.all p = true → lspan p l = l.length
  | [], _ => rfl
  | b :: l, h => by
    simp only [List.all_cons, Bool.and_eq_true] at h
    rw [lspan_pos h.1, lspan_full h.2, List.length_cons]
theorem lspan_less {p : UInt8 → Bool} : ∀ {l : List UInt8}, l.all p = false → lspan p l < l.length
  | [], h => by simp at h
  | b :: l, h => by
    unfold lspan
    split
    · rename_i hb
      have : l.all p = false := by
        simp only [List.all_cons, hb, Bool.true_and] at h
        exact h
      have := lspan_less this
      simp only [List.length_cons]
      omega
    · simp
theorem lval_snoc (base : Nat) (l : List UInt8) (b : UInt8) : lval base (l ++ [b]) = lval base l * base + ldig b := by simp [lval]
theorem lval_grow (base : Nat) (hb : 1 ≤ base) (l : List UInt8) : ∀ m : List UInt8, lval base l ≤ lval base (l ++ m)
  | [] => by simp
  | b :: m => by
    have h1 := lval_grow base hb (l ++ [b]) m
    rw [List.append_assoc, List.singleton_append] at h1
    have h2 := lval_snoc base l b
    have h3 : lval base l ≤ lval base l * base := Nat.le_mul_of_pos_right _ hb
    omega
theorem take_snoc {l : List UInt8} {j : Nat} {b : UInt8} (h : l[j]? = some b) : l.take (j + 1) = l.take j ++ [b] := by
  rw [List.take_add_one, h]
  rfl
theorem lval_at (base : Nat) (hb : 1 ≤ base) {l : List UInt8} {j : Nat} {b : UInt8} (h : l[j]? = some b) : lval base (l.take (j + 1)) = lval base (l.take j) * base + ldig b ∧ lval base (l.take (j + 1)) ≤ lval base l := by
  refine ⟨by rw [take_snoc h, lval_snoc], ?_⟩
  have := lval_grow base hb (l.take (j + 1)) (l.drop (j + 1))
  rwa [List.take_append_drop] at this
def NumR (w : World) (A : Nat → Addr) (r : Nat × Nat) (e : Ending) (w' : World) : Prop :=
  e = .returned (.tuple #[.int .i64 (r.1 : Int), errOf A r.2]) ∧ Below w.heap.size w w'
theorem lnb_empty (base : Nat) : lnb base [] = (0, 9) := by simp [lnb]
theorem lnb_bad {base : Nat} {l : List UInt8} (h : (l.all fun b => decide (ldig b < base)) = false) : lnb base l = (0, 9) := by
  unfold lnb; rw [if_pos (.inr h)]
theorem lnb_over {base : Nat} {l : List UInt8} (hn : l ≠ []) (h : (l.all fun b => decide (ldig b < base)) = true) (ho : 2147483647 < lval base l) : lnb base l = (0, 1) := by
  unfold lnb; rw [if_neg (by simp [hn, h]), if_pos ho]
theorem lnb_ok {base : Nat} {l : List UInt8} (hn : l ≠ []) (h : (l.all fun b => decide (ldig b < base)) = true) (ho : ¬ 2147483647 < lval base l) : lnb base l = (lval base l, 0) := by
  unfold lnb; rw [if_neg (by simp [hn, h]), if_neg ho]
set_option maxRecDepth 100000 in
set_option maxHeartbeats 1000000 in
theorem number_x (w : World) (A : Nat → Addr) (m : Int) (hL : Lx w A m) (l : List UInt8) (hl : l.length < 1000000000) (hx : decide (l.take 2 = [48, 120]) = true) (h2 : 2 ≤ l.length) :
    Calls Tryd.prog 47 #[.string (str l)] w (NumR w A (lnb 16 (l.drop 2))) := by
  have HX := Lib.hid (prefix_any w l 48 120)
  rw [hx] at HX
  clear hx
  have hfr : ∀ u, (Instr.slice 9 (.string (str l)) (some (.int .i64 2)) none none).run Tryd.prog u = .ok (.string (str (l.drop 2))) u := str_from l 2 h2
  obtain ⟨ds, hds⟩ : ∃ ds, ds = l.drop 2 := ⟨_, rfl⟩
  rw [← hds] at hfr
  have hdl : ds.length ≤ l.length := by rw [hds]; rw [List.length_drop]; omega
  rw [← hds]
  clear hds
  have hform := hL.form
  have hdz : (str ds).size = ds.length := strSize ds
  have hn := str_toList
  by_cases h0 : ds = []
  · subst h0
    rw [lnb_empty]
    go_enter Tryd.func47, Tryd.ntmps47
    go_wp2_with fail
    refine HX.out.mono ?_
    rintro e w ⟨rfl, rfl⟩
    go_wp2_with fail
    go_quiet (fail)
    obtain ⟨w1, hw1⟩ : ∃ w1, w1 = w.drewN nq := ⟨_, rfl⟩
    have hL1 : Lx w1 A m := hw1 ▸ hL.drewN nq
    have hB1 : Below w.heap.size w w1 := hw1 ▸ below_drewN (Below.refl _ _) nq
    have hform1 := hL1.form
    rw [← hw1]
    clear hw1
    go_wp2_with fail
    go_quiet (fail)
    go_wp2_with fail
    go_ret2
    exact ⟨rfl, below_drewN hB1 _⟩
  have hem : ds.isEmpty = false := by
    cases ds with
    | nil => exact absurd rfl h0
    | cons x t => rfl
  by_cases hall : (ds.all fun b => decide (ldig b < 16)) = false
  · rw [lnb_bad hall]
    have hless := lspan_less hall
    have HS := Lib.hid (fun (u : World) a => span_figure u ds a 16 (by omega))
    generalize lspan (fun b => decide (ldig b < 16)) ds = k at *
    have hlt : (k : Int) < (ds.length : Int) := by omega
    clear hall
    go_enter Tryd.func47, Tryd.ntmps47
    go_wp2_with fail
    refine HX.out.mono ?_
    rintro e w ⟨rfl, rfl⟩
    go_wp2_with fail
    go_quiet (fail)
    obtain ⟨w1, hw1⟩ : ∃ w1, w1 = w.drewN nq := ⟨_, rfl⟩
    have hL1 : Lx w1 A m := hw1 ▸ hL.drewN nq
    have hB1 : Below w.heap.size w w1 := hw1 ▸ below_drewN (Below.refl _ _) nq
    have hform1 := hL1.form
    rw [← hw1]
    clear hw1
    go_wp2_with fail
    refine (figureOf_any w1 16).mono ?_
    rintro e w2 ⟨rfl, hw2⟩
    have hc2 : w2.cell? ⟨w1.heap.size, 0, none⟩ = some (.int .i64 16) := by rw [hw2]; exact (Blk.new w1 3 [.int .i64 16]).cell 0
    have hb2 : Below w1.heap.size w1 w2 := hw2 ▸ (Below.refl _ _).alloc (Nat.le_refl _) _
    have hB2 := hB1.trans (hb2.mono hB1.size)
    have hform := (hL1.below hb2).form
    clear hw2
    go_wp2_with fail
    refine (HS.out w2 _ hc2).mono ?_
    rintro e w3 ⟨rfl, n3, hw3⟩
    have hB3 : Below w.heap.size w w3 := hw3 ▸ below_drewN hB2 n3
    have hform3 : w3.cell? ⟨3, 0, none⟩ = some (errV A 8) := hw3 ▸ hform
    clear hw3 hform
    go_wp2_with fail
    go_quiet (fail)
    go_wp2_with fail
    go_ret2
    exact ⟨rfl, below_drewN hB3 _⟩
  · have hall' : (ds.all fun b => decide (ldig b < 16)) = true := by simpa using hall
    have hfull := lspan_full hall'
    have HS := Lib.hid (fun (u : World) a => span_figure u ds a 16 (by omega))
    rw [hfull] at HS
    clear hfull hall
    have hlt : ¬ (ds.length : Int) < (ds.length : Int) := by omega
    obtain ⟨R, hR⟩ : ∃ R, R = lnb 16 ds := ⟨_, rfl⟩
    rw [← hR]
    have HR := Lib.hid hR
    clear hR
    go_enter Tryd.func47, Tryd.ntmps47
    go_wp2_with fail
    refine HX.out.mono ?_
    rintro e w ⟨rfl, rfl⟩
    go_wp2_with fail
    go_quiet (fail)
    obtain ⟨w1, hw1⟩ : ∃ w1, w1 = w.drewN nq := ⟨_, rfl⟩
    have hL1 : Lx w1 A m := hw1 ▸ hL.drewN nq
    have hB1 : Below w.heap.size w w1 := hw1 ▸ below_drewN (Below.refl _ _) nq
    have hform1 := hL1.form
    rw [← hw1]
    clear hw1
    go_wp2_with fail
    refine (figureOf_any w1 16).mono ?_
    rintro e w2 ⟨rfl, hw2⟩
    have hc2 : w2.cell? ⟨w1.heap.size, 0, none⟩ = some (.int .i64 16) := by rw [hw2]; exact (Blk.new w1 3 [.int .i64 16]).cell 0
    have hb2 : Below w1.heap.size w1 w2 := hw2 ▸ (Below.refl _ _).alloc (Nat.le_refl _) _
    have hB2 := hB1.trans (hb2.mono hB1.size)
    have hrange := (hL1.below hb2).range
    clear hw2
    go_wp2_with fail
    refine (HS.out w2 _ hc2).mono ?_
    rintro e w3 ⟨rfl, n3, hw3⟩
    have hB3 : Below w.heap.size w w3 := hw3 ▸ below_drewN hB2 n3
    have hrange3 : w3.cell? ⟨4, 0, none⟩ = some (errV A 0) := hw3 ▸ hrange
    clear hw3 hrange hc2
    go_wp2_with fail
    clear hform hform1 hfr
    go_loopg [35, 6] ds.length (fun g i n wx => ∃ (j : Nat) (N : Int), j + g = ds.length ∧ i = .int .i64 (j : Int) ∧ n = .int .i64 N ∧ Hid (N = (lval 16 (ds.take j) : Int)) ∧ 0 ≤ N ∧ N ≤ 2147483647 ∧ wx = w3)
    case atStart => exact ⟨0, 0, by omega, rfl, rfl, Lib.hid rfl, by omega, by omega, rfl⟩
    case round =>
      obtain ⟨j, N, hj, rfl, rfl, HN, hN0, hN1, rfl⟩ := hrel
      cases gk with
      | zero =>
        obtain rfl : j = ds.length := by omega
        have e : R = (lval 16 ds, 0) := by
          have h := HN.out
          rw [List.take_length] at h
          rw [HR.out]
          exact lnb_ok h0 hall' (by omega)
        go_wp2_with fail
        go_ret2
        exact ⟨by rw [e, HN.out, List.take_length]; rfl, hB3⟩
      | succ g =>
        have hjl : j < ds.length := by omega
        have hlt : (j : Int) < (ds.length : Int) := by omega
        have hix := str_index ds j hjl
        obtain ⟨b, hb⟩ : ∃ b, ds[j] = b := ⟨_, rfl⟩
        rw [hb] at hix
        have hb' : ds[j]? = some b := by rw [List.getElem?_eq_getElem hjl, hb]
        obtain ⟨hv1, hv2⟩ := lval_at 16 (by decide) hb'
        have hdb : ldig b < 16 := of_decide_eq_true (List.all_eq_true.1 hall' b (List.mem_of_getElem? hb'))
        have HD := Lib.hid (digit_any wr b)
        have HV := Lib.hid (show ((lval 16 (ds.take (j + 1)) : Nat) : Int) = N * 16 + (ldig b : Int) by rw [hv1, HN.out]; simp)
        have HV2 := Lib.hid hv2
        clear hb hb' hv1 hv2
        have hd0 : (0 : Int) ≤ (ldig b : Int) := by omega
        have hd1 : (ldig b : Int) < 16 := by omega
        clear hdb
        generalize (ldig b : Int) = d at *
        by_cases hov : 2147483647 < N * 16 + d
        · have hgt : (2147483647 - d).tdiv 16 < N := by
            rw [Int.tdiv_eq_ediv_of_nonneg (by omega)]; omega
          have e : R = (0, 1) := by
            rw [HR.out]
            refine lnb_over h0 hall' ?_
            have h1 := HV.out
            have h2 := HV2.out
            omega
          go_wp2_with fail
          refine HD.out.mono ?_
          rintro e w ⟨rfl, rfl⟩
          go_wp2_with fail
          go_quiet (fail)
          go_wp2_with fail
          go_ret2
          exact ⟨by rw [e]; rfl, below_drewN hB3 _⟩
        · have hgt : ¬ (2147483647 - d).tdiv 16 < N := by
            rw [Int.tdiv_eq_ediv_of_nonneg (by omega)]; omega
          go_wp2_with fail
          refine HD.out.mono ?_
          rintro e wr ⟨rfl, rfl⟩
          go_wp2_with fail
          go_roundg g
          case measure => omega
          case rel => exact ⟨j + 1, N * 16 + d, by omega, by go_num, by go_num, Lib.hid HV.out.symm, by omega, by omega, rfl⟩
set_option maxRecDepth 100000 in
set_option maxHeartbeats 1000000 in
theorem number_X (w : World) (A : Nat → Addr) (m : Int) (hL : Lx w A m) (l : List UInt8) (hl : l.length < 1000000000) (hx : decide (l.take 2 = [48, 120]) = false) (hy : decide (l.take 2 = [48, 88]) = true) (h2 : 2 ≤ l.length) :
    Calls Tryd.prog 47 #[.string (str l)] w (NumR w A (lnb 16 (l.drop 2))) := by
  have HX := Lib.hid (prefix_any w l 48 120)
  rw [hx] at HX
  have HY := Lib.hid (prefix_any w l 48 88)
  rw [hy] at HY
  clear hx hy
  have hfr : ∀ u, (Instr.slice 9 (.string (str l)) (some (.int .i64 2)) none none).run Tryd.prog u = .ok (.string (str (l.drop 2))) u := str_from l 2 h2
  obtain ⟨ds, hds⟩ : ∃ ds, ds = l.drop 2 := ⟨_, rfl⟩
  rw [← hds] at hfr
  have hdl : ds.length ≤ l.length := by rw [hds]; rw [List.length_drop]; omega
  rw [← hds]
  clear hds
  have hform := hL.form
  have hdz : (str ds).size = ds.length := strSize ds
  have hn := str_toList
  by_cases h0 : ds = []
  · subst h0
    rw [lnb_empty]
    go_enter Tryd.func47, Tryd.ntmps47
    go_wp2_with fail
    refine HX.out.mono ?_
    rintro e w ⟨rfl, rfl⟩
    go_wp2_with fail
    refine HY.out.mono ?_
    rintro e w ⟨rfl, rfl⟩
    go_wp2_with fail
    go_quiet (fail)
    obtain ⟨w1, hw1⟩ : ∃ w1, w1 = w.drewN nq := ⟨_, rfl⟩
    have hL1 : Lx w1 A m := hw1 ▸ hL.drewN nq
    have hB1 : Below w.heap.size w w1 := hw1 ▸ below_drewN (Below.refl _ _) nq
    have hform1 := hL1.form
    rw [← hw1]
    clear hw1
    go_wp2_with fail
    go_quiet (fail)
    go_wp2_with fail
    go_ret2
    exact ⟨rfl, below_drewN hB1 _⟩
  have hem : ds.isEmpty = false := by
    cases ds with
    | nil => exact absurd rfl h0
    | cons x t => rfl
  by_cases hall : (ds.all fun b => decide (ldig b < 16)) = false
  · rw [lnb_bad hall]
    have hless := lspan_less hall
    have HS := Lib.hid (fun (u : World) a => span_figure u ds a 16 (by omega))
    generalize lspan (fun b => decide (ldig b < 16)) ds = k at *
    have hlt : (k : Int) < (ds.length : Int) := by omega
    clear hall
    go_enter Tryd.func47, Tryd.ntmps47
    go_wp2_with fail
    refine HX.out.mono ?_
    rintro e w ⟨rfl, rfl⟩
    go_wp2_with fail
    refine HY.out.mono ?_
    rintro e w ⟨rfl, rfl⟩
    go_wp2_with fail
    go_quiet (fail)
    obtain ⟨w1, hw1⟩ : ∃ w1, w1 = w.drewN nq := ⟨_, rfl⟩
    have hL1 : Lx w1 A m := hw1 ▸ hL.drewN nq
    have hB1 : Below w.heap.size w w1 := hw1 ▸ below_drewN (Below.refl _ _) nq
    have hform1 := hL1.form
    rw [← hw1]
    clear hw1
    go_wp2_with fail
    refine (figureOf_any w1 16).mono ?_
    rintro e w2 ⟨rfl, hw2⟩
    have hc2 : w2.cell? ⟨w1.heap.size, 0, none⟩ = some (.int .i64 16) := by rw [hw2]; exact (Blk.new w1 3 [.int .i64 16]).cell 0
    have hb2 : Below w1.heap.size w1 w2 := hw2 ▸ (Below.refl _ _).alloc (Nat.le_refl _) _
    have hB2 := hB1.trans (hb2.mono hB1.size)
    have hform := (hL1.below hb2).form
    clear hw2
    go_wp2_with fail
    refine (HS.out w2 _ hc2).mono ?_
    rintro e w3 ⟨rfl, n3, hw3⟩
    have hB3 : Below w.heap.size w w3 := hw3 ▸ below_drewN hB2 n3
    have hform3 : w3.cell? ⟨3, 0, none⟩ = some (errV A 8) := hw3 ▸ hform
    clear hw3 hform
    go_wp2_with fail
    go_quiet (fail)
    go_wp2_with fail
    go_ret2
    exact ⟨rfl, below_drewN hB3 _⟩
  · have hall' : (ds.all fun b => decide (ldig b < 16)) = true := by simpa using hall
    have hfull := lspan_full hall'
    have HS := Lib.hid (fun (u : World) a => span_figure u ds a 16 (by omega))
    rw [hfull] at HS
    clear hfull hall
    have hlt : ¬ (ds.length : Int) < (ds.length : Int) := by omega
    obtain ⟨R, hR⟩ : ∃ R, R = lnb 16 ds := ⟨_, rfl⟩
    rw [← hR]
    have HR := Lib.hid hR
    clear hR
    go_enter Tryd.func47, Tryd.ntmps47
    go_wp2_with fail
    refine HX.out.mono ?_
    rintro e w ⟨rfl, rfl⟩
    go_wp2_with fail
    refine HY.out.mono ?_
    rintro e w ⟨rfl, rfl⟩
    go_wp2_with fail
    go_quiet (fail)
    obtain ⟨w1, hw1⟩ : ∃ w1, w1 = w.drewN nq := ⟨_, rfl⟩
    have hL1 : Lx w1 A m := hw1 ▸ hL.drewN nq
    have hB1 : Below w.heap.size w w1 := hw1 ▸ below_drewN (Below.refl _ _) nq
    have hform1 := hL1.form
    rw [← hw1]
    clear hw1
    go_wp2_with fail
    refine (figureOf_any w1 16).mono ?_
    rintro e w2 ⟨rfl, hw2⟩
    have hc2 : w2.cell? ⟨w1.heap.size, 0, none⟩ = some (.int .i64 16) := by rw [hw2]; exact (Blk.new w1 3 [.int .i64 16]).cell 0
    have hb2 : Below w1.heap.size w1 w2 := hw2 ▸ (Below.refl _ _).alloc (Nat.le_refl _) _
    have hB2 := hB1.trans (hb2.mono hB1.size)
    have hrange := (hL1.below hb2).range
    clear hw2
    go_wp2_with fail
    refine (HS.out w2 _ hc2).mono ?_
    rintro e w3 ⟨rfl, n3, hw3⟩
    have hB3 : Below w.heap.size w w3 := hw3 ▸ below_drewN hB2 n3
    have hrange3 : w3.cell? ⟨4, 0, none⟩ = some (errV A 0) := hw3 ▸ hrange
    clear hw3 hrange hc2
    go_wp2_with fail
    clear hform hform1 hfr
    go_loopg [35, 6] ds.length (fun g i n wx => ∃ (j : Nat) (N : Int), j + g = ds.length ∧ i = .int .i64 (j : Int) ∧ n = .int .i64 N ∧ Hid (N = (lval 16 (ds.take j) : Int)) ∧ 0 ≤ N ∧ N ≤ 2147483647 ∧ wx = w3)
    case atStart => exact ⟨0, 0, by omega, rfl, rfl, Lib.hid rfl, by omega, by omega, rfl⟩
    case round =>
      obtain ⟨j, N, hj, rfl, rfl, HN, hN0, hN1, rfl⟩ := hrel
      cases gk with
      | zero =>
        obtain rfl : j = ds.length := by omega
        have e : R = (lval 16 ds, 0) := by
          have h := HN.out
          rw [List.take_length] at h
          rw [HR.out]
          exact lnb_ok h0 hall' (by omega)
        go_wp2_with fail
        go_ret2
        exact ⟨by rw [e, HN.out, List.take_length]; rfl, hB3⟩
      | succ g =>
        have hjl : j < ds.length := by omega
        have hlt : (j : Int) < (ds.length : Int) := by omega
        have hix := str_index ds j hjl
        obtain ⟨b, hb⟩ : ∃ b, ds[j] = b := ⟨_, rfl⟩
        rw [hb] at hix
        have hb' : ds[j]? = some b := by rw [List.getElem?_eq_getElem hjl, hb]
        obtain ⟨hv1, hv2⟩ := lval_at 16 (by decide) hb'
        have hdb : ldig b < 16 := of_decide_eq_true (List.all_eq_true.1 hall' b (List.mem_of_getElem? hb'))
        have HD := Lib.hid (digit_any wr b)
        have HV := Lib.hid (show ((lval 16 (ds.take (j + 1)) : Nat) : Int) = N * 16 + (ldig b : Int) by rw [hv1, HN.out]; simp)
        have HV2 := Lib.hid hv2
        clear hb hb' hv1 hv2
        have hd0 : (0 : Int) ≤ (ldig b : Int) := by omega
        have hd1 : (ldig b : Int) < 16 := by omega
        clear hdb
        generalize (ldig b : Int) = d at *
        by_cases hov : 2147483647 < N * 16 + d
        · have hgt : (2147483647 - d).tdiv 16 < N := by
            rw [Int.tdiv_eq_ediv_of_nonneg (by omega)]; omega
          have e : R = (0, 1) := by
            rw [HR.out]
            refine lnb_over h0 hall' ?_
            have h1 := HV.out
            have h2 := HV2.out
            omega
          go_wp2_with fail
          refine HD.out.mono ?_
          rintro e w ⟨rfl, rfl⟩
          go_wp2_with fail
          go_quiet (fail)
          go_wp2_with fail
          go_ret2
          exact ⟨by rw [e]; rfl, below_drewN hB3 _⟩
        · have hgt : ¬ (2147483647 - d).tdiv 16 < N := by
            rw [Int.tdiv_eq_ediv_of_nonneg (by omega)]; omega
          go_wp2_with fail
          refine HD.out.mono ?_
          rintro e wr ⟨rfl, rfl⟩
          go_wp2_with fail
          go_roundg g
          case measure => omega
          case rel => exact ⟨j + 1, N * 16 + d, by omega, by go_num, by go_num, Lib.hid HV.out.symm, by omega, by omega, rfl⟩
set_option maxRecDepth 100000 in
set_option maxHeartbeats 1000000 in
theorem number_o (w : World) (A : Nat → Addr) (m : Int) (hL : Lx w A m) (ds : List UInt8) (hl : ds.length < 1000000000) (hx : decide (ds.take 2 = [48, 120]) = false) (hy : decide (ds.take 2 = [48, 88]) = false) (hpos : 0 < ds.length) (b : UInt8) (hb : ds[0]? = some b) (h48 : b = 48) :
    Calls Tryd.prog 47 #[.string (str ds)] w (NumR w A (lnb 8 (ds))) := by
  have HX := Lib.hid (prefix_any w ds 48 120)
  rw [hx] at HX
  have HY := Lib.hid (prefix_any w ds 48 88)
  rw [hy] at HY
  clear hx hy
  have hix : ∀ u, (Instr.index 9 (.string (str ds)) (.int .i64 0)).run Tryd.prog u = .ok (.int .u8 (b.toNat : Int)) u := fun u => by
    have h := str_index ds 0 hpos u
    rw [List.getElem?_eq_getElem hpos] at hb
    cases hb
    exact h
  subst h48
  have h48 : ((48 : UInt8).toNat : Int) = 48 := rfl
  rw [h48] at hix
  have hform := hL.form
  have hdz : (str ds).size = ds.length := strSize ds
  have hn := str_toList
  have h0 : ds ≠ [] := by rintro rfl; simp at hpos
  have hem : ds.isEmpty = false := by
    cases ds with
    | nil => exact absurd rfl h0
    | cons x t => rfl
  by_cases hall : (ds.all fun b => decide (ldig b < 8)) = false
  · rw [lnb_bad hall]
    have hless := lspan_less hall
    have HS := Lib.hid (fun (u : World) a => span_figure u ds a 8 (by omega))
    generalize lspan (fun b => decide (ldig b < 8)) ds = k at *
    have hlt : (k : Int) < (ds.length : Int) := by omega
    clear hall
    go_enter Tryd.func47, Tryd.ntmps47
    go_wp2_with fail
    refine HX.out.mono ?_
    rintro e w ⟨rfl, rfl⟩
    go_wp2_with fail
    refine HY.out.mono ?_
    rintro e w ⟨rfl, rfl⟩
    go_wp2_with fail
    have hL1 := hL
    have hB1 : Below w.heap.size w w := Below.refl _ _
    refine (figureOf_any w 8).mono ?_
    rintro e w2 ⟨rfl, hw2⟩
    have hc2 : w2.cell? ⟨w.heap.size, 0, none⟩ = some (.int .i64 8) := by rw [hw2]; exact (Blk.new w 3 [.int .i64 8]).cell 0
    have hb2 : Below w.heap.size w w2 := hw2 ▸ (Below.refl _ _).alloc (Nat.le_refl _) _
    have hB2 := hB1.trans (hb2.mono hB1.size)
    have hform := (hL1.below hb2).form
    clear hw2
    go_wp2_with fail
    refine (HS.out w2 _ hc2).mono ?_
    rintro e w3 ⟨rfl, n3, hw3⟩
    have hB3 : Below w.heap.size w w3 := hw3 ▸ below_drewN hB2 n3
    have hform3 : w3.cell? ⟨3, 0, none⟩ = some (errV A 8) := hw3 ▸ hform
    clear hw3 hform
    go_wp2_with fail
    go_quiet (fail)
    go_wp2_with fail
    go_ret2
    exact ⟨rfl, below_drewN hB3 _⟩
  · have hall' : (ds.all fun b => decide (ldig b < 8)) = true := by simpa using hall
    have hfull := lspan_full hall'
    have HS := Lib.hid (fun (u : World) a => span_figure u ds a 8 (by omega))
    rw [hfull] at HS
    clear hfull hall
    have hlt : ¬ (ds.length : Int) < (ds.length : Int) := by omega
    obtain ⟨R, hR⟩ : ∃ R, R = lnb 8 ds := ⟨_, rfl⟩
    rw [← hR]
    have HR := Lib.hid hR
    clear hR
    go_enter Tryd.func47, Tryd.ntmps47
    go_wp2_with fail
    refine HX.out.mono ?_
    rintro e w ⟨rfl, rfl⟩
    go_wp2_with fail
    refine HY.out.mono ?_
    rintro e w ⟨rfl, rfl⟩
    go_wp2_with fail
    have hL1 := hL
    have hB1 : Below w.heap.size w w := Below.refl _ _
    refine (figureOf_any w 8).mono ?_
    rintro e w2 ⟨rfl, hw2⟩
    have hc2 : w2.cell? ⟨w.heap.size, 0, none⟩ = some (.int .i64 8) := by rw [hw2]; exact (Blk.new w 3 [.int .i64 8]).cell 0
    have hb2 : Below w.heap.size w w2 := hw2 ▸ (Below.refl _ _).alloc (Nat.le_refl _) _
    have hB2 := hB1.trans (hb2.mono hB1.size)
    have hrange := (hL1.below hb2).range
    clear hw2
    go_wp2_with fail
    refine (HS.out w2 _ hc2).mono ?_
    rintro e w3 ⟨rfl, n3, hw3⟩
    have hB3 : Below w.heap.size w w3 := hw3 ▸ below_drewN hB2 n3
    have hrange3 : w3.cell? ⟨4, 0, none⟩ = some (errV A 0) := hw3 ▸ hrange
    clear hw3 hrange hc2
    go_wp2_with fail
    clear hform hix
    go_loopg [35, 6] ds.length (fun g i n wx => ∃ (j : Nat) (N : Int), j + g = ds.length ∧ i = .int .i64 (j : Int) ∧ n = .int .i64 N ∧ Hid (N = (lval 8 (ds.take j) : Int)) ∧ 0 ≤ N ∧ N ≤ 2147483647 ∧ wx = w3)
    case atStart => exact ⟨0, 0, by omega, rfl, rfl, Lib.hid rfl, by omega, by omega, rfl⟩
    case round =>
      obtain ⟨j, N, hj, rfl, rfl, HN, hN0, hN1, rfl⟩ := hrel
      cases gk with
      | zero =>
        obtain rfl : j = ds.length := by omega
        have e : R = (lval 8 ds, 0) := by
          have h := HN.out
          rw [List.take_length] at h
          rw [HR.out]
          exact lnb_ok h0 hall' (by omega)
        go_wp2_with fail
        go_ret2
        exact ⟨by rw [e, HN.out, List.take_length]; rfl, hB3⟩
      | succ g =>
        have hjl : j < ds.length := by omega
        have hlt : (j : Int) < (ds.length : Int) := by omega
        have hix := str_index ds j hjl
        obtain ⟨b, hb⟩ : ∃ b, ds[j] = b := ⟨_, rfl⟩
        rw [hb] at hix
        have hb' : ds[j]? = some b := by rw [List.getElem?_eq_getElem hjl, hb]
        obtain ⟨hv1, hv2⟩ := lval_at 8 (by decide) hb'
        have hdb : ldig b < 8 := of_decide_eq_true (List.all_eq_true.1 hall' b (List.mem_of_getElem? hb'))
        have HD := Lib.hid (digit_any wr b)
        have HV := Lib.hid (show ((lval 8 (ds.take (j + 1)) : Nat) : Int) = N * 8 + (ldig b : Int) by rw [hv1, HN.out]; simp)
        have HV2 := Lib.hid hv2
        clear hb hb' hv1 hv2
        have hd0 : (0 : Int) ≤ (ldig b : Int) := by omega
        have hd1 : (ldig b : Int) < 8 := by omega
        clear hdb
        generalize (ldig b : Int) = d at *
        by_cases hov : 2147483647 < N * 8 + d
        · have hgt : (2147483647 - d).tdiv 8 < N := by
            rw [Int.tdiv_eq_ediv_of_nonneg (by omega)]; omega
          have e : R = (0, 1) := by
            rw [HR.out]
            refine lnb_over h0 hall' ?_
            have h1 := HV.out
            have h2 := HV2.out
            omega
          go_wp2_with fail
          refine HD.out.mono ?_
          rintro e w ⟨rfl, rfl⟩
          go_wp2_with fail
          go_quiet (fail)
          go_wp2_with fail
          go_ret2
          exact ⟨by rw [e]; rfl, below_drewN hB3 _⟩
        · have hgt : ¬ (2147483647 - d).tdiv 8 < N := by
            rw [Int.tdiv_eq_ediv_of_nonneg (by omega)]; omega
          go_wp2_with fail
          refine HD.out.mono ?_
          rintro e wr ⟨rfl, rfl⟩
          go_wp2_with fail
          go_roundg g
          case measure => omega
          case rel => exact ⟨j + 1, N * 8 + d, by omega, by go_num, by go_num, Lib.hid HV.out.symm, by omega, by omega, rfl⟩
set_option maxRecDepth 100000 in
set_option maxHeartbeats 1000000 in
theorem number_d (w : World) (A : Nat → Addr) (m : Int) (hL : Lx w A m) (ds : List UInt8) (hl : ds.length < 1000000000) (hx : decide (ds.take 2 = [48, 120]) = false) (hy : decide (ds.take 2 = [48, 88]) = false) (hpos : 0 < ds.length) (b : UInt8) (hb : ds[0]? = some b) (h48 : ¬ (b.toNat : Int) = 48) :
    Calls Tryd.prog 47 #[.string (str ds)] w (NumR w A (lnb 10 (ds))) := by
  have HX := Lib.hid (prefix_any w ds 48 120)
  rw [hx] at HX
  have HY := Lib.hid (prefix_any w ds 48 88)
  rw [hy] at HY
  clear hx hy
  have hix : ∀ u, (Instr.index 9 (.string (str ds)) (.int .i64 0)).run Tryd.prog u = .ok (.int .u8 (b.toNat : Int)) u := fun u => by
    have h := str_index ds 0 hpos u
    rw [List.getElem?_eq_getElem hpos] at hb
    cases hb
    exact h
  have hform := hL.form
  have hdz : (str ds).size = ds.length := strSize ds
  have hn := str_toList
  have h0 : ds ≠ [] := by rintro rfl; simp at hpos
  have hem : ds.isEmpty = false := by
    cases ds with
    | nil => exact absurd rfl h0
    | cons x t => rfl
  by_cases hall : (ds.all fun b => decide (ldig b < 10)) = false
  · rw [lnb_bad hall]
    have hless := lspan_less hall
    have HS := Lib.hid (fun (u : World) a => span_figure u ds a 10 (by omega))
    generalize lspan (fun b => decide (ldig b < 10)) ds = k at *
    have hlt : (k : Int) < (ds.length : Int) := by omega
    clear hall
    go_enter Tryd.func47, Tryd.ntmps47
    go_wp2_with fail
    refine HX.out.mono ?_
    rintro e w ⟨rfl, rfl⟩
    go_wp2_with fail
    refine HY.out.mono ?_
    rintro e w ⟨rfl, rfl⟩
    go_wp2_with fail
    have hL1 := hL
    have hB1 : Below w.heap.size w w := Below.refl _ _
    refine (figureOf_any w 10).mono ?_
    rintro e w2 ⟨rfl, hw2⟩
    have hc2 : w2.cell? ⟨w.heap.size, 0, none⟩ = some (.int .i64 10) := by rw [hw2]; exact (Blk.new w 3 [.int .i64 10]).cell 0
    have hb2 : Below w.heap.size w w2 := hw2 ▸ (Below.refl _ _).alloc (Nat.le_refl _) _
    have hB2 := hB1.trans (hb2.mono hB1.size)
    have hform := (hL1.below hb2).form
    clear hw2
    go_wp2_with fail
    refine (HS.out w2 _ hc2).mono ?_
    rintro e w3 ⟨rfl, n3, hw3⟩
    have hB3 : Below w.heap.size w w3 := hw3 ▸ below_drewN hB2 n3
    have hform3 : w3.cell? ⟨3, 0, none⟩ = some (errV A 8) := hw3 ▸ hform
    clear hw3 hform
    go_wp2_with fail
    go_quiet (fail)
    go_wp2_with fail
    go_ret2
    exact ⟨rfl, below_drewN hB3 _⟩
  · have hall' : (ds.all fun b => decide (ldig b < 10)) = true := by simpa using hall
    have hfull := lspan_full hall'
    have HS := Lib.hid (fun (u : World) a => span_figure u ds a 10 (by omega))
    rw [hfull] at HS
    clear hfull hall
    have hlt : ¬ (ds.length : Int) < (ds.length : Int) := by omega
    obtain ⟨R, hR⟩ : ∃ R, R = lnb 10 ds := ⟨_, rfl⟩
    rw [← hR]
    have HR := Lib.hid hR
    clear hR
    go_enter Tryd.func47, Tryd.ntmps47
    go_wp2_with fail
    refine HX.out.mono ?_
    rintro e w ⟨rfl, rfl⟩
    go_wp2_with fail
    refine HY.out.mono ?_
    rintro e w ⟨rfl, rfl⟩
    go_wp2_with fail
    have hL1 := hL
    have hB1 : Below w.heap.size w w := Below.refl _ _
    refine (figureOf_any w 10).mono ?_
    rintro e w2 ⟨rfl, hw2⟩
    have hc2 : w2.cell? ⟨w.heap.size, 0, none⟩ = some (.int .i64 10) := by rw [hw2]; exact (Blk.new w 3 [.int .i64 10]).cell 0
    have hb2 : Below w.heap.size w w2 := hw2 ▸ (Below.refl _ _).alloc (Nat.le_refl _) _
    have hB2 := hB1.trans (hb2.mono hB1.size)
    have hrange := (hL1.below hb2).range
    clear hw2
    go_wp2_with fail
    refine (HS.out w2 _ hc2).mono ?_
    rintro e w3 ⟨rfl, n3, hw3⟩
    have hB3 : Below w.heap.size w w3 := hw3 ▸ below_drewN hB2 n3
    have hrange3 : w3.cell? ⟨4, 0, none⟩ = some (errV A 0) := hw3 ▸ hrange
    clear hw3 hrange hc2
    go_wp2_with fail
    clear hform hix
    go_loopg [35, 6] ds.length (fun g i n wx => ∃ (j : Nat) (N : Int), j + g = ds.length ∧ i = .int .i64 (j : Int) ∧ n = .int .i64 N ∧ Hid (N = (lval 10 (ds.take j) : Int)) ∧ 0 ≤ N ∧ N ≤ 2147483647 ∧ wx = w3)
    case atStart => exact ⟨0, 0, by omega, rfl, rfl, Lib.hid rfl, by omega, by omega, rfl⟩
    case round =>
      obtain ⟨j, N, hj, rfl, rfl, HN, hN0, hN1, rfl⟩ := hrel
      cases gk with
      | zero =>
        obtain rfl : j = ds.length := by omega
        have e : R = (lval 10 ds, 0) := by
          have h := HN.out
          rw [List.take_length] at h
          rw [HR.out]
          exact lnb_ok h0 hall' (by omega)
        go_wp2_with fail
        go_ret2
        exact ⟨by rw [e, HN.out, List.take_length]; rfl, hB3⟩
      | succ g =>
        have hjl : j < ds.length := by omega
        have hlt : (j : Int) < (ds.length : Int) := by omega
        have hix := str_index ds j hjl
        obtain ⟨b, hb⟩ : ∃ b, ds[j] = b := ⟨_, rfl⟩
        rw [hb] at hix
        have hb' : ds[j]? = some b := by rw [List.getElem?_eq_getElem hjl, hb]
        obtain ⟨hv1, hv2⟩ := lval_at 10 (by decide) hb'
        have hdb : ldig b < 10 := of_decide_eq_true (List.all_eq_true.1 hall' b (List.mem_of_getElem? hb'))
        have HD := Lib.hid (digit_any wr b)
        have HV := Lib.hid (show ((lval 10 (ds.take (j + 1)) : Nat) : Int) = N * 10 + (ldig b : Int) by rw [hv1, HN.out]; simp)
        have HV2 := Lib.hid hv2
        clear hb hb' hv1 hv2
        have hd0 : (0 : Int) ≤ (ldig b : Int) := by omega
        have hd1 : (ldig b : Int) < 10 := by omega
        clear hdb
        generalize (ldig b : Int) = d at *
        by_cases hov : 2147483647 < N * 10 + d
        · have hgt : (2147483647 - d).tdiv 10 < N := by
            rw [Int.tdiv_eq_ediv_of_nonneg (by omega)]; omega
          have e : R = (0, 1) := by
            rw [HR.out]
            refine lnb_over h0 hall' ?_
            have h1 := HV.out
            have h2 := HV2.out
            omega
          go_wp2_with fail
          refine HD.out.mono ?_
          rintro e w ⟨rfl, rfl⟩
          go_wp2_with fail
          go_quiet (fail)
          go_wp2_with fail
          go_ret2
          exact ⟨by rw [e]; rfl, below_drewN hB3 _⟩
        · have hgt : ¬ (2147483647 - d).tdiv 10 < N := by
            rw [Int.tdiv_eq_ediv_of_nonneg (by omega)]; omega
          go_wp2_with fail
          refine HD.out.mono ?_
          rintro e wr ⟨rfl, rfl⟩
          go_wp2_with fail
          go_roundg g
          case measure => omega
          case rel => exact ⟨j + 1, N * 10 + d, by omega, by go_num, by go_num, Lib.hid HV.out.symm, by omega, by omega, rfl⟩
theorem number_any (w : World) (A : Nat → Addr) (m : Int) (hL : Lx w A m) (l : List UInt8) (h0 : 0 < l.length) (hl : l.length < 1000000000) :
    Calls Tryd.prog 47 #[.string (str l)] w (NumR w A (lnum l)) := by
  have two : ∀ x y : UInt8, l.take 2 = [x, y] → 2 ≤ l.length := fun x y h => by
    have h := congrArg List.length h
    rw [List.length_take] at h
    simp only [List.length_cons, List.length_nil] at h
    omega
  unfold lnum
  by_cases hx : l.take 2 = [48, 120]
  · rw [if_pos (.inl hx)]
    exact number_x w A m hL l hl (decide_eq_true hx) (two _ _ hx)
  by_cases hy : l.take 2 = [48, 88]
  · rw [if_pos (.inr hy)]
    exact number_X w A m hL l hl (decide_eq_false hx) (decide_eq_true hy) (two _ _ hy)
  rw [if_neg (by simp [hx, hy])]
  have hb : l[0]? = some l[0] := List.getElem?_eq_getElem h0
  rw [List.head?_eq_getElem?, hb]
  by_cases h48 : l[0] = 48
  · rw [if_pos (by rw [h48])]
    exact number_o w A m hL l hl (decide_eq_false hx) (decide_eq_false hy) h0 _ hb h48
  · rw [if_neg (by simpa using h48)]
    exact number_d w A m hL l hl (decide_eq_false hx) (decide_eq_false hy) h0 _ hb (fun e => h48 (UInt8.toNat_inj.1 (by simp; omega)))
end Go.Proofs.YtekeanikgcpijaaDoor
