/- Part 36 of what the last text of this claim is proved by: walks over the program, and the math behind them. Conditions: as each theorem says. -/
import Derived.Test.YtfcjeciepadmeaaGreatDoorTx35
import Derived.Test.YtfcjeciepadmeaaGreatDoorProg
namespace Go.Proofs.YtfcjeciepadmeaaGreatDoor
open Go.RowKit
theorem ldig99_lt {b : UInt8} {n : Nat} (hn : n ≤ 16) : (ldig99 b < n ↔ ldig b < n) ∧ (ldig99 b < n → ldig99 b = ldig b) := by
  unfold ldig99 ldig
  repeat' split
  all_goals omega
theorem lval_cons0 (base : Nat) (l : List UInt8) : lval base (48 :: l) = lval base l := by
  unfold lval
  rw [List.foldl_cons, show 0 * base + ldig 48 = 0 by rw [Nat.zero_mul]; decide]
theorem lnb_lead {l : List UInt8} (h : l ≠ []) : lnb 8 (48 :: l) = lnb 8 l := by
  unfold lnb
  rw [lval_cons0]
  have e : ((48 :: l).all fun b => decide (ldig b < 8)) = (l.all fun b => decide (ldig b < 8)) := by
    rw [List.all_cons, show decide (ldig 48 < 8) = true by decide, Bool.true_and]
  rw [e]
  simp [h]
def Capped (P : Nat) (N : Int) : Prop := 0 ≤ N ∧ N ≤ 34359738367 ∧ ((P ≤ 2147483647 ∧ N = (P : Int)) ∨ (2147483647 < P ∧ 2147483647 < N))
set_option maxRecDepth 100000 in
set_option maxHeartbeats 1000000 in
theorem refNum_dec (w : World) (l : List UInt8) (hl : l.length < 1000000000) (hone : (1 : Int) < (l.length : Int)) (B : Int) (hb : (B == 48) = false) (hix0 : ∀ u, (Instr.index 9 (.string (str l)) (.int .i64 0)).run Tryz.prog u = .ok (.int .u8 B) u) :
    Calls Tryz.prog 38 #[.string (str l)] w (Ans (.tuple #[.int .i64 ((lnb 10 (l.drop 0)).1 : Int), .int .i64 ((lnb 10 (l.drop 0)).2 : Int)]) w) := by
  have hz : (str l).size = l.length := strSize l
  obtain ⟨ds, hds⟩ : ∃ ds, ds = l.drop 0 := ⟨_, rfl⟩
  have hlen : l.length = ds.length + 0 := by rw [hds, List.length_drop]; omega
  rw [← hds]
  obtain ⟨R, hR⟩ : ∃ R, R = lnb 10 ds := ⟨_, rfl⟩
  rw [← hR]
  have HR := Lib.hid hR
  have HDS := Lib.hid hds
  clear hR hds
  have HD := Lib.hid (fun (u : World) b => ref_digit_any u b)
  by_cases h0 : ds = []
  · have e : R = (0, 9) := by rw [HR.out, h0]; exact lnb_empty _
    have hle : l.length = 0 := by rw [hlen, h0]; rfl
    go_enter Tryz.func38, Tryz.ntmps38
    go_wp2_with fail
    go_ret2
    exact ⟨by first | rfl | (rw [e]; rfl), rfl⟩
  · have hpos : 0 < ds.length := List.length_pos_iff.2 h0
    have hne : ¬ ((0 : Int) = (l.length : Int)) := by omega
    have hneB : ((0 : Int) == (l.length : Int)) = false := beq_eq_false_iff_ne.2 hne
    have HLEN := Lib.hid hlen
    clear hlen
    go_enter Tryz.func38, Tryz.ntmps38
    go_wp2_with fail
    go_loopg [7, 6] ds.length (fun g i n wx => ∃ (j q : Nat) (N : Int), j + g = ds.length ∧ Hid (q = 0 + j) ∧ i = .int .i64 (q : Int) ∧ n = .int .i64 N ∧ Hid (Capped (lval 10 (ds.take j)) N) ∧ Hid (∀ (k : Nat) (b : UInt8), k < j → ds[k]? = some b → ldig b < 10) ∧ wx = w)
    case atStart => exact ⟨0, 0, 0, by omega, Lib.hid rfl, rfl, rfl, Lib.hid ⟨by omega, by omega, .inl ⟨by simp [lval], by simp [lval]⟩⟩, Lib.hid (fun k b h => absurd h (Nat.not_lt_zero _)), rfl⟩
    case round =>
      obtain ⟨j, q, N, hj, HQ, rfl, rfl, HN, HA, rfl⟩ := hrel
      obtain ⟨hN0, hN1, hN⟩ := HN.out
      have HN' := Lib.hid hN
      clear hN HN
      cases gk with
      | zero =>
        obtain rfl : j = ds.length := by omega
        have hlt : ¬ (q : Int) < (l.length : Int) := by have h1 := HQ.out; have h2 := HLEN.out; omega
        have hall : (ds.all fun b => decide (ldig b < 10)) = true := List.all_eq_true.2 fun b hb => by
          obtain ⟨k, hk, rfl⟩ := List.getElem_of_mem hb
          exact decide_eq_true (HA.out k _ hk (List.getElem?_eq_getElem hk))
        rcases HN'.out with ⟨hp, hn⟩ | ⟨hp, hn⟩
        · have e : R = (lval 10 ds, 0) := by
            rw [HR.out]
            rw [List.take_length] at hp
            exact lnb_ok h0 hall (by omega)
          have hov : ¬ (2147483647 : Int) < N := by omega
          have HNN := Lib.hid hn
          clear hn hp hall
          go_wp2_with fail
          go_ret2
          exact ⟨by rw [HNN.out, List.take_length]; rfl, rfl⟩
        · have e : R = (0, 1) := by
            rw [HR.out]
            rw [List.take_length] at hp
            exact lnb_over h0 hall hp
          clear hp hall
          go_wp2_with fail
          go_ret2
          exact ⟨by first | rfl | (rw [e]; rfl), rfl⟩
      | succ g =>
        have hjl : j < ds.length := by omega
        have hql : q < l.length := by have h1 := HQ.out; have h2 := HLEN.out; omega
        have hlt : (q : Int) < (l.length : Int) := by omega
        have hix := str_index l q hql
        obtain ⟨b, hb⟩ : ∃ b, l[q] = b := ⟨_, rfl⟩
        rw [hb] at hix
        have hb' : ds[j]? = some b := by
          have h1 := HQ.out
          have h2 := HDS.out
          rw [h2, List.getElem?_drop, ← h1, List.getElem?_eq_getElem hql, hb]
        obtain ⟨hv1, hv2⟩ := lval_at 10 (by decide) hb'
        obtain ⟨hd1, hd2⟩ := ldig99_lt (b := b) (n := 10) (by decide)
        have HB := Lib.hid hb'
        clear hb hb' hv2
        by_cases hd : ldig99 b < 10
        · have hld := hd1.1 hd
          have hdb : (ldig99 b : Int) < 10 := by omega
          have hd0 : (0 : Int) ≤ (ldig99 b : Int) := by omega
          have hnge : ¬ (10 : Int) ≤ (ldig99 b : Int) := by omega
          have HV := Lib.hid (show lval 10 (ds.take (j + 1)) = lval 10 (ds.take j) * 10 + ldig99 b by rw [hv1, hd2 hd])
          have HA' := Lib.hid (show ∀ (k : Nat) (c : UInt8), k < j + 1 → ds[k]? = some c → ldig c < 10 from fun k c hk hc => by
            by_cases e : k = j
            · subst e; rw [HB.out] at hc; cases hc; exact hld
            · exact HA.out k c (by omega) hc)
          clear hd1 hd2 hv1 hld hd
          have HDD := HD.out wr b
          generalize ldig99 b = d at *
          have HDE := Lib.hid HDD
          clear HDD
          by_cases hcap : N ≤ 2147483647
          · have HC' := Lib.hid (show Capped (lval 10 (ds.take (j + 1))) (N * 10 + (d : Int)) from by
              have h1 := HV.out
              unfold Capped
              rcases HN'.out with ⟨hp, hn⟩ | ⟨hp, hn⟩
              · rw [h1]
                refine ⟨by omega, by omega, ?_⟩
                rw [show (((lval 10 (ds.take j) * 10 + d : Nat)) : Int) = N * 10 + (d : Int) by rw [hn]; simp]
                omega
              · omega)
            go_wp2_with fail
            refine HDE.out.mono ?_
            rintro e wr ⟨rfl, rfl⟩
            go_wp2_with fail
            go_roundg g
            case measure => omega
            case rel => exact ⟨j + 1, q + 1, N * 10 + (d : Int), by omega, Lib.hid (by rw [HQ.out]; omega), by go_num, by go_num, HC', HA', rfl⟩
          · have HC' := Lib.hid (show Capped (lval 10 (ds.take (j + 1))) N from by
              have h1 := HV.out
              unfold Capped
              rcases HN'.out with ⟨hp, hn⟩ | ⟨hp, hn⟩
              · omega
              · exact ⟨hN0, hN1, .inr ⟨by rw [h1]; omega, hn⟩⟩)
            go_wp2_with fail
            refine HDE.out.mono ?_
            rintro e wr ⟨rfl, rfl⟩
            go_wp2_with fail
            go_roundg g
            case measure => omega
            case rel => exact ⟨j + 1, q + 1, N, by omega, Lib.hid (by rw [HQ.out]; omega), by go_num, rfl, HC', HA', rfl⟩
        · have hge : (10 : Int) ≤ (ldig99 b : Int) := by omega
          have e : R = (0, 9) := by
            rw [HR.out]
            refine lnb_bad ?_
            rw [List.all_eq_false]
            exact ⟨b, List.mem_of_getElem? HB.out, by simp only [decide_eq_true_eq]; exact fun h => hd (hd1.2 h)⟩
          clear hd1 hd2 hv1 hd
          have HDD := HD.out wr b
          generalize ldig99 b = d at *
          have HDE := Lib.hid HDD
          clear HDD
          go_wp2_with fail
          refine HDE.out.mono ?_
          rintro e' wr ⟨rfl, rfl⟩
          go_wp2_with fail
          go_ret2
          exact ⟨by first | rfl | (rw [e]; rfl), rfl⟩
set_option maxRecDepth 100000 in
set_option maxHeartbeats 1000000 in
theorem refNum_one (w : World) (l : List UInt8) (hl : l.length < 1000000000) (hone : ¬ (1 : Int) < (l.length : Int)) :
    Calls Tryz.prog 38 #[.string (str l)] w (Ans (.tuple #[.int .i64 ((lnb 10 (l.drop 0)).1 : Int), .int .i64 ((lnb 10 (l.drop 0)).2 : Int)]) w) := by
  have hz : (str l).size = l.length := strSize l
  obtain ⟨ds, hds⟩ : ∃ ds, ds = l.drop 0 := ⟨_, rfl⟩
  have hlen : l.length = ds.length + 0 := by rw [hds, List.length_drop]; omega
  rw [← hds]
  obtain ⟨R, hR⟩ : ∃ R, R = lnb 10 ds := ⟨_, rfl⟩
  rw [← hR]
  have HR := Lib.hid hR
  have HDS := Lib.hid hds
  clear hR hds
  have HD := Lib.hid (fun (u : World) b => ref_digit_any u b)
  by_cases h0 : ds = []
  · have e : R = (0, 9) := by rw [HR.out, h0]; exact lnb_empty _
    have hle : l.length = 0 := by rw [hlen, h0]; rfl
    go_enter Tryz.func38, Tryz.ntmps38
    go_wp2_with fail
    go_ret2
    exact ⟨by first | rfl | (rw [e]; rfl), rfl⟩
  · have hpos : 0 < ds.length := List.length_pos_iff.2 h0
    have hne : ¬ ((0 : Int) = (l.length : Int)) := by omega
    have hneB : ((0 : Int) == (l.length : Int)) = false := beq_eq_false_iff_ne.2 hne
    have HLEN := Lib.hid hlen
    clear hlen
    go_enter Tryz.func38, Tryz.ntmps38
    go_wp2_with fail
    go_loopg [7, 6] ds.length (fun g i n wx => ∃ (j q : Nat) (N : Int), j + g = ds.length ∧ Hid (q = 0 + j) ∧ i = .int .i64 (q : Int) ∧ n = .int .i64 N ∧ Hid (Capped (lval 10 (ds.take j)) N) ∧ Hid (∀ (k : Nat) (b : UInt8), k < j → ds[k]? = some b → ldig b < 10) ∧ wx = w)
    case atStart => exact ⟨0, 0, 0, by omega, Lib.hid rfl, rfl, rfl, Lib.hid ⟨by omega, by omega, .inl ⟨by simp [lval], by simp [lval]⟩⟩, Lib.hid (fun k b h => absurd h (Nat.not_lt_zero _)), rfl⟩
    case round =>
      obtain ⟨j, q, N, hj, HQ, rfl, rfl, HN, HA, rfl⟩ := hrel
      obtain ⟨hN0, hN1, hN⟩ := HN.out
      have HN' := Lib.hid hN
      clear hN HN
      cases gk with
      | zero =>
        obtain rfl : j = ds.length := by omega
        have hlt : ¬ (q : Int) < (l.length : Int) := by have h1 := HQ.out; have h2 := HLEN.out; omega
        have hall : (ds.all fun b => decide (ldig b < 10)) = true := List.all_eq_true.2 fun b hb => by
          obtain ⟨k, hk, rfl⟩ := List.getElem_of_mem hb
          exact decide_eq_true (HA.out k _ hk (List.getElem?_eq_getElem hk))
        rcases HN'.out with ⟨hp, hn⟩ | ⟨hp, hn⟩
        · have e : R = (lval 10 ds, 0) := by
            rw [HR.out]
            rw [List.take_length] at hp
            exact lnb_ok h0 hall (by omega)
          have hov : ¬ (2147483647 : Int) < N := by omega
          have HNN := Lib.hid hn
          clear hn hp hall
          go_wp2_with fail
          go_ret2
          exact ⟨by rw [HNN.out, List.take_length]; rfl, rfl⟩
        · have e : R = (0, 1) := by
            rw [HR.out]
            rw [List.take_length] at hp
            exact lnb_over h0 hall hp
          clear hp hall
          go_wp2_with fail
          go_ret2
          exact ⟨by first | rfl | (rw [e]; rfl), rfl⟩
      | succ g =>
        have hjl : j < ds.length := by omega
        have hql : q < l.length := by have h1 := HQ.out; have h2 := HLEN.out; omega
        have hlt : (q : Int) < (l.length : Int) := by omega
        have hix := str_index l q hql
        obtain ⟨b, hb⟩ : ∃ b, l[q] = b := ⟨_, rfl⟩
        rw [hb] at hix
        have hb' : ds[j]? = some b := by
          have h1 := HQ.out
          have h2 := HDS.out
          rw [h2, List.getElem?_drop, ← h1, List.getElem?_eq_getElem hql, hb]
        obtain ⟨hv1, hv2⟩ := lval_at 10 (by decide) hb'
        obtain ⟨hd1, hd2⟩ := ldig99_lt (b := b) (n := 10) (by decide)
        have HB := Lib.hid hb'
        clear hb hb' hv2
        by_cases hd : ldig99 b < 10
        · have hld := hd1.1 hd
          have hdb : (ldig99 b : Int) < 10 := by omega
          have hd0 : (0 : Int) ≤ (ldig99 b : Int) := by omega
          have hnge : ¬ (10 : Int) ≤ (ldig99 b : Int) := by omega
          have HV := Lib.hid (show lval 10 (ds.take (j + 1)) = lval 10 (ds.take j) * 10 + ldig99 b by rw [hv1, hd2 hd])
          have HA' := Lib.hid (show ∀ (k : Nat) (c : UInt8), k < j + 1 → ds[k]? = some c → ldig c < 10 from fun k c hk hc => by
            by_cases e : k = j
            · subst e; rw [HB.out] at hc; cases hc; exact hld
            · exact HA.out k c (by omega) hc)
          clear hd1 hd2 hv1 hld hd
          have HDD := HD.out wr b
          generalize ldig99 b = d at *
          have HDE := Lib.hid HDD
          clear HDD
          by_cases hcap : N ≤ 2147483647
          · have HC' := Lib.hid (show Capped (lval 10 (ds.take (j + 1))) (N * 10 + (d : Int)) from by
              have h1 := HV.out
              unfold Capped
              rcases HN'.out with ⟨hp, hn⟩ | ⟨hp, hn⟩
              · rw [h1]
                refine ⟨by omega, by omega, ?_⟩
                rw [show (((lval 10 (ds.take j) * 10 + d : Nat)) : Int) = N * 10 + (d : Int) by rw [hn]; simp]
                omega
              · omega)
            go_wp2_with fail
            refine HDE.out.mono ?_
            rintro e wr ⟨rfl, rfl⟩
            go_wp2_with fail
            go_roundg g
            case measure => omega
            case rel => exact ⟨j + 1, q + 1, N * 10 + (d : Int), by omega, Lib.hid (by rw [HQ.out]; omega), by go_num, by go_num, HC', HA', rfl⟩
          · have HC' := Lib.hid (show Capped (lval 10 (ds.take (j + 1))) N from by
              have h1 := HV.out
              unfold Capped
              rcases HN'.out with ⟨hp, hn⟩ | ⟨hp, hn⟩
              · omega
              · exact ⟨hN0, hN1, .inr ⟨by rw [h1]; omega, hn⟩⟩)
            go_wp2_with fail
            refine HDE.out.mono ?_
            rintro e wr ⟨rfl, rfl⟩
            go_wp2_with fail
            go_roundg g
            case measure => omega
            case rel => exact ⟨j + 1, q + 1, N, by omega, Lib.hid (by rw [HQ.out]; omega), by go_num, rfl, HC', HA', rfl⟩
        · have hge : (10 : Int) ≤ (ldig99 b : Int) := by omega
          have e : R = (0, 9) := by
            rw [HR.out]
            refine lnb_bad ?_
            rw [List.all_eq_false]
            exact ⟨b, List.mem_of_getElem? HB.out, by simp only [decide_eq_true_eq]; exact fun h => hd (hd1.2 h)⟩
          clear hd1 hd2 hv1 hd
          have HDD := HD.out wr b
          generalize ldig99 b = d at *
          have HDE := Lib.hid HDD
          clear HDD
          go_wp2_with fail
          refine HDE.out.mono ?_
          rintro e' wr ⟨rfl, rfl⟩
          go_wp2_with fail
          go_ret2
          exact ⟨by first | rfl | (rw [e]; rfl), rfl⟩
set_option maxRecDepth 100000 in
set_option maxHeartbeats 1000000 in
theorem refNum_oct (w : World) (l : List UInt8) (hl : l.length < 1000000000) (hone : (1 : Int) < (l.length : Int)) (C : Int) (hx : (C == 120) = false) (hX : (C == 88) = false) (hix0 : ∀ u, (Instr.index 9 (.string (str l)) (.int .i64 0)).run Tryz.prog u = .ok (.int .u8 48) u) (hix1 : ∀ u, (Instr.index 9 (.string (str l)) (.int .i64 1)).run Tryz.prog u = .ok (.int .u8 C) u) :
    Calls Tryz.prog 38 #[.string (str l)] w (Ans (.tuple #[.int .i64 ((lnb 8 (l.drop 1)).1 : Int), .int .i64 ((lnb 8 (l.drop 1)).2 : Int)]) w) := by
  have hz : (str l).size = l.length := strSize l
  obtain ⟨ds, hds⟩ : ∃ ds, ds = l.drop 1 := ⟨_, rfl⟩
  have hlen : l.length = ds.length + 1 := by rw [hds, List.length_drop]; omega
  rw [← hds]
  obtain ⟨R, hR⟩ : ∃ R, R = lnb 8 ds := ⟨_, rfl⟩
  rw [← hR]
  have HR := Lib.hid hR
  have HDS := Lib.hid hds
  clear hR hds
  have HD := Lib.hid (fun (u : World) b => ref_digit_any u b)
  by_cases h0 : ds = []
  · have hle : l.length = 1 := by rw [hlen, h0]; rfl
    exfalso
    omega
  · have hpos : 0 < ds.length := List.length_pos_iff.2 h0
    have hne : ¬ ((1 : Int) = (l.length : Int)) := by omega
    have hneB : ((1 : Int) == (l.length : Int)) = false := beq_eq_false_iff_ne.2 hne
    have HLEN := Lib.hid hlen
    clear hlen
    go_enter Tryz.func38, Tryz.ntmps38
    go_wp2_with fail
    go_loopg [7, 6] ds.length (fun g i n wx => ∃ (j q : Nat) (N : Int), j + g = ds.length ∧ Hid (q = 1 + j) ∧ i = .int .i64 (q : Int) ∧ n = .int .i64 N ∧ Hid (Capped (lval 8 (ds.take j)) N) ∧ Hid (∀ (k : Nat) (b : UInt8), k < j → ds[k]? = some b → ldig b < 8) ∧ wx = w)
    case atStart => exact ⟨0, 1, 0, by omega, Lib.hid rfl, rfl, rfl, Lib.hid ⟨by omega, by omega, .inl ⟨by simp [lval], by simp [lval]⟩⟩, Lib.hid (fun k b h => absurd h (Nat.not_lt_zero _)), rfl⟩
    case round =>
      obtain ⟨j, q, N, hj, HQ, rfl, rfl, HN, HA, rfl⟩ := hrel
      obtain ⟨hN0, hN1, hN⟩ := HN.out
      have HN' := Lib.hid hN
      clear hN HN
      cases gk with
      | zero =>
        obtain rfl : j = ds.length := by omega
        have hlt : ¬ (q : Int) < (l.length : Int) := by have h1 := HQ.out; have h2 := HLEN.out; omega
        have hall : (ds.all fun b => decide (ldig b < 8)) = true := List.all_eq_true.2 fun b hb => by
          obtain ⟨k, hk, rfl⟩ := List.getElem_of_mem hb
          exact decide_eq_true (HA.out k _ hk (List.getElem?_eq_getElem hk))
        rcases HN'.out with ⟨hp, hn⟩ | ⟨hp, hn⟩
        · have e : R = (lval 8 ds, 0) := by
            rw [HR.out]
            rw [List.take_length] at hp
            exact lnb_ok h0 hall (by omega)
          have hov : ¬ (2147483647 : Int) < N := by omega
          have HNN := Lib.hid hn
          clear hn hp hall
          go_wp2_with fail
          go_ret2
          exact ⟨by rw [HNN.out, List.take_length]; rfl, rfl⟩
        · have e : R = (0, 1) := by
            rw [HR.out]
            rw [List.take_length] at hp
            exact lnb_over h0 hall hp
          clear hp hall
          go_wp2_with fail
          go_ret2
          exact ⟨by first | rfl | (rw [e]; rfl), rfl⟩
      | succ g =>
        have hjl : j < ds.length := by omega
        have hql : q < l.length := by have h1 := HQ.out; have h2 := HLEN.out; omega
        have hlt : (q : Int) < (l.length : Int) := by omega
        have hix := str_index l q hql
        obtain ⟨b, hb⟩ : ∃ b, l[q] = b := ⟨_, rfl⟩
        rw [hb] at hix
        have hb' : ds[j]? = some b := by
          have h1 := HQ.out
          have h2 := HDS.out
          rw [h2, List.getElem?_drop, ← h1, List.getElem?_eq_getElem hql, hb]
        obtain ⟨hv1, hv2⟩ := lval_at 8 (by decide) hb'
        obtain ⟨hd1, hd2⟩ := ldig99_lt (b := b) (n := 8) (by decide)
        have HB := Lib.hid hb'
        clear hb hb' hv2
        by_cases hd : ldig99 b < 8
        · have hld := hd1.1 hd
          have hdb : (ldig99 b : Int) < 8 := by omega
          have hd0 : (0 : Int) ≤ (ldig99 b : Int) := by omega
          have hnge : ¬ (8 : Int) ≤ (ldig99 b : Int) := by omega
          have HV := Lib.hid (show lval 8 (ds.take (j + 1)) = lval 8 (ds.take j) * 8 + ldig99 b by rw [hv1, hd2 hd])
          have HA' := Lib.hid (show ∀ (k : Nat) (c : UInt8), k < j + 1 → ds[k]? = some c → ldig c < 8 from fun k c hk hc => by
            by_cases e : k = j
            · subst e; rw [HB.out] at hc; cases hc; exact hld
            · exact HA.out k c (by omega) hc)
          clear hd1 hd2 hv1 hld hd
          have HDD := HD.out wr b
          generalize ldig99 b = d at *
          have HDE := Lib.hid HDD
          clear HDD
          by_cases hcap : N ≤ 2147483647
          · have HC' := Lib.hid (show Capped (lval 8 (ds.take (j + 1))) (N * 8 + (d : Int)) from by
              have h1 := HV.out
              unfold Capped
              rcases HN'.out with ⟨hp, hn⟩ | ⟨hp, hn⟩
              · rw [h1]
                refine ⟨by omega, by omega, ?_⟩
                rw [show (((lval 8 (ds.take j) * 8 + d : Nat)) : Int) = N * 8 + (d : Int) by rw [hn]; simp]
                omega
              · omega)
            go_wp2_with fail
            refine HDE.out.mono ?_
            rintro e wr ⟨rfl, rfl⟩
            go_wp2_with fail
            go_roundg g
            case measure => omega
            case rel => exact ⟨j + 1, q + 1, N * 8 + (d : Int), by omega, Lib.hid (by rw [HQ.out]; omega), by go_num, by go_num, HC', HA', rfl⟩
          · have HC' := Lib.hid (show Capped (lval 8 (ds.take (j + 1))) N from by
              have h1 := HV.out
              unfold Capped
              rcases HN'.out with ⟨hp, hn⟩ | ⟨hp, hn⟩
              · omega
              · exact ⟨hN0, hN1, .inr ⟨by rw [h1]; omega, hn⟩⟩)
            go_wp2_with fail
            refine HDE.out.mono ?_
            rintro e wr ⟨rfl, rfl⟩
            go_wp2_with fail
            go_roundg g
            case measure => omega
            case rel => exact ⟨j + 1, q + 1, N, by omega, Lib.hid (by rw [HQ.out]; omega), by go_num, rfl, HC', HA', rfl⟩
        · have hge : (8 : Int) ≤ (ldig99 b : Int) := by omega
          have e : R = (0, 9) := by
            rw [HR.out]
            refine lnb_bad ?_
            rw [List.all_eq_false]
            exact ⟨b, List.mem_of_getElem? HB.out, by simp only [decide_eq_true_eq]; exact fun h => hd (hd1.2 h)⟩
          clear hd1 hd2 hv1 hd
          have HDD := HD.out wr b
          generalize ldig99 b = d at *
          have HDE := Lib.hid HDD
          clear HDD
          go_wp2_with fail
          refine HDE.out.mono ?_
          rintro e' wr ⟨rfl, rfl⟩
          go_wp2_with fail
          go_ret2
          exact ⟨by first | rfl | (rw [e]; rfl), rfl⟩
set_option maxRecDepth 100000 in
set_option maxHeartbeats 1000000 in
theorem refNum_hexx (w : World) (l : List UInt8) (hl : l.length < 1000000000) (hone : (1 : Int) < (l.length : Int)) (hix0 : ∀ u, (Instr.index 9 (.string (str l)) (.int .i64 0)).run Tryz.prog u = .ok (.int .u8 48) u) (hix1 : ∀ u, (Instr.index 9 (.string (str l)) (.int .i64 1)).run Tryz.prog u = .ok (.int .u8 120) u) :
    Calls Tryz.prog 38 #[.string (str l)] w (Ans (.tuple #[.int .i64 ((lnb 16 (l.drop 2)).1 : Int), .int .i64 ((lnb 16 (l.drop 2)).2 : Int)]) w) := by
  have hz : (str l).size = l.length := strSize l
  obtain ⟨ds, hds⟩ : ∃ ds, ds = l.drop 2 := ⟨_, rfl⟩
  have hlen : l.length = ds.length + 2 := by rw [hds, List.length_drop]; omega
  rw [← hds]
  obtain ⟨R, hR⟩ : ∃ R, R = lnb 16 ds := ⟨_, rfl⟩
  rw [← hR]
  have HR := Lib.hid hR
  have HDS := Lib.hid hds
  clear hR hds
  have HD := Lib.hid (fun (u : World) b => ref_digit_any u b)
  by_cases h0 : ds = []
  · have e : R = (0, 9) := by rw [HR.out, h0]; exact lnb_empty _
    have hle : l.length = 2 := by rw [hlen, h0]; rfl
    go_enter Tryz.func38, Tryz.ntmps38
    go_wp2_with fail
    go_ret2
    exact ⟨by first | rfl | (rw [e]; rfl), rfl⟩
  · have hpos : 0 < ds.length := List.length_pos_iff.2 h0
    have hne : ¬ ((2 : Int) = (l.length : Int)) := by omega
    have hneB : ((2 : Int) == (l.length : Int)) = false := beq_eq_false_iff_ne.2 hne
    have HLEN := Lib.hid hlen
    clear hlen
    go_enter Tryz.func38, Tryz.ntmps38
    go_wp2_with fail
    go_loopg [7, 6] ds.length (fun g i n wx => ∃ (j q : Nat) (N : Int), j + g = ds.length ∧ Hid (q = 2 + j) ∧ i = .int .i64 (q : Int) ∧ n = .int .i64 N ∧ Hid (Capped (lval 16 (ds.take j)) N) ∧ Hid (∀ (k : Nat) (b : UInt8), k < j → ds[k]? = some b → ldig b < 16) ∧ wx = w)
    case atStart => exact ⟨0, 2, 0, by omega, Lib.hid rfl, rfl, rfl, Lib.hid ⟨by omega, by omega, .inl ⟨by simp [lval], by simp [lval]⟩⟩, Lib.hid (fun k b h => absurd h (Nat.not_lt_zero _)), rfl⟩
    case round =>
      obtain ⟨j, q, N, hj, HQ, rfl, rfl, HN, HA, rfl⟩ := hrel
      obtain ⟨hN0, hN1, hN⟩ := HN.out
      have HN' := Lib.hid hN
      clear hN HN
      cases gk with
      | zero =>
        obtain rfl : j = ds.length := by omega
        have hlt : ¬ (q : Int) < (l.length : Int) := by have h1 := HQ.out; have h2 := HLEN.out; omega
        have hall : (ds.all fun b => decide (ldig b < 16)) = true := List.all_eq_true.2 fun b hb => by
          obtain ⟨k, hk, rfl⟩ := List.getElem_of_mem hb
          exact decide_eq_true (HA.out k _ hk (List.getElem?_eq_getElem hk))
        rcases HN'.out with ⟨hp, hn⟩ | ⟨hp, hn⟩
        · have e : R = (lval 16 ds, 0) := by
            rw [HR.out]
            rw [List.take_length] at hp
            exact lnb_ok h0 hall (by omega)
          have hov : ¬ (2147483647 : Int) < N := by omega
          have HNN := Lib.hid hn
          clear hn hp hall
          go_wp2_with fail
          go_ret2
          exact ⟨by rw [HNN.out, List.take_length]; rfl, rfl⟩
        · have e : R = (0, 1) := by
            rw [HR.out]
            rw [List.take_length] at hp
            exact lnb_over h0 hall hp
          clear hp hall
          go_wp2_with fail
          go_ret2
          exact ⟨by first | rfl | (rw [e]; rfl), rfl⟩
      | succ g =>
        have hjl : j < ds.length := by omega
        have hql : q < l.length := by have h1 := HQ.out; have h2 := HLEN.out; omega
        have hlt : (q : Int) < (l.length : Int) := by omega
        have hix := str_index l q hql
        obtain ⟨b, hb⟩ : ∃ b, l[q] = b := ⟨_, rfl⟩
        rw [hb] at hix
        have hb' : ds[j]? = some b := by
          have h1 := HQ.out
          have h2 := HDS.out
          rw [h2, List.getElem?_drop, ← h1, List.getElem?_eq_getElem hql, hb]
        obtain ⟨hv1, hv2⟩ := lval_at 16 (by decide) hb'
        obtain ⟨hd1, hd2⟩ := ldig99_lt (b := b) (n := 16) (by decide)
        have HB := Lib.hid hb'
        clear hb hb' hv2
        by_cases hd : ldig99 b < 16
        · have hld := hd1.1 hd
          have hdb : (ldig99 b : Int) < 16 := by omega
          have hd0 : (0 : Int) ≤ (ldig99 b : Int) := by omega
          have hnge : ¬ (16 : Int) ≤ (ldig99 b : Int) := by omega
          have HV := Lib.hid (show lval 16 (ds.take (j + 1)) = lval 16 (ds.take j) * 16 + ldig99 b by rw [hv1, hd2 hd])
          have HA' := Lib.hid (show ∀ (k : Nat) (c : UInt8), k < j + 1 → ds[k]? = some c → ldig c < 16 from fun k c hk hc => by
            by_cases e : k = j
            · subst e; rw [HB.out] at hc; cases hc; exact hld
            · exact HA.out k c (by omega) hc)
          clear hd1 hd2 hv1 hld hd
          have HDD := HD.out wr b
          generalize ldig99 b = d at *
          have HDE := Lib.hid HDD
          clear HDD
          by_cases hcap : N ≤ 2147483647
          · have HC' := Lib.hid (show Capped (lval 16 (ds.take (j + 1))) (N * 16 + (d : Int)) from by
              have h1 := HV.out
              unfold Capped
              rcases HN'.out with ⟨hp, hn⟩ | ⟨hp, hn⟩
              · rw [h1]
                refine ⟨by omega, by omega, ?_⟩
                rw [show (((lval 16 (ds.take j) * 16 + d : Nat)) : Int) = N * 16 + (d : Int) by rw [hn]; simp]
                omega
              · omega)
            go_wp2_with fail
            refine HDE.out.mono ?_
            rintro e wr ⟨rfl, rfl⟩
            go_wp2_with fail
            go_roundg g
            case measure => omega
            case rel => exact ⟨j + 1, q + 1, N * 16 + (d : Int), by omega, Lib.hid (by rw [HQ.out]; omega), by go_num, by go_num, HC', HA', rfl⟩
          · have HC' := Lib.hid (show Capped (lval 16 (ds.take (j + 1))) N from by
              have h1 := HV.out
              unfold Capped
              rcases HN'.out with ⟨hp, hn⟩ | ⟨hp, hn⟩
              · omega
              · exact ⟨hN0, hN1, .inr ⟨by rw [h1]; omega, hn⟩⟩)
            go_wp2_with fail
            refine HDE.out.mono ?_
            rintro e wr ⟨rfl, rfl⟩
            go_wp2_with fail
            go_roundg g
            case measure => omega
            case rel => exact ⟨j + 1, q + 1, N, by omega, Lib.hid (by rw [HQ.out]; omega), by go_num, rfl, HC', HA', rfl⟩
        · have hge : (16 : Int) ≤ (ldig99 b : Int) := by omega
          have e : R = (0, 9) := by
            rw [HR.out]
            refine lnb_bad ?_
            rw [List.all_eq_false]
            exact ⟨b, List.mem_of_getElem? HB.out, by simp only [decide_eq_true_eq]; exact fun h => hd (hd1.2 h)⟩
          clear hd1 hd2 hv1 hd
          have HDD := HD.out wr b
          generalize ldig99 b = d at *
          have HDE := Lib.hid HDD
          clear HDD
          go_wp2_with fail
          refine HDE.out.mono ?_
          rintro e' wr ⟨rfl, rfl⟩
          go_wp2_with fail
          go_ret2
          exact ⟨by first | rfl | (rw [e]; rfl), rfl⟩
set_option maxRecDepth 100000 in
set_option maxHeartbeats 1000000 in
theorem refNum_hexX (w : World) (l : List UInt8) (hl : l.length < 1000000000) (hone : (1 : Int) < (l.length : Int)) (hix0 : ∀ u, (Instr.index 9 (.string (str l)) (.int .i64 0)).run Tryz.prog u = .ok (.int .u8 48) u) (hix1 : ∀ u, (Instr.index 9 (.string (str l)) (.int .i64 1)).run Tryz.prog u = .ok (.int .u8 88) u) :
    Calls Tryz.prog 38 #[.string (str l)] w (Ans (.tuple #[.int .i64 ((lnb 16 (l.drop 2)).1 : Int), .int .i64 ((lnb 16 (l.drop 2)).2 : Int)]) w) := by
  have hz : (str l).size = l.length := strSize l
  obtain ⟨ds, hds⟩ : ∃ ds, ds = l.drop 2 := ⟨_, rfl⟩
  have hlen : l.length = ds.length + 2 := by rw [hds, List.length_drop]; omega
  rw [← hds]
  obtain ⟨R, hR⟩ : ∃ R, R = lnb 16 ds := ⟨_, rfl⟩
  rw [← hR]
  have HR := Lib.hid hR
  have HDS := Lib.hid hds
  clear hR hds
  have HD := Lib.hid (fun (u : World) b => ref_digit_any u b)
  by_cases h0 : ds = []
  · have e : R = (0, 9) := by rw [HR.out, h0]; exact lnb_empty _
    have hle : l.length = 2 := by rw [hlen, h0]; rfl
    go_enter Tryz.func38, Tryz.ntmps38
    go_wp2_with fail
    go_ret2
    exact ⟨by first | rfl | (rw [e]; rfl), rfl⟩
  · have hpos : 0 < ds.length := List.length_pos_iff.2 h0
    have hne : ¬ ((2 : Int) = (l.length : Int)) := by omega
    have hneB : ((2 : Int) == (l.length : Int)) = false := beq_eq_false_iff_ne.2 hne
    have HLEN := Lib.hid hlen
    clear hlen
    go_enter Tryz.func38, Tryz.ntmps38
    go_wp2_with fail
    go_loopg [7, 6] ds.length (fun g i n wx => ∃ (j q : Nat) (N : Int), j + g = ds.length ∧ Hid (q = 2 + j) ∧ i = .int .i64 (q : Int) ∧ n = .int .i64 N ∧ Hid (Capped (lval 16 (ds.take j)) N) ∧ Hid (∀ (k : Nat) (b : UInt8), k < j → ds[k]? = some b → ldig b < 16) ∧ wx = w)
    case atStart => exact ⟨0, 2, 0, by omega, Lib.hid rfl, rfl, rfl, Lib.hid ⟨by omega, by omega, .inl ⟨by simp [lval], by simp [lval]⟩⟩, Lib.hid (fun k b h => absurd h (Nat.not_lt_zero _)), rfl⟩
    case round =>
      obtain ⟨j, q, N, hj, HQ, rfl, rfl, HN, HA, rfl⟩ := hrel
      obtain ⟨hN0, hN1, hN⟩ := HN.out
      have HN' := Lib.hid hN
      clear hN HN
      cases gk with
      | zero =>
        obtain rfl : j = ds.length := by omega
        have hlt : ¬ (q : Int) < (l.length : Int) := by have h1 := HQ.out; have h2 := HLEN.out; omega
        have hall : (ds.all fun b => decide (ldig b < 16)) = true := List.all_eq_true.2 fun b hb => by
          obtain ⟨k, hk, rfl⟩ := List.getElem_of_mem hb
          exact decide_eq_true (HA.out k _ hk (List.getElem?_eq_getElem hk))
        rcases HN'.out with ⟨hp, hn⟩ | ⟨hp, hn⟩
        · have e : R = (lval 16 ds, 0) := by
            rw [HR.out]
            rw [List.take_length] at hp
            exact lnb_ok h0 hall (by omega)
          have hov : ¬ (2147483647 : Int) < N := by omega
          have HNN := Lib.hid hn
          clear hn hp hall
          go_wp2_with fail
          go_ret2
          exact ⟨by rw [HNN.out, List.take_length]; rfl, rfl⟩
        · have e : R = (0, 1) := by
            rw [HR.out]
            rw [List.take_length] at hp
            exact lnb_over h0 hall hp
          clear hp hall
          go_wp2_with fail
          go_ret2
          exact ⟨by first | rfl | (rw [e]; rfl), rfl⟩
      | succ g =>
        have hjl : j < ds.length := by omega
        have hql : q < l.length := by have h1 := HQ.out; have h2 := HLEN.out; omega
        have hlt : (q : Int) < (l.length : Int) := by omega
        have hix := str_index l q hql
        obtain ⟨b, hb⟩ : ∃ b, l[q] = b := ⟨_, rfl⟩
        rw [hb] at hix
        have hb' : ds[j]? = some b := by
          have h1 := HQ.out
          have h2 := HDS.out
          rw [h2, List.getElem?_drop, ← h1, List.getElem?_eq_getElem hql, hb]
        obtain ⟨hv1, hv2⟩ := lval_at 16 (by decide) hb'
        obtain ⟨hd1, hd2⟩ := ldig99_lt (b := b) (n := 16) (by decide)
        have HB := Lib.hid hb'
        clear hb hb' hv2
        by_cases hd : ldig99 b < 16
        · have hld := hd1.1 hd
          have hdb : (ldig99 b : Int) < 16 := by omega
          have hd0 : (0 : Int) ≤ (ldig99 b : Int) := by omega
          have hnge : ¬ (16 : Int) ≤ (ldig99 b : Int) := by omega
          have HV := Lib.hid (show lval 16 (ds.take (j + 1)) = lval 16 (ds.take j) * 16 + ldig99 b by rw [hv1, hd2 hd])
          have HA' := Lib.hid (show ∀ (k : Nat) (c : UInt8), k < j + 1 → ds[k]? = some c → ldig c < 16 from fun k c hk hc => by
            by_cases e : k = j
            · subst e; rw [HB.out] at hc; cases hc; exact hld
            · exact HA.out k c (by omega) hc)
          clear hd1 hd2 hv1 hld hd
          have HDD := HD.out wr b
          generalize ldig99 b = d at *
          have HDE := Lib.hid HDD
          clear HDD
          by_cases hcap : N ≤ 2147483647
          · have HC' := Lib.hid (show Capped (lval 16 (ds.take (j + 1))) (N * 16 + (d : Int)) from by
              have h1 := HV.out
              unfold Capped
              rcases HN'.out with ⟨hp, hn⟩ | ⟨hp, hn⟩
              · rw [h1]
                refine ⟨by omega, by omega, ?_⟩
                rw [show (((lval 16 (ds.take j) * 16 + d : Nat)) : Int) = N * 16 + (d : Int) by rw [hn]; simp]
                omega
              · omega)
            go_wp2_with fail
            refine HDE.out.mono ?_
            rintro e wr ⟨rfl, rfl⟩
            go_wp2_with fail
            go_roundg g
            case measure => omega
            case rel => exact ⟨j + 1, q + 1, N * 16 + (d : Int), by omega, Lib.hid (by rw [HQ.out]; omega), by go_num, by go_num, HC', HA', rfl⟩
          · have HC' := Lib.hid (show Capped (lval 16 (ds.take (j + 1))) N from by
              have h1 := HV.out
              unfold Capped
              rcases HN'.out with ⟨hp, hn⟩ | ⟨hp, hn⟩
              · omega
              · exact ⟨hN0, hN1, .inr ⟨by rw [h1]; omega, hn⟩⟩)
            go_wp2_with fail
            refine HDE.out.mono ?_
            rintro e wr ⟨rfl, rfl⟩
            go_wp2_with fail
            go_roundg g
            case measure => omega
            case rel => exact ⟨j + 1, q + 1, N, by omega, Lib.hid (by rw [HQ.out]; omega), by go_num, rfl, HC', HA', rfl⟩
        · have hge : (16 : Int) ≤ (ldig99 b : Int) := by omega
          have e : R = (0, 9) := by
            rw [HR.out]
            refine lnb_bad ?_
            rw [List.all_eq_false]
            exact ⟨b, List.mem_of_getElem? HB.out, by simp only [decide_eq_true_eq]; exact fun h => hd (hd1.2 h)⟩
          clear hd1 hd2 hv1 hd
          have HDD := HD.out wr b
          generalize ldig99 b = d at *
          have HDE := Lib.hid HDD
          clear HDD
          go_wp2_with fail
          refine HDE.out.mono ?_
          rintro e' wr ⟨rfl, rfl⟩
          go_wp2_with fail
          go_ret2
          exact ⟨by first | rfl | (rw [e]; rfl), rfl⟩
theorem refNum_any (w : World) (l : List UInt8) (h0 : 0 < l.length) (hl : l.length < 1000000000) :
    Calls Tryz.prog 38 #[.string (str l)] w (Ans (.tuple #[.int .i64 ((lnum l).1 : Int), .int .i64 ((lnum l).2 : Int)]) w) := by
  match l, h0, hl with
  | [b], _, hl =>
    have h := refNum_one w [b] hl (by simp)
    rw [List.drop_zero] at h
    have e : lnum [b] = lnb 10 [b] := by
      unfold lnum
      rw [if_neg (by simp)]
      by_cases hb : b = 48
      · subst hb; rw [if_pos (by simp)]; decide
      · rw [if_neg (by simpa using hb)]
    rw [e]
    exact h
  | b :: c :: r, _, hl =>
    have hone : (1 : Int) < (((b :: c :: r).length : Nat) : Int) := by simp; omega
    have hix0 : ∀ u, (Instr.index 9 (.string (str (b :: c :: r))) (.int .i64 0)).run Tryz.prog u = .ok (.int .u8 (b.toNat : Int)) u := str_index (b :: c :: r) 0 (by simp)
    have hix1 : ∀ u, (Instr.index 9 (.string (str (b :: c :: r))) (.int .i64 1)).run Tryz.prog u = .ok (.int .u8 (c.toNat : Int)) u := str_index (b :: c :: r) 1 (by simp)
    by_cases hb : b = 48
    · subst hb
      by_cases hx : c = 120
      · subst hx
        have e : lnum (48 :: 120 :: r) = lnb 16 r := by unfold lnum; rw [if_pos (.inl (by simp))]; rfl
        rw [e]
        exact refNum_hexx w _ hl hone hix0 hix1
      by_cases hX : c = 88
      · subst hX
        have e : lnum (48 :: 88 :: r) = lnb 16 r := by unfold lnum; rw [if_pos (.inr (by simp))]; rfl
        rw [e]
        exact refNum_hexX w _ hl hone hix0 hix1
      · have e : lnum (48 :: c :: r) = lnb 8 (c :: r) := by
          unfold lnum
          rw [if_neg (by simp [hx, hX]), if_pos (by simp), lnb_lead (by simp)]
        rw [e]
        exact refNum_oct w _ hl hone (c.toNat : Int) (beq_eq_false_iff_ne.2 fun h => hx (UInt8.toNat_inj.1 (by simp; omega))) (beq_eq_false_iff_ne.2 fun h => hX (UInt8.toNat_inj.1 (by simp; omega))) hix0 hix1
    · have e : lnum (b :: c :: r) = lnb 10 (b :: c :: r) := by
        unfold lnum
        rw [if_neg (by simp [hb]), if_neg (by simpa using hb)]
      rw [e]
      exact refNum_dec w _ hl hone (b.toNat : Int) (beq_eq_false_iff_ne.2 fun h => hb (UInt8.toNat_inj.1 (by simp; omega))) hix0
end Go.Proofs.YtfcjeciepadmeaaGreatDoor
namespace Go.Proofs.YtfcjeciepadmeaaGreatDoor
open Go.RowKit
theorem noGap_cut {x : UInt8} {r : List UInt8} (h : NoGap (x :: r)) : lcut (x :: r) = (if lxLet x then (1, lspan lxIn (x :: r), 0) else if lxFig x then (2, lspan lxIn (x :: r), 0) else if lxQuote x then (3, lclosed 1 [x] (x :: r)) else if lxSign x then (4, 1, 0) else (0, 0, 9)) := by
  unfold lcut
  rw [if_neg (by rw [h.1]; simp), if_neg h.2.1, if_neg h.2.2]
  rfl
theorem lfirst_word {x : UInt8} {r : List UInt8} (h : NoGap (x :: r)) (hl : lxLet x = true) : lfirst (x :: r) = if 40 < lspan lxIn (x :: r) then (⟨0, [], 0⟩, 0, 3) else (⟨1, (x :: r).take (lspan lxIn (x :: r)), 0⟩, lspan lxIn (x :: r), 0) := by
  have hle := lspan_le lxIn (x :: r)
  have e0 : lcut (x :: r) = (1, lspan lxIn (x :: r), 0) := by rw [noGap_cut h, if_pos hl]
  unfold lfirst
  rw [e0]
  have e : ((x :: r).take (lspan lxIn (x :: r))).length = lspan lxIn (x :: r) := by rw [List.length_take]; omega
  simp only [ltoken, e]
  by_cases h40 : 40 < lspan lxIn (x :: r)
  · simp [h40]
  · simp [h40]
theorem lfirst_fig {x : UInt8} {r : List UInt8} (h : NoGap (x :: r)) (hl : lxLet x = false) (hf : lxFig x = true) : lfirst (x :: r) = if (lnum ((x :: r).take (lspan lxIn (x :: r)))).2 = 0 then (⟨2, (x :: r).take (lspan lxIn (x :: r)), (lnum ((x :: r).take (lspan lxIn (x :: r)))).1⟩, lspan lxIn (x :: r), 0) else (⟨0, [], 0⟩, 0, (lnum ((x :: r).take (lspan lxIn (x :: r)))).2) := by
  have e0 : lcut (x :: r) = (2, lspan lxIn (x :: r), 0) := by rw [noGap_cut h, if_neg (by rw [hl]; simp), if_pos hf]
  unfold lfirst
  rw [e0]
  generalize (x :: r).take (lspan lxIn (x :: r)) = p
  simp only [ltoken]
  by_cases h0 : (lnum p).2 = 0
  · simp [h0]
  · simp [h0]
theorem lfirst_open {x : UInt8} {r : List UInt8} (h : NoGap (x :: r)) (hl : lxLet x = false) (hf : lxFig x = false) (hq : lxQuote x = true) (hi : Lib.index r [x] < 0) : (lfirst (x :: r)).2.2 = 9 := by
  have e0 : lcut (x :: r) = (3, lclosed 1 [x] (x :: r)) := by rw [noGap_cut h, if_neg (by rw [hl]; simp), if_neg (by rw [hf]; simp), if_pos hq]
  unfold lfirst
  rw [e0]
  have e : lclosed 1 [x] (x :: r) = (0, 9) := by
    unfold lclosed
    rw [show (x :: r).drop 1 = r from rfl, if_pos hi]
  rw [e]
  simp
theorem lfirst_quote {x : UInt8} {r : List UInt8} (h : NoGap (x :: r)) (hl : lxLet x = false) (hf : lxFig x = false) (hq : lxQuote x = true) (i : Nat) (hi : Lib.index r [x] = (i : Int)) (hir : i < r.length) :
    lfirst (x :: r) = if (92 : UInt8) ∈ r.take i ∨ (10 : UInt8) ∈ r.take i then (⟨0, [], 0⟩, 0, 9) else (⟨3, r.take i, 0⟩, i + 2, 0) := by
  have e0 : lcut (x :: r) = (3, lclosed 1 [x] (x :: r)) := by rw [noGap_cut h, if_neg (by rw [hl]; simp), if_neg (by rw [hf]; simp), if_pos hq]
  unfold lfirst
  rw [e0]
  have e : lclosed 1 [x] (x :: r) = (i + 2, 0) := by
    unfold lclosed
    rw [show (x :: r).drop 1 = r from rfl, hi, if_neg (by omega), Int.toNat_natCast]
    simp only [List.length_cons, List.length_nil]
    congr 1
    omega
  rw [e]
  have e2 : (((x :: r).take (i + 2)).drop 1).take (((x :: r).take (i + 2)).length - 2) = r.take i := by
    rw [List.take_succ_cons, List.drop_succ_cons, List.drop_zero, List.length_cons, List.length_take, List.take_take]
    congr 1
    omega
  simp only [ltoken, e2]
  by_cases h0 : (92 : UInt8) ∈ r.take i ∨ (10 : UInt8) ∈ r.take i
  · simp [h0]
  · simp [h0]
theorem lfirst_sign {x : UInt8} {r : List UInt8} (h : NoGap (x :: r)) (hl : lxLet x = false) (hf : lxFig x = false) (hq : lxQuote x = false) (hs : lxSign x = true) : lfirst (x :: r) = (⟨4, [x], 0⟩, 1, 0) := by
  have e0 : lcut (x :: r) = (4, 1, 0) := by rw [noGap_cut h, if_neg (by rw [hl]; simp), if_neg (by rw [hf]; simp), if_neg (by rw [hq]; simp), if_pos hs]
  unfold lfirst
  rw [e0]
  simp [ltoken]
theorem lfirst_none {x : UInt8} {r : List UInt8} (h : NoGap (x :: r)) (hl : lxLet x = false) (hf : lxFig x = false) (hq : lxQuote x = false) (hs : lxSign x = false) : (lfirst (x :: r)).2.2 = 9 := by
  have e0 : lcut (x :: r) = (0, 0, 9) := by rw [noGap_cut h, if_neg (by rw [hl]; simp), if_neg (by rw [hf]; simp), if_neg (by rw [hq]; simp), if_neg (by rw [hs]; simp)]
  unfold lfirst
  rw [e0]
  simp
theorem noGap_k {x : UInt8} {r : List UInt8} (h : NoGap (x :: r)) (h0 : (lfirst (x :: r)).2.2 = 0) : (lfirst (x :: r)).1.k ≠ 0 := by
  rw [lfirst_k (by simp) h0]
  have hc := (lfirst_size (by simp) h0).2.2.1
  rw [noGap_cut h] at hc ⊢
  split
  · simp
  rename_i h1
  rw [if_neg h1] at hc
  split
  · simp
  rename_i h2
  rw [if_neg h2] at hc
  split
  · simp
  rename_i h3
  rw [if_neg h3] at hc
  split
  · simp
  rename_i h4
  rw [if_neg h4] at hc
  cases hc
theorem index_byte_at {r : List UInt8} {x : UInt8} {j : Nat} (hno : ∀ k : Nat, k < j → r[k]? ≠ some x) (hx : r[j]? = some x) : Lib.index r [x] = (j : Int) := by
  rw [Lib.index_one]
  have hge := Lib.indexByte_ge r x
  by_cases h : Lib.indexByte r x = -1
  · exact absurd hx (Lib.indexByte_none h j)
  · obtain ⟨o, ho⟩ : ∃ o : Nat, Lib.indexByte r x = (o : Int) := ⟨(Lib.indexByte r x).toNat, by omega⟩
    obtain ⟨h1, h2⟩ := Lib.indexByte_some ho
    rw [ho]
    rcases Nat.lt_trichotomy o j with hlt | rfl | hgt
    · exact absurd h1 (hno o hlt)
    · rfl
    · exact absurd hx (h2 j hgt)
theorem index_byte_no {r : List UInt8} {x : UInt8} (hno : ∀ k : Nat, r[k]? ≠ some x) : Lib.index r [x] < 0 := by
  rw [Lib.index_one]
  have hge := Lib.indexByte_ge r x
  by_cases h : Lib.indexByte r x < 0
  · exact h
  · obtain ⟨o, ho⟩ : ∃ o : Nat, Lib.indexByte r x = (o : Int) := ⟨(Lib.indexByte r x).toNat, by omega⟩
    exact absurd (Lib.indexByte_some ho).1 (hno o)
def Bad (l : List UInt8) : Prop := (92 : UInt8) ∈ l ∨ (10 : UInt8) ∈ l
theorem bad_snoc {l : List UInt8} {j : Nat} {c : UInt8} (h : l[j]? = some c) : Bad (l.take (j + 1)) ↔ Bad (l.take j) ∨ ((c.toNat : Int) = 92 ∨ (c.toNat : Int) = 10) := by
  have e : l.take (j + 1) = l.take j ++ [c] := by rw [List.take_add_one, h]; rfl
  have e1 : (c.toNat : Int) = 92 ↔ 92 = c := ⟨fun h => UInt8.toNat_inj.1 (by simp; omega), fun h => by subst h; rfl⟩
  have e2 : (c.toNat : Int) = 10 ↔ 10 = c := ⟨fun h => UInt8.toNat_inj.1 (by simp; omega), fun h => by subst h; rfl⟩
  unfold Bad
  rw [e, e1, e2]
  simp only [List.mem_append, List.mem_singleton]
  constructor
  · rintro ((h | h) | (h | h))
    · exact .inl (.inl h)
    · exact .inr (.inl h)
    · exact .inl (.inr h)
    · exact .inr (.inr h)
  · rintro ((h | h) | (h | h))
    · exact .inl (.inl h)
    · exact .inr (.inl h)
    · exact .inl (.inr h)
    · exact .inr (.inr h)
end Go.Proofs.YtfcjeciepadmeaaGreatDoor
