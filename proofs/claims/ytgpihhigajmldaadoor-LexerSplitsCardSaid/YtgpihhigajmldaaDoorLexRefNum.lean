/- The contract of redlineref07.number: what a number's bytes say. Condition: fewer than 1000000000 bytes. -/
import Derived.Test.YtgpihhigajmldaaDoorProg
import Derived.Test.YtgpihhigajmldaaDoorLexNum
namespace Go.Proofs.YtgpihhigajmldaaDoor
open Go.RowKit

theorem ldig99_lt {b : UInt8} {n : Nat} (hn : n ≤ 16) : (ldig99 b < n ↔ ldig b < n) ∧ (ldig99 b < n → ldig99 b = ldig b) := by
  unfold ldig99 ldig
  repeat' split
  all_goals omega
theorem lval_cons0 (base : Nat) (l : List UInt8) : lval base (48 :: l) = lval base l := by
  unfold lval
  rw [List.foldl_cons, show 0 * base + ldig 48 = 0 by rw [Nat.zero_mul]; decide]
theorem lnb_lead {l : List UInt8} (h : l ≠ []) : lnb 8 (48 :: l) = lnb 8 l := by
  unfold lnb
  rw [lval_cons0]
  have e : ((48 :: l).all fun b => decide (ldig b < 8)) = (l.all fun b => decide (ldig b < 8)) := by
    rw [List.all_cons, show decide (ldig 48 < 8) = true by decide, Bool.true_and]
  rw [e]
  simp [h]
/-- A capped sum. -/
def Capped (P : Nat) (N : Int) : Prop := 0 ≤ N ∧ N ≤ 34359738367 ∧ ((P ≤ 2147483647 ∧ N = (P : Int)) ∨ (2147483647 < P ∧ 2147483647 < N))

set_option maxRecDepth 100000 in
set_option maxHeartbeats 1000000 in
theorem refNum_dec (w : World) (l : List UInt8) (hl : l.length < 1000000000) (hone : (1 : Int) < (l.length : Int)) (B : Int) (hb : (B == 48) = false) (hix0 : ∀ u, (Instr.index 9 (.string (str l)) (.int .i64 0)).run Tryd.prog u = .ok (.int .u8 B) u) :
    Calls Tryd.prog 25 #[.string (str l)] w (Ans (.tuple #[.int .i64 ((lnb 10 (l.drop 0)).1 : Int), .int .i64 ((lnb 10 (l.drop 0)).2 : Int)]) w) := by
  have hz : (str l).size = l.length := strSize l
  obtain ⟨ds, hds⟩ : ∃ ds, ds = l.drop 0 := ⟨_, rfl⟩
  have hlen : l.length = ds.length + 0 := by rw [hds, List.length_drop]; omega
  rw [← hds]
  obtain ⟨R, hR⟩ : ∃ R, R = lnb 10 ds := ⟨_, rfl⟩
  rw [← hR]
  have HR := Lib.hid hR
  have HDS := Lib.hid hds
  clear hR hds
  have HD := Lib.hid (fun (u : World) b => ref_digit_any u b)
  by_cases h0 : ds = []
  · have e : R = (0, 9) := by rw [HR.out, h0]; exact lnb_empty _
    have hle : l.length = 0 := by rw [hlen, h0]; rfl
    go_enter Tryd.func25, Tryd.ntmps25
    go_wp2_with fail
    go_ret2
    exact ⟨by first | rfl | (rw [e]; rfl), rfl⟩
  · have hpos : 0 < ds.length := List.length_pos_iff.2 h0
    have hne : ¬ ((0 : Int) = (l.length : Int)) := by omega
    have hneB : ((0 : Int) == (l.length : Int)) = false := beq_eq_false_iff_ne.2 hne
    have HLEN := Lib.hid hlen
    clear hlen
    go_enter Tryd.func25, Tryd.ntmps25
    go_wp2_with fail
    go_loopg [7, 6] ds.length (fun g i n wx => ∃ (j q : Nat) (N : Int), j + g = ds.length ∧ Hid (q = 0 + j) ∧ i = .int .i64 (q : Int) ∧ n = .int .i64 N ∧ Hid (Capped (lval 10 (ds.take j)) N) ∧ Hid (∀ (k : Nat) (b : UInt8), k < j → ds[k]? = some b → ldig b < 10) ∧ wx = w)
    case atStart => exact ⟨0, 0, 0, by omega, Lib.hid rfl, rfl, rfl, Lib.hid ⟨by omega, by omega, .inl ⟨by simp [lval], by simp [lval]⟩⟩, Lib.hid (fun k b h => absurd h (Nat.not_lt_zero _)), rfl⟩
    case round =>
      obtain ⟨j, q, N, hj, HQ, rfl, rfl, HN, HA, rfl⟩ := hrel
      obtain ⟨hN0, hN1, hN⟩ := HN.out
      have HN' := Lib.hid hN
      clear hN HN
      cases gk with
      | zero =>
        obtain rfl : j = ds.length := by omega
        have hlt : ¬ (q : Int) < (l.length : Int) := by have h1 := HQ.out; have h2 := HLEN.out; omega
        have hall : (ds.all fun b => decide (ldig b < 10)) = true := List.all_eq_true.2 fun b hb => by
          obtain ⟨k, hk, rfl⟩ := List.getElem_of_mem hb
          exact decide_eq_true (HA.out k _ hk (List.getElem?_eq_getElem hk))
        rcases HN'.out with ⟨hp, hn⟩ | ⟨hp, hn⟩
        · have e : R = (lval 10 ds, 0) := by
            rw [HR.out]
            rw [List.take_length] at hp
            exact lnb_ok h0 hall (by omega)
          have hov : ¬ (2147483647 : Int) < N := by omega
          have HNN := Lib.hid hn
          clear hn hp hall
          go_wp2_with fail
          go_ret2
          exact ⟨by rw [HNN.out, List.take_length]; rfl, rfl⟩
        · have e : R = (0, 1) := by
            rw [HR.out]
            rw [List.take_length] at hp
            exact lnb_over h0 hall hp
          clear hp hall
          go_wp2_with fail
          go_ret2
          exact ⟨by first | rfl | (rw [e]; rfl), rfl⟩
      | succ g =>
        have hjl : j < ds.length := by omega
        have hql : q < l.length := by have h1 := HQ.out; have h2 := HLEN.out; omega
        have hlt : (q : Int) < (l.length : Int) := by omega
        have hix := str_index l q hql
        obtain ⟨b, hb⟩ : ∃ b, l[q] = b := ⟨_, rfl⟩
        rw [hb] at hix
        have hb' : ds[j]? = some b := by
          have h1 := HQ.out
          have h2 := HDS.out
          rw [h2, List.getElem?_drop, ← h1, List.getElem?_eq_getElem hql, hb]
        obtain ⟨hv1, hv2⟩ := lval_at 10 (by decide) hb'
        obtain ⟨hd1, hd2⟩ := ldig99_lt (b := b) (n := 10) (by decide)
        have HB := Lib.hid hb'
        clear hb hb' hv2
        by_cases hd : ldig99 b < 10
        · have hld := hd1.1 hd
          have hdb : (ldig99 b : Int) < 10 := by omega
          have hd0 : (0 : Int) ≤ (ldig99 b : Int) := by omega
          have hnge : ¬ (10 : Int) ≤ (ldig99 b : Int) := by omega
          have HV := Lib.hid (show lval 10 (ds.take (j + 1)) = lval 10 (ds.take j) * 10 + ldig99 b by rw [hv1, hd2 hd])
          have HA' := Lib.hid (show ∀ (k : Nat) (c : UInt8), k < j + 1 → ds[k]? = some c → ldig c < 10 from fun k c hk hc => by
            by_cases e : k = j
            · subst e; rw [HB.out] at hc; cases hc; exact hld
            · exact HA.out k c (by omega) hc)
          clear hd1 hd2 hv1 hld hd
          have HDD := HD.out wr b
          generalize ldig99 b = d at *
          have HDE := Lib.hid HDD
          clear HDD
          by_cases hcap : N ≤ 2147483647
          · have HC' := Lib.hid (show Capped (lval 10 (ds.take (j + 1))) (N * 10 + (d : Int)) from by
              have h1 := HV.out
              unfold Capped
              rcases HN'.out with ⟨hp, hn⟩ | ⟨hp, hn⟩
              · rw [h1]
                refine ⟨by omega, by omega, ?_⟩
                rw [show (((lval 10 (ds.take j) * 10 + d : Nat)) : Int) = N * 10 + (d : Int) by rw [hn]; simp]
                omega
              · omega)
            go_wp2_with fail
            refine HDE.out.mono ?_
            rintro e wr ⟨rfl, rfl⟩
            go_wp2_with fail
            go_roundg g
            case measure => omega
            case rel => exact ⟨j + 1, q + 1, N * 10 + (d : Int), by omega, Lib.hid (by rw [HQ.out]; omega), by go_num, by go_num, HC', HA', rfl⟩
          · have HC' := Lib.hid (show Capped (lval 10 (ds.take (j + 1))) N from by
              have h1 := HV.out
              unfold Capped
              rcases HN'.out with ⟨hp, hn⟩ | ⟨hp, hn⟩
              · omega
              · exact ⟨hN0, hN1, .inr ⟨by rw [h1]; omega, hn⟩⟩)
            go_wp2_with fail
            refine HDE.out.mono ?_
            rintro e wr ⟨rfl, rfl⟩
            go_wp2_with fail
            go_roundg g
            case measure => omega
            case rel => exact ⟨j + 1, q + 1, N, by omega, Lib.hid (by rw [HQ.out]; omega), by go_num, rfl, HC', HA', rfl⟩
        · have hge : (10 : Int) ≤ (ldig99 b : Int) := by omega
          have e : R = (0, 9) := by
            rw [HR.out]
            refine lnb_bad ?_
            rw [List.all_eq_false]
            exact ⟨b, List.mem_of_getElem? HB.out, by simp only [decide_eq_true_eq]; exact fun h => hd (hd1.2 h)⟩
          clear hd1 hd2 hv1 hd
          have HDD := HD.out wr b
          generalize ldig99 b = d at *
          have HDE := Lib.hid HDD
          clear HDD
          go_wp2_with fail
          refine HDE.out.mono ?_
          rintro e' wr ⟨rfl, rfl⟩
          go_wp2_with fail
          go_ret2
          exact ⟨by first | rfl | (rw [e]; rfl), rfl⟩

set_option maxRecDepth 100000 in
set_option maxHeartbeats 1000000 in
theorem refNum_one (w : World) (l : List UInt8) (hl : l.length < 1000000000) (hone : ¬ (1 : Int) < (l.length : Int)) :
    Calls Tryd.prog 25 #[.string (str l)] w (Ans (.tuple #[.int .i64 ((lnb 10 (l.drop 0)).1 : Int), .int .i64 ((lnb 10 (l.drop 0)).2 : Int)]) w) := by
  have hz : (str l).size = l.length := strSize l
  obtain ⟨ds, hds⟩ : ∃ ds, ds = l.drop 0 := ⟨_, rfl⟩
  have hlen : l.length = ds.length + 0 := by rw [hds, List.length_drop]; omega
  rw [← hds]
  obtain ⟨R, hR⟩ : ∃ R, R = lnb 10 ds := ⟨_, rfl⟩
  rw [← hR]
  have HR := Lib.hid hR
  have HDS := Lib.hid hds
  clear hR hds
  have HD := Lib.hid (fun (u : World) b => ref_digit_any u b)
  by_cases h0 : ds = []
  · have e : R = (0, 9) := by rw [HR.out, h0]; exact lnb_empty _
    have hle : l.length = 0 := by rw [hlen, h0]; rfl
    go_enter Tryd.func25, Tryd.ntmps25
    go_wp2_with fail
    go_ret2
    exact ⟨by first | rfl | (rw [e]; rfl), rfl⟩
  · have hpos : 0 < ds.length := List.length_pos_iff.2 h0
    have hne : ¬ ((0 : Int) = (l.length : Int)) := by omega
    have hneB : ((0 : Int) == (l.length : Int)) = false := beq_eq_false_iff_ne.2 hne
    have HLEN := Lib.hid hlen
    clear hlen
    go_enter Tryd.func25, Tryd.ntmps25
    go_wp2_with fail
    go_loopg [7, 6] ds.length (fun g i n wx => ∃ (j q : Nat) (N : Int), j + g = ds.length ∧ Hid (q = 0 + j) ∧ i = .int .i64 (q : Int) ∧ n = .int .i64 N ∧ Hid (Capped (lval 10 (ds.take j)) N) ∧ Hid (∀ (k : Nat) (b : UInt8), k < j → ds[k]? = some b → ldig b < 10) ∧ wx = w)
    case atStart => exact ⟨0, 0, 0, by omega, Lib.hid rfl, rfl, rfl, Lib.hid ⟨by omega, by omega, .inl ⟨by simp [lval], by simp [lval]⟩⟩, Lib.hid (fun k b h => absurd h (Nat.not_lt_zero _)), rfl⟩
    case round =>
      obtain ⟨j, q, N, hj, HQ, rfl, rfl, HN, HA, rfl⟩ := hrel
      obtain ⟨hN0, hN1, hN⟩ := HN.out
      have HN' := Lib.hid hN
      clear hN HN
      cases gk with
      | zero =>
        obtain rfl : j = ds.length := by omega
        have hlt : ¬ (q : Int) < (l.length : Int) := by have h1 := HQ.out; have h2 := HLEN.out; omega
        have hall : (ds.all fun b => decide (ldig b < 10)) = true := List.all_eq_true.2 fun b hb => by
          obtain ⟨k, hk, rfl⟩ := List.getElem_of_mem hb
          exact decide_eq_true (HA.out k _ hk (List.getElem?_eq_getElem hk))
        rcases HN'.out with ⟨hp, hn⟩ | ⟨hp, hn⟩
        · have e : R = (lval 10 ds, 0) := by
            rw [HR.out]
            rw [List.take_length] at hp
            exact lnb_ok h0 hall (by omega)
          have hov : ¬ (2147483647 : Int) < N := by omega
          have HNN := Lib.hid hn
          clear hn hp hall
          go_wp2_with fail
          go_ret2
          exact ⟨by rw [HNN.out, List.take_length]; rfl, rfl⟩
        · have e : R = (0, 1) := by
            rw [HR.out]
            rw [List.take_length] at hp
            exact lnb_over h0 hall hp
          clear hp hall
          go_wp2_with fail
          go_ret2
          exact ⟨by first | rfl | (rw [e]; rfl), rfl⟩
      | succ g =>
        have hjl : j < ds.length := by omega
        have hql : q < l.length := by have h1 := HQ.out; have h2 := HLEN.out; omega
        have hlt : (q : Int) < (l.length : Int) := by omega
        have hix := str_index l q hql
        obtain ⟨b, hb⟩ : ∃ b, l[q] = b := ⟨_, rfl⟩
        rw [hb] at hix
        have hb' : ds[j]? = some b := by
          have h1 := HQ.out
          have h2 := HDS.out
          rw [h2, List.getElem?_drop, ← h1, List.getElem?_eq_getElem hql, hb]
        obtain ⟨hv1, hv2⟩ := lval_at 10 (by decide) hb'
        obtain ⟨hd1, hd2⟩ := ldig99_lt (b := b) (n := 10) (by decide)
        have HB := Lib.hid hb'
        clear hb hb' hv2
        by_cases hd : ldig99 b < 10
        · have hld := hd1.1 hd
          have hdb : (ldig99 b : Int) < 10 := by omega
          have hd0 : (0 : Int) ≤ (ldig99 b : Int) := by omega
          have hnge : ¬ (10 : Int) ≤ (ldig99 b : Int) := by omega
          have HV := Lib.hid (show lval 10 (ds.take (j + 1)) = lval 10 (ds.take j) * 10 + ldig99 b by rw [hv1, hd2 hd])
          have HA' := Lib.hid (show ∀ (k : Nat) (c : UInt8), k < j + 1 → ds[k]? = some c → ldig c < 10 from fun k c hk hc => by
            by_cases e : k = j
            · subst e; rw [HB.out] at hc; cases hc; exact hld
            · exact HA.out k c (by omega) hc)
          clear hd1 hd2 hv1 hld hd
          have HDD := HD.out wr b
          generalize ldig99 b = d at *
          have HDE := Lib.hid HDD
          clear HDD
          by_cases hcap : N ≤ 2147483647
          · have HC' := Lib.hid (show Capped (lval 10 (ds.take (j + 1))) (N * 10 + (d : Int)) from by
              have h1 := HV.out
              unfold Capped
              rcases HN'.out with ⟨hp, hn⟩ | ⟨hp, hn⟩
              · rw [h1]
                refine ⟨by omega, by omega, ?_⟩
                rw [show (((lval 10 (ds.take j) * 10 + d : Nat)) : Int) = N * 10 + (d : Int) by rw [hn]; simp]
                omega
              · omega)
            go_wp2_with fail
            refine HDE.out.mono ?_
            rintro e wr ⟨rfl, rfl⟩
            go_wp2_with fail
            go_roundg g
            case measure => omega
            case rel => exact ⟨j + 1, q + 1, N * 10 + (d : Int), by omega, Lib.hid (by rw [HQ.out]; omega), by go_num, by go_num, HC', HA', rfl⟩
          · have HC' := Lib.hid (show Capped (lval 10 (ds.take (j + 1))) N from by
              have h1 := HV.out
              unfold Capped
              rcases HN'.out with ⟨hp, hn⟩ | ⟨hp, hn⟩
              · omega
              · exact ⟨hN0, hN1, .inr ⟨by rw [h1]; omega, hn⟩⟩)
            go_wp2_with fail
            refine HDE.out.mono ?_
            rintro e wr ⟨rfl, rfl⟩
            go_wp2_with fail
            go_roundg g
            case measure => omega
            case rel => exact ⟨j + 1, q + 1, N, by omega, Lib.hid (by rw [HQ.out]; omega), by go_num, rfl, HC', HA', rfl⟩
        · have hge : (10 : Int) ≤ (ldig99 b : Int) := by omega
          have e : R = (0, 9) := by
            rw [HR.out]
            refine lnb_bad ?_
            rw [List.all_eq_false]
            exact ⟨b, List.mem_of_getElem? HB.out, by simp only [decide_eq_true_eq]; exact fun h => hd (hd1.2 h)⟩
          clear hd1 hd2 hv1 hd
          have HDD := HD.out wr b
          generalize ldig99 b = d at *
          have HDE := Lib.hid HDD
          clear HDD
          go_wp2_with fail
          refine HDE.out.mono ?_
          rintro e' wr ⟨rfl, rfl⟩
          go_wp2_with fail
          go_ret2
          exact ⟨by first | rfl | (rw [e]; rfl), rfl⟩

set_option maxRecDepth 100000 in
set_option maxHeartbeats 1000000 in
theorem refNum_oct (w : World) (l : List UInt8) (hl : l.length < 1000000000) (hone : (1 : Int) < (l.length : Int)) (C : Int) (hx : (C == 120) = false) (hX : (C == 88) = false) (hix0 : ∀ u, (Instr.index 9 (.string (str l)) (.int .i64 0)).run Tryd.prog u = .ok (.int .u8 48) u) (hix1 : ∀ u, (Instr.index 9 (.string (str l)) (.int .i64 1)).run Tryd.prog u = .ok (.int .u8 C) u) :
    Calls Tryd.prog 25 #[.string (str l)] w (Ans (.tuple #[.int .i64 ((lnb 8 (l.drop 1)).1 : Int), .int .i64 ((lnb 8 (l.drop 1)).2 : Int)]) w) := by
  have hz : (str l).size = l.length := strSize l
  obtain ⟨ds, hds⟩ : ∃ ds, ds = l.drop 1 := ⟨_, rfl⟩
  have hlen : l.length = ds.length + 1 := by rw [hds, List.length_drop]; omega
  rw [← hds]
  obtain ⟨R, hR⟩ : ∃ R, R = lnb 8 ds := ⟨_, rfl⟩
  rw [← hR]
  have HR := Lib.hid hR
  have HDS := Lib.hid hds
  clear hR hds
  have HD := Lib.hid (fun (u : World) b => ref_digit_any u b)
  by_cases h0 : ds = []
  · have hle : l.length = 1 := by rw [hlen, h0]; rfl
    exfalso
    omega
  · have hpos : 0 < ds.length := List.length_pos_iff.2 h0
    have hne : ¬ ((1 : Int) = (l.length : Int)) := by omega
    have hneB : ((1 : Int) == (l.length : Int)) = false := beq_eq_false_iff_ne.2 hne
    have HLEN := Lib.hid hlen
    clear hlen
    go_enter Tryd.func25, Tryd.ntmps25
    go_wp2_with fail
    go_loopg [7, 6] ds.length (fun g i n wx => ∃ (j q : Nat) (N : Int), j + g = ds.length ∧ Hid (q = 1 + j) ∧ i = .int .i64 (q : Int) ∧ n = .int .i64 N ∧ Hid (Capped (lval 8 (ds.take j)) N) ∧ Hid (∀ (k : Nat) (b : UInt8), k < j → ds[k]? = some b → ldig b < 8) ∧ wx = w)
    case atStart => exact ⟨0, 1, 0, by omega, Lib.hid rfl, rfl, rfl, Lib.hid ⟨by omega, by omega, .inl ⟨by simp [lval], by simp [lval]⟩⟩, Lib.hid (fun k b h => absurd h (Nat.not_lt_zero _)), rfl⟩
    case round =>
      obtain ⟨j, q, N, hj, HQ, rfl, rfl, HN, HA, rfl⟩ := hrel
      obtain ⟨hN0, hN1, hN⟩ := HN.out
      have HN' := Lib.hid hN
      clear hN HN
      cases gk with
      | zero =>
        obtain rfl : j = ds.length := by omega
        have hlt : ¬ (q : Int) < (l.length : Int) := by have h1 := HQ.out; have h2 := HLEN.out; omega
        have hall : (ds.all fun b => decide (ldig b < 8)) = true := List.all_eq_true.2 fun b hb => by
          obtain ⟨k, hk, rfl⟩ := List.getElem_of_mem hb
          exact decide_eq_true (HA.out k _ hk (List.getElem?_eq_getElem hk))
        rcases HN'.out with ⟨hp, hn⟩ | ⟨hp, hn⟩
        · have e : R = (lval 8 ds, 0) := by
            rw [HR.out]
            rw [List.take_length] at hp
            exact lnb_ok h0 hall (by omega)
          have hov : ¬ (2147483647 : Int) < N := by omega
          have HNN := Lib.hid hn
          clear hn hp hall
          go_wp2_with fail
          go_ret2
          exact ⟨by rw [HNN.out, List.take_length]; rfl, rfl⟩
        · have e : R = (0, 1) := by
            rw [HR.out]
            rw [List.take_length] at hp
            exact lnb_over h0 hall hp
          clear hp hall
          go_wp2_with fail
          go_ret2
          exact ⟨by first | rfl | (rw [e]; rfl), rfl⟩
      | succ g =>
        have hjl : j < ds.length := by omega
        have hql : q < l.length := by have h1 := HQ.out; have h2 := HLEN.out; omega
        have hlt : (q : Int) < (l.length : Int) := by omega
        have hix := str_index l q hql
        obtain ⟨b, hb⟩ : ∃ b, l[q] = b := ⟨_, rfl⟩
        rw [hb] at hix
        have hb' : ds[j]? = some b := by
          have h1 := HQ.out
          have h2 := HDS.out
          rw [h2, List.getElem?_drop, ← h1, List.getElem?_eq_getElem hql, hb]
        obtain ⟨hv1, hv2⟩ := lval_at 8 (by decide) hb'
        obtain ⟨hd1, hd2⟩ := ldig99_lt (b := b) (n := 8) (by decide)
        have HB := Lib.hid hb'
        clear hb hb' hv2
        by_cases hd : ldig99 b < 8
        · have hld := hd1.1 hd
          have hdb : (ldig99 b : Int) < 8 := by omega
          have hd0 : (0 : Int) ≤ (ldig99 b : Int) := by omega
          have hnge : ¬ (8 : Int) ≤ (ldig99 b : Int) := by omega
          have HV := Lib.hid (show lval 8 (ds.take (j + 1)) = lval 8 (ds.take j) * 8 + ldig99 b by rw [hv1, hd2 hd])
          have HA' := Lib.hid (show ∀ (k : Nat) (c : UInt8), k < j + 1 → ds[k]? = some c → ldig c < 8 from fun k c hk hc => by
            by_cases e : k = j
            · subst e; rw [HB.out] at hc; cases hc; exact hld
            · exact HA.out k c (by omega) hc)
          clear hd1 hd2 hv1 hld hd
          have HDD := HD.out wr b
          generalize ldig99 b = d at *
          have HDE := Lib.hid HDD
          clear HDD
          by_cases hcap : N ≤ 2147483647
          · have HC' := Lib.hid (show Capped (lval 8 (ds.take (j + 1))) (N * 8 + (d : Int)) from by
              have h1 := HV.out
              unfold Capped
              rcases HN'.out with ⟨hp, hn⟩ | ⟨hp, hn⟩
              · rw [h1]
                refine ⟨by omega, by omega, ?_⟩
                rw [show (((lval 8 (ds.take j) * 8 + d : Nat)) : Int) = N * 8 + (d : Int) by rw [hn]; simp]
                omega
              · omega)
            go_wp2_with fail
            refine HDE.out.mono ?_
            rintro e wr ⟨rfl, rfl⟩
            go_wp2_with fail
            go_roundg g
            case measure => omega
            case rel => exact ⟨j + 1, q + 1, N * 8 + (d : Int), by omega, Lib.hid (by rw [HQ.out]; omega), by go_num, by go_num, HC', HA', rfl⟩
          · have HC' := Lib.hid (show Capped (lval 8 (ds.take (j + 1))) N from by
              have h1 := HV.out
              unfold Capped
              rcases HN'.out with ⟨hp, hn⟩ | ⟨hp, hn⟩
              · omega
              · exact ⟨hN0, hN1, .inr ⟨by rw [h1]; omega, hn⟩⟩)
            go_wp2_with fail
            refine HDE.out.mono ?_
            rintro e wr ⟨rfl, rfl⟩
            go_wp2_with fail
            go_roundg g
            case measure => omega
            case rel => exact ⟨j + 1, q + 1, N, by omega, Lib.hid (by rw [HQ.out]; omega), by go_num, rfl, HC', HA', rfl⟩
        · have hge : (8 : Int) ≤ (ldig99 b : Int) := by omega
          have e : R = (0, 9) := by
            rw [HR.out]
            refine lnb_bad ?_
            rw [List.all_eq_false]
            exact ⟨b, List.mem_of_getElem? HB.out, by simp only [decide_eq_true_eq]; exact fun h => hd (hd1.2 h)⟩
          clear hd1 hd2 hv1 hd
          have HDD := HD.out wr b
          generalize ldig99 b = d at *
          have HDE := Lib.hid HDD
          clear HDD
          go_wp2_with fail
          refine HDE.out.mono ?_
          rintro e' wr ⟨rfl, rfl⟩
          go_wp2_with fail
          go_ret2
          exact ⟨by first | rfl | (rw [e]; rfl), rfl⟩

set_option maxRecDepth 100000 in
set_option maxHeartbeats 1000000 in
theorem refNum_hexx (w : World) (l : List UInt8) (hl : l.length < 1000000000) (hone : (1 : Int) < (l.length : Int)) (hix0 : ∀ u, (Instr.index 9 (.string (str l)) (.int .i64 0)).run Tryd.prog u = .ok (.int .u8 48) u) (hix1 : ∀ u, (Instr.index 9 (.string (str l)) (.int .i64 1)).run Tryd.prog u = .ok (.int .u8 120) u) :
    Calls Tryd.prog 25 #[.string (str l)] w (Ans (.tuple #[.int .i64 ((lnb 16 (l.drop 2)).1 : Int), .int .i64 ((lnb 16 (l.drop 2)).2 : Int)]) w) := by
  have hz : (str l).size = l.length := strSize l
  obtain ⟨ds, hds⟩ : ∃ ds, ds = l.drop 2 := ⟨_, rfl⟩
  have hlen : l.length = ds.length + 2 := by rw [hds, List.length_drop]; omega
  rw [← hds]
  obtain ⟨R, hR⟩ : ∃ R, R = lnb 16 ds := ⟨_, rfl⟩
  rw [← hR]
  have HR := Lib.hid hR
  have HDS := Lib.hid hds
  clear hR hds
  have HD := Lib.hid (fun (u : World) b => ref_digit_any u b)
  by_cases h0 : ds = []
  · have e : R = (0, 9) := by rw [HR.out, h0]; exact lnb_empty _
    have hle : l.length = 2 := by rw [hlen, h0]; rfl
    go_enter Tryd.func25, Tryd.ntmps25
    go_wp2_with fail
    go_ret2
    exact ⟨by first | rfl | (rw [e]; rfl), rfl⟩
  · have hpos : 0 < ds.length := List.length_pos_iff.2 h0
    have hne : ¬ ((2 : Int) = (l.length : Int)) := by omega
    have hneB : ((2 : Int) == (l.length : Int)) = false := beq_eq_false_iff_ne.2 hne
    have HLEN := Lib.hid hlen
    clear hlen
    go_enter Tryd.func25, Tryd.ntmps25
    go_wp2_with fail
    go_loopg [7, 6] ds.length (fun g i n wx => ∃ (j q : Nat) (N : Int), j + g = ds.length ∧ Hid (q = 2 + j) ∧ i = .int .i64 (q : Int) ∧ n = .int .i64 N ∧ Hid (Capped (lval 16 (ds.take j)) N) ∧ Hid (∀ (k : Nat) (b : UInt8), k < j → ds[k]? = some b → ldig b < 16) ∧ wx = w)
    case atStart => exact ⟨0, 2, 0, by omega, Lib.hid rfl, rfl, rfl, Lib.hid ⟨by omega, by omega, .inl ⟨by simp [lval], by simp [lval]⟩⟩, Lib.hid (fun k b h => absurd h (Nat.not_lt_zero _)), rfl⟩
    case round =>
      obtain ⟨j, q, N, hj, HQ, rfl, rfl, HN, HA, rfl⟩ := hrel
      obtain ⟨hN0, hN1, hN⟩ := HN.out
      have HN' := Lib.hid hN
      clear hN HN
      cases gk with
      | zero =>
        obtain rfl : j = ds.length := by omega
        have hlt : ¬ (q : Int) < (l.length : Int) := by have h1 := HQ.out; have h2 := HLEN.out; omega
        have hall : (ds.all fun b => decide (ldig b < 16)) = true := List.all_eq_true.2 fun b hb => by
          obtain ⟨k, hk, rfl⟩ := List.getElem_of_mem hb
          exact decide_eq_true (HA.out k _ hk (List.getElem?_eq_getElem hk))
        rcases HN'.out with ⟨hp, hn⟩ | ⟨hp, hn⟩
        · have e : R = (lval 16 ds, 0) := by
            rw [HR.out]
            rw [List.take_length] at hp
            exact lnb_ok h0 hall (by omega)
          have hov : ¬ (2147483647 : Int) < N := by omega
          have HNN := Lib.hid hn
          clear hn hp hall
          go_wp2_with fail
          go_ret2
          exact ⟨by rw [HNN.out, List.take_length]; rfl, rfl⟩
        · have e : R = (0, 1) := by
            rw [HR.out]
            rw [List.take_length] at hp
            exact lnb_over h0 hall hp
          clear hp hall
          go_wp2_with fail
          go_ret2
          exact ⟨by first | rfl | (rw [e]; rfl), rfl⟩
      | succ g =>
        have hjl : j < ds.length := by omega
        have hql : q < l.length := by have h1 := HQ.out; have h2 := HLEN.out; omega
        have hlt : (q : Int) < (l.length : Int) := by omega
        have hix := str_index l q hql
        obtain ⟨b, hb⟩ : ∃ b, l[q] = b := ⟨_, rfl⟩
        rw [hb] at hix
        have hb' : ds[j]? = some b := by
          have h1 := HQ.out
          have h2 := HDS.out
          rw [h2, List.getElem?_drop, ← h1, List.getElem?_eq_getElem hql, hb]
        obtain ⟨hv1, hv2⟩ := lval_at 16 (by decide) hb'
        obtain ⟨hd1, hd2⟩ := ldig99_lt (b := b) (n := 16) (by decide)
        have HB := Lib.hid hb'
        clear hb hb' hv2
        by_cases hd : ldig99 b < 16
        · have hld := hd1.1 hd
          have hdb : (ldig99 b : Int) < 16 := by omega
          have hd0 : (0 : Int) ≤ (ldig99 b : Int) := by omega
          have hnge : ¬ (16 : Int) ≤ (ldig99 b : Int) := by omega
          have HV := Lib.hid (show lval 16 (ds.take (j + 1)) = lval 16 (ds.take j) * 16 + ldig99 b by rw [hv1, hd2 hd])
          have HA' := Lib.hid (show ∀ (k : Nat) (c : UInt8), k < j + 1 → ds[k]? = some c → ldig c < 16 from fun k c hk hc => by
            by_cases e : k = j
            · subst e; rw [HB.out] at hc; cases hc; exact hld
            · exact HA.out k c (by omega) hc)
          clear hd1 hd2 hv1 hld hd
          have HDD := HD.out wr b
          generalize ldig99 b = d at *
          have HDE := Lib.hid HDD
          clear HDD
          by_cases hcap : N ≤ 2147483647
          · have HC' := Lib.hid (show Capped (lval 16 (ds.take (j + 1))) (N * 16 + (d : Int)) from by
              have h1 := HV.out
              unfold Capped
              rcases HN'.out with ⟨hp, hn⟩ | ⟨hp, hn⟩
              · rw [h1]
                refine ⟨by omega, by omega, ?_⟩
                rw [show (((lval 16 (ds.take j) * 16 + d : Nat)) : Int) = N * 16 + (d : Int) by rw [hn]; simp]
                omega
              · omega)
            go_wp2_with fail
            refine HDE.out.mono ?_
            rintro e wr ⟨rfl, rfl⟩
            go_wp2_with fail
            go_roundg g
            case measure => omega
            case rel => exact ⟨j + 1, q + 1, N * 16 + (d : Int), by omega, Lib.hid (by rw [HQ.out]; omega), by go_num, by go_num, HC', HA', rfl⟩
          · have HC' := Lib.hid (show Capped (lval 16 (ds.take (j + 1))) N from by
              have h1 := HV.out
              unfold Capped
              rcases HN'.out with ⟨hp, hn⟩ | ⟨hp, hn⟩
              · omega
              · exact ⟨hN0, hN1, .inr ⟨by rw [h1]; omega, hn⟩⟩)
            go_wp2_with fail
            refine HDE.out.mono ?_
            rintro e wr ⟨rfl, rfl⟩
            go_wp2_with fail
            go_roundg g
            case measure => omega
            case rel => exact ⟨j + 1, q + 1, N, by omega, Lib.hid (by rw [HQ.out]; omega), by go_num, rfl, HC', HA', rfl⟩
        · have hge : (16 : Int) ≤ (ldig99 b : Int) := by omega
          have e : R = (0, 9) := by
            rw [HR.out]
            refine lnb_bad ?_
            rw [List.all_eq_false]
            exact ⟨b, List.mem_of_getElem? HB.out, by simp only [decide_eq_true_eq]; exact fun h => hd (hd1.2 h)⟩
          clear hd1 hd2 hv1 hd
          have HDD := HD.out wr b
          generalize ldig99 b = d at *
          have HDE := Lib.hid HDD
          clear HDD
          go_wp2_with fail
          refine HDE.out.mono ?_
          rintro e' wr ⟨rfl, rfl⟩
          go_wp2_with fail
          go_ret2
          exact ⟨by first | rfl | (rw [e]; rfl), rfl⟩

set_option maxRecDepth 100000 in
set_option maxHeartbeats 1000000 in
theorem refNum_hexX (w : World) (l : List UInt8) (hl : l.length < 1000000000) (hone : (1 : Int) < (l.length : Int)) (hix0 : ∀ u, (Instr.index 9 (.string (str l)) (.int .i64 0)).run Tryd.prog u = .ok (.int .u8 48) u) (hix1 : ∀ u, (Instr.index 9 (.string (str l)) (.int .i64 1)).run Tryd.prog u = .ok (.int .u8 88) u) :
    Calls Tryd.prog 25 #[.string (str l)] w (Ans (.tuple #[.int .i64 ((lnb 16 (l.drop 2)).1 : Int), .int .i64 ((lnb 16 (l.drop 2)).2 : Int)]) w) := by
  have hz : (str l).size = l.length := strSize l
  obtain ⟨ds, hds⟩ : ∃ ds, ds = l.drop 2 := ⟨_, rfl⟩
  have hlen : l.length = ds.length + 2 := by rw [hds, List.length_drop]; omega
  rw [← hds]
  obtain ⟨R, hR⟩ : ∃ R, R = lnb 16 ds := ⟨_, rfl⟩
  rw [← hR]
  have HR := Lib.hid hR
  have HDS := Lib.hid hds
  clear hR hds
  have HD := Lib.hid (fun (u : World) b => ref_digit_any u b)
  by_cases h0 : ds = []
  · have e : R = (0, 9) := by rw [HR.out, h0]; exact lnb_empty _
    have hle : l.length = 2 := by rw [hlen, h0]; rfl
    go_enter Tryd.func25, Tryd.ntmps25
    go_wp2_with fail
    go_ret2
    exact ⟨by first | rfl | (rw [e]; rfl), rfl⟩
  · have hpos : 0 < ds.length := List.length_pos_iff.2 h0
    have hne : ¬ ((2 : Int) = (l.length : Int)) := by omega
    have hneB : ((2 : Int) == (l.length : Int)) = false := beq_eq_false_iff_ne.2 hne
    have HLEN := Lib.hid hlen
    clear hlen
    go_enter Tryd.func25, Tryd.ntmps25
    go_wp2_with fail
    go_loopg [7, 6] ds.length (fun g i n wx => ∃ (j q : Nat) (N : Int), j + g = ds.length ∧ Hid (q = 2 + j) ∧ i = .int .i64 (q : Int) ∧ n = .int .i64 N ∧ Hid (Capped (lval 16 (ds.take j)) N) ∧ Hid (∀ (k : Nat) (b : UInt8), k < j → ds[k]? = some b → ldig b < 16) ∧ wx = w)
    case atStart => exact ⟨0, 2, 0, by omega, Lib.hid rfl, rfl, rfl, Lib.hid ⟨by omega, by omega, .inl ⟨by simp [lval], by simp [lval]⟩⟩, Lib.hid (fun k b h => absurd h (Nat.not_lt_zero _)), rfl⟩
    case round =>
      obtain ⟨j, q, N, hj, HQ, rfl, rfl, HN, HA, rfl⟩ := hrel
      obtain ⟨hN0, hN1, hN⟩ := HN.out
      have HN' := Lib.hid hN
      clear hN HN
      cases gk with
      | zero =>
        obtain rfl : j = ds.length := by omega
        have hlt : ¬ (q : Int) < (l.length : Int) := by have h1 := HQ.out; have h2 := HLEN.out; omega
        have hall : (ds.all fun b => decide (ldig b < 16)) = true := List.all_eq_true.2 fun b hb => by
          obtain ⟨k, hk, rfl⟩ := List.getElem_of_mem hb
          exact decide_eq_true (HA.out k _ hk (List.getElem?_eq_getElem hk))
        rcases HN'.out with ⟨hp, hn⟩ | ⟨hp, hn⟩
        · have e : R = (lval 16 ds, 0) := by
            rw [HR.out]
            rw [List.take_length] at hp
            exact lnb_ok h0 hall (by omega)
          have hov : ¬ (2147483647 : Int) < N := by omega
          have HNN := Lib.hid hn
          clear hn hp hall
          go_wp2_with fail
          go_ret2
          exact ⟨by rw [HNN.out, List.take_length]; rfl, rfl⟩
        · have e : R = (0, 1) := by
            rw [HR.out]
            rw [List.take_length] at hp
            exact lnb_over h0 hall hp
          clear hp hall
          go_wp2_with fail
          go_ret2
          exact ⟨by first | rfl | (rw [e]; rfl), rfl⟩
      | succ g =>
        have hjl : j < ds.length := by omega
        have hql : q < l.length := by have h1 := HQ.out; have h2 := HLEN.out; omega
        have hlt : (q : Int) < (l.length : Int) := by omega
        have hix := str_index l q hql
        obtain ⟨b, hb⟩ : ∃ b, l[q] = b := ⟨_, rfl⟩
        rw [hb] at hix
        have hb' : ds[j]? = some b := by
          have h1 := HQ.out
          have h2 := HDS.out
          rw [h2, List.getElem?_drop, ← h1, List.getElem?_eq_getElem hql, hb]
        obtain ⟨hv1, hv2⟩ := lval_at 16 (by decide) hb'
        obtain ⟨hd1, hd2⟩ := ldig99_lt (b := b) (n := 16) (by decide)
        have HB := Lib.hid hb'
        clear hb hb' hv2
        by_cases hd : ldig99 b < 16
        · have hld := hd1.1 hd
          have hdb : (ldig99 b : Int) < 16 := by omega
          have hd0 : (0 : Int) ≤ (ldig99 b : Int) := by omega
          have hnge : ¬ (16 : Int) ≤ (ldig99 b : Int) := by omega
          have HV := Lib.hid (show lval 16 (ds.take (j + 1)) = lval 16 (ds.take j) * 16 + ldig99 b by rw [hv1, hd2 hd])
          have HA' := Lib.hid (show ∀ (k : Nat) (c : UInt8), k < j + 1 → ds[k]? = some c → ldig c < 16 from fun k c hk hc => by
            by_cases e : k = j
            · subst e; rw [HB.out] at hc; cases hc; exact hld
            · exact HA.out k c (by omega) hc)
          clear hd1 hd2 hv1 hld hd
          have HDD := HD.out wr b
          generalize ldig99 b = d at *
          have HDE := Lib.hid HDD
          clear HDD
          by_cases hcap : N ≤ 2147483647
          · have HC' := Lib.hid (show Capped (lval 16 (ds.take (j + 1))) (N * 16 + (d : Int)) from by
              have h1 := HV.out
              unfold Capped
              rcases HN'.out with ⟨hp, hn⟩ | ⟨hp, hn⟩
              · rw [h1]
                refine ⟨by omega, by omega, ?_⟩
                rw [show (((lval 16 (ds.take j) * 16 + d : Nat)) : Int) = N * 16 + (d : Int) by rw [hn]; simp]
                omega
              · omega)
            go_wp2_with fail
            refine HDE.out.mono ?_
            rintro e wr ⟨rfl, rfl⟩
            go_wp2_with fail
            go_roundg g
            case measure => omega
            case rel => exact ⟨j + 1, q + 1, N * 16 + (d : Int), by omega, Lib.hid (by rw [HQ.out]; omega), by go_num, by go_num, HC', HA', rfl⟩
          · have HC' := Lib.hid (show Capped (lval 16 (ds.take (j + 1))) N from by
              have h1 := HV.out
              unfold Capped
              rcases HN'.out with ⟨hp, hn⟩ | ⟨hp, hn⟩
              · omega
              · exact ⟨hN0, hN1, .inr ⟨by rw [h1]; omega, hn⟩⟩)
            go_wp2_with fail
            refine HDE.out.mono ?_
            rintro e wr ⟨rfl, rfl⟩
            go_wp2_with fail
            go_roundg g
            case measure => omega
            case rel => exact ⟨j + 1, q + 1, N, by omega, Lib.hid (by rw [HQ.out]; omega), by go_num, rfl, HC', HA', rfl⟩
        · have hge : (16 : Int) ≤ (ldig99 b : Int) := by omega
          have e : R = (0, 9) := by
            rw [HR.out]
            refine lnb_bad ?_
            rw [List.all_eq_false]
            exact ⟨b, List.mem_of_getElem? HB.out, by simp only [decide_eq_true_eq]; exact fun h => hd (hd1.2 h)⟩
          clear hd1 hd2 hv1 hd
          have HDD := HD.out wr b
          generalize ldig99 b = d at *
          have HDE := Lib.hid HDD
          clear HDD
          go_wp2_with fail
          refine HDE.out.mono ?_
          rintro e' wr ⟨rfl, rfl⟩
          go_wp2_with fail
          go_ret2
          exact ⟨by first | rfl | (rw [e]; rfl), rfl⟩

theorem refNum_any (w : World) (l : List UInt8) (h0 : 0 < l.length) (hl : l.length < 1000000000) :
    Calls Tryd.prog 25 #[.string (str l)] w (Ans (.tuple #[.int .i64 ((lnum l).1 : Int), .int .i64 ((lnum l).2 : Int)]) w) := by
  match l, h0, hl with
  | [b], _, hl =>
    have h := refNum_one w [b] hl (by simp)
    rw [List.drop_zero] at h
    have e : lnum [b] = lnb 10 [b] := by
      unfold lnum
      rw [if_neg (by simp)]
      by_cases hb : b = 48
      · subst hb; rw [if_pos (by simp)]; decide
      · rw [if_neg (by simpa using hb)]
    rw [e]
    exact h
  | b :: c :: r, _, hl =>
    have hone : (1 : Int) < (((b :: c :: r).length : Nat) : Int) := by simp; omega
    have hix0 : ∀ u, (Instr.index 9 (.string (str (b :: c :: r))) (.int .i64 0)).run Tryd.prog u = .ok (.int .u8 (b.toNat : Int)) u := str_index (b :: c :: r) 0 (by simp)
    have hix1 : ∀ u, (Instr.index 9 (.string (str (b :: c :: r))) (.int .i64 1)).run Tryd.prog u = .ok (.int .u8 (c.toNat : Int)) u := str_index (b :: c :: r) 1 (by simp)
    by_cases hb : b = 48
    · subst hb
      by_cases hx : c = 120
      · subst hx
        have e : lnum (48 :: 120 :: r) = lnb 16 r := by unfold lnum; rw [if_pos (.inl (by simp))]; rfl
        rw [e]
        exact refNum_hexx w _ hl hone hix0 hix1
      by_cases hX : c = 88
      · subst hX
        have e : lnum (48 :: 88 :: r) = lnb 16 r := by unfold lnum; rw [if_pos (.inr (by simp))]; rfl
        rw [e]
        exact refNum_hexX w _ hl hone hix0 hix1
      · have e : lnum (48 :: c :: r) = lnb 8 (c :: r) := by
          unfold lnum
          rw [if_neg (by simp [hx, hX]), if_pos (by simp), lnb_lead (by simp)]
        rw [e]
        exact refNum_oct w _ hl hone (c.toNat : Int) (beq_eq_false_iff_ne.2 fun h => hx (UInt8.toNat_inj.1 (by simp; omega))) (beq_eq_false_iff_ne.2 fun h => hX (UInt8.toNat_inj.1 (by simp; omega))) hix0 hix1
    · have e : lnum (b :: c :: r) = lnb 10 (b :: c :: r) := by
        unfold lnum
        rw [if_neg (by simp [hb]), if_neg (by simpa using hb)]
      rw [e]
      exact refNum_dec w _ hl hone (b.toNat : Int) (beq_eq_false_iff_ne.2 fun h => hb (UInt8.toNat_inj.1 (by simp; omega))) hix0
end Go.Proofs.YtgpihhigajmldaaDoor
