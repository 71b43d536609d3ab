/- The walk of OctetsReads: for all bytes and acts that lie in memory the answer is true, and nothing that was there turns. Condition: the errors' variables hold what the program's text lays. -/
import Derived.Test.YtpimoipjomikiaaDoorProg
import Derived.Test.YtpimoipjomikiaaDoorMem
import Derived.Test.YtpimoipjomikiaaDoorBytes
import Derived.Test.YtpimoipjomikiaaDoorKept
import Derived.Test.YtpimoipjomikiaaDoorReader
import Derived.Test.YtpimoipjomikiaaDoorNumber
import Derived.Test.YtpimoipjomikiaaDoorNum
import Derived.Test.YtpimoipjomikiaaDoorReadBad
import Derived.Test.YtpimoipjomikiaaDoorRefRead
import Derived.Test.YtpimoipjomikiaaDoorStr
import Derived.Test.YtpimoipjomikiaaDoorAlive
import Derived.Deep.LoopGhost
import Derived.Deep.DeepCutAuto
import Derived.Deep.CutBlock
import Derived.Deep.QuietTactic
import Derived.BigQuiet
namespace Go.Proofs.YtpimoipjomikiaaDoor
open Go.RowKit

/-- The acts, at pa, below block B. -/
def Acts (w : World) (B : Nat) (pa : Option Addr) (xs : List (Int × Int)) : Prop :=
  (0 < xs.length → ∃ b o, pa = some ⟨b, o, none⟩ ∧ b < B ∧ ∀ (i : Nat) x, xs[i]? = some x → w.cell? ⟨b, o + i * 2, none⟩ = some (.int .i64 x.1) ∧ w.cell? ⟨b, o + i * 2 + 1, none⟩ = some (.int .i64 x.2)) ∧
  ∀ x ∈ xs, (-9223372036854775808 ≤ x.1 ∧ x.1 ≤ 9223372036854775807) ∧ -9223372036854775808 ≤ x.2 ∧ x.2 ≤ 9223372036854775807
theorem Acts.below {w w' : World} {B : Nat} {pa : Option Addr} {xs : List (Int × Int)} (h : Acts w B pa xs) (hb : Below B w w') : Acts w' B pa xs :=
  ⟨fun hl => by
    obtain ⟨b, o, e, hlt, hc⟩ := h.1 hl
    exact ⟨b, o, e, hlt, fun i x hx => ⟨(hb.cell (p := ⟨b, o + i * 2, none⟩) hlt).trans (hc i x hx).1, (hb.cell (p := ⟨b, o + i * 2 + 1, none⟩) hlt).trans (hc i x hx).2⟩⟩, h.2⟩
theorem Acts.at_ {w : World} {B : Nat} {pa : Option Addr} {xs : List (Int × Int)} (h : Acts w B pa xs) {i : Nat} (hi : i < xs.length) :
    ∃ b o K N, pa = some ⟨b, o, none⟩ ∧ b < B ∧ w.cell? ⟨b, o + i * 2, none⟩ = some (.int .i64 K) ∧ w.cell? ⟨b, o + i * 2 + 1, none⟩ = some (.int .i64 N) ∧ -9223372036854775808 ≤ N ∧ N ≤ 9223372036854775807 := by
  obtain ⟨b, o, e, hlt, hc⟩ := h.1 (by omega)
  have hx := hc i _ (List.getElem?_eq_getElem hi)
  exact ⟨b, o, _, _, e, hlt, hx.1, hx.2, (h.2 _ (List.getElem_mem hi)).2⟩

theorem only_below_trans {a b c : World} {row : Option Nat} {N : Nat} (h : a.grownBy b row) (k : Below N b c) (hN : a.heap.size ≤ N) : a.grownBy c row :=
  ⟨k.os.trans h.os, k.tape.trans h.tape, k.output.trans h.output, Nat.le_trans h.size k.size, fun i hi hne => (k.block i (by omega)).trans (h.block i hi hne)⟩
/-- A row of so many bytes, and what is behind them. -/
def Row (w : World) (g n : Nat) (rest : List Value) : Prop := ∃ t : List UInt8, t.length = n ∧ Blk w g 5 (t.map bv ++ rest)
def flipB (b : UInt8) : UInt8 := UInt8.ofNat (b.toNat ^^^ 255)
theorem flip_val (b : UInt8) : Value.int .u8 (bits .xor .u8 (b.toNat : Int) 255) = bv (flipB b) := by
  have h := u8_xor_nat b.toNat 255 (UInt8.toNat_lt b) (by omega)
  have h2 : b.toNat ^^^ 255 < 2 ^ 8 := Nat.xor_lt_two_pow (UInt8.toNat_lt b) (by omega)
  unfold bv flipB
  rw [show ((255 : Int)) = ((255 : Nat) : Int) from rfl, h, UInt8.toNat_ofNat', Nat.mod_eq_of_lt h2]
theorem flip_set (t : List UInt8) (rest : List Value) (j : Nat) (h : j < t.length) : (t.map bv ++ rest).set j (bv (flipB t[j])) = (t.set j (flipB t[j])).map bv ++ rest := by
  rw [List.set_append_left _ _ (by simpa using h), ← List.map_set]
/-- What an act leaves: its number, the error's number, the error, the place. -/
def Out (A : Nat → Addr) (l : List UInt8) (k k' : Nat) (n bad err : Value) : Prop :=
  (∃ m : Nat, n = .int .i64 (m : Int) ∧ bad = .int .i64 0 ∧ err = .nilIface ∧ k' = k + m ∧ k' ≤ l.length) ∨
  (∃ b : Nat, b < 2 ∧ ∃ x : Int, n = .int .i64 x ∧ bad = .int .i64 ((b : Int) + 1) ∧ err = errV A b ∧ k' = k)
theorem Rd.keptN {w w' : World} {r N : Nat} {l : List UInt8} {k : Nat} (h : Rd w r l k) (hN : r < N) (hb : Below N w w') : Rd w' r l k := by
  obtain ⟨q, c, hk, hs, hc⟩ := h
  exact ⟨q, c, hk.below hb hN, hs.below (hb.mono (Nat.le_of_lt hN)), hc⟩

set_option maxRecDepth 100000 in
set_option maxHeartbeats 16000000 in
theorem reads_in (w : World) (A : Nat → Addr) (hE : Errs w A) (p pa : Option Addr) (l : List UInt8) (acts : List (Int × Int)) (c ca : Nat) (hs : Sl w w.heap.size p l) (hacts : Acts w w.heap.size pa acts)
    (hcap : l.length ≤ c) (hl : l.length ≤ 300) (hal : acts.length ≤ 60) :
    Calls Tryd.prog 3 #[.slice p l.length c, .slice pa acts.length ca] w fun e w' => e = .returned (.bool true) ∧ Below w.heap.size w w' := by
  have hl' : ¬ 300 < l.length := by omega
  have hal' : ¬ 60 < acts.length := by omega
  have hll : l.length ≤ 70368744177672 := by omega
  have hll2 : l.length ≤ 140737488351232 := by omega
  go_enter Tryd.func3, Tryd.ntmps3
  go_wp2_with fail
  refine (alive_any w).mono ?_
  rintro e w1 ⟨rfl, hb1⟩
  go_wp2_with fail
  refine (bytes_any w1 p l c w.heap.size hll2 (hs.below hb1) hb1.size).mono ?_
  rintro e w2 ⟨rfl, hin, hb2⟩
  have hlt2 := hin.lt
  have hsin : Sl w2 (w1.heap.size + 1) (some ⟨w1.heap.size, 0, none⟩) l := Sl.of_blk hin (by omega) fun i x hx => by
    have hi : i < l.length := by
      rcases Nat.lt_or_ge i l.length with h | h
      · exact h
      · rw [List.getElem?_eq_none h] at hx; cases hx
    rw [List.getElem?_append_left (by simpa using hi), List.getElem?_map, hx]
    rfl
  go_wp2_with fail
  refine (newReader_any w2 _ l (l.length + 6) (w1.heap.size + 1) hlt2 hll hsin).mono ?_
  rintro e w3 ⟨r, rfl, hr3, hrd3, hb3⟩
  have hbW3 : Below w.heap.size w w3 := (hb1.trans (hb2.mono hb1.size)).trans (hb3.mono (Nat.le_trans hb1.size hb2.size))
  have hin3 := hin.kept hb3
  have hrN : w.heap.size ≤ r := Nat.le_trans hb1.size (Nat.le_trans hb2.size hr3)
  have hgr : w1.heap.size ≠ r := by omega
  clear hsin hin hb1 hb2 hb3 hlt2 hr3
  go_wp2_with fail
  go_loopg [34, 7] acts.length (fun n i at_ wr => ∃ j k : Nat, j + n = acts.length ∧ i = .int .i64 j ∧ at_ = .int .i64 k ∧ k ≤ l.length ∧ Rd wr r l k ∧ w3.grownBy wr (some r))
  case atStart => exact ⟨0, 0, by omega, rfl, rfl, by omega, hrd3, World.grownBy.refl _ _⟩
  case round =>
    obtain ⟨j, k, hjn, rfl, rfl, hk, hrd, hg⟩ := hrel
    have hbW : Below w.heap.size w wr := hbW3.trans (only_below hg hrN hbW3.size)
    by_cases hlt : j < acts.length
    · obtain ⟨ba, oa, K, N, rfl, hba, hcK, hcN, hN1, hN2⟩ := (hacts.below hbW).at_ hlt
      have hsz := hbW.size
      have hgA : ∀ o, w3.grownBy (wr.alloc o) (some r) := fun o => only_alloc hg o
      have hrdA : ∀ o, Rd (wr.alloc o) r l k := fun o => hrd.kept ((Below.refl _ _).alloc (Nat.le_refl _) _)
      have hbWA : ∀ o, Below w.heap.size w (wr.alloc o) := fun o => hbW.alloc hbW.size o
      have hEA : ∀ o, Errs (wr.alloc o) A := fun o => hE.below (hbWA o)
      have hsA : ∀ o, Sl (wr.alloc o) w.heap.size p l := fun o => hs.below (hbWA o)
      clear hacts hrd3 hin3

      go_upto_block 2 with fail
      go_cut [10, 11, 12] (fun s10 s11 s12 wc => ∃ k' : Nat, Out A l k k' s10 s11 s12 ∧ Rd wc r l k' ∧ w3.grownBy wc (some r))
      case first =>
        by_cases hK0 : K = 0
        · subst hK0
          by_cases hb : k < l.length
          · as_aux_lemma =>
            have hask : askN l k 1 = 0 := by unfold askN; rw [if_neg (by omega), if_neg (by omega)]
            have HASK := Lib.hid hask
            clear hask
            go_wp2_with fail
            refine (ask_any _ p l c k 1 hll2 hk).mono ?_
            rintro e wa ⟨he, rfl⟩
            rw [HASK.out] at he
            subst he
            go_wp2_with fail
            refine (byte_any _ r l k (by exact hrdA _) hll hb).mono ?_
            rintro e w5 ⟨rfl, hrd5, hg5⟩
            obtain ⟨b0, o0, rfl, _, hc0⟩ := (hs.below (hbW3.trans (only_below (only_trans (hgA _) hg5) hrN hbW3.size))).at_ hb
            go_wp2_with fail
            go_meet
            exact ⟨k + 1, .inl ⟨1, rfl, rfl, rfl, rfl, by omega⟩, hrd5, only_trans (hgA _) hg5⟩
          · as_aux_lemma =>
            have hask : askN l k 1 = 2 := by unfold askN; rw [if_neg (by omega), if_pos (by omega)]
            have HASK := Lib.hid hask
            clear hask
            go_wp2_with fail
            refine (ask_any _ p l c k 1 hll2 hk).mono ?_
            rintro e wa ⟨he, rfl⟩
            rw [HASK.out] at he
            subst he
            go_wp2_with fail
            refine (byte_bad _ A (by exact hEA _) r l k 1 (by exact hrdA _) hll hk (.inr ⟨rfl, by omega, by omega⟩)).mono ?_
            rintro e w5 ⟨rfl, n5, rfl⟩
            go_wp2_with fail
            go_meet
            exact ⟨k, .inr ⟨1, by omega, _, rfl, rfl, rfl, rfl⟩, hrdA _, only_drewN (hgA _) _⟩
        · by_cases hK2 : K = 2
          · subst hK2
            by_cases hb : k + 4 ≤ l.length
            · as_aux_lemma =>
              have hask : askN l k 4 = 0 := by unfold askN; rw [if_neg (by omega), if_neg (by omega)]
              have HASK := Lib.hid hask
              clear hask
              go_wp2_with fail
              refine (ask_any _ p l c k 4 hll2 hk).mono ?_
              rintro e wa ⟨he, rfl⟩
              rw [HASK.out] at he
              subst he
              go_wp2_with fail
              obtain ⟨V, hV⟩ : ∃ V, V = num ((l.drop k).take 4) := ⟨_, rfl⟩
              have hVlt : V < 4294967296 := by rw [hV]; have h := num_lt ((l.drop k).take 4); rw [show ((l.drop k).take 4).length = 4 by simp; omega] at h; simpa using h
              have HV := Lib.hid hV
              clear hV
              refine (fixed32_any _ r l k (by exact hrdA _) hll hb).mono ?_
              rintro e w5 ⟨he, hrd5, hg5⟩
              rw [← HV.out] at he
              subst he
              have hs5 := hs.below (hbW3.trans (only_below (only_trans (hgA _) hg5) hrN hbW3.size))
              go_wp2_with fail
              refine (fixed_any w5 p l c k 4 w.heap.size hll2 hb (by omega) hs5).mono ?_
              rintro e w6 ⟨he, rfl⟩
              rw [← HV.out] at he
              subst he
              go_wp2_with fail
              go_meet
              exact ⟨k + 4, .inl ⟨4, rfl, rfl, rfl, rfl, by omega⟩, hrd5, only_trans (hgA _) hg5⟩
            · as_aux_lemma =>
              have hask : askN l k 4 = 2 := by unfold askN; rw [if_neg (by omega), if_pos (by omega)]
              have HASK := Lib.hid hask
              clear hask
              go_wp2_with fail
              refine (ask_any _ p l c k 4 hll2 hk).mono ?_
              rintro e wa ⟨he, rfl⟩
              rw [HASK.out] at he
              subst he
              go_wp2_with fail
              refine (fixed32_bad _ A (by exact hEA _) r l k 1 (by exact hrdA _) hll hk (.inr ⟨rfl, by omega, by omega⟩)).mono ?_
              rintro e w5 ⟨rfl, n5, rfl⟩
              go_wp2_with fail
              go_meet
              exact ⟨k, .inr ⟨1, by omega, _, rfl, rfl, rfl, rfl⟩, hrdA _, only_drewN (hgA _) _⟩
          · by_cases hK3 : K = 3
            · subst hK3
              by_cases hb : k + 8 ≤ l.length
              · as_aux_lemma =>
                have hask : askN l k 8 = 0 := by unfold askN; rw [if_neg (by omega), if_neg (by omega)]
                have HASK := Lib.hid hask
                clear hask
                go_wp2_with fail
                refine (ask_any _ p l c k 8 hll2 hk).mono ?_
                rintro e wa ⟨he, rfl⟩
                rw [HASK.out] at he
                subst he
                go_wp2_with fail
                obtain ⟨V, hV⟩ : ∃ V, V = num ((l.drop k).take 8) := ⟨_, rfl⟩
                have hVlt : V < 18446744073709551616 := by rw [hV]; have h := num_lt ((l.drop k).take 8); rw [show ((l.drop k).take 8).length = 8 by simp; omega] at h; simpa using h
                have HV := Lib.hid hV
                clear hV
                refine (fixed64_any _ r l k (by exact hrdA _) hll hb).mono ?_
                rintro e w5 ⟨he, hrd5, hg5⟩
                rw [← HV.out] at he
                subst he
                have hs5 := hs.below (hbW3.trans (only_below (only_trans (hgA _) hg5) hrN hbW3.size))
                go_wp2_with fail
                refine (fixed_any w5 p l c k 8 w.heap.size hll2 hb (by omega) hs5).mono ?_
                rintro e w6 ⟨he, rfl⟩
                rw [← HV.out] at he
                subst he
                go_wp2_with fail
                go_meet
                exact ⟨k + 8, .inl ⟨8, rfl, rfl, rfl, rfl, by omega⟩, hrd5, only_trans (hgA _) hg5⟩
              · as_aux_lemma =>
                have hask : askN l k 8 = 2 := by unfold askN; rw [if_neg (by omega), if_pos (by omega)]
                have HASK := Lib.hid hask
                clear hask
                go_wp2_with fail
                refine (ask_any _ p l c k 8 hll2 hk).mono ?_
                rintro e wa ⟨he, rfl⟩
                rw [HASK.out] at he
                subst he
                go_wp2_with fail
                refine (fixed64_bad _ A (by exact hEA _) r l k 1 (by exact hrdA _) hll hk (.inr ⟨rfl, by omega, by omega⟩)).mono ?_
                rintro e w5 ⟨rfl, n5, rfl⟩
                go_wp2_with fail
                go_meet
                exact ⟨k, .inr ⟨1, by omega, _, rfl, rfl, rfl, rfl⟩, hrdA _, only_drewN (hgA _) _⟩
            · by_cases hK4 : K = 4
              · subst hK4
                by_cases hn0 : N < 0
                · as_aux_lemma =>
                  have hask : askN l k N = 1 := by unfold askN; rw [if_pos (by omega)]
                  have HASK := Lib.hid hask
                  clear hask
                  go_wp2_with fail
                  refine (ask_any _ p l c k N hll2 hk).mono ?_
                  rintro e wa ⟨he, rfl⟩
                  rw [HASK.out] at he
                  subst he
                  go_wp2_with fail
                  refine (skip_bad _ A (by exact hEA _) r l k N 0 (by exact hrdA _) hll hk (.inl ⟨rfl, hn0⟩)).mono ?_
                  rintro e w5 ⟨rfl, n5, rfl⟩
                  go_wp2_with fail
                  go_meet
                  exact ⟨k, .inr ⟨0, by omega, _, rfl, rfl, rfl, rfl⟩, hrdA _, only_drewN (hgA _) _⟩
                · by_cases hn1 : (l.length : Int) - (k : Int) < N
                  · as_aux_lemma =>
                    have hask : askN l k N = 2 := by unfold askN; rw [if_neg (by omega), if_pos (by omega)]
                    have HASK := Lib.hid hask
                    clear hask
                    go_wp2_with fail
                    refine (ask_any _ p l c k N hll2 hk).mono ?_
                    rintro e wa ⟨he, rfl⟩
                    rw [HASK.out] at he
                    subst he
                    go_wp2_with fail
                    refine (skip_bad _ A (by exact hEA _) r l k N 1 (by exact hrdA _) hll hk (.inr ⟨rfl, by omega, hn1⟩)).mono ?_
                    rintro e w5 ⟨rfl, n5, rfl⟩
                    go_wp2_with fail
                    go_meet
                    exact ⟨k, .inr ⟨1, by omega, _, rfl, rfl, rfl, rfl⟩, hrdA _, only_drewN (hgA _) _⟩
                  · obtain ⟨m, rfl⟩ : ∃ m : Nat, N = (m : Int) := ⟨N.toNat, by omega⟩
                    as_aux_lemma =>
                      have hask : askN l k m = 0 := by unfold askN; rw [if_neg (by omega), if_neg (by omega)]
                      have HASK := Lib.hid hask
                      clear hask
                      go_wp2_with fail
                      refine (ask_any _ p l c k m hll2 hk).mono ?_
                      rintro e wa ⟨he, rfl⟩
                      rw [HASK.out] at he
                      subst he
                      go_wp2_with fail
                      refine (skip_any _ r l k m (by exact hrdA _) hll (by omega)).mono ?_
                      rintro e w5 ⟨rfl, hrd5, hg5⟩
                      go_wp2_with fail
                      go_meet
                      exact ⟨k + m, .inl ⟨m, rfl, rfl, rfl, rfl, by omega⟩, hrd5, only_trans (hgA _) hg5⟩
              · by_cases hK1 : K = 1
                · subst hK1
                  by_cases hn0 : N < 0
                  · as_aux_lemma =>
                    have hask : askN l k N = 1 := by unfold askN; rw [if_pos (by omega)]
                    have HASK := Lib.hid hask
                    clear hask
                    go_wp2_with fail
                    refine (ask_any _ p l c k N hll2 hk).mono ?_
                    rintro e wa ⟨he, rfl⟩
                    rw [HASK.out] at he
                    subst he
                    go_wp2_with fail
                    refine (take_bad _ A (by exact hEA _) r l k N 0 (by exact hrdA _) hll hk (.inl ⟨rfl, hn0⟩)).mono ?_
                    rintro e w5 ⟨rfl, n5, rfl⟩
                    go_wp2_with fail
                    go_quiet (fail)
                    go_wp2_with fail
                    go_loopg [108] 0 (fun n i wi => n = 0 ∧ i = .int .i64 0 ∧ Rd wi r l k ∧ w3.grownBy wi (some r))
                    case atStart => exact ⟨rfl, rfl, hrdA _, only_drewN (hgA _) _⟩
                    case round =>
                      obtain ⟨_, rfl, hrdi, hgi⟩ := hrel
                      go_wp2_with fail
                      go_meet
                      exact ⟨k, .inr ⟨0, by omega, _, rfl, rfl, rfl, rfl⟩, hrdi, hgi⟩
                  · by_cases hn1 : (l.length : Int) - (k : Int) < N
                    · as_aux_lemma =>
                      have hask : askN l k N = 2 := by unfold askN; rw [if_neg (by omega), if_pos (by omega)]
                      have HASK := Lib.hid hask
                      clear hask
                      go_wp2_with fail
                      refine (ask_any _ p l c k N hll2 hk).mono ?_
                      rintro e wa ⟨he, rfl⟩
                      rw [HASK.out] at he
                      subst he
                      go_wp2_with fail
                      refine (take_bad _ A (by exact hEA _) r l k N 1 (by exact hrdA _) hll hk (.inr ⟨rfl, by omega, hn1⟩)).mono ?_
                      rintro e w5 ⟨rfl, n5, rfl⟩
                      go_wp2_with fail
                      go_quiet (fail)
                      go_wp2_with fail
                      go_loopg [108] 0 (fun n i wi => n = 0 ∧ i = .int .i64 0 ∧ Rd wi r l k ∧ w3.grownBy wi (some r))
                      case atStart => exact ⟨rfl, rfl, hrdA _, only_drewN (hgA _) _⟩
                      case round =>
                        obtain ⟨_, rfl, hrdi, hgi⟩ := hrel
                        go_wp2_with fail
                        go_meet
                        exact ⟨k, .inr ⟨1, by omega, _, rfl, rfl, rfl, rfl⟩, hrdi, hgi⟩
                    · by_cases hN0 : N = 0
                      · subst hN0
                        as_aux_lemma =>
                          have hask : askN l k 0 = 0 := by unfold askN; rw [if_neg (by omega), if_neg (by omega)]
                          have HASK := Lib.hid hask
                          clear hask
                          go_wp2_with fail
                          refine (ask_any _ p l c k 0 hll2 hk).mono ?_
                          rintro e wa ⟨he, rfl⟩
                          rw [HASK.out] at he
                          subst he
                          go_wp2_with fail
                          refine (take_any _ r l k 0 (by exact hrdA _) hll (by omega)).mono ?_
                          rintro e w5 ⟨v, rfl, hown, hrd5, hg5⟩
                          rw [List.take_zero] at hown
                          obtain ⟨q5, c5, rfl, hsl5, _, _⟩ := own_sl hown
                          have hs5 := hs.below (hbW3.trans (only_below (only_trans (hgA _) hg5) hrN hbW3.size))
                          have e1 : ∀ n, (convert 22 9 (.slice q5 0 c5)).run Tryd.prog (w5.drewN n) = .ok (.string (str [])) (w5.drewN n) := fun n => Sl.string (w := w5.drewN n) (l := []) hsl5 c5
                          have e2 : ∀ (x : Option Addr) (y n : Nat), (convert 22 9 (.slice x 0 y)).run Tryd.prog (w5.drewN n) = .ok (.string (str [])) (w5.drewN n) := fun x y n => Sl.string (w := w5.drewN n) (B := 0) (p := x) (l := []) (Sl.nil _ _ _) y
                          clear hown
                          go_wp2_with fail
                          by_cases hck : c = k
                          · go_quiet (fail)
                            go_wp2_with fail
                            go_loopg [108] 0 (fun n i wi => n = 0 ∧ i = .int .i64 0 ∧ Rd wi r l (k + 0) ∧ w3.grownBy wi (some r))
                            case atStart => exact ⟨rfl, rfl, hrd5, only_drewN (only_trans (hgA _) hg5) _⟩
                            case round =>
                              obtain ⟨_, rfl, hrdi, hgi⟩ := hrel
                              go_wp2_with fail
                              go_meet
                              exact ⟨k + 0, .inl ⟨0, rfl, rfl, rfl, rfl, by omega⟩, hrdi, hgi⟩
                          · go_quiet (fail)
                            go_wp2_with fail
                            go_loopg [108] 0 (fun n i wi => n = 0 ∧ i = .int .i64 0 ∧ Rd wi r l (k + 0) ∧ w3.grownBy wi (some r))
                            case atStart => exact ⟨rfl, rfl, hrd5, only_drewN (only_trans (hgA _) hg5) _⟩
                            case round =>
                              obtain ⟨_, rfl, hrdi, hgi⟩ := hrel
                              go_wp2_with fail
                              go_meet
                              exact ⟨k + 0, .inl ⟨0, rfl, rfl, rfl, rfl, by omega⟩, hrdi, hgi⟩
                      · obtain ⟨t, ht⟩ : ∃ t, t = (l.drop k).take N.toNat := ⟨_, rfl⟩
                        have htl : N = (t.length : Int) := by rw [ht]; simp; omega
                        have ht0 : 0 < t.length := by omega
                        have hkt : k + t.length ≤ l.length := by omega
                        subst htl
                        rw [Int.toNat_natCast] at ht
                        have HT := Lib.hid ht
                        clear ht
                        as_aux_lemma =>
                          have hask : askN l k t.length = 0 := by unfold askN; rw [if_neg (by omega), if_neg (by omega)]
                          have HASK := Lib.hid hask
                          clear hask
                          go_wp2_with fail
                          refine (ask_any _ p l c k t.length hll2 hk).mono ?_
                          rintro e wa ⟨he, rfl⟩
                          rw [HASK.out] at he
                          subst he
                          go_wp2_with fail
                          refine (take_any _ r l k t.length (by exact hrdA _) hll hkt).mono ?_
                          rintro e w5 ⟨v, rfl, hown, hrd5, hg5⟩
                          rw [← HT.out] at hown
                          obtain ⟨g5, cap5, rest, rfl, hbase, hblk, _, _, _⟩ := own_blk hown ht0
                          have hsl5 : Sl w5 (g5 + 1) (some ⟨g5, 0, none⟩) t := Sl.of_blk hblk (by omega) fun i x hx => by
                            have hi : i < t.length := by
                              rcases Nat.lt_or_ge i t.length with h | h
                              · exact h
                              · rw [List.getElem?_eq_none h] at hx; cases hx
                            rw [List.getElem?_append_left (by simpa using hi), List.getElem?_map, hx]
                            rfl
                          have hs5 := hs.below (hbW3.trans (only_below (only_trans (hgA _) hg5) hrN hbW3.size))
                          have hcut := hs5.cut k t.length
                          rw [← HT.out] at hcut
                          have e1 : ∀ n, (convert 22 9 (.slice (some ⟨g5, 0, none⟩) t.length cap5)).run Tryd.prog (w5.drewN n) = .ok (.string (str t)) (w5.drewN n) := fun n => Sl.string (w := w5.drewN n) hsl5 cap5
                          have e2 : ∀ (y n : Nat), (convert 22 9 (.slice (Option.map (fun x => x.add k) p) t.length y)).run Tryd.prog (w5.drewN n) = .ok (.string (str t)) (w5.drewN n) := fun y n => Sl.string (w := w5.drewN n) hcut y
                          have hck : ¬ c = k := by omega
                          have hbase' : wr.heap.size + 1 ≤ g5 := by simpa using hbase
                          have hrlt : r < wr.heap.size + 1 := by have := hrd.lt; omega
                          have hg35 := only_trans (hgA _) hg5
                          have hw35 : w3.heap.size ≤ wr.heap.size + 1 := by have := hg.size; omega
                          clear hown hsl5 hs5 hcut hbase
                          go_wp2_with fail
                          go_quiet (fail)
                          go_wp2_with fail
                          go_loopg [108] t.length (fun n i wi => ∃ j2 : Nat, j2 + n = t.length ∧ i = .int .i64 j2 ∧ Row wi g5 t.length rest ∧ Below (wr.heap.size + 1) w5 wi)
                          case atStart => exact ⟨0, by omega, rfl, ⟨t, rfl, hblk⟩, below_drewN (Below.refl _ _) _⟩
                          case round =>
                            obtain ⟨j2, hj2, rfl, ⟨t2, ht2, hblk2⟩, hbi⟩ := hrel
                            by_cases hlt2 : j2 < t.length
                            · have hlt3 : j2 < t2.length := by omega
                              have hc2 : wr.cell? ⟨g5, j2, none⟩ = some (.int .u8 (t2[j2].toNat : Int)) := by
                                rw [hblk2.cell, List.getElem?_append_left (by simpa using hlt3)]
                                simp [hlt3, bv]
                              have hf2 : wr.frozen? ⟨g5, j2, none⟩ = false := hblk2.frozen _
                              have hb3 : Blk (wr.setCell ⟨g5, j2, none⟩ (.int .u8 (bits .xor .u8 (t2[j2].toNat : Int) 255))) g5 5 ((t2.set j2 (flipB t2[j2])).map bv ++ rest) := by
                                rw [← flip_set t2 rest j2 hlt3, ← flip_val]
                                exact hblk2.set_ j2 _
                              have ht3 : (t2.set j2 (flipB t2[j2])).length = t.length := by rw [List.length_set]; exact ht2
                              have HT2 := Lib.hid ht2
                              have HT3 := Lib.hid ht3
                              have hbi3 := hbi.setCell (p := ⟨g5, j2, none⟩) hbase' (.int .u8 (bits .xor .u8 (t2[j2].toNat : Int) 255))
                              clear ht2 ht3 hblk2
                              go_wp2_with fail
                              go_roundg (t.length - (j2 + 1))
                              case measure => omega
                              case rel => exact ⟨j2 + 1, by omega, by go_num, ⟨_, HT3.out, hb3⟩, hbi3⟩
                            · obtain rfl : j2 = t.length := by omega
                              have hrd6 := hrd5.keptN hrlt hbi
                              have hg6 : w3.grownBy wr (some r) := only_below_trans hg35 hbi hw35
                              go_wp2_with fail
                              go_meet
                              exact ⟨k + t.length, .inl ⟨t.length, rfl, rfl, rfl, rfl, by omega⟩, hrd6, hg6⟩
                · have k0 : (K == 0) = false := by simpa using hK0
                  have k1 : (K == 1) = false := by simpa using hK1
                  have k2 : (K == 2) = false := by simpa using hK2
                  have k3 : (K == 3) = false := by simpa using hK3
                  have k4 : (K == 4) = false := by simpa using hK4
                  go_wp2_with fail
                  go_meet
                  exact ⟨k, .inl ⟨0, rfl, rfl, rfl, rfl, hk⟩, hrdA _, hgA _⟩
      case rest =>
        obtain ⟨k', hout, hrd', hg'⟩ := hcut
        have hbWc : Below w.heap.size w wc := hbW3.trans (only_below hg' hrN hbW3.size)
        have hEc := hE.below hbWc
        rcases hout with ⟨m, rfl, rfl, rfl, rfl, hk'⟩ | ⟨b, hb2, x, rfl, rfl, rfl, rfl⟩
        · as_aux_lemma =>
            go_wp2_with fail
            refine (num_nil wc).mono ?_
            rintro e w6 ⟨rfl, rfl⟩
            go_wp2_with fail
            refine (at_any wc r l (k + m) hrd').mono ?_
            rintro e w7 ⟨he, rfl⟩
            rw [Int.natCast_add] at he
            subst he
            go_wp2_with fail
            refine (left_any wc r l (k + m) hrd' hll hk').mono ?_
            rintro e w8 ⟨he, n8, rfl⟩
            rw [Int.natCast_add] at he
            subst he
            go_wp2_with fail
            go_roundg (gk - 1)
            case measure => omega
            case rel => exact ⟨j + 1, k + m, by omega, by go_num, by go_num, hk', hrd', only_drewN hg' _⟩
        · have hb01 : b = 0 ∨ b = 1 := by omega
          rcases hb01 with rfl | rfl
          all_goals as_aux_lemma =>
            go_wp2_with fail
            refine (num_err wc A hEc _ (by omega)).mono ?_
            rintro e w6 ⟨rfl, hb6⟩
            have hrd6 := hrd'.kept hb6
            go_wp2_with fail
            refine (at_any w6 r l _ hrd6).mono ?_
            rintro e w7 ⟨rfl, rfl⟩
            go_wp2_with fail
            refine (left_any w6 r l _ hrd6 hll hk).mono ?_
            rintro e w8 ⟨rfl, n8, rfl⟩
            go_wp2_with fail
            go_roundg (gk - 1)
            case measure => omega
            case rel => exact ⟨j + 1, _, by omega, by go_num, rfl, hk, hrd6, only_drewN (only_trans hg' (only_of_below hb6 _)) _⟩
    · obtain rfl : j = acts.length := by omega
      have hinr := hin3.grown hg (by simpa using hgr)
      go_wp2_with fail
      refine (kept_any wr w1.heap.size p l c w.heap.size hll2 (hs.below hbW) hinr).mono ?_
      rintro e w6 ⟨rfl, rfl⟩
      go_wp2_with fail
      go_ret
      exact ⟨rfl, hbW⟩
end Go.Proofs.YtpimoipjomikiaaDoor
