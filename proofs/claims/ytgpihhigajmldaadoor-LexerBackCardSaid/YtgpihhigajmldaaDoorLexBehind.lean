/- The contracts of lexer.behind and of redlineref07.Place: where a place stands. Condition: fewer than 1000000000 bytes. -/
import Derived.Test.YtgpihhigajmldaaDoorProg
import Derived.Test.YtgpihhigajmldaaDoorLexSpan
namespace Go.Proofs.YtgpihhigajmldaaDoor
open Go.RowKit

theorem lplace_next (p : Nat × Nat) {l : List UInt8} {j : Nat} {b : UInt8} (h : l[j]? = some b) : lplace p (l.take (j + 1)) = if b = 10 then ((lplace p (l.take j)).1 + 1, 1) else ((lplace p (l.take j)).1, (lplace p (l.take j)).2 + 1) := by
  rw [show l.take (j + 1) = l.take j ++ [b] from by rw [List.take_add_one, h]; rfl, lplace_snoc]
/-- One round: where a place stands behind one byte more. -/
theorem lplace_round (p : Nat × Nat) {l : List UInt8} {j : Nat} {b : UInt8} (h : l[j]? = some b) (a c : Int) (ha : a = ((lplace p (l.take j)).1 : Int)) (hc : c = ((lplace p (l.take j)).2 : Int)) :
    ((b.toNat : Int) = 10 → ((lplace p (l.take (j + 1))).1 : Int) = a + 1 ∧ ((lplace p (l.take (j + 1))).2 : Int) = 1) ∧ (¬ (b.toNat : Int) = 10 → ((lplace p (l.take (j + 1))).1 : Int) = a ∧ ((lplace p (l.take (j + 1))).2 : Int) = c + 1) := by
  rw [lplace_next p h]
  constructor
  · intro hb
    have : b = 10 := UInt8.toNat_inj.1 (by simp; omega)
    rw [if_pos this]
    exact ⟨by simp only; omega, by simp⟩
  · intro hb
    have : ¬ b = 10 := by rintro rfl; exact hb rfl
    rw [if_neg this]
    exact ⟨by simp only; omega, by simp only; omega⟩
set_option maxRecDepth 100000 in
theorem behind_any (w : World) (p : Nat × Nat) (l : List UInt8) (hl : l.length < 1000000000) (h1 : p.1 < 1000000000) (h2 : p.2 < 1000000000) :
    Calls Tryd.prog 20 #[.int .i64 (p.1 : Int), .int .i64 (p.2 : Int), .string (str l)] w (Ans (.tuple #[.int .i64 ((lplace p l).1 : Int), .int .i64 ((lplace p l).2 : Int)]) w) := by
  have hz : (str l).size = l.length := strSize l
  have hle := fun j => lplace_le (l.take j) p
  have HLE := Lib.hid hle
  clear hle
  go_enter Tryd.func20, Tryd.ntmps20
  go_wp2_with fail
  go_loopg [11, 0, 1] l.length (fun g i li co wx => ∃ (j : Nat) (a c : Int), j + g = l.length ∧ i = .int .i64 (j : Int) ∧ li = .int .i64 a ∧ co = .int .i64 c ∧ Hid (a = ((lplace p (l.take j)).1 : Int)) ∧ Hid (c = ((lplace p (l.take j)).2 : Int)) ∧ wx = w)
  case atStart => exact ⟨0, p.1, p.2, by omega, rfl, rfl, rfl, Lib.hid rfl, Lib.hid rfl, rfl⟩
  case round =>
    obtain ⟨j, a, c, hj, rfl, rfl, rfl, HA, HC, rfl⟩ := hrel
    have hb1 : 0 ≤ a ∧ a < 2000000002 ∧ 0 ≤ c ∧ c < 2000000002 := by
      have h := HLE.out j
      have h3 := HA.out
      have h4 := HC.out
      rw [List.length_take] at h
      omega
    obtain ⟨ha0, ha1, hc0, hc1⟩ := hb1
    cases gk with
    | zero =>
      obtain rfl : j = l.length := by omega
      have hlt : ¬ ((l.length : Int) < (l.length : Int)) := by omega
      go_wp2_with fail
      go_ret2
      exact ⟨by rw [HA.out, HC.out, List.take_length]; rfl, rfl⟩
    | succ g =>
      have hlt : (j : Int) < (l.length : Int) := by omega
      have hjl : j < l.length := by omega
      have hix := str_index l j hjl
      obtain ⟨b, hb⟩ : ∃ b, l[j] = b := ⟨_, rfl⟩
      rw [hb] at hix
      have HR := Lib.hid (lplace_round p (l := l) (j := j) (b := b) (by rw [List.getElem?_eq_getElem hjl, hb]) a c HA.out HC.out)
      clear hb
      generalize (b.toNat : Int) = B at *
      by_cases h10 : B = 10
      · obtain ⟨R1, R2⟩ := HR.out.1 h10
        have HR1 := Lib.hid R1
        have HR2 := Lib.hid R2
        clear R1 R2
        subst h10
        go_wp2_with fail
        go_roundg g
        case measure => omega
        case rel => exact ⟨j + 1, a + 1, 1, by omega, by go_num, by go_num, rfl, Lib.hid HR1.out.symm, Lib.hid HR2.out.symm, rfl⟩
      · obtain ⟨R1, R2⟩ := HR.out.2 h10
        have HR1 := Lib.hid R1
        have HR2 := Lib.hid R2
        clear R1 R2
        go_wp2_with fail
        go_roundg g
        case measure => omega
        case rel => exact ⟨j + 1, a, c + 1, by omega, by go_num, rfl, by go_num, Lib.hid HR1.out.symm, Lib.hid HR2.out.symm, rfl⟩

set_option maxRecDepth 100000 in
theorem place_any (w : World) (l : List UInt8) (n : Nat) (hl : l.length < 1000000000) (hn : n ≤ l.length) :
    Calls Tryd.prog 22 #[.string (str l), .int .i64 (n : Int)] w (Ans (.tuple #[.int .i64 ((placeAt l n).1 : Int), .int .i64 ((placeAt l n).2 : Int)]) w) := by
  unfold placeAt
  have hz : (str l).size = l.length := strSize l
  have hle := fun j => lplace_le (l.take j) (1, 1)
  have HLE := Lib.hid hle
  clear hle
  go_enter Tryd.func22, Tryd.ntmps22
  go_wp2_with fail
  go_loopg [8, 6, 7] n (fun g i li co wx => ∃ (j : Nat) (a c : Int), j + g = n ∧ i = .int .i64 (j : Int) ∧ li = .int .i64 a ∧ co = .int .i64 c ∧ Hid (a = ((lplace (1, 1) (l.take j)).1 : Int)) ∧ Hid (c = ((lplace (1, 1) (l.take j)).2 : Int)) ∧ wx = w)
  case atStart => exact ⟨0, 1, 1, by omega, rfl, rfl, rfl, Lib.hid rfl, Lib.hid rfl, rfl⟩
  case round =>
    obtain ⟨j, a, c, hj, rfl, rfl, rfl, HA, HC, rfl⟩ := hrel
    have hb1 : 0 ≤ a ∧ a < 2000000002 ∧ 0 ≤ c ∧ c < 2000000002 := by
      have h := HLE.out j
      have h3 := HA.out
      have h4 := HC.out
      rw [List.length_take] at h
      omega
    obtain ⟨ha0, ha1, hc0, hc1⟩ := hb1
    cases gk with
    | zero =>
      obtain rfl : j = n := by omega
      have hlt : ¬ ((j : Int) < (j : Int)) := by omega
      go_wp2_with fail
      go_ret2
      exact ⟨by rw [HA.out, HC.out]; rfl, rfl⟩
    | succ g =>
      have hlt : (j : Int) < (n : Int) := by omega
      have hjl : j < l.length := by omega
      have hix := str_index l j hjl
      obtain ⟨b, hb⟩ : ∃ b, l[j] = b := ⟨_, rfl⟩
      rw [hb] at hix
      have HR := Lib.hid (lplace_round (1, 1) (l := l) (j := j) (b := b) (by rw [List.getElem?_eq_getElem hjl, hb]) a c HA.out HC.out)
      clear hb
      generalize (b.toNat : Int) = B at *
      by_cases h10 : B = 10
      · obtain ⟨R1, R2⟩ := HR.out.1 h10
        have HR1 := Lib.hid R1
        have HR2 := Lib.hid R2
        clear R1 R2
        subst h10
        go_wp2_with fail
        go_roundg g
        case measure => omega
        case rel => exact ⟨j + 1, a + 1, 1, by omega, by go_num, by go_num, rfl, Lib.hid HR1.out.symm, Lib.hid HR2.out.symm, rfl⟩
      · obtain ⟨R1, R2⟩ := HR.out.2 h10
        have HR1 := Lib.hid R1
        have HR2 := Lib.hid R2
        clear R1 R2
        go_wp2_with fail
        go_roundg g
        case measure => omega
        case rel => exact ⟨j + 1, a, c + 1, by omega, by go_num, rfl, by go_num, Lib.hid HR1.out.symm, Lib.hid HR2.out.symm, rfl⟩
end Go.Proofs.YtgpihhigajmldaaDoor
