/- Rows of any values: a slice whose elements are known; one byte in a block of its own; append of one element onto a row of the call's own. Over any program. No condition. -/
import Derived.Test.YtnokjainniihkaaDoorMem
namespace Go.Proofs.YtnokjainniihkaaDoor
open Go.RowKit

theorem one_sl (u : World) (t : TypeId) (b : UInt8) : Sl (u.alloc (.cells #[bv b] t)) (u.heap.size + 1) (some ⟨u.heap.size, 0, none⟩) [b] := by
  have hb : Blk (u.alloc (.cells [bv b].toArray t)) u.heap.size t [bv b] := Blk.new u t _
  exact Sl.of_blk hb (by omega) fun i x hx => by
    match i, hx with
    | 0, hx => simp at hx; subst hx; rfl
theorem bv_mod (n : Nat) : bv (UInt8.ofNat (n % 256)) = .int .u8 ((n : Int) % 256) := by
  have h2 : (UInt8.ofNat (n % 256)).toNat = n % 256 := by
    rw [UInt8.toNat_ofNat']
    omega
  unfold bv
  rw [h2]
  congr 1


theorem bv_of (b : UInt8) : bv b = .int .u8 (b.toNat : Int) := rfl

/-- Cutting the head off a slice. -/
theorem Sl.behind {w : World} {B : Nat} {p : Option Addr} {l : List UInt8} (h : Sl w B p l) (k c : Nat) (hc : l.length ≤ c) : Sl w B (if c = k then p else Option.map (fun x => x.add k) p) (l.drop k) := by
  split
  · rw [List.drop_of_length_le (by omega)]
    exact Sl.nil _ _ _
  · have := h.cut k (l.length - k)
    rwa [List.take_of_length_le (by simp)] at this

theorem Sl.after {w : World} {B : Nat} {p : Option Addr} {l : List UInt8} (h : Sl w B p l) (k : Nat) : Sl w B (Option.map (fun x => x.add k) p) (l.drop k) := by
  have := h.cut k (l.length - k)
  rwa [List.take_of_length_le (by simp)] at this

/-- A uint64 as a value. -/
def uv (n : Nat) : Value := .int .u64 (n : Int)
/-- The slice at p, of the one-cell elements cs, lies in w below block B. -/
def Rw (w : World) (B : Nat) (p : Option Addr) (cs : List Value) : Prop :=
  0 < cs.length → ∃ b o, p = some ⟨b, o, none⟩ ∧ b < B ∧ ∀ (i : Nat) x, cs[i]? = some x → w.cell? ⟨b, o + i, none⟩ = some x
section
variable {w w' : World} {B B' : Nat} {p : Option Addr} {cs : List Value}
theorem Rw.nil (w : World) (B : Nat) (p : Option Addr) : Rw w B p [] := fun h => absurd h (Nat.lt_irrefl 0)
theorem Rw.more (h : Rw w B p cs) (hB : B ≤ B') : Rw w B' p cs := fun hl => by
  obtain ⟨b, o, e, hb, hc⟩ := h hl
  exact ⟨b, o, e, by omega, hc⟩
theorem Rw.below (h : Rw w B p cs) (hb : Below B w w') : Rw w' B p cs := fun hl => by
  obtain ⟨b, o, e, hlt, hc⟩ := h hl
  exact ⟨b, o, e, hlt, fun i x hx => (hb.cell (p := ⟨b, o + i, none⟩) hlt).trans (hc i x hx)⟩
theorem Rw.at_ (h : Rw w B p cs) {i : Nat} (hi : i < cs.length) : ∃ b o, p = some ⟨b, o, none⟩ ∧ b < B ∧ w.cell? ⟨b, o + i, none⟩ = some cs[i] := by
  obtain ⟨b, o, e, hlt, hc⟩ := h (by omega)
  exact ⟨b, o, e, hlt, hc i _ (List.getElem?_eq_getElem hi)⟩
/-- What a row of the call's own holds. -/
theorem own_rw {e : TypeId} {base n : Nat} {v : Value} (h : w.ownsRow base e 1 v n cs) : ∃ p c, v = .slice p n c ∧ Rw w w.heap.size p cs ∧ n ≤ c ∧ c ≤ maxLen := by
  rcases Nat.eq_zero_or_pos n with h0 | h0
  · subst h0
    have hc : cs = [] := List.eq_nil_of_length_eq_zero (by have := h.1; omega)
    subst hc
    obtain ⟨_, h2⟩ := h
    rcases h2 with ⟨hv, _⟩ | ⟨g, cap, cur, hv, _, _, _, hm, _⟩
    · exact ⟨none, 0, hv, Rw.nil _ _ _, by simp, by simp⟩
    · exact ⟨_, _, hv, Rw.nil _ _ _, by simp, hm⟩
  · obtain ⟨g, cap, rest, hv, _, hb, hnc, hm, _⟩ := own_blk h h0
    refine ⟨_, cap, hv, fun hl => ⟨g, 0, rfl, hb.lt, fun i x hx => ?_⟩, hnc, hm⟩
    have hi : i < cs.length := by
      rcases Nat.lt_or_ge i cs.length with h | h
      · exact h
      · rw [List.getElem?_eq_none h] at hx; cases hx
    rw [Nat.zero_add, hb.cell, List.getElem?_append_left hi, hx]
theorem Sl.rw_ {l : List UInt8} : Sl w B p l ↔ Rw w B p (l.map bv) := by
  constructor
  · intro h hl
    obtain ⟨b, o, e, hlt, hc⟩ := h (by simpa using hl)
    refine ⟨b, o, e, hlt, fun i x hx => ?_⟩
    rw [List.getElem?_map] at hx
    obtain ⟨y, hy, rfl⟩ := Option.map_eq_some_iff.1 hx
    exact hc i y hy
  · intro h hl
    obtain ⟨b, o, e, hlt, hc⟩ := h (by simpa using hl)
    exact ⟨b, o, e, hlt, fun i x hx => hc i _ (by rw [List.getElem?_map, hx]; rfl)⟩
end
end Go.Proofs.YtnokjainniihkaaDoor
