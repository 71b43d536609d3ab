/- Rows of elements of k cells each, one behind the other. No condition. -/
import Derived.Test.YtgpihhigajmldaaDoorProg
import Derived.Test.YtgpihhigajmldaaDoorMem
import Derived.Maps.AppendAt
namespace Go.Proofs.YtgpihhigajmldaaDoor
open Go.RowKit

theorem flatten_len {k : Nat} : ∀ {rs : List (List Value)}, (∀ r ∈ rs, r.length = k) → rs.flatten.length = rs.length * k
  | [], _ => by simp
  | r :: rs, h => by
    rw [List.flatten_cons, List.length_append, flatten_len (fun x hx => h x (List.mem_cons_of_mem _ hx)), h r List.mem_cons_self, List.length_cons, Nat.succ_mul]
    omega
theorem flatten_get {k : Nat} : ∀ {rs : List (List Value)}, (∀ r ∈ rs, r.length = k) → ∀ (i : Nat) (r : List Value), rs[i]? = some r → ∀ (j : Nat) (v : Value), r[j]? = some v → rs.flatten[i * k + j]? = some v
  | [], _, i, r, h, _, _, _ => by simp at h
  | x :: rs, hk, 0, r, h, j, v, hv => by
    have hx : x = r := by simpa using h
    subst hx
    have hj : j < x.length := (List.getElem?_eq_some_iff.1 hv).1
    rw [List.flatten_cons, Nat.zero_mul, Nat.zero_add, List.getElem?_append_left hj, hv]
  | x :: rs, hk, i + 1, r, h, j, v, hv => by
    have h' : rs[i]? = some r := by simpa using h
    have hx := hk x List.mem_cons_self
    rw [List.flatten_cons, List.getElem?_append_right (by rw [hx, Nat.succ_mul]; omega), show (i + 1) * k + j - x.length = i * k + j by rw [hx, Nat.succ_mul]; omega]
    exact flatten_get (fun y hy => hk y (List.mem_cons_of_mem _ hy)) i r h' j v hv

/-- A slice of elements of k cells that lies below a block. -/
def Rk (k : Nat) (w : World) (B : Nat) (p : Option Addr) (rs : List (List Value)) : Prop :=
  0 < rs.length → ∃ b o, p = some ⟨b, o, none⟩ ∧ b < B ∧ ∀ (i : Nat) (r : List Value), rs[i]? = some r → ∀ (j : Nat) (v : Value), r[j]? = some v → w.cell? ⟨b, o + i * k + j, none⟩ = some v
theorem Rk.nil (k : Nat) (w : World) (B : Nat) (p : Option Addr) : Rk k w B p [] := fun h => absurd h (Nat.lt_irrefl 0)
theorem Rk.more {k B B' : Nat} {w : World} {p : Option Addr} {rs : List (List Value)} (h : Rk k w B p rs) (hB : B ≤ B') : Rk k w B' p rs := fun hl => by
  obtain ⟨b, o, e, hb, hc⟩ := h hl
  exact ⟨b, o, e, by omega, hc⟩
theorem Rk.below {k B : Nat} {w w' : World} {p : Option Addr} {rs : List (List Value)} (h : Rk k w B p rs) (hb : Below B w w') : Rk k w' B p rs := fun hl => by
  obtain ⟨b, o, e, hlt, hc⟩ := h hl
  exact ⟨b, o, e, hlt, fun i r hr j v hv => (hb.cell (p := ⟨b, o + i * k + j, none⟩) hlt).trans (hc i r hr j v hv)⟩
theorem rowk_below {w w' : World} {base : Nat} {e : TypeId} {size : Nat} {v : Value} {n : Nat} {xs : List Value} (h : w.ownsRow base e size v n xs) (hb : Below w.heap.size w w') : w'.ownsRow base e size v n xs := by
  obtain ⟨h1, h2⟩ := h
  refine ⟨h1, ?_⟩
  rcases h2 with h2 | ⟨g, cap, cur, hv, hg, hh, hr⟩
  · exact .inl h2
  · exact .inr ⟨g, cap, cur, hv, hg, (hb.block g (Array.getElem?_eq_some_iff.1 hh).1).trans hh, hr⟩
/-- What a row of the call's own reads as. -/
theorem own_rk {k : Nat} {w : World} {base : Nat} {e : TypeId} {v : Value} {rs : List (List Value)} (hk : ∀ r ∈ rs, r.length = k) (h : w.ownsRow base e k v rs.length rs.flatten) : ∃ p c, v = .slice p rs.length c ∧ Rk k w w.heap.size p rs ∧ rs.length ≤ c ∧ c ≤ maxLen := by
  obtain ⟨_, h2⟩ := h
  rcases h2 with ⟨hv, h0⟩ | ⟨g, cap, cur, hv, _, hh, hnc, hm, _, ht⟩
  · have : rs = [] := List.eq_nil_of_length_eq_zero h0
    subst this
    exact ⟨none, 0, hv, Rk.nil _ _ _ _, by simp, by simp⟩
  · refine ⟨_, cap, hv, fun hl => ⟨g, 0, rfl, (Array.getElem?_eq_some_iff.1 hh).1, fun i r hr j x hx => ?_⟩, hnc, hm⟩
    have hg := flatten_get hk i r hr j x hx
    rw [← ht, List.getElem?_take] at hg
    rw [Nat.zero_add, cell_of_row w g (i * k + j) cur e (0, 0) hh]
    split at hg
    · simpa using hg
    · cases hg
end Go.Proofs.YtgpihhigajmldaaDoor
