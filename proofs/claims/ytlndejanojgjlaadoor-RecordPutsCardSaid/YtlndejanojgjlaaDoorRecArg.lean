/- Records that come in as arguments: one by value, and a slice of them. No condition. -/
import Derived.Test.YtlndejanojgjlaaDoorProg
import Derived.Test.YtlndejanojgjlaaDoorMem
import Derived.Test.YtlndejanojgjlaaDoorText
import Derived.Test.YtlndejanojgjlaaDoorLaw
import Derived.Test.YtlndejanojgjlaaDoorRec
import Derived.Test.YtlndejanojgjlaaDoorRec2
import Derived.ChangeArms
import Derived.Deep.Slices
import Derived.Deep.Fields
import Derived.ChangeSame
namespace Go.Proofs.YtlndejanojgjlaaDoor
open Go.ChangeShapes Go.WideShapes Go.ChangeAt Go.RowKit

theorem str_data (s : ByteArray) : str s.data.toList = s := by
  unfold str
  simp
/-- A record that came in. -/
structure RecI where
  n : Int
  k : Int
  bits : Nat
  text : List UInt8
  raw : List UInt8
def RecI.cells (r : RecI) : List Value := recCells r.n r.k r.bits r.text r.raw
structure RecI.Fine (r : RecI) : Prop where
  bits : r.bits < 18446744073709551616
  text : r.text.length ≤ maxLen
  raw : r.raw.length ≤ maxLen

section
variable {H : Type} {enc : TypeId × Value → H} {w : World} {base : Nat} {spare : Nat → Bool} {held : Bool}
theorem cells29 : Tryd.prog.cellsOf 29 = 5 := by kernel_rfl
theorem cells26 : Tryd.prog.cellsOf 26 = 2 := by kernel_rfl
theorem cellsI : Tryd.prog.cellsOf 3 = 1 := by kernel_rfl
theorem cellsU : Tryd.prog.cellsOf 27 = 1 := by kernel_rfl
theorem cellsS : Tryd.prog.cellsOf 9 = 1 := by kernel_rfl

set_option maxRecDepth 100000 in
theorem trod_tag {fuel : Nat} {c0 c1 : Value} {x : DataW H × List MemPlace} (h : DataW.trod enc Tryd.prog w base spare held fuel 26 [c0, c1] = some x) : ∃ n k : Int, c0 = .int .i64 n ∧ c1 = .int .i64 k := by
  obtain ⟨xs, m, _, _, _, hxl, hf⟩ := DataW.trod_struct Tryd.underlying26 h
  match xs, hxl with
  | [y0, y1], _ =>
    have h0 : DataW.trod enc Tryd.prog w base spare held m 3 [c0] = some y0 := by simpa [cellsI] using hf 0 _ rfl
    have h1 : DataW.trod enc Tryd.prog w base spare held m 3 [c1] = some y1 := by simpa [cellsI] using hf 1 _ rfl
    obtain ⟨n, e0, _⟩ := DataW.trod_int Tryd.underlying3 h0
    obtain ⟨k, e1, _⟩ := DataW.trod_int Tryd.underlying3 h1
    exact ⟨n, k, by simpa using e0, by simpa using e1⟩

set_option maxRecDepth 100000 in
theorem trod_rec {fuel : Nat} {cs : List Value} {x : DataW H × List MemPlace} (h : DataW.trod enc Tryd.prog w base spare held fuel 29 cs = some x) : ∃ r : RecI, cs = r.cells ∧ r.Fine := by
  obtain ⟨xs, m, _, _, hcl, hxl, hf⟩ := DataW.trod_struct Tryd.underlying29 h
  rw [cells29] at hcl
  match cs, hcl, xs, hxl with
  | [c0, c1, c2, c3, c4], _, [y0, y1, y2, y3], _ =>
    have h0 : DataW.trod enc Tryd.prog w base spare held m 26 [c0, c1] = some y0 := by simpa [cells26] using hf 0 _ rfl
    have h1 : DataW.trod enc Tryd.prog w base spare held m 27 [c2] = some y1 := by simpa [cellsU] using hf 1 _ rfl
    have h2 : DataW.trod enc Tryd.prog w base spare held m 9 [c3] = some y2 := by simpa [cellsS] using hf 2 _ rfl
    have h3 : DataW.trod enc Tryd.prog w base spare held m 9 [c4] = some y3 := by simpa [cellsS] using hf 3 _ rfl
    obtain ⟨n, k, rfl, rfl⟩ := trod_tag h0
    obtain ⟨z, e1, _, wz⟩ := DataW.trod_int Tryd.underlying27 h1
    obtain ⟨s, e2, _, ws⟩ := DataW.trod_string Tryd.underlying9 h2
    obtain ⟨t, e3, _, wt⟩ := DataW.trod_string Tryd.underlying9 h3
    obtain ⟨bits, rfl, hb⟩ := u64_open wz
    simp only [List.cons.injEq, and_true] at e1 e2 e3
    subst e1 e2 e3
    exact ⟨⟨n, k, bits, s.data.toList, t.data.toList⟩, by simp only [RecI.cells, recCells, str_data], ⟨hb, by simpa using ws, by simpa using wt⟩⟩

set_option maxRecDepth 100000 in
/-- An argument of type record.Record. -/
theorem open_record {r : Reach} {b0 : Nat} {v : Value} {d : DataW H} {ps : List MemPlace} (hval : Value.okWide Tryd.prog w r b0 29 v) (h : DataW.Trod enc Tryd.prog w base spare held 29 v d ps) :
    ∃ x : RecI, v = recV x.n x.k x.bits x.text x.raw ∧ x.Fine := by
  obtain ⟨cs, rfl, _⟩ := okWide_struct Tryd.underlying29 hval
  obtain ⟨fuel, hf⟩ := h
  obtain ⟨x, hx, hF⟩ := trod_rec hf
  refine ⟨x, ?_, hF⟩
  obtain ⟨l⟩ := cs
  have hl : l = x.cells := by simpa [Value.cells] using hx
  rw [hl]
  rfl

/-- The slice at p, of the records rs, lies in w below block B. -/
def Rs (w : World) (B : Nat) (p : Option Addr) (rs : List RecI) : Prop :=
  0 < rs.length → ∃ b o, p = some ⟨b, o, none⟩ ∧ b < B ∧ ∀ (i : Nat) (r : RecI), rs[i]? = some r → ∀ (j : Nat) (v : Value), r.cells[j]? = some v → w.cell? ⟨b, o + i * 5 + j, none⟩ = some v
theorem Rs.nil (w : World) (B : Nat) (p : Option Addr) : Rs w B p [] := fun h => absurd h (Nat.lt_irrefl 0)
theorem Rs.more {B B' : Nat} {p : Option Addr} {rs : List RecI} (h : Rs w B p rs) (hB : B ≤ B') : Rs w B' p rs := fun hl => by
  obtain ⟨b, o, e, hb, hc⟩ := h hl
  exact ⟨b, o, e, by omega, hc⟩
theorem Rs.below {w' : World} {B : Nat} {p : Option Addr} {rs : List RecI} (h : Rs w B p rs) (hb : Below B w w') : Rs w' B p rs := fun hl => by
  obtain ⟨b, o, e, hlt, hc⟩ := h hl
  exact ⟨b, o, e, hlt, fun i r hr j v hv => (hb.cell (p := ⟨b, o + i * 5 + j, none⟩) hlt).trans (hc i r hr j v hv)⟩
theorem Rs.at_ {B : Nat} {p : Option Addr} {rs : List RecI} (h : Rs w B p rs) {i : Nat} (hi : i < rs.length) :
    ∃ b o, p = some ⟨b, o, none⟩ ∧ b < B ∧ w.cell? ⟨b, o + i * 5, none⟩ = some (.int .i64 rs[i].n) ∧ w.cell? ⟨b, o + i * 5 + 1, none⟩ = some (.int .i64 rs[i].k) ∧ w.cell? ⟨b, o + i * 5 + 2, none⟩ = some (.int .u64 (rs[i].bits : Int)) ∧
      w.cell? ⟨b, o + i * 5 + 3, none⟩ = some (.string (str rs[i].text)) ∧ w.cell? ⟨b, o + i * 5 + 4, none⟩ = some (.string (str rs[i].raw)) := by
  obtain ⟨b, o, e, hlt, hc⟩ := h (by omega)
  have hr := hc i _ (List.getElem?_eq_getElem hi)
  exact ⟨b, o, e, hlt, hr 0 _ rfl, hr 1 _ rfl, hr 2 _ rfl, hr 3 _ rfl, hr 4 _ rfl⟩

set_option maxRecDepth 100000 in
/-- An argument of type []record.Record. -/
theorem open_records {W : World} {r : Reach} {b0 : Nat} {v : Value} {d : DataW H} {ps : List MemPlace} (hval : Value.okWide Tryd.prog W r b0 40 v) (h : DataW.Trod enc Tryd.prog W 0 (fun _ => true) true 40 v d ps) :
    ∃ p, ∃ rs : List RecI, ∃ c, v = .slice p rs.length c ∧ Rs W W.heap.size p rs ∧ (∀ x ∈ rs, x.Fine) ∧ rs.length ≤ c ∧ c ≤ maxLen := by
  obtain ⟨a0, len, cap, rfl⟩ := okWide_slice Tryd.underlying40 hval
  obtain ⟨fuel, hf⟩ := h
  rcases Go.Deep.open_slice Tryd.underlying40 hf with ⟨hcs, _⟩ | ⟨a, len', cap', m, n, D, Pl, hcs, _, hl, hm, hmm, _, hi⟩
  · simp [Value.cells] at hcs
    obtain ⟨rfl, rfl, rfl⟩ := hcs
    exact ⟨none, [], 0, rfl, Rs.nil _ _ _, by simp, by simp, by simp⟩
  · simp [Value.cells] at hcs
    obtain ⟨rfl, rfl, rfl⟩ := hcs
    simp only [if_true] at hmm
    subst hmm
    rw [cells29] at hi
    have hrec : ∀ i, i < len → ∃ x : RecI, x.Fine ∧ ∀ (j : Nat) (v : Value), x.cells[j]? = some v → W.cell? (a.add (i * 5 + j)) = some v := fun i h => by
      obtain ⟨cs', hc, ht⟩ := hi i (by omega)
      obtain ⟨x, rfl, hF⟩ := trod_rec ht
      obtain ⟨_, _, hat⟩ := World.cells?_some hc
      refine ⟨x, hF, fun j v hv => ?_⟩
      have hj : j < 5 := (List.getElem?_eq_some_iff.1 hv).1
      rw [← Go.Deep.add_add, hat j hj, hv]
    have hlist : ∀ k, k ≤ len → ∃ rs : List RecI, rs.length = k ∧ (∀ x ∈ rs, x.Fine) ∧ ∀ (i : Nat) (x : RecI), rs[i]? = some x → ∀ (j : Nat) (v : Value), x.cells[j]? = some v → W.cell? (a.add (i * 5 + j)) = some v := fun k => by
      induction k with
      | zero => exact fun _ => ⟨[], rfl, by simp, by simp⟩
      | succ k ih =>
        intro hk
        obtain ⟨rs, hlen, hF, hc⟩ := ih (by omega)
        obtain ⟨x, hxF, hx⟩ := hrec k (by omega)
        refine ⟨rs ++ [x], by simp [hlen], fun y hy => ?_, fun i y hy => ?_⟩
        · rcases List.mem_append.1 hy with h | h
          · exact hF y h
          · rw [List.mem_singleton.1 h]; exact hxF
        · rcases Nat.lt_or_ge i rs.length with h | h
          · rw [List.getElem?_append_left h] at hy
            exact hc i y hy
          · rw [List.getElem?_append_right h] at hy
            have : i = k := by
              have := (List.getElem?_eq_some_iff.1 hy).1
              simp at this
              omega
            subst this
            rw [hlen, Nat.sub_self] at hy
            simp at hy
            subst hy
            exact hx
    obtain ⟨rs, hlen, hF, hc⟩ := hlist len (Nat.le_refl _)
    refine ⟨some a, rs, m, by rw [hlen], fun hpos => ?_, hF, by omega, hm⟩
    obtain ⟨b, off, s⟩ := a
    have h0 := hc 0 rs[0] (List.getElem?_eq_getElem hpos) 0 _ rfl
    obtain rfl : s = none := by simpa [Addr.add] using World.cell?_spot h0
    refine ⟨b, off, rfl, ?_, fun i x hx j v hv => ?_⟩
    · have := World.block_lt_of_cell? _ _ h0
      simpa [Addr.add_lit] using this
    · have := hc i x hx j v hv
      rw [Addr.add_lit] at this
      rw [Nat.add_assoc]
      exact this
end
end Go.Proofs.YtlndejanojgjlaaDoor
